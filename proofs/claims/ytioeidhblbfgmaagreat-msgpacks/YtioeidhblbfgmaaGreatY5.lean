/- Plain mathematics for the statements on check sums: the eight times as a function on natural numbers; it is linear over exclusive or, it cannot take two numbers to one, and a table of 256 entries serves for it. No condition but that numbers have 32 bits. The program's eight times and the reference's: each call answers the plain function's number and leaves the world as it was. The number has 32 bits. What a call may turn: one block of its own (Only), and the filling of a table: behind it each of the 256 entries is what becomes of its number in eight times. The table's cells are there and none is frozen. A table is made at its first use, by sync.Once, and left alone at each later one: behind the call it is made, and nothing else has turned. The table is a new one, or a made one. -/
import Derived.Test.YtioeidhblbfgmaaGreatY4
import Derived.Laws.BitsAllLaws
import Derived.Laws.Bits64
import Derived.OpenShut
import Derived.Test.YtioeidhblbfgmaaGreatRows
import Derived.WalkKit
import Derived.ProofKit
import Derived.Deep.RegionWith

namespace Go.Proofs.YtioeidhblbfgmaaGreat.Frm

def stp (x : Nat) : Nat := x / 2 ^^^ (if x % 2 = 1 then 3988292384 else 0)
def stps : Nat → Nat → Nat
  | 0, x => x
  | n + 1, x => stp (stps n x)
def eig (x : Nat) : Nat := stps 8 x
def fol (x : Nat) (l : List UInt8) : Nat := l.foldl (fun x c => eig (x ^^^ c.toNat)) x
def more (x : Nat) (l : List UInt8) : Nat := fol (x ^^^ 4294967295) l ^^^ 4294967295

theorem xor_lt {x y : Nat} (hx : x < 4294967296) (hy : y < 4294967296) : x ^^^ y < 4294967296 := Nat.xor_lt_two_pow (n := 32) hx hy
theorem stp_lt {x : Nat} (h : x < 4294967296) : stp x < 4294967296 := by
  unfold stp
  refine xor_lt (by omega) ?_
  split <;> omega
theorem stps_lt {x : Nat} (h : x < 4294967296) : ∀ n, stps n x < 4294967296
  | 0 => h
  | n + 1 => stp_lt (stps_lt h n)
theorem eig_lt {x : Nat} (h : x < 4294967296) : eig x < 4294967296 := stps_lt h 8
theorem u8_lt (c : UInt8) : c.toNat < 256 := c.toNat_lt
theorem fol_lt (l : List UInt8) : ∀ {x : Nat}, x < 4294967296 → fol x l < 4294967296 := by
  induction l with
  | nil => intro x h; exact h
  | cons c l ih => intro x h; exact ih (eig_lt (xor_lt h (by have := u8_lt c; omega)))
theorem more_lt (x : Nat) (h : x < 4294967296) (l : List UInt8) : more x l < 4294967296 := xor_lt (fol_lt l (xor_lt h (by omega))) (by omega)
theorem fol_snoc (x : Nat) (l : List UInt8) (c : UInt8) : fol x (l ++ [c]) = eig (fol x l ^^^ c.toNat) := by
  unfold fol; rw [List.foldl_append]; rfl
theorem fol_append (x : Nat) (l m : List UInt8) : fol x (l ++ m) = fol (fol x l) m := by
  unfold fol; rw [List.foldl_append]

theorem stp_xor (x y : Nat) : stp (x ^^^ y) = stp x ^^^ stp y := by
  unfold stp
  have h1 : (x ^^^ y) / 2 = x / 2 ^^^ y / 2 := Nat.xor_div_two
  have h2 : (x ^^^ y) % 2 = (x + y) % 2 := by
    have := @Nat.xor_mod_two_eq_one x y
    omega
  rw [h1, h2]
  rcases Nat.mod_two_eq_zero_or_one x with hx | hx <;> rcases Nat.mod_two_eq_zero_or_one y with hy | hy
  · rw [if_neg (by omega), if_neg (by omega), if_neg (by omega)]; simp
  · rw [if_pos (by omega), if_neg (by omega), if_pos (by omega)]; simp [Nat.xor_assoc]
  · rw [if_pos (by omega), if_pos (by omega), if_neg (by omega)]; rw [Nat.xor_zero]; ac_rfl
  · rw [if_neg (by omega), if_pos (by omega), if_pos (by omega)]
    rw [Nat.xor_zero, Nat.xor_assoc, ← Nat.xor_assoc 3988292384, Nat.xor_comm 3988292384, Nat.xor_assoc, Nat.xor_self, Nat.xor_zero]
theorem stps_xor (x y : Nat) : ∀ n, stps n (x ^^^ y) = stps n x ^^^ stps n y
  | 0 => rfl
  | n + 1 => by simp only [stps]; rw [stps_xor x y n, stp_xor]
theorem eig_xor (x y : Nat) : eig (x ^^^ y) = eig x ^^^ eig y := stps_xor x y 8
theorem stp_even (y : Nat) : stp (2 * y) = y := by
  unfold stp
  rw [if_neg (by omega), Nat.xor_zero]; omega
theorem eig_high (h : Nat) : eig (256 * h) = h := by
  unfold eig
  simp only [stps]
  rw [show 256 * h = 2 * (2 * (2 * (2 * (2 * (2 * (2 * (2 * h))))))) by omega]
  simp only [stp_even]
theorem split_byte (x : Nat) : x = (256 * (x / 256)) ^^^ (x % 256) := by
  have h := Nat.div_add_mod x 256
  have e : 256 * (x / 256) ^^^ (x % 256) = 256 * (x / 256) + x % 256 := by
    have hl : x % 256 < 2 ^ 8 := Nat.mod_lt _ (by omega)
    have := Nat.two_pow_add_eq_or_of_lt hl (x / 256)
    rw [show (256 : Nat) = 2 ^ 8 by rfl, this]
    apply Nat.eq_of_testBit_eq
    intro i
    rw [Nat.testBit_xor, Nat.testBit_or, Nat.testBit_two_pow_mul]
    by_cases hi : 8 ≤ i
    · have : (x % 2 ^ 8).testBit i = false := Nat.testBit_lt_two_pow (Nat.lt_of_lt_of_le hl (Nat.pow_le_pow_right (by omega) hi))
      rw [this]; simp
    · simp [hi]
  omega
theorem eig_split (x : Nat) : eig x = eig (x % 256) ^^^ x / 256 := by
  have e := eig_xor (256 * (x / 256)) (x % 256)
  rw [← split_byte, eig_high] at e
  rw [e, Nat.xor_comm]
theorem eig_table (x c : Nat) : eig (x ^^^ c) = eig ((x % 256) ^^^ c) ^^^ x / 256 := by
  rw [eig_xor, eig_split x, eig_xor, Nat.xor_assoc, Nat.xor_comm (x / 256), Nat.xor_assoc]

theorem stp_bit (x : Nat) (h : x < 4294967296) : (stp x).testBit 31 = (x % 2 == 1) := by
  unfold stp
  rw [Nat.testBit_xor, Nat.testBit_lt_two_pow (x := x / 2) (i := 31) (by omega)]
  rcases Nat.mod_two_eq_zero_or_one x with hx | hx
  · rw [if_neg (by omega), hx]; simp
  · rw [if_pos hx, hx]; decide +kernel
theorem xor_right_cancel {x y z : Nat} (h : x ^^^ z = y ^^^ z) : x = y := by
  have := congrArg (· ^^^ z) h
  simpa [Nat.xor_assoc] using this
theorem stp_inj {x y : Nat} (hx : x < 4294967296) (hy : y < 4294967296) (h : stp x = stp y) : x = y := by
  have e := stp_bit x hx
  rw [h, stp_bit y hy] at e
  have e2 : x % 2 = y % 2 := by
    rcases Nat.mod_two_eq_zero_or_one x with hx | hx <;> rcases Nat.mod_two_eq_zero_or_one y with hy | hy <;> simp [hx, hy] at e ⊢
  unfold stp at h
  rw [e2] at h
  have := xor_right_cancel h
  omega
theorem stps_inj {x y : Nat} (hx : x < 4294967296) (hy : y < 4294967296) : ∀ n, stps n x = stps n y → x = y
  | 0, h => h
  | n + 1, h => stps_inj hx hy n (stp_inj (stps_lt hx n) (stps_lt hy n) h)
theorem eig_inj {x y : Nat} (hx : x < 4294967296) (hy : y < 4294967296) (h : eig x = eig y) : x = y := stps_inj hx hy 8 h

theorem fol_inj (l : List UInt8) : ∀ {x y : Nat}, x < 4294967296 → y < 4294967296 → fol x l = fol y l → x = y := by
  induction l with
  | nil => intro x y _ _ h; exact h
  | cons c l ih =>
    intro x y hx hy h
    have hc : c.toNat < 4294967296 := by have := u8_lt c; omega
    have := ih (eig_lt (xor_lt hx hc)) (eig_lt (xor_lt hy hc)) h
    exact xor_right_cancel (eig_inj (xor_lt hx hc) (xor_lt hy hc) this)
theorem fol_one {x : Nat} (hx : x < 4294967296) (l m : List UInt8) {c d : UInt8} (h : c ≠ d) : fol x (l ++ c :: m) ≠ fol x (l ++ d :: m) := by
  intro e
  rw [fol_append, fol_append] at e
  have hy := fol_lt l hx
  generalize fol x l = y at *
  have hc : c.toNat < 4294967296 := by have := u8_lt c; omega
  have hd : d.toNat < 4294967296 := by have := u8_lt d; omega
  have e1 : eig (y ^^^ c.toNat) = eig (y ^^^ d.toNat) := fol_inj m (eig_lt (xor_lt hy hc)) (eig_lt (xor_lt hy hd)) e
  have e2 := eig_inj (xor_lt hy hc) (xor_lt hy hd) e1
  rw [Nat.xor_comm, Nat.xor_comm y] at e2
  exact h (UInt8.toNat_inj.mp (xor_right_cancel e2))
theorem more_one {x : Nat} (hx : x < 4294967296) (l m : List UInt8) {c d : UInt8} (h : c ≠ d) : more x (l ++ c :: m) ≠ more x (l ++ d :: m) := by
  intro e
  exact fol_one (xor_lt hx (by omega)) l m h (xor_right_cancel e)
theorem more_append (x : Nat) (l m : List UInt8) : more (more x l) m = more x (l ++ m) := by
  unfold more
  rw [fol_append, Nat.xor_assoc, Nat.xor_self, Nat.xor_zero]

theorem xor3 (a b c d e f : Nat) : (a ^^^ d) ^^^ (b ^^^ e) ^^^ (c ^^^ f) = (a ^^^ b ^^^ c) ^^^ (d ^^^ e ^^^ f) := by
  ac_rfl
theorem fol_three (n : Nat) : ∀ (a b c : List UInt8) (x y z : Nat), a.length = n → b.length = n → c.length = n →
    fol (x ^^^ y ^^^ z) (List.zipWith (· ^^^ ·) (List.zipWith (· ^^^ ·) a b) c) = fol x a ^^^ fol y b ^^^ fol z c := by
  induction n with
  | zero =>
    intro a b c x y z ha hb hc
    rw [List.length_eq_zero_iff] at ha hb hc
    subst ha hb hc
    rfl
  | succ n ih =>
    intro a b c x y z ha hb hc
    match a, b, c, ha, hb, hc with
    | p :: a, q :: b, r :: c, ha, hb, hc =>
      simp only [List.length_cons, Nat.add_right_cancel_iff] at ha hb hc
      have := ih a b c (eig (x ^^^ p.toNat)) (eig (y ^^^ q.toNat)) (eig (z ^^^ r.toNat)) ha hb hc
      simp only [fol, List.zipWith_cons_cons, List.foldl_cons] at this ⊢
      rw [← this, ← eig_xor, ← eig_xor, xor3, UInt8.toNat_xor, UInt8.toNat_xor]
theorem more_three (n : Nat) (a b c : List UInt8) (ha : a.length = n) (hb : b.length = n) (hc : c.length = n) :
    more 0 (List.zipWith (· ^^^ ·) (List.zipWith (· ^^^ ·) a b) c) = more 0 a ^^^ more 0 b ^^^ more 0 c := by
  unfold more
  rw [xor3, ← fol_three n a b c _ _ _ ha hb hc]
  rfl
theorem more_digits : more 0 [49, 50, 51, 52, 53, 54, 55, 56, 57] = 3421780262 := by decide +kernel
theorem more_empty (x : Nat) : more x [] = x := by
  unfold more fol
  rw [List.foldl_nil, Nat.xor_assoc, Nat.xor_self, Nat.xor_zero]
theorem eig_1 : eig 1 = 1996959894 := by decide +kernel
end Go.Proofs.YtioeidhblbfgmaaGreat.Frm


namespace Go.Proofs.YtioeidhblbfgmaaGreat.Frm
open Go.ChangeShapes Go.WideShapes Go.ChangeAt Go.RowKit
set_option linter.unusedVariables false
set_option maxRecDepth 100000

theorem eight_any (x : Nat) (hx : x < 4294967296) (w : World) :
    Calls Tryz.prog 126 #[.int .u32 x] w fun e w' => e = .returned (.int .u32 (eig x)) ∧ w' = w := by
  go_enter Tryz.func126, Tryz.ntmps126
  go_wp2
  go_loop [0, 4] (fun y j => ∃ k : Nat, k ≤ 8 ∧ j = .int .i64 k ∧ y = .int .u32 (stps k x)) (fun _ j => 8 - (intOf j).toNat)
  case atStart => exact ⟨0, Nat.zero_le _, rfl, rfl⟩
  case round =>
    obtain ⟨k, hk, rfl, rfl⟩ := hrel
    by_cases hlt : k < 8
    · have hl := stps_lt hx k
      have HS : Hid (stps (k + 1) x = stp (stps k x)) := rfl
      generalize hh : stps k x = h at *
      clear hh
      have ha : bits .and .u32 (h : Int) 1 = ((h % 2 : Nat) : Int) := by
        have := u32_and_nat h 1 hl (by omega)
        rw [Nat.and_one_is_mod] at this
        exact this
      rcases Nat.mod_two_eq_zero_or_one h with h2 | h2
      · have HE : Hid (stp h = h / 2) := by
          show _ = _
          unfold stp; rw [if_neg (by omega), Nat.xor_zero]
        have hd : ((h % 2 : Nat) : Int) = 0 := by omega
        rw [hd] at ha
        go_wp2
        go_round
        case rel => exact ⟨k + 1, by omega, by go_num, by rw [HS.out, HE.out]; rfl⟩
        case measure => simp [intOf]; omega
      · have HE : Hid (stp h = h / 2 ^^^ 3988292384) := by
          show _ = _
          unfold stp; rw [if_pos h2]
        have HX : Hid (bits .xor .u32 ((h : Int) / 2) 3988292384 = ((h / 2 ^^^ 3988292384 : Nat) : Int)) := u32_xor_nat (h / 2) 3988292384 (by omega) (by omega)
        have hd : ((h % 2 : Nat) : Int) = 1 := by omega
        rw [hd] at ha
        go_wp2
        go_round
        case rel => exact ⟨k + 1, by omega, by go_num, by rw [HS.out, HE.out, HX.out]⟩
        case measure => simp [intOf]; omega
    · have hkk : k = 8 := by omega
      subst hkk
      go_wp2
      go_ret
      exact ⟨rfl, rfl⟩
theorem refeight_any (x : Nat) (hx : x < 4294967296) (w : World) :
    Calls Tryz.prog 119 #[.int .u32 x] w fun e w' => e = .returned (.int .u32 (eig x)) ∧ w' = w := by
  go_enter Tryz.func119, Tryz.ntmps119
  go_wp2
  go_loop [0, 3] (fun y j => ∃ k : Nat, k ≤ 8 ∧ j = .int .i64 k ∧ y = .int .u32 (stps k x)) (fun _ j => 8 - (intOf j).toNat)
  case atStart => exact ⟨0, Nat.zero_le _, rfl, rfl⟩
  case round =>
    obtain ⟨k, hk, rfl, rfl⟩ := hrel
    by_cases hlt : k < 8
    · have hl := stps_lt hx k
      have HS : Hid (stps (k + 1) x = stp (stps k x)) := rfl
      generalize hh : stps k x = h at *
      clear hh
      rcases Nat.mod_two_eq_zero_or_one h with h2 | h2
      · have HE : Hid (stp h = h / 2) := by
          show _ = _
          unfold stp; rw [if_neg (by omega), Nat.xor_zero]
        have hd : (h : Int) % 2 = 0 := by omega
        go_wp2
        go_round
        case rel => exact ⟨k + 1, by omega, by go_num, by rw [HS.out, HE.out]; rfl⟩
        case measure => simp [intOf]; omega
      · have HE : Hid (stp h = h / 2 ^^^ 3988292384) := by
          show _ = _
          unfold stp; rw [if_pos h2]
        have HX : Hid (bits .xor .u32 ((h : Int) / 2) 3988292384 = ((h / 2 ^^^ 3988292384 : Nat) : Int)) := u32_xor_nat (h / 2) 3988292384 (by omega) (by omega)
        have hd : (h : Int) % 2 = 1 := by omega
        go_wp2
        go_round
        case rel => exact ⟨k + 1, by omega, by go_num, by rw [HS.out, HE.out, HX.out]⟩
        case measure => simp [intOf]; omega
    · have hkk : k = 8 := by omega
      subst hkk
      go_wp2
      go_ret
      exact ⟨rfl, rfl⟩
end Go.Proofs.YtioeidhblbfgmaaGreat.Frm


namespace Go.Proofs.YtioeidhblbfgmaaGreat.Frm
open Go.ChangeShapes Go.WideShapes Go.ChangeAt Go.RowKit
set_option linter.unusedVariables false
set_option maxRecDepth 100000

def Only (b : Nat) (w w' : World) : Prop :=
  w'.os = w.os ∧ w'.tape = w.tape ∧ w'.output = w.output ∧ w'.heap.size = w.heap.size ∧ (∀ k, k ≠ b → w'.heap[k]? = w.heap[k]?) ∧ ∀ a, w'.frozen? a = w.frozen? a
theorem Only.refl (b : Nat) (w : World) : Only b w w := ⟨rfl, rfl, rfl, rfl, fun _ _ => rfl, fun _ => rfl⟩
theorem Only.trans {b : Nat} {u v w : World} (h : Only b u v) (k : Only b v w) : Only b u w :=
  ⟨k.1.trans h.1, k.2.1.trans h.2.1, k.2.2.1.trans h.2.2.1, k.2.2.2.1.trans h.2.2.2.1, fun i hi => (k.2.2.2.2.1 i hi).trans (h.2.2.2.2.1 i hi), fun a => (k.2.2.2.2.2 a).trans (h.2.2.2.2.2 a)⟩
theorem Only.drew {b : Nat} {u v : World} (h : Only b u v) : Only b u v.drew := h
theorem Only.setCell {b : Nat} {u v : World} (h : Only b u v) (o : Nat) (x : Value) : Only b u (v.setCell ⟨b, o, none⟩ x) :=
  h.trans ⟨rfl, rfl, rfl, by simp [World.setCell], fun k hk => Below.heap_setCell _ _ _ _ hk, fun a => World.frozen?_setCell _ _ _ _⟩
theorem Only.cell {b : Nat} {w w' : World} (h : Only b w w') {p : Addr} (hp : p.block ≠ b) : w'.cell? p = w.cell? p := World.cell?_of_block (w := w) (h.2.2.2.2.1 p.block hp)
theorem Only.grown {b : Nat} {W w w' : World} (h : Only b w w') (hb : W.heap.size ≤ b) (g : Grown W w) : Grown W w' := by
  obtain ⟨⟨h1, h2, h3⟩, hf, hs⟩ := g
  obtain ⟨k1, k2, k3, k4, k5, k6⟩ := h
  refine ⟨⟨k1.trans h1, k3.trans h2, fun i hi => ?_⟩, fun x => (k6 x).trans (hf x), by omega⟩
  rw [k5 i (by omega)]
  exact h3 i hi

set_option maxRecDepth 100000 in
theorem fill_any (b : Nat) (w : World) (hv : ∀ i, i < 256 → ∃ v, w.cell? ⟨b, 3 + i, none⟩ = some v) (hf : ∀ i, w.frozen? ⟨b, i, none⟩ = false) :
    Calls Tryz.prog 114 #[.pointer (some ⟨b, 0, none⟩)] w fun e w' => e = .returned (.tuple #[]) ∧ Only b w w' ∧ (∀ i, i < 256 → w'.cell? ⟨b, 3 + i, none⟩ = some (.int .u32 (eig i))) ∧ (∀ i, i < 3 → w'.cell? ⟨b, i, none⟩ = w.cell? ⟨b, i, none⟩) := by
  go_enter Tryz.func114, Tryz.ntmps114
  go_wp2
  go_loopw [3] (fun j wr => ∃ k : Nat, k ≤ 256 ∧ j = .int .i64 k ∧ Hid (Only b w wr) ∧ Hid (∀ i, i < 256 → ∃ v, wr.cell? ⟨b, 3 + i, none⟩ = some v) ∧ Hid (∀ i, i < k → wr.cell? ⟨b, 3 + i, none⟩ = some (.int .u32 (eig i))) ∧ Hid (∀ i, i < 3 → wr.cell? ⟨b, i, none⟩ = w.cell? ⟨b, i, none⟩)) (fun j _ => 256 - (intOf j).toNat)
  case atStart => exact ⟨0, Nat.zero_le _, rfl, Only.refl b w, hv, fun i hi => absurd hi (Nat.not_lt_zero _), fun _ _ => rfl⟩
  case round =>
    obtain ⟨k, hk, rfl, HO, HV, HE, HL⟩ := hrel
    by_cases hlt : k < 256
    · obtain ⟨v, hv0⟩ := HV.out k hlt
      have hf0 : wr.frozen? ⟨b, 3 + k, none⟩ = false := (HO.out.2.2.2.2.2 _).trans (hf _)
      clear hv hf
      have hwr : IntKind.u32.wrap (k : Int) = (k : Int) := by rw [IntKind.wrap_u32]; omega
      go_wp2
      go_region_with (go_at_call 126; refine (eight_any k (by omega) _).mono ?_; rintro e w' ⟨rfl, rfl⟩)
      have HW : Hid (∀ i, (wr.setCell ⟨b, 3 + k, none⟩ (.int .u32 (eig k))).drew.cell? ⟨b, 3 + i, none⟩ = if i = k then some (.int .u32 (eig k)) else wr.cell? ⟨b, 3 + i, none⟩) := by
        intro i
        rw [World.cell?_drew]
        split
        · rename_i h; subst h; exact World.cell?_setCell_same _ _ _ hv0
        · exact World.cell?_setCell_other _ _ _ _ (by simp <;> omega)
      have HX : Hid (∀ i, i < 3 → (wr.setCell ⟨b, 3 + k, none⟩ (.int .u32 (eig k))).drew.cell? ⟨b, i, none⟩ = wr.cell? ⟨b, i, none⟩) := by
        intro i hi
        rw [World.cell?_drew]
        exact World.cell?_setCell_other _ _ _ _ (by simp <;> omega)
      have HY : Hid (Only b w (wr.setCell ⟨b, 3 + k, none⟩ (.int .u32 (eig k))).drew) := (HO.out.setCell _ _).drew
      generalize (wr.setCell ⟨b, 3 + k, none⟩ (.int .u32 (eig k))).drew = wn at *
      go_wp2
      go_roundw
      case rel =>
        refine ⟨k + 1, by omega, by go_num, HY, fun i hi => ?_, fun i hi => ?_, fun i hi => ?_⟩
        · rw [HW.out i]; split
          · exact ⟨_, rfl⟩
          · exact HV.out i hi
        · rw [HW.out i]; split
          · rename_i h; subst h; rfl
          · exact HE.out i (by omega)
        · exact (HX.out i hi).trans (HL.out i hi)
      case measure => simp [intOf]; omega
    · have hkk : k = 256 := by omega
      subst hkk
      clear hv hf
      go_wp2
      go_end0
      exact ⟨rfl, HO.out, HE.out, HL.out⟩
end Go.Proofs.YtioeidhblbfgmaaGreat.Frm


namespace Go.Proofs.YtioeidhblbfgmaaGreat.Frm
open Go.ChangeShapes Go.WideShapes Go.ChangeAt Go.RowKit
set_option linter.unusedVariables false
set_option maxRecDepth 100000

def Fresh (b : Nat) (w : World) : Prop :=
  w.cell? ⟨b, 0, none⟩ = some (.int .u32 0) ∧ w.cell? ⟨b, 1, none⟩ = some (.int .i32 0) ∧ (∀ i, i < 256 → ∃ v, w.cell? ⟨b, 3 + i, none⟩ = some v) ∧ ∀ i, w.frozen? ⟨b, i, none⟩ = false
def Made (b : Nat) (w : World) : Prop :=
  w.cell? ⟨b, 0, none⟩ = some (.int .u32 1) ∧ ∀ i, i < 256 → w.cell? ⟨b, 3 + i, none⟩ = some (.int .u32 (eig i))
def Tab (b : Nat) (w : World) : Prop := Fresh b w ∨ Made b w

theorem load_any (a : Addr) (x : Int) (w : World) (h : w.cell? a = some (.int .u32 x)) :
    Calls Tryz.prog 124 #[.pointer (some a)] w fun e w' => e = .returned (.bool (x != 0)) ∧ w' = w := by
  have hl := run_call_load (P := Tryz.prog) Tryz.func132 (by kernel_rfl) (by kernel_rfl) (by kernel_rfl) .u32 (by kernel_rfl) h
  go_enter Tryz.func124, Tryz.ntmps124
  go_wp2
  go_ret
  exact ⟨rfl, rfl⟩

set_option maxRecDepth 100000 in
set_option maxHeartbeats 1600000 in
theorem slow_any (b : Nat) (w : World) (h : Fresh b w) :
    Calls Tryz.prog 125 #[.pointer (some ⟨b, 0, none⟩), .func (.func 114) #[.pointer (some ⟨b, 0, none⟩)] #[]] w fun e w' => e = .returned (.tuple #[]) ∧ Only b w w' ∧ Made b w' := by
  obtain ⟨h0, h1, hv, hf⟩ := h
  have h0' : (w.setCell ⟨b, 1, none⟩ (.int .i32 1)).cell? ⟨b, 0, none⟩ = some (.int .u32 0) := (World.cell?_setCell_other _ ⟨b, 1, none⟩ ⟨b, 0, none⟩ _ (by simp)).trans h0
  have h1' : (w.setCell ⟨b, 1, none⟩ (.int .i32 1)).cell? ⟨b, 1, none⟩ = some (.int .i32 1) := World.cell?_setCell_same _ _ _ h1
  have hv' : Hid (∀ i, i < 256 → ∃ v, (w.setCell ⟨b, 1, none⟩ (.int .i32 1)).cell? ⟨b, 3 + i, none⟩ = some v) := by
    intro i hi
    rw [World.cell?_setCell_other _ ⟨b, 1, none⟩ ⟨b, 3 + i, none⟩ _ (by simp <;> omega)]
    exact hv i hi
  have hf' : Hid (∀ i, (w.setCell ⟨b, 1, none⟩ (.int .i32 1)).frozen? ⟨b, i, none⟩ = false) := by
    intro i
    rw [World.frozen?_setCell]
    exact hf i
  have hO : Hid (Only b w (w.setCell ⟨b, 1, none⟩ (.int .i32 1))) := (Only.refl b w).setCell _ _
  have hnot : ∀ (x : Bool) (w : World), (Op.unary .not (.bool x)).run Tryz.prog w = .ok (.bool (!x)) w := fun _ _ => rfl
  have f1 := hf 1
  clear hv hf
  go_enter_defers Tryz.func125, Tryz.ntmps125
  go_wp2_with (go_at_call 133; refine (lock_free ⟨b, 1, none⟩ _ (by go_simp) (by go_simp)).mono ?_; rintro e w' ⟨rfl, rfl⟩)
  generalize w.setCell ⟨b, 1, none⟩ (.int .i32 1) = w1 at *
  refine (load_any ⟨b, 0, none⟩ 0 _ h0').mono ?_
  rintro e w' ⟨rfl, rfl⟩
  go_wp2_with (go_at_call 114; refine (fill_any b _ hv'.out hf'.out).mono ?_; rintro e w2 ⟨rfl, hO2, hE, hL⟩)
  have k0 : w2.cell? ⟨b, 0, none⟩ = some (.int .u32 0) := (hL 0 (by omega)).trans h0'
  have k1 : w2.cell? ⟨b, 1, none⟩ = some (.int .i32 1) := (hL 1 (by omega)).trans h1'
  have kf : ∀ i, w2.frozen? ⟨b, i, none⟩ = false := fun i => (hO2.2.2.2.2.2 _).trans (hf'.out i)
  refine leaves_cons (f := 135) (args := #[.pointer (some ⟨b, 0, none⟩), .bool true]) (by simp) (by simp [go_sem]) ?_
  refine (store_deferred ⟨b, 0, none⟩ (.int .u32 0) .returning _ k0 (kf 0)).mono ?_
  rintro e u' w3 ⟨rfl, rfl, rfl⟩
  refine leaves_cons (f := 134) (args := #[.pointer (some ⟨b, 1, none⟩)]) (by simp [settle]) (by simp [go_sem]) ?_
  have k1' : (w2.drew.setCell ⟨b, 0, none⟩ (.int .u32 1)).cell? ⟨b, 1, none⟩ = some (.int .i32 1) := (World.cell?_setCell_other _ ⟨b, 0, none⟩ ⟨b, 1, none⟩ _ (by simp)).trans k1
  have k0' : (w2.drew.setCell ⟨b, 0, none⟩ (.int .u32 1)).cell? ⟨b, 0, none⟩ = some (.int .u32 1) := World.cell?_setCell_same _ _ _ k0
  refine (unlock_deferred ⟨b, 1, none⟩ _ _ k1' ((World.frozen?_setCell _ _ _ _).trans (kf 1))).mono ?_
  rintro e u' w4 ⟨rfl, rfl, rfl⟩
  have hfin : Only b w ((w2.drew.setCell ⟨b, 0, none⟩ (.int .u32 1)).setCell ⟨b, 1, none⟩ (.int .i32 0)) := (((hO.out.trans hO2).drew).setCell _ _).setCell _ _
  have hmade : Made b ((w2.drew.setCell ⟨b, 0, none⟩ (.int .u32 1)).setCell ⟨b, 1, none⟩ (.int .i32 0)) := by
    refine ⟨(World.cell?_setCell_other _ ⟨b, 1, none⟩ ⟨b, 0, none⟩ _ (by simp)).trans k0', fun i hi => ?_⟩
    rw [World.cell?_setCell_other _ ⟨b, 1, none⟩ ⟨b, 3 + i, none⟩ _ (by simp <;> omega), World.cell?_setCell_other _ ⟨b, 0, none⟩ ⟨b, 3 + i, none⟩ _ (by simp <;> omega)]
    exact hE i hi
  simp [Leaves, settle, results, Tryz.results125]
  exact ⟨hfin, hmade⟩

theorem do_any (b : Nat) (w : World) (h : Tab b w) :
    Calls Tryz.prog 113 #[.pointer (some ⟨b, 0, none⟩), .func (.func 114) #[.pointer (some ⟨b, 0, none⟩)] #[]] w fun e w' => e = .returned (.tuple #[]) ∧ Only b w w' ∧ Made b w' := by
  have hnot : ∀ (x : Bool) (w : World), (Op.unary .not (.bool x)).run Tryz.prog w = .ok (.bool (!x)) w := fun _ _ => rfl
  rcases h with h | h
  · have h0 := h.1
    have HH : Hid (Fresh b w) := h
    clear h
    go_enter Tryz.func113, Tryz.ntmps113
    go_wp2_with (first | (go_at_call 124; refine (load_any ⟨b, 0, none⟩ 0 _ h0).mono ?_; rintro e w' ⟨rfl, rfl⟩) | (go_at_call 125; refine (slow_any b _ HH.out).mono ?_; rintro e w' ⟨rfl, hO, hM⟩))
    go_end0
    exact ⟨rfl, hO, hM⟩
  · have h0 := h.1
    have HH : Hid (Made b w) := h
    clear h
    go_enter Tryz.func113, Tryz.ntmps113
    go_wp2_with (go_at_call 124; refine (load_any ⟨b, 0, none⟩ 1 _ h0).mono ?_; rintro e w' ⟨rfl, rfl⟩)
    go_end0
    exact ⟨rfl, Only.refl _ _, HH.out⟩

set_option maxRecDepth 100000 in
theorem made_any (b : Nat) (w : World) (h : Tab b w) :
    Calls Tryz.prog 88 #[.pointer (some ⟨b, 0, none⟩)] w fun e w' => e = .returned (.pointer (some ⟨b, 3, none⟩)) ∧ Only b w w' ∧ Made b w' := by
  have hmf : ∀ (fn : Fn) (first cap : Array Value) (w : World), (Instr.makeFunc fn first cap).run Tryz.prog w = .ok (.func fn first cap) w := fun _ _ _ _ => rfl
  have HH : Hid (Tab b w) := h
  clear h
  go_enter Tryz.func88, Tryz.ntmps88
  go_wp2_with (go_at_call 113; refine (do_any b _ HH.out).mono ?_; rintro e w' ⟨rfl, hO, hM⟩)
  go_ret
  exact ⟨rfl, hO, hM⟩
end Go.Proofs.YtioeidhblbfgmaaGreat.Frm
