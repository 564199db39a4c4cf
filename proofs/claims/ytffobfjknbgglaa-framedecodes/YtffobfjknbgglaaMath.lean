/- Plain mathematics for the statements on check sums: the eight times as a function on natural numbers; it is linear over exclusive or, it cannot take two numbers to one, and a table of 256 entries serves for it. No condition but that numbers have 32 bits. -/
import Derived.Laws.BitsAllLaws
import Derived.Laws.Bits64
import Derived.OpenShut
namespace Go.Proofs.Ytffobfjknbgglaa

def stp (x : Nat) : Nat := x / 2 ^^^ (if x % 2 = 1 then 3988292384 else 0)
def stps : Nat → Nat → Nat
  | 0, x => x
  | n + 1, x => stp (stps n x)
def eig (x : Nat) : Nat := stps 8 x
def fol (x : Nat) (l : List UInt8) : Nat := l.foldl (fun x c => eig (x ^^^ c.toNat)) x
def more (x : Nat) (l : List UInt8) : Nat := fol (x ^^^ 4294967295) l ^^^ 4294967295

theorem xor_lt {x y : Nat} (hx : x < 4294967296) (hy : y < 4294967296) : x ^^^ y < 4294967296 := Nat.xor_lt_two_pow (n := 32) hx hy
theorem stp_lt {x : Nat} (h : x < 4294967296) : stp x < 4294967296 := by
  unfold stp
  refine xor_lt (by omega) ?_
  split <;> omega
theorem stps_lt {x : Nat} (h : x < 4294967296) : ∀ n, stps n x < 4294967296
  | 0 => h
  | n + 1 => stp_lt (stps_lt h n)
theorem eig_lt {x : Nat} (h : x < 4294967296) : eig x < 4294967296 := stps_lt h 8
theorem u8_lt (c : UInt8) : c.toNat < 256 := c.toNat_lt
theorem fol_lt (l : List UInt8) : ∀ {x : Nat}, x < 4294967296 → fol x l < 4294967296 := by
  induction l with
  | nil => intro x h; exact h
  | cons c l ih => intro x h; exact ih (eig_lt (xor_lt h (by have := u8_lt c; omega)))
theorem more_lt (x : Nat) (h : x < 4294967296) (l : List UInt8) : more x l < 4294967296 := xor_lt (fol_lt l (xor_lt h (by omega))) (by omega)
theorem fol_snoc (x : Nat) (l : List UInt8) (c : UInt8) : fol x (l ++ [c]) = eig (fol x l ^^^ c.toNat) := by
  unfold fol; rw [List.foldl_append]; rfl
theorem fol_append (x : Nat) (l m : List UInt8) : fol x (l ++ m) = fol (fol x l) m := by
  unfold fol; rw [List.foldl_append]

theorem stp_xor (x y : Nat) : stp (x ^^^ y) = stp x ^^^ stp y := by
  unfold stp
  have h1 : (x ^^^ y) / 2 = x / 2 ^^^ y / 2 := Nat.xor_div_two
  have h2 : (x ^^^ y) % 2 = (x + y) % 2 := by
    have := @Nat.xor_mod_two_eq_one x y
    omega
  rw [h1, h2]
  rcases Nat.mod_two_eq_zero_or_one x with hx | hx <;> rcases Nat.mod_two_eq_zero_or_one y with hy | hy
  · rw [if_neg (by omega), if_neg (by omega), if_neg (by omega)]; simp
  · rw [if_pos (by omega), if_neg (by omega), if_pos (by omega)]; simp [Nat.xor_assoc]
  · rw [if_pos (by omega), if_pos (by omega), if_neg (by omega)]; rw [Nat.xor_zero]; ac_rfl
  · rw [if_neg (by omega), if_pos (by omega), if_pos (by omega)]
    rw [Nat.xor_zero, Nat.xor_assoc, ← Nat.xor_assoc 3988292384, Nat.xor_comm 3988292384, Nat.xor_assoc, Nat.xor_self, Nat.xor_zero]
theorem stps_xor (x y : Nat) : ∀ n, stps n (x ^^^ y) = stps n x ^^^ stps n y
  | 0 => rfl
  | n + 1 => by simp only [stps]; rw [stps_xor x y n, stp_xor]
theorem eig_xor (x y : Nat) : eig (x ^^^ y) = eig x ^^^ eig y := stps_xor x y 8
theorem stp_even (y : Nat) : stp (2 * y) = y := by
  unfold stp
  rw [if_neg (by omega), Nat.xor_zero]; omega
theorem eig_high (h : Nat) : eig (256 * h) = h := by
  unfold eig
  simp only [stps]
  rw [show 256 * h = 2 * (2 * (2 * (2 * (2 * (2 * (2 * (2 * h))))))) by omega]
  simp only [stp_even]
theorem split_byte (x : Nat) : x = (256 * (x / 256)) ^^^ (x % 256) := by
  have h := Nat.div_add_mod x 256
  have e : 256 * (x / 256) ^^^ (x % 256) = 256 * (x / 256) + x % 256 := by
    have hl : x % 256 < 2 ^ 8 := Nat.mod_lt _ (by omega)
    have := Nat.two_pow_add_eq_or_of_lt hl (x / 256)
    rw [show (256 : Nat) = 2 ^ 8 by rfl, this]
    apply Nat.eq_of_testBit_eq
    intro i
    rw [Nat.testBit_xor, Nat.testBit_or, Nat.testBit_two_pow_mul]
    by_cases hi : 8 ≤ i
    · have : (x % 2 ^ 8).testBit i = false := Nat.testBit_lt_two_pow (Nat.lt_of_lt_of_le hl (Nat.pow_le_pow_right (by omega) hi))
      rw [this]; simp
    · simp [hi]
  omega
theorem eig_split (x : Nat) : eig x = eig (x % 256) ^^^ x / 256 := by
  have e := eig_xor (256 * (x / 256)) (x % 256)
  rw [← split_byte, eig_high] at e
  rw [e, Nat.xor_comm]
theorem eig_table (x c : Nat) : eig (x ^^^ c) = eig ((x % 256) ^^^ c) ^^^ x / 256 := by
  rw [eig_xor, eig_split x, eig_xor, Nat.xor_assoc, Nat.xor_comm (x / 256), Nat.xor_assoc]

theorem stp_bit (x : Nat) (h : x < 4294967296) : (stp x).testBit 31 = (x % 2 == 1) := by
  unfold stp
  rw [Nat.testBit_xor, Nat.testBit_lt_two_pow (x := x / 2) (i := 31) (by omega)]
  rcases Nat.mod_two_eq_zero_or_one x with hx | hx
  · rw [if_neg (by omega), hx]; simp
  · rw [if_pos hx, hx]; decide +kernel
theorem xor_right_cancel {x y z : Nat} (h : x ^^^ z = y ^^^ z) : x = y := by
  have := congrArg (· ^^^ z) h
  simpa [Nat.xor_assoc] using this
theorem stp_inj {x y : Nat} (hx : x < 4294967296) (hy : y < 4294967296) (h : stp x = stp y) : x = y := by
  have e := stp_bit x hx
  rw [h, stp_bit y hy] at e
  have e2 : x % 2 = y % 2 := by
    rcases Nat.mod_two_eq_zero_or_one x with hx | hx <;> rcases Nat.mod_two_eq_zero_or_one y with hy | hy <;> simp [hx, hy] at e ⊢
  unfold stp at h
  rw [e2] at h
  have := xor_right_cancel h
  omega
theorem stps_inj {x y : Nat} (hx : x < 4294967296) (hy : y < 4294967296) : ∀ n, stps n x = stps n y → x = y
  | 0, h => h
  | n + 1, h => stps_inj hx hy n (stp_inj (stps_lt hx n) (stps_lt hy n) h)
theorem eig_inj {x y : Nat} (hx : x < 4294967296) (hy : y < 4294967296) (h : eig x = eig y) : x = y := stps_inj hx hy 8 h

theorem fol_inj (l : List UInt8) : ∀ {x y : Nat}, x < 4294967296 → y < 4294967296 → fol x l = fol y l → x = y := by
  induction l with
  | nil => intro x y _ _ h; exact h
  | cons c l ih =>
    intro x y hx hy h
    have hc : c.toNat < 4294967296 := by have := u8_lt c; omega
    have := ih (eig_lt (xor_lt hx hc)) (eig_lt (xor_lt hy hc)) h
    exact xor_right_cancel (eig_inj (xor_lt hx hc) (xor_lt hy hc) this)
theorem fol_one {x : Nat} (hx : x < 4294967296) (l m : List UInt8) {c d : UInt8} (h : c ≠ d) : fol x (l ++ c :: m) ≠ fol x (l ++ d :: m) := by
  intro e
  rw [fol_append, fol_append] at e
  have hy := fol_lt l hx
  generalize fol x l = y at *
  have hc : c.toNat < 4294967296 := by have := u8_lt c; omega
  have hd : d.toNat < 4294967296 := by have := u8_lt d; omega
  have e1 : eig (y ^^^ c.toNat) = eig (y ^^^ d.toNat) := fol_inj m (eig_lt (xor_lt hy hc)) (eig_lt (xor_lt hy hd)) e
  have e2 := eig_inj (xor_lt hy hc) (xor_lt hy hd) e1
  rw [Nat.xor_comm, Nat.xor_comm y] at e2
  exact h (UInt8.toNat_inj.mp (xor_right_cancel e2))
theorem more_one {x : Nat} (hx : x < 4294967296) (l m : List UInt8) {c d : UInt8} (h : c ≠ d) : more x (l ++ c :: m) ≠ more x (l ++ d :: m) := by
  intro e
  exact fol_one (xor_lt hx (by omega)) l m h (xor_right_cancel e)
theorem more_append (x : Nat) (l m : List UInt8) : more (more x l) m = more x (l ++ m) := by
  unfold more
  rw [fol_append, Nat.xor_assoc, Nat.xor_self, Nat.xor_zero]

theorem xor3 (a b c d e f : Nat) : (a ^^^ d) ^^^ (b ^^^ e) ^^^ (c ^^^ f) = (a ^^^ b ^^^ c) ^^^ (d ^^^ e ^^^ f) := by
  ac_rfl
theorem fol_three (n : Nat) : ∀ (a b c : List UInt8) (x y z : Nat), a.length = n → b.length = n → c.length = n →
    fol (x ^^^ y ^^^ z) (List.zipWith (· ^^^ ·) (List.zipWith (· ^^^ ·) a b) c) = fol x a ^^^ fol y b ^^^ fol z c := by
  induction n with
  | zero =>
    intro a b c x y z ha hb hc
    rw [List.length_eq_zero_iff] at ha hb hc
    subst ha hb hc
    rfl
  | succ n ih =>
    intro a b c x y z ha hb hc
    match a, b, c, ha, hb, hc with
    | p :: a, q :: b, r :: c, ha, hb, hc =>
      simp only [List.length_cons, Nat.add_right_cancel_iff] at ha hb hc
      have := ih a b c (eig (x ^^^ p.toNat)) (eig (y ^^^ q.toNat)) (eig (z ^^^ r.toNat)) ha hb hc
      simp only [fol, List.zipWith_cons_cons, List.foldl_cons] at this ⊢
      rw [← this, ← eig_xor, ← eig_xor, xor3, UInt8.toNat_xor, UInt8.toNat_xor]
theorem more_three (n : Nat) (a b c : List UInt8) (ha : a.length = n) (hb : b.length = n) (hc : c.length = n) :
    more 0 (List.zipWith (· ^^^ ·) (List.zipWith (· ^^^ ·) a b) c) = more 0 a ^^^ more 0 b ^^^ more 0 c := by
  unfold more
  rw [xor3, ← fol_three n a b c _ _ _ ha hb hc]
  rfl
theorem more_digits : more 0 [49, 50, 51, 52, 53, 54, 55, 56, 57] = 3421780262 := by decide +kernel
theorem more_empty (x : Nat) : more x [] = x := by
  unfold more fol
  rw [List.foldl_nil, Nat.xor_assoc, Nat.xor_self, Nat.xor_zero]
theorem eig_1 : eig 1 = 1996959894 := by decide +kernel
end Go.Proofs.Ytffobfjknbgglaa
