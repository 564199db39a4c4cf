/- The landed requests' rows in memory: a member is a node, whether it has answered, and with what (Ad: twelve cells). The contracts of slices.IndexFunc and slices.ContainsFunc for closures that only read. Rows have at most 1000 members. -/
import Derived.Test.YtjmldnbepajnoaaRAkRec
import Derived.Test.YtjmldnbepajnoaaRGSet
import Derived.Test.YtjmldnbepajnoaaRGTn
import Derived.Deep.MidRow
import Derived.Shelf.Abstract
namespace Go.Proofs.YtjmldnbepajnoaaR
open Go.ChangeShapes Go.WideShapes Go.ChangeAt Go.RowKit
set_option linter.unusedVariables false
set_option linter.unusedSimpArgs false
set_option maxRecDepth 100000

structure Ad where
  n : Int
  c : Bool
  x : Rp
def zeroAd : Ad := ⟨0, false, zeroRp⟩
def encA (y : Ad) : List Value := [.int .u8 y.n, .bool y.c, .bool y.x.has, .bool y.x.past, .string y.x.r.key, .int .u64 y.x.r.s.p, .int .u32 y.x.r.s.l, .int .u8 y.x.r.s.n, .int .u8 y.x.r.kind, .int .u32 y.x.r.flags, .int .u64 y.x.r.exp, .string y.x.r.body]
theorem encA_ok : Enc encA 12 := ⟨by decide, fun _ => rfl, fun x v hv => by
  simp only [encA, List.mem_cons, List.not_mem_nil, or_false] at hv
  rcases hv with rfl | rfl | rfl | rfl | rfl | rfl | rfl | rfl | rfl | rfl | rfl | rfl <;> rfl⟩
theorem infoA : (Try.prog.info? 54).map (fun i => (i.zero, i.size, i.bytes)) = some (some (.agg (encA zeroAd).toArray), 12, 80) := by kernel_rfl
theorem tyA : TyG Try.prog 49 54 12 80 := by
  obtain ⟨i0, hi, hz0, hz1, hz2⟩ := info_parts infoA
  exact ⟨Try.underlying49, i0, _, hi, hz0, hz1, hz2, rfl⟩
theorem zeroAv (w : World) : (zeroValue 54).run Try.prog w = .ok (.agg #[.int .u8 0, .bool false, .bool false, .bool false, .string ⟨#[]⟩, .int .u64 0, .int .u32 0, .int .u8 0, .int .u8 0, .int .u32 0, .int .u64 0, .string ⟨#[]⟩]) w := by kernel_rfl
theorem zeroPv (w : World) : (zeroValue 34).run Try.prog w = .ok (.agg #[.bool false, .bool false, .string ⟨#[]⟩, .int .u64 0, .int .u32 0, .int .u8 0, .int .u8 0, .int .u32 0, .int .u64 0, .string ⟨#[]⟩]) w := by kernel_rfl
theorem rg_A {w : World} {g o n cap : Nat} {xs : List Ad} (h : Rg encA 12 w (.slice (some ⟨g, o, none⟩) n cap) xs) {i : Nat} {x : Ad} (hx : xs[i]? = some x) : w.cell? ⟨g, o + i * 12, none⟩ = some (.int .u8 x.n) ∧ w.cell? ⟨g, o + i * 12 + 1, none⟩ = some (.bool x.c) ∧ w.cell? ⟨g, o + i * 12 + 2, none⟩ = some (.bool x.x.has) ∧ w.cell? ⟨g, o + i * 12 + 3, none⟩ = some (.bool x.x.past) ∧ w.cell? ⟨g, o + i * 12 + 4, none⟩ = some (.string x.x.r.key) ∧ w.cell? ⟨g, o + i * 12 + 5, none⟩ = some (.int .u64 x.x.r.s.p) ∧ w.cell? ⟨g, o + i * 12 + 6, none⟩ = some (.int .u32 x.x.r.s.l) ∧ w.cell? ⟨g, o + i * 12 + 7, none⟩ = some (.int .u8 x.x.r.s.n) ∧ w.cell? ⟨g, o + i * 12 + 8, none⟩ = some (.int .u8 x.x.r.kind) ∧ w.cell? ⟨g, o + i * 12 + 9, none⟩ = some (.int .u32 x.x.r.flags) ∧ w.cell? ⟨g, o + i * 12 + 10, none⟩ = some (.int .u64 x.x.r.exp) ∧ w.cell? ⟨g, o + i * 12 + 11, none⟩ = some (.string x.x.r.body) :=
  ⟨rg_all h hx 0 _ rfl, rg_all h hx 1 _ rfl, rg_all h hx 2 _ rfl, rg_all h hx 3 _ rfl, rg_all h hx 4 _ rfl, rg_all h hx 5 _ rfl, rg_all h hx 6 _ rfl, rg_all h hx 7 _ rfl, rg_all h hx 8 _ rfl, rg_all h hx 9 _ rfl, rg_all h hx 10 _ rfl, rg_all h hx 11 _ rfl⟩
theorem cells12 {w : World} {X T : Nat} {a0 a1 a2 a3 a4 a5 a6 a7 a8 a9 aa ab : Value} (h : At w X #[a0, a1, a2, a3, a4, a5, a6, a7, a8, a9, aa, ab] T) : w.cell? ⟨X, 0, none⟩ = some a0 ∧ w.cell? ⟨X, 1, none⟩ = some a1 ∧ w.cell? ⟨X, 2, none⟩ = some a2 ∧ w.cell? ⟨X, 3, none⟩ = some a3 ∧ w.cell? ⟨X, 4, none⟩ = some a4 ∧ w.cell? ⟨X, 5, none⟩ = some a5 ∧ w.cell? ⟨X, 6, none⟩ = some a6 ∧ w.cell? ⟨X, 7, none⟩ = some a7 ∧ w.cell? ⟨X, 8, none⟩ = some a8 ∧ w.cell? ⟨X, 9, none⟩ = some a9 ∧ w.cell? ⟨X, 10, none⟩ = some aa ∧ w.cell? ⟨X, 11, none⟩ = some ab :=
  ⟨at_cell h 0, at_cell h 1, at_cell h 2, at_cell h 3, at_cell h 4, at_cell h 5, at_cell h 6, at_cell h 7, at_cell h 8, at_cell h 9, at_cell h 10, at_cell h 11⟩
def Enters (g : Nat) : Prop := ∀ (args : Array Value) (w : World), (callFunc g args).run Try.prog w = .ok (.enter g args) w
/- The first one. -/
def fstA (p : Ad → Bool) (l : List Ad) (i : Nat) : Prop := i < l.length ∧ (∃ q, l[i]? = some q ∧ p q = true) ∧ ∀ (j : Nat) (q : Ad), j < i → l[j]? = some q → p q = false
def IdxC (p : Ad → Bool) (l : List Ad) (w : World) (e : Ending) (w' : World) : Prop := ∃ z, e = .returned (.int .i64 z) ∧ ((z = -1 ∧ ∀ (j : Nat) (q : Ad), l[j]? = some q → p q = false) ∨ ∃ i : Nat, z = (i : Int) ∧ fstA p l i) ∧ Kept w w'
theorem any_no {p : Ad → Bool} {l : List Ad} (h : ∀ (j : Nat) (q : Ad), l[j]? = some q → p q = false) : l.any p = false := by
  rw [List.any_eq_false]
  intro q hq
  obtain ⟨j, hj⟩ := List.mem_iff_getElem?.1 hq
  rw [h j q hj]
  simp
theorem any_fst {p : Ad → Bool} {l : List Ad} {i : Nat} (h : fstA p l i) : l.any p = true := by
  obtain ⟨_, ⟨q, hq, hp⟩, _⟩ := h
  rw [List.any_eq_true]
  exact ⟨q, List.mem_of_getElem? hq, hp⟩
def Pred0 (g : Nat) (p : Ad → Bool) (l : List Ad) (w : World) : Prop := ∀ (u : World) (q : Ad), q ∈ l → Kept w u → Calls Try.prog g #[.agg #[.int .u8 q.n, .bool q.c, .bool q.x.has, .bool q.x.past, .string q.x.r.key, .int .u64 q.x.r.s.p, .int .u32 q.x.r.s.l, .int .u8 q.x.r.s.n, .int .u8 q.x.r.kind, .int .u32 q.x.r.flags, .int .u64 q.x.r.exp, .string q.x.r.body]] u fun e u' => e = .returned (.bool (p q)) ∧ Kept u u'
set_option maxHeartbeats 1600000 in
theorem idx0 {g : Nat} {p : Ad → Bool} {l : List Ad} (eg : Enters g) (hl : l.length ≤ 1000) (v : Value) (w : World) (h : Rg encA 12 w v l) (hp : Pred0 g p l w) :
    Calls Try.prog 15 #[v, .func (.func g) #[] #[]] w (IdxC p l w) := by
  have HR := hid h
  have HP := hid hp
  obtain ⟨a, cap, rfl, -, -, -, -⟩ := h
  have HG : Hid (∀ k : Nat, k < l.length → ∃ y, l[k]? = some y) := hid (fun k hk => ⟨l[k], List.getElem?_eq_getElem hk⟩)
  have HQ : Hid (0 < l.length → ∃ g o, a = some ⟨g, o, none⟩) := hid (fun hp => by
    obtain ⟨g, o, c, e⟩ := rg_pos HR.out hp
    injection e with e1
    exact ⟨g, o, e1⟩)
  have HL : Hid (∀ (j : Nat) (q : Ad), l[j]? = some q → j < l.length) := hid (fun j q hj => (List.getElem?_eq_some_iff.1 hj).1)
  have eg2 : ∀ (args : Array Value) (w : World), (callFunc g args).run Try.prog w = .ok (.enter g args) w := eg
  clear hp eg
  generalize hnn : l.length = n at *
  go_enter Try.func15, Try.ntmps15
  go_wp2_with fail
  go_loopw [8] (fun j wr => ∃ k : Nat, k ≤ n ∧ j = .int .i64 (k : Int) ∧ Hid (∀ (j : Nat) (q : Ad), j < k → l[j]? = some q → p q = false) ∧ Hid (Kept w wr)) (fun j _ => n - (intOf j).toNat)
  case atStart => exact ⟨0, Nat.zero_le _, rfl, hid (fun j q hj => by omega), hid (kept_refl w)⟩
  case round =>
    obtain ⟨k, hk, rfl, HN, HK⟩ := hrel
    by_cases hlt : k < n
    · have hltz : (k : Int) < (n : Int) := by omega
      obtain ⟨y, hy⟩ := HG.out k hlt
      obtain ⟨g1, o, rfl⟩ := HQ.out (by omega)
      obtain ⟨c0, c1, c2, c3, c4, c5, c6, c7, c8, c9, ca, cb⟩ := rg_A (rg_kept encA_ok HR.out HK.out) hy
      have hC := HP.out wr y (List.mem_of_getElem? hy) HK.out
      have HY := hid hy
      clear hy
      cases hb : p y with
      | false =>
        rw [hb] at hC
        have HB := hid hb
        clear hb
        go_wp2_with fail
        refine hC.mono ?_
        rintro e w1 ⟨rfl, k1⟩
        have HK1 := hid (kept_trans HK.out k1)
        clear k1 hC c0 c1 c2 c3 c4 c5 c6 c7 c8 c9 ca cb
        go_wp2_with fail
        go_roundw
        case rel =>
          refine ⟨k + 1, by omega, by go_num, hid (fun j q h1 h2 => ?_), HK1⟩
          by_cases e : j = k
          · subst e
            rw [HY.out] at h2
            injection h2 with h2
            rw [← h2]; exact HB.out
          · exact HN.out j q (by omega) h2
        case measure => simp [intOf]; omega
      | true =>
        rw [hb] at hC
        have HB := hid hb
        clear hb
        go_wp2_with fail
        refine hC.mono ?_
        rintro e w1 ⟨rfl, k1⟩
        have HK1 := hid (kept_trans HK.out k1)
        clear k1 hC c0 c1 c2 c3 c4 c5 c6 c7 c8 c9 ca cb
        go_wp2_with fail
        go_ret
        exact ⟨_, rfl, .inr ⟨k, rfl, by rw [hnn]; exact hlt, ⟨y, HY.out, HB.out⟩, HN.out⟩, HK1.out⟩
    · have hltz : ¬ (k : Int) < (n : Int) := by omega
      go_wp2_with fail
      go_ret
      exact ⟨_, rfl, .inl ⟨rfl, fun j q hj => HN.out j q (by have := HL.out j q hj; omega) hj⟩, HK.out⟩
theorem cont0 {g : Nat} {p : Ad → Bool} {l : List Ad} (eg : Enters g) (hl : l.length ≤ 1000) (v : Value) (w : World) (h : Rg encA 12 w v l) (hp : Pred0 g p l w) :
    Calls Try.prog 21 #[v, .func (.func g) #[] #[]] w fun e w' => e = .returned (.bool (l.any p)) ∧ Kept w w' := by
  have hI := idx0 eg hl v w h hp
  obtain ⟨a, cap, rfl, -, -, -, -⟩ := h
  clear hp eg hl
  go_enter Try.func21, Try.ntmps21
  go_wp2_with fail
  refine hI.mono ?_
  rintro e w1 ⟨z, rfl, hz, k1⟩
  have HK1 := hid k1
  clear k1 hI
  rcases hz with ⟨rfl, hall⟩ | ⟨i, rfl, hf⟩
  · have HA := hid (any_no hall)
    clear hall
    go_wp2_with fail
    go_ret
    exact ⟨ret_bool HA.out.symm, HK1.out⟩
  · have HA := hid (any_fst hf)
    have hi : ¬ (i : Int) < 0 := by omega
    have hi2 : (0 : Int) ≤ (i : Int) := by omega
    clear hf
    go_wp2_with fail
    go_ret
    exact ⟨ret_bool HA.out.symm, HK1.out⟩
def Pred1 (g : Nat) (c : Value) (p : Ad → Bool) (l : List Ad) (w : World) : Prop := ∀ (u : World) (q : Ad), q ∈ l → Kept w u → Calls Try.prog g #[.agg #[.int .u8 q.n, .bool q.c, .bool q.x.has, .bool q.x.past, .string q.x.r.key, .int .u64 q.x.r.s.p, .int .u32 q.x.r.s.l, .int .u8 q.x.r.s.n, .int .u8 q.x.r.kind, .int .u32 q.x.r.flags, .int .u64 q.x.r.exp, .string q.x.r.body], c] u fun e u' => e = .returned (.bool (p q)) ∧ Kept u u'
set_option maxHeartbeats 1600000 in
theorem idx1 {g : Nat} {c : Value} {p : Ad → Bool} {l : List Ad} (eg : Enters g) (hl : l.length ≤ 1000) (v : Value) (w : World) (h : Rg encA 12 w v l) (hp : Pred1 g c p l w) :
    Calls Try.prog 15 #[v, .func (.func g) #[] #[c]] w (IdxC p l w) := by
  have HR := hid h
  have HP := hid hp
  obtain ⟨a, cap, rfl, -, -, -, -⟩ := h
  have HG : Hid (∀ k : Nat, k < l.length → ∃ y, l[k]? = some y) := hid (fun k hk => ⟨l[k], List.getElem?_eq_getElem hk⟩)
  have HQ : Hid (0 < l.length → ∃ g o, a = some ⟨g, o, none⟩) := hid (fun hp => by
    obtain ⟨g, o, c, e⟩ := rg_pos HR.out hp
    injection e with e1
    exact ⟨g, o, e1⟩)
  have HL : Hid (∀ (j : Nat) (q : Ad), l[j]? = some q → j < l.length) := hid (fun j q hj => (List.getElem?_eq_some_iff.1 hj).1)
  have eg2 : ∀ (args : Array Value) (w : World), (callFunc g args).run Try.prog w = .ok (.enter g args) w := eg
  clear hp eg
  generalize hnn : l.length = n at *
  go_enter Try.func15, Try.ntmps15
  go_wp2_with fail
  go_loopw [8] (fun j wr => ∃ k : Nat, k ≤ n ∧ j = .int .i64 (k : Int) ∧ Hid (∀ (j : Nat) (q : Ad), j < k → l[j]? = some q → p q = false) ∧ Hid (Kept w wr)) (fun j _ => n - (intOf j).toNat)
  case atStart => exact ⟨0, Nat.zero_le _, rfl, hid (fun j q hj => by omega), hid (kept_refl w)⟩
  case round =>
    obtain ⟨k, hk, rfl, HN, HK⟩ := hrel
    by_cases hlt : k < n
    · have hltz : (k : Int) < (n : Int) := by omega
      obtain ⟨y, hy⟩ := HG.out k hlt
      obtain ⟨g1, o, rfl⟩ := HQ.out (by omega)
      obtain ⟨c0, c1, c2, c3, c4, c5, c6, c7, c8, c9, ca, cb⟩ := rg_A (rg_kept encA_ok HR.out HK.out) hy
      have hC := HP.out wr y (List.mem_of_getElem? hy) HK.out
      have HY := hid hy
      clear hy
      cases hb : p y with
      | false =>
        rw [hb] at hC
        have HB := hid hb
        clear hb
        go_wp2_with fail
        refine hC.mono ?_
        rintro e w1 ⟨rfl, k1⟩
        have HK1 := hid (kept_trans HK.out k1)
        clear k1 hC c0 c1 c2 c3 c4 c5 c6 c7 c8 c9 ca cb
        go_wp2_with fail
        go_roundw
        case rel =>
          refine ⟨k + 1, by omega, by go_num, hid (fun j q h1 h2 => ?_), HK1⟩
          by_cases e : j = k
          · subst e
            rw [HY.out] at h2
            injection h2 with h2
            rw [← h2]; exact HB.out
          · exact HN.out j q (by omega) h2
        case measure => simp [intOf]; omega
      | true =>
        rw [hb] at hC
        have HB := hid hb
        clear hb
        go_wp2_with fail
        refine hC.mono ?_
        rintro e w1 ⟨rfl, k1⟩
        have HK1 := hid (kept_trans HK.out k1)
        clear k1 hC c0 c1 c2 c3 c4 c5 c6 c7 c8 c9 ca cb
        go_wp2_with fail
        go_ret
        exact ⟨_, rfl, .inr ⟨k, rfl, by rw [hnn]; exact hlt, ⟨y, HY.out, HB.out⟩, HN.out⟩, HK1.out⟩
    · have hltz : ¬ (k : Int) < (n : Int) := by omega
      go_wp2_with fail
      go_ret
      exact ⟨_, rfl, .inl ⟨rfl, fun j q hj => HN.out j q (by have := HL.out j q hj; omega) hj⟩, HK.out⟩
theorem cont1 {g : Nat} {c : Value} {p : Ad → Bool} {l : List Ad} (eg : Enters g) (hl : l.length ≤ 1000) (v : Value) (w : World) (h : Rg encA 12 w v l) (hp : Pred1 g c p l w) :
    Calls Try.prog 21 #[v, .func (.func g) #[] #[c]] w fun e w' => e = .returned (.bool (l.any p)) ∧ Kept w w' := by
  have hI := idx1 eg hl v w h hp
  obtain ⟨a, cap, rfl, -, -, -, -⟩ := h
  clear hp eg hl
  go_enter Try.func21, Try.ntmps21
  go_wp2_with fail
  refine hI.mono ?_
  rintro e w1 ⟨z, rfl, hz, k1⟩
  have HK1 := hid k1
  clear k1 hI
  rcases hz with ⟨rfl, hall⟩ | ⟨i, rfl, hf⟩
  · have HA := hid (any_no hall)
    clear hall
    go_wp2_with fail
    go_ret
    exact ⟨ret_bool HA.out.symm, HK1.out⟩
  · have HA := hid (any_fst hf)
    have hi : ¬ (i : Int) < 0 := by omega
    have hi2 : (0 : Int) ≤ (i : Int) := by omega
    clear hf
    go_wp2_with fail
    go_ret
    exact ⟨ret_bool HA.out.symm, HK1.out⟩
end Go.Proofs.YtjmldnbepajnoaaR
