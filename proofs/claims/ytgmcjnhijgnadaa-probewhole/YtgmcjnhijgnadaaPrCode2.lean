/- The contracts of the library's IndexFunc at a row of waits, of waitOf, Waits and knows. Rows have at most 1000 members. -/
import Derived.Test.YtgmcjnhijgnadaaPrCode1
import Derived.Shelf.Abstract
namespace Go.Proofs.Ytgmcjnhijgnadaa
open Go.ChangeShapes Go.WideShapes Go.ChangeAt Go.RowKit
set_option linter.unusedVariables false
set_option linter.unusedSimpArgs false
set_option maxRecDepth 100000

/- Where a node is first waited for. -/
def fstW (l : List Wt) (a : Int) (i : Nat) : Prop := i < l.length ∧ (∃ q, l[i]? = some q ∧ q.node = a) ∧ ∀ (j : Nat) (q : Wt), j < i → l[j]? = some q → q.node ≠ a
def IdxW (l : List Wt) (a : Int) (w : World) (e : Ending) (w' : World) : Prop := ∃ z, e = .returned (.int .i64 z) ∧ ((z = -1 ∧ ∀ (j : Nat) (q : Wt), l[j]? = some q → q.node ≠ a) ∨ ∃ i : Nat, z = (i : Int) ∧ fstW l a i) ∧ Kept w w'
theorem waitof1_any {Y : Nat} {a : Int} (q : Wt) (w : World) (h : At w Y #[.int .u8 a] 5) : Calls Try.prog 38 #[.agg #[.int .u8 q.node, .int .i64 (q.since : Int)], .pointer (some ⟨Y, 0, none⟩)] w fun e w' => e = .returned (.bool (q.node == a)) ∧ Kept w w' := by
  have HK := hid (kept_alloc (kept_refl w) (.cells #[.int .u8 q.node, .int .i64 (q.since : Int)] 86))
  have c0 : (w.alloc (.cells #[.int .u8 q.node, .int .i64 (q.since : Int)] 86)).cell? ⟨Y, 0, none⟩ = some (.int .u8 a) := at_cell (at_alloc h _) 0
  have hne : Y ≠ w.heap.size := Nat.ne_of_lt (at_lt h)
  clear h
  go_enter Try.func38, Try.ntmps38
  go_wp2
  go_ret
  exact ⟨rfl, HK.out⟩
theorem entersW1 : ∀ (args : Array Value) (w : World), (callFunc 38 args).run Try.prog w = .ok (.enter 38 args) w := enters_of Try.func38 (by kernel_rfl) rfl
set_option maxHeartbeats 1600000 in
theorem idxw_any {Y : Nat} {a : Int} {l : List Wt} (hl : l.length ≤ 1000) (v : Value) (w : World) (h : Rg encW 2 w v l) (hy : At w Y #[.int .u8 a] 5) :
    Calls Try.prog 37 #[v, .func (.func 38) #[] #[.pointer (some ⟨Y, 0, none⟩)]] w (IdxW l a w) := by
  have HR := hid h
  have HY := hid hy
  obtain ⟨b, cap, rfl, -, -, -, -⟩ := h
  have HG : Hid (∀ k : Nat, k < l.length → ∃ y, l[k]? = some y) := hid (fun k hk => ⟨l[k], List.getElem?_eq_getElem hk⟩)
  have HQ : Hid (0 < l.length → ∃ g o, b = some ⟨g, o, none⟩) := hid (fun hp => by
    obtain ⟨g, o, c, e⟩ := rg_pos HR.out hp
    injection e with e1
    exact ⟨g, o, e1⟩)
  have HL : Hid (∀ (j : Nat) (q : Wt), l[j]? = some q → j < l.length) := hid (fun j q hj => (List.getElem?_eq_some_iff.1 hj).1)
  have eg2 := entersW1
  clear hy
  generalize hnn : l.length = n at *
  go_enter Try.func37, Try.ntmps37
  go_wp2_with fail
  go_loopw [8] (fun j wr => ∃ k : Nat, k ≤ n ∧ j = .int .i64 (k : Int) ∧ Hid (∀ (j : Nat) (q : Wt), j < k → l[j]? = some q → q.node ≠ a) ∧ Hid (Kept w wr)) (fun j _ => n - (intOf j).toNat)
  case atStart => exact ⟨0, Nat.zero_le _, rfl, hid (fun j q hj => by omega), hid (kept_refl w)⟩
  case round =>
    obtain ⟨k, hk, rfl, HN, HK⟩ := hrel
    by_cases hlt : k < n
    · have hltz : (k : Int) < (n : Int) := by omega
      obtain ⟨y, hy⟩ := HG.out k hlt
      obtain ⟨g1, o, rfl⟩ := HQ.out (by omega)
      obtain ⟨c0, c1⟩ := rg_W (rg_kept encW_ok HR.out HK.out) hy
      have hC := waitof1_any y wr (at_kept HY.out HK.out)
      have HYy := hid hy
      clear hy
      cases hb : (y.node == a) with
      | false =>
        rw [hb] at hC
        have HB : Hid (y.node ≠ a) := hid (by simpa using hb)
        clear hb
        go_wp2_with fail
        refine hC.mono ?_
        rintro e w1 ⟨rfl, k1⟩
        have HK1 := hid (kept_trans HK.out k1)
        clear k1 hC c0 c1
        go_wp2_with fail
        go_roundw
        case rel =>
          refine ⟨k + 1, by omega, by go_num, hid (fun j q h1 h2 => ?_), HK1⟩
          by_cases e : j = k
          · subst e
            rw [HYy.out] at h2
            injection h2 with h2
            rw [← h2]; exact HB.out
          · exact HN.out j q (by omega) h2
        case measure => simp [intOf]; omega
      | true =>
        rw [hb] at hC
        have HB : Hid (y.node = a) := hid (by simpa using hb)
        clear hb
        go_wp2_with fail
        refine hC.mono ?_
        rintro e w1 ⟨rfl, k1⟩
        have HK1 := hid (kept_trans HK.out k1)
        clear k1 hC c0 c1
        go_wp2_with fail
        go_ret
        exact ⟨_, rfl, .inr ⟨k, rfl, by rw [hnn]; exact hlt, ⟨y, HYy.out, HB.out⟩, HN.out⟩, HK1.out⟩
    · have hltz : ¬ (k : Int) < (n : Int) := by omega
      go_wp2_with fail
      go_ret
      exact ⟨_, rfl, .inl ⟨rfl, fun j q hj => HN.out j q (by have := HL.out j q hj; omega) hj⟩, HK.out⟩
theorem waitof_any {X : Nat} {s p rv wv : Value} {l : List Wt} (hl : l.length ≤ 1000) (a : Int) (w : World) (hX : At w X #[s, rv, p, wv] 78) (h : Rg encW 2 w wv l) : Calls Try.prog 28 #[.pointer (some ⟨X, 0, none⟩), .int .u8 a] w (IdxW l a w) := by
  have k0 := kept_alloc (kept_refl w) (.cells #[.int .u8 a] 5)
  have hY := at_new w #[.int .u8 a] 5
  obtain ⟨w0, hw0⟩ : ∃ u, w.alloc (.cells #[.int .u8 a] 5) = u := ⟨_, rfl⟩
  rw [hw0] at k0 hY
  have HK := hid k0
  obtain ⟨q0, q1, q2, q3⟩ := at_cells4 (at_kept hX k0)
  have hC := idxw_any hl wv w0 (rg_kept encW_ok h k0) hY
  obtain ⟨b, cap, rfl, -, -, -, -⟩ := h
  have hmf : ∀ (fn : Fn) (first cap : Array Value) (w : World), (Instr.makeFunc fn first cap).run Try.prog w = .ok (.func fn first cap) w := fun _ _ _ _ => rfl
  clear hX hY k0
  go_enter Try.func28, Try.ntmps28
  go_wp2_with fail
  refine hC.mono ?_
  rintro e w1 ⟨z, rfl, hz, k1⟩
  have HZ := hid hz
  have HK1 := hid (kept_trans HK.out k1)
  clear hC hz k1
  go_wp2_with fail
  go_ret
  exact ⟨_, rfl, HZ.out, HK1.out⟩
/- Whom the probe knows. -/
theorem knows_any {X : Nat} {self : Int} {p rv wv : Value} {row : List Int} (a : Int) (h1 : 0 ≤ a) (h2 : a < 256) (w : World) (hX : At w X #[.int .u8 self, rv, p, wv] 78) (h : Rg encU 1 w rv row) : Calls Try.prog 34 #[.pointer (some ⟨X, 0, none⟩), .int .u8 a] w fun e w' => e = .returned (.bool (a != self && decide (a ≤ (row.length : Int)))) ∧ w' = w := by
  obtain ⟨q0, q1, q2, q3⟩ := at_cells4 hX
  obtain ⟨b, cap, rfl, -, -, -, -⟩ := h
  have hw : IntKind.i64.wrap a = a := IntWalk.i64_in _ (by omega)
  clear hX
  cases hb : (a != self) with
  | false =>
    rw [Bool.false_and]
    go_enter Try.func34, Try.ntmps34
    go_wp2
    go_ret
    exact ⟨rfl, rfl⟩
  | true =>
    rw [Bool.true_and]
    go_enter Try.func34, Try.ntmps34
    go_wp2
    go_ret
    exact ⟨rfl, rfl⟩
/- Who is waited for. -/
theorem infoU' : ∃ i zv, Try.prog.info? 5 = some i ∧ i.zero = some zv ∧ i.size = 1 ∧ i.bytes ≤ 1024 ∧ zv.cells.toList = encU 0 := by
  obtain ⟨i0, hi, hz0, hz1, hz2⟩ := info_parts infoU
  exact ⟨i0, _, hi, hz0, hz1, by omega, rfl⟩
set_option maxHeartbeats 1600000 in
theorem prwaits_any (X : Nat) (p : Pb) (F : Nat → Prop) (w : World) (h : PrT w X p F) (hl : p.waits.length ≤ 256) : Calls Try.prog 17 #[.pointer (some ⟨X, 0, none⟩)] w fun e w' => ∃ r, e = .returned r ∧ Rg encU 1 w' r (nodW p) ∧ Kept w w' := by
  obtain ⟨rv, wv, hX, -, hW, -⟩ := h
  obtain ⟨q0, q1, q2, q3⟩ := at_cells4 hX
  have hR := rg_own encW_ok hW
  have HN : Hid (nodW p = (agW p.ticks p.waits).map Wt.node) := hid (by unfold nodW agW; rw [List.map_map]; rfl)
  have hll : (agW p.ticks p.waits).length ≤ 256 := by unfold agW; rw [List.length_map]; exact hl
  generalize agW p.ticks p.waits = l at *
  generalize nodW p = nd at *
  obtain ⟨i0, zv, hi, hz0, hz1, hby, hze⟩ := infoU'
  obtain ⟨cs, hmk, hmo⟩ := og_full encU_ok Try.underlying27 hi hz0 hz1 hby hze l.length (by omega) w
  have kM := kept_alloc (kept_refl w) (.cells cs 5)
  obtain ⟨w1, hw1⟩ : ∃ u, w.alloc (.cells cs 5) = u := ⟨_, rfl⟩
  obtain ⟨Q, hQ⟩ : ∃ u, w.heap.size = u := ⟨_, rfl⟩
  rw [hw1] at kM hmk hmo
  rw [hQ] at hmk hmo
  have HKM := hid kM
  have HX := hid hX
  have HR := hid hR
  have HMo := hid (og_low hmo (Nat.le_refl _))
  have HQw : Hid (w.heap.size = Q) := hid hQ
  obtain ⟨b, cap, rfl, -, -, -, -⟩ := hR
  have HG : Hid (∀ k : Nat, k < l.length → ∃ y, l[k]? = some y) := hid (fun k hk => ⟨l[k], List.getElem?_eq_getElem hk⟩)
  have HP : Hid (0 < l.length → ∃ g o, b = some ⟨g, o, none⟩) := hid (fun hp => by
    obtain ⟨g, o, c, e⟩ := rg_pos HR.out hp
    injection e with e1
    exact ⟨g, o, e1⟩)
  have HF : Hid (∀ k : Nat, k < l.length → ∀ y, l[k]? = some y → ((l.take k).map Wt.node ++ List.replicate (l.length - k) 0).set k y.node = (l.take (k + 1)).map Wt.node ++ List.replicate (l.length - (k + 1)) 0 ∧ ((l.take k).map Wt.node ++ List.replicate (l.length - k) (0 : Int))[k]? = some 0) := hid (fun k hk y hy => by
    have hlk : ((l.take k).map Wt.node).length = k := by simp; omega
    obtain ⟨d, hd⟩ : ∃ d, l.length - k = d + 1 := ⟨l.length - k - 1, by omega⟩
    rw [hd, show l.length - (k + 1) = d by omega, List.replicate_succ]
    constructor
    · rw [List.set_append_right _ _ (by omega), hlk, Nat.sub_self, List.set_cons_zero, take_next hy, List.map_append, List.append_assoc]
      rfl
    · rw [List.getElem?_append_right (by omega), hlk, Nat.sub_self]
      rfl)
  have HE : Hid ((l.take l.length).map Wt.node = nd) := hid (by rw [List.take_length, HN.out])
  have HM0 : Hid (Og encU 1 5 w1 Q (.slice (some ⟨Q, 0, none⟩) l.length l.length) ((l.take 0).map Wt.node ++ List.replicate (l.length - 0) 0)) := hid (by simpa using HMo.out)
  obtain ⟨c0, c1, c2, c3⟩ := at_cells4 (at_kept hX kM)
  clear hX hW kM hmo hQ hi hz0 hz1 hby hze HMo
  generalize hnn : l.length = n at *
  clear hnn hl
  go_enter Try.func17, Try.ntmps17
  go_wp2_with fail
  clear hw1 hmk q0 q1 q2 q3 c0 c1 c2 c3
  go_loopw [19] (fun j wr => ∃ k : Nat, k ≤ n ∧ j = .int .i64 (k : Int) ∧ Hid (Og encU 1 5 wr Q (.slice (some ⟨Q, 0, none⟩) n n) ((l.take k).map Wt.node ++ List.replicate (n - k) 0)) ∧ Hid (Kept w wr)) (fun j _ => n - (intOf j).toNat)
  case atStart => exact ⟨0, Nat.zero_le _, rfl, HM0, HKM⟩
  case round =>
    obtain ⟨k, hk, rfl, HO, HK⟩ := hrel
    clear HM0 HKM
    by_cases hlt : k < n
    · have hltz : (k : Int) < (n : Int) := by omega
      obtain ⟨y, hy⟩ := HG.out k hlt
      obtain ⟨g1, o, rfl⟩ := HP.out (by omega)
      obtain ⟨c0, c1⟩ := rg_W (rg_kept encW_ok HR.out HK.out) hy
      have hz := zeroPW
      have HKa := hid (kept_alloc (kept_refl wr) (.cells #[.int .u8 y.node, .int .i64 (y.since : Int)] 86))
      have HOa := hid (og_stays HO.out HKa.out)
      have hfr : ∀ q, (wr.alloc (.cells #[.int .u8 y.node, .int .i64 (y.since : Int)] 86)).frozen? ⟨Q, q, none⟩ = false := og_frozen HOa.out
      obtain ⟨f1, f2⟩ := HF.out k hlt y hy
      have cq := rg_U (rg_own encU_ok HOa.out) f2
      rw [Nat.zero_add] at cq
      have HO3 := hid (og_put encU_ok HOa.out (j := 0) (x' := y.node) (u := .int .u8 y.node) f2 (by decide) rfl)
      rw [f1, Nat.mul_one, Nat.add_zero] at HO3
      have HK3 := hid (kept_set (kept_trans HK.out HKa.out) (X := Q) (by rw [HQw.out]; exact Nat.le_refl _) k (.int .u8 y.node))
      clear f1 f2 hy
      go_wp2_with fail
      go_roundw
      case rel => exact ⟨k + 1, by omega, by go_num, HO3, HK3⟩
      case measure => simp [intOf]; omega
    · obtain rfl : k = n := by omega
      have hltz : ¬ (k : Int) < (k : Int) := by omega
      have hO := HO.out
      rw [Nat.sub_self, List.replicate_zero, List.append_nil, HE.out] at hO
      have HO2 := hid hO
      clear hO
      go_wp2_with fail
      go_ret
      exact ⟨_, rfl, rg_own encU_ok HO2.out, HK.out⟩
end Go.Proofs.Ytgmcjnhijgnadaa
