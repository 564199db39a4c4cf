/- Rows of calls of hints in memory, and the contract of the statements' own cut: it leaves the first calls that are small, eighty-one at most. -/
import Derived.Test.YtahgplfkgijecaaHtFixed
namespace Go.Proofs.Ytahgplfkgijecaa
open Go.ChangeShapes Go.WideShapes Go.ChangeAt Go.RowKit
set_option linter.unusedVariables false
set_option linter.unusedSimpArgs false
set_option maxRecDepth 100000

structure Opn where
  kind : Int
  r : R
  node : Int
  uv : Option Addr
  uc : Nat
  up : List Int
def encO (o : Opn) : List Value := [.int .i64 o.kind, .string o.r.key, .int .u64 o.r.s.p, .int .u32 o.r.s.l, .int .u8 o.r.s.n, .int .u8 o.r.kind, .int .u32 o.r.flags, .int .u64 o.r.exp, .string o.r.body, .int .u8 o.node, .slice o.uv o.up.length o.uc]
theorem encO_ok : Enc encO 11 := ⟨by decide, fun _ => rfl, fun x v hv => by
  simp only [encO, List.mem_cons, List.not_mem_nil, or_false] at hv
  rcases hv with rfl | rfl | rfl | rfl | rfl | rfl | rfl | rfl | rfl | rfl | rfl <;> rfl⟩
theorem zeroO (w : World) : (zeroValue 38).run Try.prog w = .ok (.agg #[.int .i64 0, .string ⟨#[]⟩, .int .u64 0, .int .u32 0, .int .u8 0, .int .u8 0, .int .u32 0, .int .u64 0, .string ⟨#[]⟩, .int .u8 0, .slice none 0 0]) w := by kernel_rfl
theorem rg_O {w : World} {g o n cap : Nat} {xs : List Opn} (h : Rg encO 11 w (.slice (some ⟨g, o, none⟩) n cap) xs) {i : Nat} {x : Opn} (hx : xs[i]? = some x) : w.cell? ⟨g, o + i * 11, none⟩ = some (.int .i64 x.kind) ∧ w.cell? ⟨g, o + i * 11 + 1, none⟩ = some (.string x.r.key) ∧ w.cell? ⟨g, o + i * 11 + 2, none⟩ = some (.int .u64 x.r.s.p) ∧ w.cell? ⟨g, o + i * 11 + 3, none⟩ = some (.int .u32 x.r.s.l) ∧ w.cell? ⟨g, o + i * 11 + 4, none⟩ = some (.int .u8 x.r.s.n) ∧ w.cell? ⟨g, o + i * 11 + 5, none⟩ = some (.int .u8 x.r.kind) ∧ w.cell? ⟨g, o + i * 11 + 6, none⟩ = some (.int .u32 x.r.flags) ∧ w.cell? ⟨g, o + i * 11 + 7, none⟩ = some (.int .u64 x.r.exp) ∧ w.cell? ⟨g, o + i * 11 + 8, none⟩ = some (.string x.r.body) ∧ w.cell? ⟨g, o + i * 11 + 9, none⟩ = some (.int .u8 x.node) ∧ w.cell? ⟨g, o + i * 11 + 10, none⟩ = some (.slice x.uv x.up.length x.uc) :=
  ⟨rg_all h hx 0 _ rfl, rg_all h hx 1 _ rfl, rg_all h hx 2 _ rfl, rg_all h hx 3 _ rfl, rg_all h hx 4 _ rfl, rg_all h hx 5 _ rfl, rg_all h hx 6 _ rfl, rg_all h hx 7 _ rfl, rg_all h hx 8 _ rfl, rg_all h hx 9 _ rfl, rg_all h hx 10 _ rfl⟩
def OpOk (w : World) (o : Opn) : Prop := o.r.ok ∧ okU o.node ∧ U8 o.up ∧ Rg encU 1 w (.slice o.uv o.up.length o.uc) o.up
def Fine (o : Opn) : Prop := o.r.key.size ≤ 1000 ∧ o.r.body.size ≤ 3000 ∧ o.up.length ≤ 100
def intOf : Value → Int
  | .int _ q => q
  | _ => 0
def CutC (v : Value) (l : List Opn) (w : World) (e : Ending) (w' : World) : Prop := ∃ k, k ≤ l.length ∧ k ≤ 81 ∧ (∀ o ∈ l.take k, Fine o) ∧ (∃ a n cap, v = .slice a n cap ∧ e = .returned (.slice a k cap)) ∧ Kept w w'
set_option maxHeartbeats 3200000 in
theorem cut_any (l : List Opn) (v : Value) (w : World) (h : Rg encO 11 w v l) : Calls Try.prog 10 #[v] w (CutC v l w) := by
  have HR := hid h
  obtain ⟨a, cap, rfl, hc1, hc2, -, -⟩ := h
  unfold maxLen at hc2
  have HG : Hid (∀ i : Nat, i < l.length → ∃ y, l[i]? = some y) := hid (fun i hi => ⟨l[i], List.getElem?_eq_getElem hi⟩)
  have HP : Hid (0 < l.length → ∃ g o, a = some ⟨g, o, none⟩) := hid (fun hp => by
    obtain ⟨g, o, c, e⟩ := rg_pos HR.out hp
    injection e with e1
    exact ⟨g, o, e1⟩)
  have hz := zeroO
  generalize hm : l.length = m at *
  have HM := hid hm
  clear hm
  go_enter Try.func10, Try.ntmps10
  go_wp2_with fail
  go_loopw [7] (fun iv wr => ∃ i : Nat, i ≤ m ∧ i ≤ 81 ∧ iv = .int .i64 (i : Int) ∧ Hid (∀ o ∈ l.take i, Fine o) ∧ Hid (Kept w wr)) (fun iv _ => m - (intOf iv).toNat)
  case atStart => exact ⟨0, by omega, by omega, rfl, hid (by simp), hid (kept_refl w)⟩
  case round =>
    obtain ⟨i, hi, hi2, rfl, HFi, HK⟩ := hrel
    by_cases hlt : i < m
    · have hltz : (i : Int) < (m : Int) := by omega
      obtain ⟨y, hy⟩ := HG.out i hlt
      obtain ⟨gg, oo, rfl⟩ := HP.out (by omega)
      obtain ⟨c0, c1, c2, c3, c4, c5, c6, c7, c8, c9, c10⟩ := rg_O (rg_kept encO_ok HR.out HK.out) hy
      have HY := hid hy
      have HKa := hid (kept_alloc HK.out (.cells #[.int .i64 y.kind, .string y.r.key, .int .u64 y.r.s.p, .int .u32 y.r.s.l, .int .u8 y.r.s.n, .int .u8 y.r.kind, .int .u32 y.r.flags, .int .u64 y.r.exp, .string y.r.body, .int .u8 y.node, .slice y.uv y.up.length y.uc] 38))
      clear hy
      have icap : (i : Int) ≤ (cap : Int) := by omega
      by_cases h1 : 80 < i
      · have d1 : (80 : Int) < (i : Int) := by omega
        go_wp2_with fail
        go_ret
        exact ⟨i, by rw [HM.out]; exact hi, hi2, HFi.out, ⟨_, _, _, rfl, rfl⟩, HKa.out⟩
      · have d1 : decide ((80 : Int) < (i : Int)) = false := by simp; omega
        have e1 : ¬ (80 : Int) < (i : Int) := by omega
        by_cases h2 : 1000 < y.r.key.size
        · have d2 : (1000 : Int) < (y.r.key.size : Int) := by omega
          go_wp2_with fail
          go_ret
          exact ⟨i, by rw [HM.out]; exact hi, hi2, HFi.out, ⟨_, _, _, rfl, rfl⟩, HKa.out⟩
        · have d2 : decide ((1000 : Int) < (y.r.key.size : Int)) = false := by simp; omega
          have e2 : ¬ (1000 : Int) < (y.r.key.size : Int) := by omega
          by_cases h3 : 3000 < y.r.body.size
          · have d3 : (3000 : Int) < (y.r.body.size : Int) := by omega
            go_wp2_with fail
            go_ret
            exact ⟨i, by rw [HM.out]; exact hi, hi2, HFi.out, ⟨_, _, _, rfl, rfl⟩, HKa.out⟩
          · have d3 : decide ((3000 : Int) < (y.r.body.size : Int)) = false := by simp; omega
            have e3 : ¬ (3000 : Int) < (y.r.body.size : Int) := by omega
            by_cases h4 : 100 < y.up.length
            · have d4 : (100 : Int) < (y.up.length : Int) := by omega
              go_wp2_with fail
              go_ret
              exact ⟨i, by rw [HM.out]; exact hi, hi2, HFi.out, ⟨_, _, _, rfl, rfl⟩, HKa.out⟩
            · have d4 : decide ((100 : Int) < (y.up.length : Int)) = false := by simp; omega
              have e4 : ¬ (100 : Int) < (y.up.length : Int) := by omega
              go_wp2_with fail
              go_roundw
              case rel =>
                refine ⟨i + 1, by omega, by omega, by go_num, hid (fun o ho => ?_), HKa⟩
                rw [take_next HY.out, List.mem_append] at ho
                rcases ho with ho | ho
                · exact HFi.out o ho
                · simp at ho
                  subst ho
                  exact ⟨by omega, by omega, by omega⟩
              case measure => simp [intOf]; omega
    · have hltz : ¬ (i : Int) < (m : Int) := by omega
      obtain rfl : i = m := by omega
      go_wp2_with fail
      go_ret
      exact ⟨i, by rw [HM.out]; exact hi, hi2, HFi.out, ⟨_, _, _, rfl, rfl⟩, HK.out⟩
end Go.Proofs.Ytahgplfkgijecaa
