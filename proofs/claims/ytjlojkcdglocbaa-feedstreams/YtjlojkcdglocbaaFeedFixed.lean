/- The contract of the statements' own fixed: the chapter's example comes out true, and nothing that was there is turned. -/
import Derived.Test.YtjlojkcdglocbaaFeedTake
namespace Go.Proofs.Ytjlojkcdglocbaa
open Go.ChangeShapes Go.WideShapes Go.ChangeAt Go.RowKit
set_option linter.unusedVariables false
set_option linter.unusedSimpArgs false

def x1 : List UInt8 := [103, 101, 116, 32, 97, 13]
def x2 : List UInt8 := [10, 115, 101, 116, 32, 98, 32, 48, 32, 48, 32, 50, 13, 10, 120]
def x3 : List UInt8 := [121, 13, 10]
def cGet : Cm := ⟨1, [⟨#[97]⟩], 0, 0, false, mt⟩
def cSet : Cm := ⟨2, [⟨#[98]⟩], 0, 0, false, mt⟩
theorem line_get : lineC [103, 101, 116, 32, 97, 13] = (cGet, -1) := by
  unfold lineC
  rw [show words (ba (trimR [103, 101, 116, 32, 97, 13])) = [⟨#[103, 101, 116]⟩, ⟨#[97]⟩] by decide +kernel]
  kernel_rfl
theorem line_set : lineC [115, 101, 116, 32, 98, 32, 48, 32, 48, 32, 50, 13] = (cSet, 2) := by
  unfold lineC
  rw [show words (ba (trimR [115, 101, 116, 32, 98, 32, 48, 32, 48, 32, 50, 13])) = [⟨#[115, 101, 116]⟩, ⟨#[98]⟩, ⟨#[48]⟩, ⟨#[48]⟩, ⟨#[50]⟩] by decide +kernel]
  kernel_rfl
theorem run1 : runB (.line []) x1 = ([], .line x1) := run_line x1 [] (by decide) (by decide)
theorem run2 : runB (.line x1) x2 = ([⟨cGet, mt⟩], .data cSet 1 [120]) := by
  have h1 := run_line_end [] x1 [115, 101, 116, 32, 98, 32, 48, 32, 48, 32, 50, 13, 10, 120] (by decide) (by decide)
  rw [show x1 ++ [] = [103, 101, 116, 32, 97, 13] from rfl, line_get] at h1
  have h2 := run_line_end [115, 101, 116, 32, 98, 32, 48, 32, 48, 32, 50, 13] [] [120] (by decide) (by decide)
  rw [List.nil_append, line_set] at h2
  have e : saidBy (cGet, -1) = ([⟨cGet, mt⟩], .line []) := by simp [saidBy, cGet]
  have e2 : saidBy (cSet, 2) = ([], .data cSet 2 []) := by simp [saidBy, cSet]
  rw [e] at h1
  rw [e2] at h2
  show runB (.line x1) ([] ++ 10 :: [115, 101, 116, 32, 98, 32, 48, 32, 48, 32, 50, 13, 10, 120]) = _
  rw [h1]
  show ([⟨cGet, mt⟩] ++ (runB (.line []) ([115, 101, 116, 32, 98, 32, 48, 32, 48, 32, 50, 13] ++ 10 :: [120])).1, (runB (.line []) ([115, 101, 116, 32, 98, 32, 48, 32, 48, 32, 50, 13] ++ 10 :: [120])).2) = _
  rw [h2]
  simp [runB_cons, runB_nil, stepB]
theorem run3 : runB (.data cSet 1 [120]) x3 = ([⟨cSet, ⟨#[120, 121]⟩⟩], .line []) := by
  simp [x3, runB_cons, runB_nil, stepB]
  rfl
theorem row_none {B : Nat} {w : World} {v : Value} (h : RowC B w v []) : v = .slice none 0 0 := by
  obtain ⟨ps, e, h⟩ := h
  exact h.2.1 (List.map_eq_nil_iff.1 e)
theorem row_one {B : Nat} {w : World} {v : Value} {t : Td} (h : RowC B w v [t]) : ∃ A cap, v = .slice (some ⟨A, 0, none⟩) 1 cap ∧ w.cell? ⟨A, 0, none⟩ = some (.int .i64 t.c.kind) ∧ w.cell? ⟨A, 4, none⟩ = some (.string t.body) := by
  obtain ⟨ps, e, h⟩ := h
  have hl : ps.length = 1 := by have := congrArg List.length e; simpa using this
  match ps, hl with
  | [p], _ =>
    have e : p.1 = t := by simpa using e
    subst e
    rcases id h.1.2 with ⟨_, h0⟩ | ⟨g, cap, cur, hv, _⟩
    · simp at h0
    · refine ⟨g, cap, hv, ?_, ?_⟩
      · rw [own_cell h.1 hv 0 (by simp [tdc])]; simp [tdc]
      · rw [own_cell h.1 hv 4 (by simp [tdc])]; simp [tdc]
set_option maxHeartbeats 1600000 in
set_option maxRecDepth 100000 in
theorem fixed_any (w : World) : Calls Try.prog 8 #[] w fun e w' => e = .returned (.bool true) ∧ Kept w w' := by
  go_enter Try.func8, Try.ntmps8
  go_wp2_with fail
  refine (new_any w.heap.size w (Nat.le_refl _)).mono ?_
  rintro e w1 ⟨F, rfl, hF, hf, hk⟩
  have HB := hid hF
  have HK := hid hk
  have HF := hid hf
  clear hF hk hf
  go_wp2_with fail
  refine (Take_any w.heap.size F fresh fresh_ok (ba x1) (by simp [ba, x1]; decide) _ HF.out).mono ?_
  rintro e w2 ⟨v2, f2, rfl, r2, g2, o2, a2, t2⟩
  rw [ba_list, fresh_abs, run1] at r2 a2
  have hv2 := row_none r2
  subst hv2
  have HK2 := hid (kept_fr HK.out rfl HB.out t2)
  have HG2 := hid g2
  have HO2 := hid o2
  have HA2 := hid a2
  clear r2 t2 g2 o2 a2 HF HK
  go_wp2_with fail
  refine (Take_any w.heap.size F f2 HO2.out (ba x2) (by simp [ba, x2]; decide) _ HG2.out).mono ?_
  rintro e w3 ⟨v3, f3, rfl, r3, g3, o3, a3, t3⟩
  rw [ba_list, HA2.out, run2] at r3 a3
  have HK3 := hid (kept_fr HK2.out rfl HB.out t3)
  have HG3 := hid g3
  have HO3 := hid o3
  have HA3 := hid a3
  have HR3 := hid r3
  clear t3 g3 o3 a3 r3 HG2 HK2 HO2 HA2
  go_wp2_with fail
  refine (Take_any w.heap.size F f3 HO3.out (ba x3) (by simp [ba, x3]; decide) _ HG3.out).mono ?_
  rintro e w4 ⟨v4, f4, rfl, r4, g4, o4, a4, t4⟩
  rw [ba_list, HA3.out, run3] at r4
  have HK4 := hid (kept_fr HK3.out rfl HB.out t4)
  obtain ⟨hv3, kv3, g3⟩ := HG3.out
  obtain ⟨A, ca, rfl, p1, -⟩ := row_one (rowc_fr HR3.out t4 g3.2.1 (fa_text g3))
  obtain ⟨A', ca', rfl, q1, q2⟩ := row_one r4
  clear r4 g4 o4 a4 t4 g3 HG3 HK3 HO3 HA3 HR3
  have p1' : w4.cell? ⟨A, 0, none⟩ = some (.int .i64 1) := p1
  have q1' : w4.cell? ⟨A', 0, none⟩ = some (.int .i64 2) := q1
  clear p1 q1
  go_wp2_with fail
  go_ret
  exact ⟨rfl, HK4.out⟩
end Go.Proofs.Ytjlojkcdglocbaa
