/- Records, what is seen of them, and keys, as they lie in memory; the contracts of the reference's Less and Behind. -/
import Derived.Test.YtgfmmipbadnhgaaGRows
import Derived.Test.YtgfmmipbadnhgaaSweepMath
import Derived.Test.YtgfmmipbadnhgaaRows
import Derived.BigQuiet
import Derived.Deep.RegionHeld3
namespace Go.Proofs.Ytgfmmipbadnhgaa
open Go.ChangeShapes Go.WideShapes Go.ChangeAt Go.RowKit
set_option linter.unusedVariables false
set_option linter.unusedSimpArgs false
set_option maxRecDepth 100000

theorem kept_drewN {W w : World} (h : Kept W w) (n : Nat) : Kept W (w.drewN n) := h
theorem says_bool {x y : Bool} (e : x = y) : Ending.returned (.bool x) = Ending.returned (.bool y) := congrArg (fun z => Ending.returned (.bool z)) e
def encS (x : Sn) : List Value := [.string x.key, .int .u64 x.s.p, .int .u32 x.s.l, .int .u8 x.s.n, .int .u8 x.kind]
def encR (r : R) : List Value := [.string r.key, .int .u64 r.s.p, .int .u32 r.s.l, .int .u8 r.s.n, .int .u8 r.kind, .int .u32 r.flags, .int .u64 r.exp, .string r.body]
def encK (k : ByteArray) : List Value := [.string k]
theorem encS_ok : Enc encS 5 := ⟨by decide, fun _ => rfl, fun x v hv => by
  simp only [encS, List.mem_cons, List.not_mem_nil, or_false] at hv
  rcases hv with rfl | rfl | rfl | rfl | rfl <;> rfl⟩
theorem encR_ok : Enc encR 8 := ⟨by decide, fun _ => rfl, fun x v hv => by
  simp only [encR, List.mem_cons, List.not_mem_nil, or_false] at hv
  rcases hv with rfl | rfl | rfl | rfl | rfl | rfl | rfl | rfl <;> rfl⟩
theorem encK_ok : Enc encK 1 := ⟨by decide, fun _ => rfl, fun x v hv => by
  simp only [encK, List.mem_cons, List.not_mem_nil, or_false] at hv
  rcases hv with rfl
  rfl⟩
theorem infoS : (Try.prog.info? 43).map (fun i => (i.zero, i.size, i.bytes)) = some (some (.agg #[.string ⟨#[]⟩, .int .u64 0, .int .u32 0, .int .u8 0, .int .u8 0]), 5, 40) := by kernel_rfl
theorem infoR : (Try.prog.info? 41).map (fun i => (i.zero, i.size, i.bytes)) = some (some (.agg #[.string ⟨#[]⟩, .int .u64 0, .int .u32 0, .int .u8 0, .int .u8 0, .int .u32 0, .int .u64 0, .string ⟨#[]⟩]), 8, 64) := by kernel_rfl
theorem infoK : (Try.prog.info? 9).map (fun i => (i.zero, i.size, i.bytes)) = some (some (.string ⟨#[]⟩), 1, 16) := by kernel_rfl
theorem tyS : TyG Try.prog 23 43 5 40 := by
  obtain ⟨i0, hi, hz0, hz1, hz2⟩ := info_parts infoS
  exact ⟨Try.underlying23, i0, _, hi, hz0, hz1, hz2, rfl⟩
theorem tyR : TyG Try.prog 22 41 8 64 := by
  obtain ⟨i0, hi, hz0, hz1, hz2⟩ := info_parts infoR
  exact ⟨Try.underlying22, i0, _, hi, hz0, hz1, hz2, rfl⟩
theorem tyK : TyG Try.prog 32 9 1 16 := by
  obtain ⟨i0, hi, hz0, hz1, hz2⟩ := info_parts infoK
  exact ⟨Try.underlying32, i0, _, hi, hz0, hz1, hz2, rfl⟩
theorem zeroS (w : World) : (zeroValue 43).run Try.prog w = .ok (.agg #[.string ⟨#[]⟩, .int .u64 0, .int .u32 0, .int .u8 0, .int .u8 0]) w := by kernel_rfl
theorem zeroRv (w : World) : (zeroValue 41).run Try.prog w = .ok (.agg #[.string ⟨#[]⟩, .int .u64 0, .int .u32 0, .int .u8 0, .int .u8 0, .int .u32 0, .int .u64 0, .string ⟨#[]⟩]) w := by kernel_rfl
/- Cells of one member. -/
theorem rg_S {w : World} {g o n cap : Nat} {xs : List Sn} (h : Rg encS 5 w (.slice (some ⟨g, o, none⟩) n cap) xs) {i : Nat} {x : Sn} (hx : xs[i]? = some x) :
    w.cell? ⟨g, o + i * 5, none⟩ = some (.string x.key) ∧ w.cell? ⟨g, o + i * 5 + 1, none⟩ = some (.int .u64 x.s.p) ∧ w.cell? ⟨g, o + i * 5 + 2, none⟩ = some (.int .u32 x.s.l) ∧ w.cell? ⟨g, o + i * 5 + 3, none⟩ = some (.int .u8 x.s.n) ∧ w.cell? ⟨g, o + i * 5 + 4, none⟩ = some (.int .u8 x.kind) := by
  obtain ⟨a, c, e, _, _, _, h⟩ := h
  injection e with e1 e2 e3
  have hi := (List.getElem?_eq_some_iff.1 hx).1
  obtain ⟨g', o', e4, hc⟩ := h (by omega)
  rw [← e1] at e4
  injection e4 with e4
  injection e4 with e4 e5
  subst e4 e5
  exact ⟨hc i x 0 _ hx rfl, hc i x 1 _ hx rfl, hc i x 2 _ hx rfl, hc i x 3 _ hx rfl, hc i x 4 _ hx rfl⟩
theorem rg_R {w : World} {g o n cap : Nat} {xs : List R} (h : Rg encR 8 w (.slice (some ⟨g, o, none⟩) n cap) xs) {i : Nat} {x : R} (hx : xs[i]? = some x) :
    w.cell? ⟨g, o + i * 8, none⟩ = some (.string x.key) ∧ w.cell? ⟨g, o + i * 8 + 1, none⟩ = some (.int .u64 x.s.p) ∧ w.cell? ⟨g, o + i * 8 + 2, none⟩ = some (.int .u32 x.s.l) ∧ w.cell? ⟨g, o + i * 8 + 3, none⟩ = some (.int .u8 x.s.n) ∧ w.cell? ⟨g, o + i * 8 + 4, none⟩ = some (.int .u8 x.kind) ∧ w.cell? ⟨g, o + i * 8 + 5, none⟩ = some (.int .u32 x.flags) ∧ w.cell? ⟨g, o + i * 8 + 6, none⟩ = some (.int .u64 x.exp) ∧ w.cell? ⟨g, o + i * 8 + 7, none⟩ = some (.string x.body) := by
  obtain ⟨a, c, e, _, _, _, h⟩ := h
  injection e with e1 e2 e3
  have hi := (List.getElem?_eq_some_iff.1 hx).1
  obtain ⟨g', o', e4, hc⟩ := h (by omega)
  rw [← e1] at e4
  injection e4 with e4
  injection e4 with e4 e5
  subst e4 e5
  exact ⟨hc i x 0 _ hx rfl, hc i x 1 _ hx rfl, hc i x 2 _ hx rfl, hc i x 3 _ hx rfl, hc i x 4 _ hx rfl, hc i x 5 _ hx rfl, hc i x 6 _ hx rfl, hc i x 7 _ hx rfl⟩
theorem rg_K {w : World} {g o n cap : Nat} {xs : List ByteArray} (h : Rg encK 1 w (.slice (some ⟨g, o, none⟩) n cap) xs) {i : Nat} {x : ByteArray} (hx : xs[i]? = some x) : w.cell? ⟨g, o + i, none⟩ = some (.string x) := by
  obtain ⟨a, c, e, _, _, _, h⟩ := h
  injection e with e1 e2 e3
  have hi := (List.getElem?_eq_some_iff.1 hx).1
  obtain ⟨g', o', e4, hc⟩ := h (by omega)
  rw [← e1] at e4
  injection e4 with e4
  injection e4 with e4 e5
  subst e4 e5
  have := hc i x 0 _ hx rfl
  rw [Nat.mul_one, Nat.add_zero] at this
  exact this
/- Where a row that has members lies. -/
theorem rg_pos {α : Type} {enc : α → List Value} {c : Nat} {w : World} {v : Value} {xs : List α} (h : Rg enc c w v xs) (hp : 0 < xs.length) : ∃ g o cap, v = .slice (some ⟨g, o, none⟩) xs.length cap := by
  obtain ⟨a, cap, rfl, _, _, _, h⟩ := h
  obtain ⟨g, o, rfl, _⟩ := h hp
  exact ⟨g, o, cap, rfl⟩
set_option maxHeartbeats 800000 in
theorem less_any (a b : Stp) (w : World) : Calls Try.prog 36 #[.agg #[.int .u64 a.p, .int .u32 a.l, .int .u8 a.n], .agg #[.int .u64 b.p, .int .u32 b.l, .int .u8 b.n]] w fun e w' => e = .returned (.bool (lt a b)) ∧ Kept w w' := by
  have HK := hid (kept_alloc (kept_alloc (kept_refl w) (.cells #[.int .u64 a.p, .int .u32 a.l, .int .u8 a.n] 39)) (.cells #[.int .u64 b.p, .int .u32 b.l, .int .u8 b.n] 39))
  by_cases h1 : a.p = b.p
  · have e1 : (a.p != b.p) = false := by simpa using h1
    by_cases h2 : a.l = b.l
    · have e2 : (a.l != b.l) = false := by simpa using h2
      have HE : Hid (lt a b = decide (a.n < b.n)) := hid (by unfold lt; simp [h1, h2])
      clear h1 h2
      go_enter Try.func36, Try.ntmps36
      go_wp2_with fail
      go_ret
      exact ⟨says_bool HE.out.symm, HK.out⟩
    · have e2 : (a.l != b.l) = true := by simpa using h2
      have HE : Hid (lt a b = decide (a.l < b.l)) := hid (by unfold lt; simp [h1, h2])
      clear h1 h2
      go_enter Try.func36, Try.ntmps36
      go_wp2_with fail
      go_ret
      exact ⟨says_bool HE.out.symm, HK.out⟩
  · have e1 : (a.p != b.p) = true := by simpa using h1
    have HE : Hid (lt a b = decide (a.p < b.p)) := hid (by unfold lt; simp [h1])
    clear h1
    go_enter Try.func36, Try.ntmps36
    go_wp2_with fail
    go_ret
    exact ⟨says_bool HE.out.symm, HK.out⟩
end Go.Proofs.Ytgfmmipbadnhgaa
