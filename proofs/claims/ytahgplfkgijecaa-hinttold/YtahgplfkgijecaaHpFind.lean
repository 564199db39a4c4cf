/- The reference's Find, and its copied. -/
import Derived.Test.YtahgplfkgijecaaHpRows
import Derived.Test.YtahgplfkgijecaaGCopy
namespace Go.Proofs.Ytahgplfkgijecaa
open Go.ChangeShapes Go.WideShapes Go.ChangeAt Go.RowKit
set_option linter.unusedVariables false
set_option linter.unusedSimpArgs false
set_option maxRecDepth 100000

theorem says_i64 {x y : Int} (e : x = y) : Ending.returned (.int .i64 x) = Ending.returned (.int .i64 y) := congrArg (fun z => Ending.returned (.int .i64 z)) e
def fcode : Option Nat → Int
  | none => -1
  | some i => (i : Int)
theorem fnd_no {k : ByteArray} {l : List Ht} (h : ∀ x ∈ l, x.r.key ≠ k) : fnd k l = none := by
  cases hq : fnd k l with
  | none => rfl
  | some i =>
    obtain ⟨x, h1, h2, _⟩ := fnd_some hq
    exact absurd h2 (h x (List.mem_of_getElem? h1))
set_option maxHeartbeats 1600000 in
theorem rfind_any (key : ByteArray) (l : List Ht) (hn : l.length ≤ 4096) (v : Value) (w : World) (h : Rg encX 72 w v l) : Calls Try.prog 28 #[v, .string key] w fun e w' => e = .returned (.int .i64 (fcode (fnd key l))) ∧ w' = w := by
  have HR := hid h
  obtain ⟨a, cap, rfl, -, -, -, -⟩ := h
  have HG : Hid (∀ k, k < l.length → ∃ y, l[k]? = some y) := hid (fun k hk => ⟨l[k], List.getElem?_eq_getElem hk⟩)
  have HP : Hid (0 < l.length → ∃ g o, a = some ⟨g, o, none⟩) := hid (fun hp => by
    obtain ⟨g, o, c, e⟩ := rg_pos HR.out hp
    injection e with e1
    exact ⟨g, o, e1⟩)
  have HT : Hid (l.take l.length = l) := hid List.take_length
  generalize hm : l.length = m at *
  clear hm
  go_enter Try.func28, Try.ntmps28
  go_wp2_with fail
  go_loopw [8] (fun j wr => ∃ k : Nat, k ≤ m ∧ j = .int .i64 k ∧ Hid (∀ x ∈ l.take k, x.r.key ≠ key) ∧ wr = w) (fun j _ => m - (intOf j).toNat)
  case atStart => exact ⟨0, Nat.zero_le _, rfl, hid (by simp), rfl⟩
  case round =>
    obtain ⟨k, hk, rfl, HN, rfl⟩ := hrel
    by_cases hlt : k < m
    · obtain ⟨y, hy⟩ := HG.out k hlt
      obtain ⟨g, o, rfl⟩ := HP.out (by omega)
      obtain ⟨c0, -, -, -, -, -, -, -⟩ := rg_X HR.out hy
      by_cases e : y.r.key = key
      · have hb : (y.r.key.toList == key.toList) = true := (sameT_iff _ _).2 e
        have HE : Hid (fcode (fnd key l) = (k : Int)) := hid (by
          rw [fnd_of hy e (fun j x hj hx => HN.out x (by
            have : (l.take k)[j]? = some x := by rw [List.getElem?_take, if_pos hj]; exact hx
            exact List.mem_of_getElem? this))]
          rfl)
        clear hy e
        go_wp2_with fail
        go_ret
        exact ⟨says_i64 HE.out.symm, by simp⟩
      · have hb : (y.r.key.toList == key.toList) = false := by
          rw [Bool.eq_false_iff]
          exact fun h => e ((sameT_iff _ _).1 h)
        have HNx : Hid (∀ x ∈ l.take (k + 1), x.r.key ≠ key) := hid (by
          rw [take_next hy]
          intro x hx
          rcases List.mem_append.1 hx with h | h
          · exact HN.out x h
          · simp only [List.mem_cons, List.not_mem_nil, or_false] at h
            subst h
            exact e)
        clear hy e
        go_wp2_with fail
        go_roundw
        case rel => exact ⟨k + 1, by omega, by go_num, HNx, by simp⟩
        case measure => simp [intOf]; omega
    · have he : k = m := by omega
      subst he
      have HE : Hid (fcode (fnd key l) = -1) := hid (by rw [fnd_no (by rw [← HT.out]; exact HN.out)]; rfl)
      go_wp2_with fail
      go_ret
      exact ⟨says_i64 HE.out.symm, by simp⟩
/- copied. -/
theorem rcopied_any (l : List Ht) (hn : l.length ≤ 4096) (v : Value) (w : World) (h : Rg encX 72 w v l) : Calls Try.prog 29 #[v] w (GRowN encX 72 75 l w) := by
  have HR := hid h
  obtain ⟨a, cap, rfl, -, -, -, -⟩ := h
  obtain ⟨i0, hi, hz0, hz1, hz2⟩ := info_parts infoX
  obtain ⟨cs, hmk, HO⟩ := og_full encX_ok Try.underlying28 hi hz0 hz1 (by rw [hz2]; decide) (z := zeroX) (by simp [Value.cells]) l.length hn w
  have HK1 := hid (kept_alloc (kept_refl w) (.cells cs 75))
  obtain ⟨ds, hcp, HO2⟩ := og_copy encX_ok Try.underlying28 hi hz1 HO (by simp) (rg_kept encX_ok HR.out HK1.out) rfl 3
  have HO3 := hid HO2
  have HK2 := hid (kept_setRow HK1.out (Nat.le_refl _) ds)
  clear hi hz0 hz1 hz2 HO HO2
  go_enter Try.func29, Try.ntmps29
  go_wp2_with fail
  go_ret
  exact ⟨_, rfl, HO3.out, by simp, HK2.out⟩
end Go.Proofs.Ytahgplfkgijecaa
