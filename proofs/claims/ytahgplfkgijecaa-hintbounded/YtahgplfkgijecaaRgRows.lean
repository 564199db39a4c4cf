/- Rows of nodes in memory; the contracts of the references' in and Weight. -/
import Derived.Test.YtahgplfkgijecaaRingMath
import Derived.Test.YtahgplfkgijecaaGRows
import Derived.Test.YtahgplfkgijecaaRows
import Derived.BigQuiet
namespace Go.Proofs.Ytahgplfkgijecaa
open Go.ChangeShapes Go.WideShapes Go.ChangeAt Go.RowKit
set_option linter.unusedVariables false
set_option linter.unusedSimpArgs false
set_option maxRecDepth 100000

theorem kept_drewN {W w : World} (h : Kept W w) (n : Nat) : Kept W (w.drewN n) := h
theorem says_bool {x y : Bool} (e : x = y) : Ending.returned (.bool x) = Ending.returned (.bool y) := congrArg (fun z => Ending.returned (.bool z)) e
def encU (x : Int) : List Value := [.int .u8 x]
theorem encU_ok : Enc encU 1 := ⟨by decide, fun _ => rfl, fun x v hv => by
  simp only [encU, List.mem_cons, List.not_mem_nil, or_false] at hv
  rcases hv with rfl
  rfl⟩
theorem infoU : (Try.prog.info? 5).map (fun i => (i.zero, i.size, i.bytes)) = some (some (.int .u8 0), 1, 1) := by kernel_rfl
theorem tyU : TyG Try.prog 36 5 1 1 := by
  obtain ⟨i0, hi, hz0, hz1, hz2⟩ := info_parts infoU
  exact ⟨Try.underlying36, i0, _, hi, hz0, hz1, hz2, rfl⟩
theorem rg_one {α : Type} {enc : α → List Value} (he : ∀ x, ∃ v, enc x = [v]) {w : World} {g o n cap : Nat} {xs : List α} (h : Rg enc 1 w (.slice (some ⟨g, o, none⟩) n cap) xs) {i : Nat} {x : α} (hx : xs[i]? = some x) {v : Value} (hv : enc x = [v]) : w.cell? ⟨g, o + i, none⟩ = some v := by
  obtain ⟨a, c, e, _, _, _, h⟩ := h
  injection e with e1 e2 e3
  have hi := (List.getElem?_eq_some_iff.1 hx).1
  obtain ⟨g', o', e4, hc⟩ := h (by omega)
  rw [← e1] at e4
  injection e4 with e4
  injection e4 with e4 e5
  subst e4 e5
  have := hc i x 0 v hx (by rw [hv]; rfl)
  rw [Nat.mul_one, Nat.add_zero] at this
  exact this
theorem rg_U {w : World} {g o n cap : Nat} {xs : List Int} (h : Rg encU 1 w (.slice (some ⟨g, o, none⟩) n cap) xs) {i : Nat} {x : Int} (hx : xs[i]? = some x) : w.cell? ⟨g, o + i, none⟩ = some (.int .u8 x) := rg_one (fun x => ⟨_, rfl⟩) h hx rfl
theorem rg_pos {α : Type} {enc : α → List Value} {c : Nat} {w : World} {v : Value} {xs : List α} (h : Rg enc c w v xs) (hp : 0 < xs.length) : ∃ g o cap, v = .slice (some ⟨g, o, none⟩) xs.length cap := by
  obtain ⟨a, cap, rfl, _, _, _, h⟩ := h
  obtain ⟨g, o, rfl, _⟩ := h hp
  exact ⟨g, o, cap, rfl⟩
theorem take_next {α : Type} {l : List α} {k : Nat} {y : α} (h : l[k]? = some y) : l.take (k + 1) = l.take k ++ [y] := by
  have hk := (List.getElem?_eq_some_iff.1 h).1
  have e2 := (List.getElem?_eq_some_iff.1 h).2
  rw [List.take_succ_eq_append_getElem hk, e2]
/- Is a node in a row? -/
set_option maxHeartbeats 1600000 in
theorem in_any (l : List Int) (hn : l.length ≤ 4096) (v : Value) (x : Int) (w : World) (h : Rg encU 1 w v l) : Calls Try.prog 44 #[v, .int .u8 x] w fun e w' => e = .returned (.bool (mem l x)) ∧ w' = w := by
  have HR := hid h
  obtain ⟨a, cap, rfl, -, -, -, -⟩ := h
  have HG : Hid (∀ k, k < l.length → ∃ y, l[k]? = some y) := hid (fun k hk => ⟨l[k], List.getElem?_eq_getElem hk⟩)
  have HP : Hid (0 < l.length → ∃ g o, a = some ⟨g, o, none⟩) := hid (fun hp => by
    obtain ⟨g, o, c, e⟩ := rg_pos HR.out hp
    injection e with e1
    exact ⟨g, o, e1⟩)
  have HT : Hid (l.take l.length = l) := hid List.take_length
  generalize hm : l.length = m at *
  clear hm
  go_enter Try.func44, Try.ntmps44
  go_wp2_with fail
  go_loopw [8] (fun j wr => ∃ k : Nat, k ≤ m ∧ j = .int .i64 k ∧ Hid (x ∉ l.take k) ∧ wr = w) (fun j _ => m - (intOf j).toNat)
  case atStart => exact ⟨0, Nat.zero_le _, rfl, hid (by simp), rfl⟩
  case round =>
    obtain ⟨k, hk, rfl, HN, rfl⟩ := hrel
    by_cases hlt : k < m
    · obtain ⟨y, hy⟩ := HG.out k hlt
      obtain ⟨g, o, rfl⟩ := HP.out (by omega)
      have c0 := rg_U HR.out hy
      by_cases e : y = x
      · have hb : (y == x) = true := by simpa using e
        have HE : Hid (mem l x = true) := hid (by unfold mem; rw [decide_eq_true_eq, ← e]; exact List.mem_of_getElem? hy)
        clear hy e
        go_wp2_with fail
        go_ret
        exact ⟨says_bool HE.out.symm, by simp⟩
      · have hb : (y == x) = false := by simpa using e
        have HNx : Hid (x ∉ l.take (k + 1)) := hid (by
          rw [take_next hy, List.mem_append]
          rintro (h | h)
          · exact HN.out h
          · simp at h; exact e h.symm)
        clear hy e
        go_wp2_with fail
        go_roundw
        case rel => exact ⟨k + 1, by omega, by go_num, HNx, by simp⟩
        case measure => simp [intOf]; omega
    · have he : k = m := by omega
      subst he
      have HE : Hid (mem l x = false) := hid (by have := HN.out; rw [HT.out] at this; unfold mem; simp [this])
      go_wp2_with fail
      go_ret
      exact ⟨says_bool HE.out.symm, by simp⟩
theorem u64_wrap (x : Int) (h1 : 0 ≤ x) (h2 : x < 18446744073709551616) : IntKind.u64.wrap x = x := by rw [IntKind.wrap_u64]; omega
theorem rweight_any (key : ByteArray) (hk : key.size ≤ maxLen) (n : Int) (h1 : 0 ≤ n) (h2 : n < 256) (w : World) : Calls Try.prog 64 #[.string key, .int .u8 n] w fun e w' => e = .returned (.int .u64 (wt key n)) ∧ w' = w := by
  have e1 := u64_wrap n h1 (by omega)
  have e2 := u64_wrap (n + 1) (by omega) (by omega)
  have hw := wf_textI key.data.toList key.size
  clear h1 h2
  go_enter Try.func64, Try.ntmps64
  go_wp2_with fail
  refine (reftext_any key hk _).mono ?_
  rintro e w' ⟨rfl, rfl⟩
  go_wp2_with fail
  refine (reftwo_any _ _ hw _).mono ?_
  rintro e w' ⟨rfl, rfl⟩
  go_wp2_with fail
  go_ret
  exact ⟨rfl, rfl⟩
end Go.Proofs.Ytahgplfkgijecaa
