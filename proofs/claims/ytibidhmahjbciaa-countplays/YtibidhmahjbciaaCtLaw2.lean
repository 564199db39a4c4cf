/- CountRound over whatever answers as the counts must: for any row of numbers. -/
import Derived.Test.YtibidhmahjbciaaCtFixed
namespace Go.Proofs.Ytibidhmahjbciaa
open Go.ChangeShapes Go.WideShapes Go.ChangeAt Go.RowKit
set_option linter.unusedVariables false
set_option linter.unusedSimpArgs false
set_option maxRecDepth 100000

def tX : ByteArray := ⟨#[120]⟩
theorem qok_x : ∀ x ∈ [tX], QOk x := fun x hx => by
  simp only [List.mem_cons, List.not_mem_nil, or_false] at hx
  rcases hx with rfl
  exact qok_one _
theorem may_x : MayC [tX] := may_of _ (by decide) (by decide) (by decide) (by decide)
theorem one_add (s n : Int) : addC [⟨tX, s⟩] tX n = [⟨tX, moreC s n⟩] := by rw [add_at (i := 0) (x := ⟨tX, s⟩) n rfl (place_yes _ _ _)]; rfl
theorem one_get (s : Int) : getC [⟨tX, s⟩] tX = s := by unfold getC; rw [place_yes]; rfl
theorem one_has (s : Int) : hasC [⟨tX, s⟩] tX = true := by unfold hasC; rw [place_yes]; rfl
theorem one_ok {s : Int} (h : inU64 s) : LsOk [⟨tX, s⟩] := ⟨show 1 ≤ 4096 from by decide, fun c hc => by
  simp only [List.mem_cons, List.not_mem_nil, or_false] at hc
  subst hc
  exact h⟩
theorem more_in {s n : Int} (hs : inU64 s) (hn : inU64 n) : inU64 (moreC s n) ∧ s ≤ moreC s n ∧ n ≤ moreC s n := by
  have h := more_ok hs.1 hn.1
  unfold inU64 at *
  unfold topC at h
  refine ⟨h, ?_⟩
  unfold moreC topC
  split <;> omega
set_option maxHeartbeats 6400000 in
theorem law2_any {T : Shape (List Ct)} (hT : CtIs T) (l : List Int) (hl : ∀ x ∈ l, inU64 x) (v : Value) (w : World) (h : Rg encG 1 w v l) : Calls Try.prog 4 #[v] w fun e w' => e = .returned (.bool true) ∧ Kept w w' := by
  have HT := hid hT
  have HR := hid h
  obtain ⟨a, cap, rfl, hc1, hc2, -, -⟩ := h
  have HG : Hid (∀ k, k < l.length → ∃ y, l[k]? = some y ∧ inU64 y) := hid (fun k hk => ⟨l[k], List.getElem?_eq_getElem hk, hl _ (List.getElem_mem hk)⟩)
  have HP : Hid (0 < l.length → ∃ g o, a = some ⟨g, o, none⟩) := hid (fun hp => by
    obtain ⟨g, o, c, e⟩ := rg_pos HR.out hp
    injection e with e1
    exact ⟨g, o, e1⟩)
  have ka := kept_alloc (kept_refl w) (.cells #[.string ⟨#[120]⟩] 9)
  have hN := ct_new (T := T) (W := w) hT ka may_x qok_x (rg_own encK_ok (og_built encK_ok 9 w w.heap.size (Nat.le_refl _) [tX] (by decide)))
  have HF := hid (fun u : World => fixed_any hT u)
  have hmx : l.length ≤ maxLen := by omega
  unfold maxLen at hmx
  clear hT ka hl hc1 hc2
  generalize hm : l.length = m at *
  clear hm
  go_enter Try.func4, Try.ntmps4
  go_wp2_with fail
  refine hN.mono ?_
  rintro e w1 ⟨X, F, rfl, t1, -, -⟩
  have HT1 : Hid (TT T w X [⟨tX, 0⟩] F w1) := hid t1
  have hF := HF.out w1
  clear hN t1
  go_wp2_with fail
  refine hF.mono ?_
  rintro e w2 ⟨rfl, k2⟩
  have HT2 := hid (tt_kept HT.out.obj HT1.out k2)
  clear hF k2 HT1
  go_wp2_with fail
  go_loopw [5, 22] (fun sv j wr => ∃ (k : Nat) (s : Int) (F : Nat → Prop), k ≤ m ∧ j = .int .i64 (k : Int) ∧ sv = .int .u64 s ∧ Hid (inU64 s) ∧ Hid (TT T w X [⟨tX, s⟩] F wr)) (fun _ j _ => m - (intOf j).toNat)
  case atStart => exact ⟨0, 0, F, Nat.zero_le _, rfl, rfl, hid (by unfold inU64; decide), HT2⟩
  case round =>
    obtain ⟨k, s, F3, hk, rfl, rfl, HS, HTr⟩ := hrel
    clear HT2
    by_cases hlt : k < m
    · obtain ⟨x, hx, hx2⟩ := HG.out k hlt
      obtain ⟨g, o, rfl⟩ := HP.out (by omega)
      have c0 := rg_G (rg_kept encG_ok HR.out HTr.out.k) hx
      clear hx
      by_cases h200 : 200 < k
      · have hd : decide ((200 : Int) < (k : Int)) = true := by simp; omega
        have HK := hid HTr.out.k
        go_wp2_with fail
        go_ret
        exact ⟨rfl, HK.out⟩
      · have hd : decide ((200 : Int) < (k : Int)) = false := by simp; omega
        obtain ⟨m1, m2, m3⟩ := more_in HS.out hx2
        have HM := hid m1
        have hA := ct_add HT.out HTr.out (one_ok HS.out) tX (tx_one _) hx2
        rw [one_add, one_has] at hA
        have hA' : Calls Try.prog 13 #[.pointer (some ⟨X, 0, none⟩), .string ⟨#[120]⟩, .int .u64 x] wr fun e w' => ∃ F', e = .returned (.bool true) ∧ TT T w X [⟨tX, moreC s x⟩] F' w' ∧ Sd F3 wr F' w' := hA
        clear hA hx2 m1
        go_wp2_with fail
        refine hA'.mono ?_
        rintro e w4 ⟨F4, rfl, t4, -⟩
        have hG := ct_get HT.out t4 (one_ok HM.out) tX (tx_one _)
        rw [one_get] at hG
        have hG' : Calls Try.prog 14 #[.pointer (some ⟨X, 0, none⟩), .string ⟨#[120]⟩] w4 fun e w' => e = .returned (.int .u64 (moreC s x)) ∧ TT T w X [⟨tX, moreC s x⟩] F4 w' ∧ Kept w4 w' := hG
        clear hG hA' t4
        generalize moreC s x = z at *
        have d1 : decide (z < s) = false := by simp; omega
        have d2 : decide (z < x) = false := by simp; omega
        go_wp2_with fail
        refine hG'.mono ?_
        rintro e w5 ⟨rfl, t5, -⟩
        have HT5 := hid t5
        clear t5 hG' m2 m3
        go_wp2_with fail
        go_roundw
        case rel => exact ⟨k + 1, z, F4, by omega, by go_num, rfl, HM, HT5⟩
        case measure => simp [intOf]; omega
    · have he : k = m := by omega
      subst he
      have HK := hid HTr.out.k
      go_wp2_with fail
      go_ret
      exact ⟨rfl, HK.out⟩
end Go.Proofs.Ytibidhmahjbciaa
