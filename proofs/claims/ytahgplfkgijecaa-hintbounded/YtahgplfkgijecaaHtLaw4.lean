/- The walk of HintNil, out of what the landed hints must answer. -/
import Derived.Test.YtahgplfkgijecaaHtCut
namespace Go.Proofs.Ytahgplfkgijecaa
open Go.ChangeShapes Go.WideShapes Go.ChangeAt Go.RowKit
set_option linter.unusedVariables false
set_option linter.unusedSimpArgs false
set_option maxRecDepth 100000

theorem tt_put {T : Shape Hs} (hT : HintsIs T) {W w : World} {X : Nat} {s : Hs} {F : Nat → Prop} (h : TT T W X s F w) {Z : Nat} (hZ : ¬ F Z) (hW : W.heap.size ≤ Z) (k : Nat) (y : Value) : TT T W X s F (w.setCell ⟨Z, k, none⟩ y) :=
  ⟨hT.obj.stay h.t (fun b hb => Below.heap_setCell _ _ _ _ (by show b ≠ Z; rintro rfl; exact hZ hb)), kept_set h.k hW k y, h.f⟩
def exK : R := ⟨⟨#[107]⟩, ⟨0, 0, 0⟩, 2, 0, 0, ⟨#[]⟩⟩
theorem exK_ok : exK.ok ∧ Sml exK ∧ badA exK = false := by
  refine ⟨?_, ?_, by decide⟩
  · unfold R.ok exK Stp.ok maxLen; decide
  · unfold Sml; decide
theorem exk1 : addE 3 [] exK = 0 ∧ addL 3 [] exK = [⟨exK, nob⟩] := ⟨by decide, by unfold addL; rw [if_neg (by rw [exK_ok.2.2]; decide)]; rfl⟩
theorem hg_k : Hg 3 [⟨exK, nob⟩] := ⟨by decide, by decide, by decide, ⟨by simp, trivial⟩, fun h hm => by
  simp at hm
  subst hm
  exact ⟨(bad_not exK_ok.2.2).1, (bad_not exK_ok.2.2).2, exK_ok.1⟩⟩
set_option maxHeartbeats 6400000 in
theorem nil_walk {T : Shape Hs} (hT : HintsIs T) (r : R) (hr : r.ok) (node : Int) (hn : okU node) (up : List Int) (v : Value) (w : World) (h : Rg encU 1 w v up) : Calls Try.prog 6 #[.agg #[.string r.key, .int .u64 r.s.p, .int .u32 r.s.l, .int .u8 r.s.n, .int .u8 r.kind, .int .u32 r.flags, .int .u64 r.exp, .string r.body], .int .u8 node, v] w fun e w' => e = .returned (.bool true) ∧ Kept w w' := by
  have HT := hid hT
  have HF := hid (fun u => fixed_any hT u)
  have HR := hid h
  have HOk := hid hr
  obtain ⟨a, cap, rfl, -, -, -, -⟩ := h
  have hz := zeroRv
  have aZ := at_new w #[.string r.key, .int .u64 r.s.p, .int .u32 r.s.l, .int .u8 r.s.n, .int .u8 r.kind, .int .u32 r.flags, .int .u64 r.exp, .string r.body] 35
  have kZ := kept_alloc (kept_refl w) (.cells #[.string r.key, .int .u64 r.s.p, .int .u32 r.s.l, .int .u8 r.s.n, .int .u8 r.kind, .int .u32 r.flags, .int .u64 r.exp, .string r.body] 35)
  obtain ⟨w0, hw0⟩ : ∃ w0, w.alloc (.cells #[.string r.key, .int .u64 r.s.p, .int .u32 r.s.l, .int .u8 r.s.n, .int .u8 r.kind, .int .u32 r.flags, .int .u64 r.exp, .string r.body] 35) = w0 := ⟨_, rfl⟩
  obtain ⟨Z, hZ⟩ : ∃ Z, w.heap.size = Z := ⟨_, rfl⟩
  rw [hw0, hZ] at aZ
  rw [hw0] at kZ
  have HZ := hid aZ
  have HK0 := hid kZ
  have HZs := hid hZ
  obtain ⟨z0, z1, z2, z3, z4, z5, z6, z7⟩ := at_cells8' aZ
  clear hT hr aZ kZ
  generalize hm : up.length = m at *
  by_cases hb1 : 100 < m
  · have d1 : (100 : Int) < (m : Int) := by omega
    go_enter Try.func6, Try.ntmps6
    go_wp2_with fail
    refine (HF.out _).mono ?_
    rintro e w2 ⟨rfl, k2⟩
    have HK := hid (kept_trans HK0.out k2)
    clear k2
    go_wp2_with fail
    go_ret
    exact ⟨rfl, HK.out⟩
  have d1 : decide ((100 : Int) < (m : Int)) = false := by simp; omega
  have e1 : ¬ (100 : Int) < (m : Int) := by omega
  by_cases hb2 : 1000 < r.key.size
  · have d2 : (1000 : Int) < (r.key.size : Int) := by omega
    go_enter Try.func6, Try.ntmps6
    go_wp2_with fail
    refine (HF.out _).mono ?_
    rintro e w2 ⟨rfl, k2⟩
    have HK := hid (kept_trans HK0.out k2)
    clear k2
    go_wp2_with fail
    go_ret
    exact ⟨rfl, HK.out⟩
  have d2 : decide ((1000 : Int) < (r.key.size : Int)) = false := by simp; omega
  have e2 : ¬ (1000 : Int) < (r.key.size : Int) := by omega
  have HM : Hid (up.length ≤ 100 ∧ r.key.size ≤ 1000) := hid ⟨by rw [hm]; omega, by omega⟩
  have hN := ht_new (T := T) (W := w0) (n := 3) HT.out (kept_refl w0) (by decide) (by decide)
  clear hm hb1 hb2
  go_enter Try.func6, Try.ntmps6
  go_wp2_with fail
  refine hN.mono ?_
  rintro e w1 ⟨X, F, rfl, t1, -⟩
  have hA := ht_add HT.out t1 (hg_nil (by decide) (by decide)) exK_ok.1 exK_ok.2.1
  rw [exk1.1, exk1.2] at hA
  have HA : Hid (Calls Try.prog 12 #[.pointer (some ⟨X, 0, none⟩), .agg #[.string ⟨#[107]⟩, .int .u64 0, .int .u32 0, .int .u8 0, .int .u8 2, .int .u32 0, .int .u64 0, .string ⟨#[]⟩]] w1 fun e w' => ∃ F', e = .returned (.int .i64 0) ∧ TT T w0 X ⟨3, [⟨exK, nob⟩]⟩ F' w' ∧ Sd F w1 F' w') := hid hA
  clear t1 hN hA z0 z1 z2 z3 z4 z5 z6 z7 hw0 hZ d1 e1 d2 e2
  go_wp2_with fail
  refine HA.out.mono ?_
  rintro e w2 ⟨F2, rfl, t2, -⟩
  have hAl := ht_all HT.out t2 hg_k
  have HT2 := hid t2
  clear t2 HA
  go_wp2_with fail
  refine hAl.mono ?_
  rintro e w3 ⟨r3, F3, rfl, o3, n3, b3, t3, -⟩
  obtain ⟨G, c3, e3⟩ := og_some o3 (by
    rintro rfl
    obtain ⟨a, cap, e, _⟩ := og_is encH_ok o3
    injection e with e1 e2
    simp at e2)
  subst e3
  simp only [List.length_singleton] at o3 n3 b3 ⊢
  have HG3 : Hid (¬ F3 G ∧ w0.heap.size ≤ G) := hid ⟨n3 G rfl, Nat.le_trans HT2.out.k.2 (b3 G rfl)⟩
  obtain ⟨cs, acs, hcs⟩ := og_at encH_ok o3
  have HC3 : Hid (∃ cs : Array Value, At w3 G cs 61 ∧ 8 < cs.size) := hid ⟨cs, acs, by
    have := hcs 0 ⟨exK, nob⟩ 8 _ rfl rfl
    exact (Array.getElem?_eq_some_iff.1 this).1⟩
  have HT3 := hid t3
  clear o3 n3 b3 t3 hAl HT2 acs hcs cs
  go_wp2_with fail
  go_loopw [36] (fun jv wr => ∃ j : Nat, j ≤ 1 ∧ jv = .int .i64 (j : Int) ∧ Hid (TT T w0 X ⟨3, [⟨exK, nob⟩]⟩ F3 wr) ∧ Hid (∃ cs : Array Value, At wr G cs 61 ∧ 8 < cs.size)) (fun jv _ => 1 - (intOf jv).toNat)
  case atStart => exact ⟨0, by omega, rfl, HT3, HC3⟩
  case round =>
    obtain ⟨j, hj, rfl, HTr, HCr⟩ := hrel
    clear HT3 HC3
    by_cases hlt : j < 1
    · obtain rfl : j = 0 := by omega
      obtain ⟨cs, acs, h8⟩ := HCr.out
      have c8 : wr.cell? ⟨G, 8, none⟩ = some cs[8] := by rw [at_cell acs, Array.getElem?_eq_getElem h8]
      have f8 := at_frozen acs
      have HT4 := hid (tt_put HT.out HTr.out HG3.out.1 HG3.out.2 8 (.int .u64 7))
      have HC4 : Hid (∃ cs : Array Value, At (wr.setCell ⟨G, 8, none⟩ (.int .u64 7)) G cs 61 ∧ 8 < cs.size) := hid ⟨_, at_set acs 8 _, by simpa using h8⟩
      generalize cs[8] = old at *
      clear h8 acs
      go_wp2_with fail
      go_roundw
      case rel => exact ⟨1, by omega, by go_num, HT4, HC4⟩
      case measure => simp [intOf]
    · obtain rfl : j = 1 := by omega
      have hAl := ht_all HT.out HTr.out hg_k
      clear HCr HTr
      go_wp2_with fail
      refine hAl.mono ?_
      rintro e w5 ⟨r5, F5, rfl, o5, -, -, t5, -⟩
      obtain ⟨g5, c5, e5⟩ := og_some o5 (by
        rintro rfl
        obtain ⟨a, cap, e, _⟩ := og_is encH_ok o5
        injection e with e1 e2
        simp at e2)
      subst e5
      simp only [List.length_singleton] at o5 ⊢
      have HO5 := hid (rg_own encH_ok o5)
      have HK5 := hid t5.k
      clear o5 t5 hAl
      go_wp2_with fail
      refine (HF.out _).mono ?_
      rintro e w6 ⟨rfl, k6⟩
      have HK6 := hid (kept_trans HK5.out k6)
      obtain ⟨-, -, -, -, -, -, -, -, q8⟩ := rg_H (rg_kept encH_ok HO5.out k6) (i := 0) rfl
      simp only [Nat.zero_mul, Nat.zero_add, Nat.add_zero] at q8
      rw [ack_nob] at q8
      obtain ⟨z0, z1, z2, z3, z4, z5, z6, z7⟩ := at_cells8' (at_kept HZ.out HK6.out)
      have hAn := HT.out.add_nil r w6 HOk.out HM.out.2
      clear k6 HO5 HK5 HF
      go_wp2_with fail
      refine hAn.mono ?_
      rintro e w7 ⟨rfl, k7⟩
      have HK7 := hid (kept_trans HK6.out k7)
      clear z0 z1 z2 z3 z4 z5 z6 z7 hAn k7 q8
      obtain ⟨z0, z1, z2, z3, z4, z5, z6, z7⟩ := at_cells8' (at_kept HZ.out HK7.out)
      have hKn := HT.out.ack_nil r.key r.s node w7 HM.out.2
      go_wp2_with fail
      refine hKn.mono ?_
      rintro e w8 ⟨rfl, k8⟩
      have HK8 := hid (kept_trans HK7.out k8)
      clear z0 z1 z2 z3 z4 z5 z6 z7 hKn k8
      have hMn := HT.out.missing_nil up _ w8 HM.out.1 (rg_kept encU_ok HR.out (kept_trans HK0.out HK8.out))
      go_wp2_with fail
      refine hMn.mono ?_
      rintro e w9 ⟨a9, c9, rfl, k9⟩
      have HK9 := hid (kept_trans HK8.out k9)
      clear hMn k9
      have hSn := HT.out.settle_nil up _ w9 HM.out.1 (rg_kept encU_ok HR.out (kept_trans HK0.out HK9.out))
      go_wp2_with fail
      refine hSn.mono ?_
      rintro e wa ⟨rfl, ka⟩
      have HKa := hid (kept_trans HK9.out ka)
      clear hSn ka
      have hLn := HT.out.all_nil wa
      go_wp2_with fail
      refine hLn.mono ?_
      rintro e wb ⟨ab, cb, rfl, kb⟩
      have HKb := hid (kept_trans HKa.out kb)
      clear hLn kb
      have hEn := HT.out.len_nil wb
      go_wp2_with fail
      refine hEn.mono ?_
      rintro e wz ⟨rfl, kz⟩
      have HKz := hid (kept_trans HK0.out (kept_trans HKb.out kz))
      clear hEn kz
      go_wp2_with fail
      go_ret
      exact ⟨rfl, HKz.out⟩
end Go.Proofs.Ytahgplfkgijecaa
