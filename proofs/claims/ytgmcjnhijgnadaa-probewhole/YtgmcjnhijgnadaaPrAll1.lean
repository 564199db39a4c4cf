/- The landed probe is as it must be; nil doubts; four of the laws, of the landed code. -/
import Derived.Test.YtgmcjnhijgnadaaPrOpen
import Derived.Test.YtgmcjnhijgnadaaPrCode7
namespace Go.Proofs.Ytgmcjnhijgnadaa
open Go.ChangeShapes Go.WideShapes Go.ChangeAt Go.RowKit Go.Joins Go.Deep
set_option linter.unusedVariables false
set_option linter.unusedSimpArgs false
set_option maxRecDepth 100000

theorem probe_is : ProbeIs PrT where
  obj := pr_obj
  new_ok := fun self n w h1 h2 h3 h4 => prnew_ok self n w h1 h2 h3 h4
  new_bad := fun self n w h1 h2 h => prnew_no self n w h1 h2 h
  tick := fun X p F x hs hv w h gp ht hx hx2 hu hl hr => prtick_any X p F x hs hv w h gp hx hx2 hu hl hr
  answer := fun X p F a w h gp h1 h2 => pranswer_any X p F a w h (by
    have h1 := wl_dom gp.once (gp_ok gp)
    have h2 := dom_le (wl p.waits)
    omega) gp.once
  waits := fun X p F w h gp => prwaits_any X p F w h (by
    have h1 := wl_dom gp.once (gp_ok gp)
    have h2 := dom_le (wl p.waits)
    omega)
  tick_nil := fun x w h1 h2 => prtick_nil x w
  answer_nil := fun a w h1 h2 => pranswer_nil a w
  waits_nil := fun w => prwaits_nil w
theorem prbegin_nil (node inc now : Int) (w : World) : Calls Try.prog 20 #[.pointer none, .int .u8 node, .int .u32 inc, .int .u64 now] w fun e w' => e = .returned (.bool false) ∧ Kept w w' := by
  go_enter Try.func20, Try.ntmps20
  go_wp2
  go_ret
  exact ⟨rfl, kept_refl _⟩
theorem prend_nil (node inc : Int) (w : World) : Calls Try.prog 21 #[.pointer none, .int .u8 node, .int .u32 inc] w fun e w' => e = .returned (.bool false) ∧ Kept w w' := by
  go_enter Try.func21, Try.ntmps21
  go_wp2
  go_ret
  exact ⟨rfl, kept_refl _⟩
theorem prover_nil (now : Int) (w : World) : Calls Try.prog 22 #[.pointer none, .int .u64 now] w fun e w' => ∃ a cap, e = .returned (.slice a 0 cap) ∧ Kept w w' := by
  go_enter Try.func22, Try.ntmps22
  go_wp2
  go_ret
  exact ⟨_, _, rfl, kept_refl _⟩
set_option maxHeartbeats 3200000 in
theorem nil_walk2 {T : Shape Pb} (hT : ProbeIs T) (x node inc : Int) (hx : 0 ≤ x) (hx2 : x < 18446744073709551616) (hn : 0 ≤ node) (hn2 : node < 256) (w : World) : Calls Try.prog 7 #[.int .u64 x, .int .u8 node, .int .u32 inc] w fun e w' => e = .returned (.bool true) ∧ Kept w w' := by
  have HF := hid (fixed_any hT w)
  have H1 := hid (fun u => hT.tick_nil x u hx hx2)
  have H2 := hid (fun u => hT.answer_nil node u hn hn2)
  have H3 := hid (fun u => hT.waits_nil u)
  have H4 := hid (fun u => prbegin_nil node inc x u)
  have H5 := hid (fun u => prend_nil node inc u)
  have H6 := hid (fun u => prover_nil x u)
  have hz := zeroR
  clear hT hx hx2 hn hn2
  go_enter Try.func7, Try.ntmps7
  go_wp2_with fail
  refine HF.out.mono ?_
  rintro e w1 ⟨rfl, k1⟩
  have HK1 := hid k1
  clear k1 HF
  go_wp2_with fail
  refine (H1.out w1).mono ?_
  rintro e w2 ⟨pv, av, fv, rfl, r2, k2⟩
  have hS := sameR_any ⟨[], [], []⟩ (by decide) (by unfold U8; simp) (by unfold U8; simp) pv av fv (.slice none 0 0) (.slice none 0 0) (.slice none 0 0) w2 r2 ⟨rg_nil _ _ _, rg_nil _ _ _, rg_nil _ _ _⟩
  have HK2 := hid (kept_trans HK1.out k2)
  clear r2 k2 HK1 H1
  go_wp2_with fail
  refine hS.mono ?_
  rintro e w3 ⟨rfl, k3⟩
  have HK3 := hid (kept_trans HK2.out k3)
  clear hS k3 HK2
  go_wp2_with fail
  refine (H2.out w3).mono ?_
  rintro e w4 ⟨rfl, k4⟩
  have HK4 := hid (kept_trans HK3.out k4)
  clear k4 HK3
  go_wp2_with fail
  refine (H3.out w4).mono ?_
  rintro e w5 ⟨a5, c5, rfl, k5⟩
  have HK5 := hid (kept_trans HK4.out k5)
  clear k5 HK4
  go_wp2_with fail
  refine (H4.out w5).mono ?_
  rintro e w6 ⟨rfl, k6⟩
  have HK6 := hid (kept_trans HK5.out k6)
  clear k6 HK5
  go_wp2_with fail
  refine (H5.out w6).mono ?_
  rintro e w7 ⟨rfl, k7⟩
  have HK7 := hid (kept_trans HK6.out k7)
  clear k7 HK6
  go_wp2_with fail
  refine (H6.out w7).mono ?_
  rintro e w8 ⟨a8, c8, rfl, k8⟩
  have HK8 := hid (kept_trans HK7.out k8)
  clear k8 HK7
  go_wp2_with fail
  go_ret
  exact ⟨rfl, HK8.out⟩
theorem plays_all {v : Value} (s n : Int) (l : List Opn) (w : World) (ws : (Lit.int .u8 s).wf = true) (wn : (Lit.int .i64 n).wf = true) (h : Rg encO 4 w v l) (hl : ∀ o ∈ l, OpOk w o) : Calls Try.prog 3 #[.int .u8 s, .int .i64 n, v] w fun e w' => e = .returned (.bool true) ∧ Kept w w' := plays_of probe_is s n l w ws wn h hl
theorem turns_all {v : Value} (s n : Int) (l : List Int) (w : World) (ws : (Lit.int .u8 s).wf = true) (wn : (Lit.int .u8 n).wf = true) (h : Rg encX 1 w v l) (hl : ∀ x ∈ l, 0 ≤ x ∧ x < 18446744073709551616) : Calls Try.prog 4 #[.int .u8 s, .int .u8 n, v] w fun e w' => e = .returned (.bool true) ∧ Kept w w' := turns_of probe_is s n l w ws wn h hl
theorem fails_all {v : Value} (s n : Int) (l : List Opn) (w : World) (ws : (Lit.int .u8 s).wf = true) (wn : (Lit.int .u8 n).wf = true) (h : Rg encO 4 w v l) (hl : ∀ o ∈ l, OpOk w o) : Calls Try.prog 5 #[.int .u8 s, .int .u8 n, v] w fun e w' => e = .returned (.bool true) ∧ Kept w w' := fails_of probe_is s n l w ws wn h hl
theorem nil_all (x node inc : Int) (w : World) (wx : (Lit.int .u64 x).wf = true) (wn : (Lit.int .u8 node).wf = true) (wi : (Lit.int .u32 inc).wf = true) : Calls Try.prog 7 #[.int .u64 x, .int .u8 node, .int .u32 inc] w fun e w' => e = .returned (.bool true) ∧ Kept w w' := nil_walk2 probe_is x node inc (by have := bounds_u64 wx; omega) (by have := bounds_u64 wx; omega) (okU_wf wn).1 (okU_wf wn).2 w
end Go.Proofs.Ytgmcjnhijgnadaa
