/- The contract of the feed's Take: it tells what the plain machine tells of these bytes, and stands as that does behind them. The text has at most 2^32 bytes. -/
import Derived.Test.YtjlojkcdglocbaaFeedStep
namespace Go.Proofs.Ytjlojkcdglocbaa
open Go.ChangeShapes Go.WideShapes Go.ChangeAt Go.RowKit
set_option linter.unusedVariables false
set_option linter.unusedSimpArgs false

def sizeV : Value → Nat
  | .string s => s.size
  | _ => 0
theorem over_abs (f : Fd) : overS (absF f) = isOver f.p := by
  obtain ⟨p, h, st, l⟩ := f
  cases p using Pn.each <;> rfl
def TakeC (B F : Nat) (f0 : Fd) (s0 : ByteArray) (w : World) (e : Ending) (w' : World) : Prop := ∃ v f', e = .returned v ∧ RowC w.heap.size w' v (runB (absF f0) s0.data.toList).1 ∧ FeedAt B w' F f' ∧ okF f' ∧ absF f' = (runB (absF f0) s0.data.toList).2 ∧ Fr B F w w'
theorem round_less {f f1 : Fd} {s r : ByteArray} {t : Td} (h : StepOk f s.data.toList r.data.toList t f1) : 3 * r.size + phase f1.p < 3 * s.size + phase f.p ∧ r.size ≤ s.size := by
  have h1 := h.2.2.1
  have h2 := phase_le f.p
  rw [← size_list, ← size_list] at h1
  omega
theorem run_few (f0 : Fd) (hok : okF f0) (s0 : List UInt8) {ps : List (Td × Value)} {l : List Td} {σ : Fs} (h : runB (absF f0) s0 = (ps.map Prod.fst ++ l, σ)) : ps.length + l.length ≤ s0.length := by
  have := (run_ok s0 hok.1).2.2
  rw [h] at this
  simpa using this
set_option maxHeartbeats 1600000 in
set_option maxRecDepth 100000 in
theorem Take_any (B F : Nat) (f0 : Fd) (hok0 : okF f0) (s0 : ByteArray) (hsz : s0.size ≤ 4294967296) (w : World) (hf0 : FeedAt B w F f0) :
    Calls Try.prog 15 #[.pointer (some ⟨F, 0, none⟩), .string s0] w (TakeC B F f0 s0 w) := by
  have hz := zero26
  have HF0 := hid hf0
  have HK0 := hid hok0
  have HZ := hid hsz
  clear hf0 hok0 hsz
  go_enter Try.func15, Try.ntmps15
  go_wp2_with fail
  go_loopw [1, 5] (fun v1 v5 wr => ∃ (s : ByteArray) (f : Fd) (ps : List (Td × Value)), v1 = .string s ∧ Hid (RowP w.heap.size wr v5 ps) ∧ Hid (FeedAt B wr F f) ∧ Hid (okF f) ∧ Hid (s.size ≤ s0.size) ∧ Hid (Fr B F w wr) ∧ Hid (runB (absF f0) s0.data.toList = (ps.map Prod.fst ++ (runB (absF f) s.data.toList).1, (runB (absF f) s.data.toList).2))) (fun v1 v5 wr => 3 * sizeV v1 + phaseV (wr.cell? ⟨F, 0, none⟩))
  case atStart => exact ⟨s0, f0, [], rfl, rowp_nil _ _, HF0, HK0, Nat.le_refl _, fr_refl B F w, by show _ = _; simp⟩
  case round =>
    obtain ⟨s, f, ps, rfl, HRow, HF, HK, HSz, HFr, HRun⟩ := hrel
    obtain ⟨hv, kv, g⟩ := HF.out
    have HG := hid g
    clear g
    by_cases h0 : s.data.toList = []
    · have hs : s = ⟨#[]⟩ := ext_ba h0
      subst hs
      clear h0
      go_wp2_with fail
      go_ret
      refine ⟨_, f, rfl, ⟨ps, ?_, HRow.out⟩, HF.out, HK.out, ?_, HFr.out⟩
      · rw [HRun.out]; simp [runB]
      · rw [HRun.out]; simp [runB]
    · have hne : ¬ s.toList = [] := by rw [Lib.toList_data]; exact h0
      have hnb : s.toList.isEmpty = false := by simpa using hne
      have H0 := hid h0
      clear h0
      cases ho : isOver f.p with
      | true =>
        go_wp2_with fail
        refine (over_any B F _ _ _ _ _ _ _ HG.out).mono ?_
        rintro e w1 ⟨rfl, hw⟩
        rw [hw]; clear hw w1
        rw [ho]
        have HA : Hid (absF f = .over) := by
          show _ = _
          have := over_abs f
          rw [ho] at this
          cases h : absF f using Fs.each <;> rw [h] at this <;> first | rfl | cases this
        clear ho
        go_wp2_with fail
        go_ret
        refine ⟨_, f, rfl, ⟨ps, ?_, HRow.out⟩, HF.out, HK.out, ?_, HFr.out⟩
        · rw [HRun.out, HA.out, runB_over]; simp
        · rw [HRun.out, HA.out, runB_over]
      | false =>
        go_wp2_with fail
        refine (over_any B F _ _ _ _ _ _ _ HG.out).mono ?_
        rintro e w1 ⟨rfl, hw⟩
        rw [hw]; clear hw w1
        rw [ho]
        have HE := hid (enters_fn f.p ho)
        have HNx := hid (next_fn F f.p ho)
        have HStep := hid (step_any B F f HK.out ho s H0.out (Nat.le_trans HSz.out HZ.out) wr HF.out)
        have HPh : Hid (phaseV (wr.cell? ⟨F, 0, none⟩) = phase f.p) := by
          show _ = _
          rw [at_cell HG.out.2.1 0]
          exact phaseV_next F f.p
        clear ho
        obtain ⟨c0, c1, c2, c3, c4, c5, c6, c7, c8, c9, cf⟩ := at_cells10 HG.out.2.1
        rw [HNx.out] at c0
        have hE := HE.out
        generalize fnOf f.p = fn at *
        go_wp2_with fail
        refine HStep.out.mono ?_
        rintro e w1 ⟨r, t, f1, kt, rfl, hso, hfd, hkt, hfr⟩
        obtain ⟨ka, km, kc, rfl⟩ := keys_slice hkt
        have HRow1 := hid (rowp_fr HRow.out hfr HG.out.2.1 (fa_text HG.out))
        have HFr1 := hid (fr_trans HFr.out hfr)
        have HLess := hid (round_less hso)
        have HRun1 : Hid (runB (absF f0) s0.data.toList = (ps.map Prod.fst ++ tell t ++ (runB (absF f1) r.data.toList).1, (runB (absF f1) r.data.toList).2)) := by
          show _ = _
          rw [HRun.out, hso.1, List.append_assoc]
        have HOk1 := hid hso.2.1
        have HSz1 : Hid (r.size ≤ s0.size) := Nat.le_trans HLess.out.2 HSz.out
        have HF1 := hid hfd
        have HKt := hid hkt
        have HBs : Hid (w.heap.size ≤ w1.heap.size) := HFr1.out.2.2.1
        clear hso hfd hkt hfr c0 c1 c2 c3 c4 c5 c6 c7 c8 c9 cf HStep HE HNx hE HRow HFr HRun HF HK HG
        by_cases hk0 : t.c.kind = 0
        · have hkb : (t.c.kind != 0) = false := by simp [hk0]
          have HT : Hid (tell t = []) := by show _ = _; simp [tell, hk0]
          have HKp : Hid (Kept w1 (w1.alloc (.cells #[.int .i64 t.c.kind, .slice ka km kc, .int .u32 t.c.flags, .int .i64 t.c.exp, .string t.body, .bool t.c.quiet, .string t.c.reply] 38))) := kept_alloc (kept_refl w1) _
          clear hk0
          go_wp2_with fail
          go_roundw
          case rel =>
            refine ⟨r, f1, ps, rfl, rowp_kept HRow1.out HKp.out, ?_, HOk1, HSz1, fr_trans HFr1.out (fr_kept HKp.out), ?_⟩
            · obtain ⟨hv1, kv1, g1⟩ := HF1.out
              exact ⟨hv1, kv1, fa_kept g1 HKp.out⟩
            · show _ = _
              rw [HRun1.out, HT.out, List.append_nil]
          case measure =>
            obtain ⟨hv1, kv1, g1⟩ := HF1.out
            have h1 := HLess.out.1
            have h2 := HPh.out
            have h3 := at_cell (fa_kept g1 HKp.out).2.1 0
            rw [h2]
            simp only [sizeV, Array.getD_eq_getD_getElem?]
            rw [show (w1.alloc (.cells #[.int .i64 t.c.kind, .slice ka km kc, .int .u32 t.c.flags, .int .i64 t.c.exp, .string t.body, .bool t.c.quiet, .string t.c.reply] 38)).cell? ⟨F, 0, none⟩ = some (nextV F f1.p) from h3, phaseV_next]
            simpa [sizeV] using h1
        · have hkb : (t.c.kind != 0) = true := by simp [hk0]
          have HT : Hid (tell t = [t]) := by show _ = _; simp [tell, hk0]
          have HKp : Hid (Kept w1 (w1.alloc (.cells #[.int .i64 t.c.kind, .slice ka km kc, .int .u32 t.c.flags, .int .i64 t.c.exp, .string t.body, .bool t.c.quiet, .string t.c.reply] 38))) := kept_alloc (kept_refl w1) _
          have HKp2 : Hid (Kept w1 ((w1.alloc (.cells #[.int .i64 t.c.kind, .slice ka km kc, .int .u32 t.c.flags, .int .i64 t.c.exp, .string t.body, .bool t.c.quiet, .string t.c.reply] 38)).alloc (.cells #[.int .i64 t.c.kind, .slice ka km kc, .int .u32 t.c.flags, .int .i64 t.c.exp, .string t.body, .bool t.c.quiet, .string t.c.reply] 38))) := kept_alloc HKp.out _
          have hlen : ps.length + 1 ≤ 4294967300 := by
            have h1 := run_few f0 HK0.out s0.data.toList (l := tell t ++ (runB (absF f1) r.data.toList).1) (by rw [HRun1.out, List.append_assoc])
            rw [← size_list] at h1
            have h2 := HZ.out
            rw [HT.out] at h1
            simp at h1
            omega
          obtain ⟨v2, w2, hap, hrow2, hrowa, hgr, va, vn, vc, rfl⟩ := row_push (rowp_kept HRow1.out HKp.out) t (.slice ka km kc) (keys_kept HKt.out HKp.out) (Nat.le_trans HBs.out HKp.out.2) hlen
          rw [World.size_alloc] at hap
          have HAp := hid hap
          have HRow2 := hid hrow2
          have HG2 : Hid (FeedAt B w2 F f1) := by
            obtain ⟨hv1, kv1, g1⟩ := HF1.out
            exact ⟨hv1, kv1, fa_grown hrowa hgr (fa_kept g1 HKp2.out)⟩
          have HFr2 : Hid (Fr B F w w2) := fr_grown hrowa hgr (fr_trans HFr1.out (fr_kept HKp2.out)) (Nat.le_refl _)
          clear hk0 hap hrow2 hrowa hgr hlen
          go_wp2_with (at_builtin; go_must (refine wpList_run rfl (.tmp 27) (.tmp 29) 26 26 rfl _ _ (.slice va vn vc) rfl rfl HAp.out ?_))
          go_roundw
          case rel =>
            refine ⟨r, f1, ps ++ [(t, .slice ka km kc)], rfl, HRow2, HG2, HOk1, HSz1, HFr2, ?_⟩
            show _ = _
            rw [HRun1.out, HT.out]
            simp
          case measure =>
            obtain ⟨hv1, kv1, g1⟩ := HG2.out
            have h1 := HLess.out.1
            have h2 := HPh.out
            have h3 := at_cell g1.2.1 0
            rw [h2]
            rw [show w2.cell? ⟨F, 0, none⟩ = some (nextV F f1.p) from h3, phaseV_next]
            simpa [sizeV] using h1
theorem Take_nil (s : ByteArray) (hs : ¬ s.toList = []) (w : World) : Calls Try.prog 15 #[.pointer none, .string s] w fun e w' => e = .returned (.slice none 0 0) ∧ w' = w := by
  have hnb : s.toList.isEmpty = false := by simpa using hs
  go_enter Try.func15, Try.ntmps15
  go_wp2_with fail
  go_loopw [1, 5] (fun v1 v5 wr => v1 = .string s ∧ v5 = .slice none 0 0 ∧ Hid (wr = w)) (fun v1 v5 wr => 0)
  case atStart => exact ⟨rfl, rfl, rfl⟩
  case round =>
    obtain ⟨rfl, rfl, hw⟩ := hrel
    go_wp2_with fail
    refine (over_nil _).mono ?_
    rintro e w1 ⟨rfl, hw1⟩
    rw [hw1]; clear hw1 w1
    go_wp2_with fail
    go_ret
    exact ⟨rfl, hw.out⟩
end Go.Proofs.Ytjlojkcdglocbaa
