/- The contract of the landed probe's Tick, walked. -/
import Derived.Test.YtgmcjnhijgnadaaPrCode6
namespace Go.Proofs.Ytgmcjnhijgnadaa
open Go.ChangeShapes Go.WideShapes Go.ChangeAt Go.RowKit
set_option linter.unusedVariables false
set_option linter.unusedSimpArgs false
set_option maxRecDepth 100000

theorem row_is {p : Pb} {L : Nat} (hL : L = p.n - 1) (x : Int) : rowN L p.place x p.row = rowT p x ∧ placeN L p.place = placeT p := by
  subst hL
  unfold rowN rowT placeN placeT
  rw [show p.n - 1 - 1 = p.n - 2 by omega]
  exact ⟨rfl, rfl⟩
set_option maxHeartbeats 25600000 in
theorem prtick_any (X : Nat) (p : Pb) (F : Nat → Prop) (x : Int) (hs : List Int) (hv : Value) (w : World) (h : PrT w X p F) (gp : Gp p) (hx : 0 ≤ x) (hx2 : x < 18446744073709551616) (hu : U8 hs) (hl : hs.length ≤ 100) (hr : Rg encU 1 w hv hs) : Calls Try.prog 13 #[.pointer (some ⟨X, 0, none⟩), .int .u64 x, hv] w (TickC PrT X (tickP p x) (tickR p x hs) F w) := by
  obtain ⟨rv, wv, hX, hR, hW, hF⟩ := h
  have HGp := hid gp
  have HF := hid hF
  have HX := hid hX
  have HR := hid hR
  have HW := hid hW
  have HH := hid hr
  have HWl : Hid (p.waits.length ≤ 256) := hid (by
    have h1 := wl_dom gp.once (gp_ok gp)
    have h2 := dom_le (wl p.waits)
    omega)
  have HAs : Hid (∀ (target : Int) (u : World), Kept w u → Calls Try.prog 26 #[.pointer (some ⟨X, 0, none⟩), .int .u8 target, .int .u64 x, hv] u (GRowC encA 2 80 (mkA target (twoH p.self p.n x hs target)) u)) := hid (fun target u k => by
    have := asks_any (w := u) target x hx hx2 hs hu hl hv (at_kept hX k) (rg_own encU_ok (og_stays hR k)) (rg_kept encU_ok hr k)
    rw [gp_len gp, show p.n - 1 + 1 = p.n by have := gp.n1; omega] at this
    exact this)
  have HPi : Hid (∀ (G cap : Nat) (wv' : Value) (ws : List Wt) (u : World), p.n ≠ 1 → ws.length ≤ 256 → Pm u X p.self (.slice (some ⟨G, 0, none⟩) p.row.length cap) p.place wv' p.row ws → Calls Try.prog 27 #[.pointer (some ⟨X, 0, none⟩), .int .u64 x] u (PingC X G p.row.length cap p.self p.place wv' p.row ws x u)) := hid (fun G cap wv' ws u hn hws hP => ping_any (by rw [gp_len gp]; have := gp.n1; omega) (by rw [gp_len gp]; have := gp.n2; omega) (by rw [gp_len gp]; exact gp.pl) hws x hx hx2 u hP)
  obtain ⟨wa, wc, hwv, hb1, hb2⟩ := og_is encW_ok hW
  have hwl : (agW p.ticks p.waits).length = p.waits.length := by unfold agW; rw [List.length_map]
  rw [hwl] at hwv hb1
  subst hwv
  have HQ : Hid (0 < p.waits.length → ∃ g, wa = some ⟨g, 0, none⟩) := hid (fun hp => by
    rcases hW.2 with ⟨e, h0⟩ | ⟨g, cc, cur, e, _⟩
    · rw [hwl] at h0; omega
    · injection e with e1
      exact ⟨g, e1⟩)
  obtain ⟨ra, rc, hrv, -, -⟩ := og_is encU_ok hR
  subst hrv
  obtain ⟨ha0, hac, rfl, -, -, -, -⟩ := hr
  have hz := zeroR
  have hzw := zeroPW
  -- the two boxes
  have k0 := kept_alloc (kept_refl w) (.cells #[.slice none 0 0, .slice none 0 0, .slice none 0 0] 39)
  have a0 := at_new w #[.slice none 0 0, .slice none 0 0, .slice none 0 0] 39
  obtain ⟨w0, hw0⟩ : ∃ u, w.alloc (.cells #[.slice none 0 0, .slice none 0 0, .slice none 0 0] 39) = u := ⟨_, rfl⟩
  obtain ⟨Y6, hY6⟩ : ∃ u, w.heap.size = u := ⟨_, rfl⟩
  rw [hw0] at k0 a0
  rw [hY6] at a0
  have k1 := kept_alloc (kept_refl w0) (.cells #[.slice none 0 0, .slice none 0 0, .slice none 0 0] 39)
  have b1 := at_new w0 #[.slice none 0 0, .slice none 0 0, .slice none 0 0] 39
  obtain ⟨w1, hw1⟩ : ∃ u, w0.alloc (.cells #[.slice none 0 0, .slice none 0 0, .slice none 0 0] 39) = u := ⟨_, rfl⟩
  obtain ⟨Y7, hY7⟩ : ∃ u, w0.heap.size = u := ⟨_, rfl⟩
  rw [hw1] at k1 b1
  rw [hY7] at b1
  have HTy : Hid (Ty w Y6 Y7 (Y7 + 1)) := hid ⟨by omega, by have := at_lt a0; omega, by omega⟩
  have HT0 : Hid (TK w Y6 Y7 (Y7 + 1) (.slice none 0 0) (.slice none 0 0) (.slice none 0 0) [] [] [] w1) := hid ⟨at_kept a0 k1, b1, og_nil _ _ _ _ _, og_nil _ _ _ _ _, og_nil _ _ _ _ _, kept_trans k0 k1, by have := at_lt b1; omega⟩
  obtain ⟨q0, q1, q2, q3⟩ := at_cells4 (at_kept hX (kept_trans k0 k1))
  have HXB : Hid (X < w.heap.size ∧ ∀ b, (Value.slice ra p.row.length rc).ownBlock = some b → b < Y7 + 1) := hid ⟨at_lt hX, fun b hb => by have := (World.ownsRow.lt hR b hb).2; have := at_lt a0; omega⟩
  clear a0 b1 k0 k1 hX hR hW hF gp hwl hb1 hu hx hx2
  obtain ⟨m, hm⟩ : ∃ m, p.waits.length = m := ⟨_, rfl⟩
  have HM := hid hm
  rw [hm] at q3 HQ HWl HX
  simp only [hm] at HW ⊢
  clear hm
  obtain ⟨t, ht⟩ : ∃ t, p.ticks = t := ⟨_, rfl⟩
  have HTk := hid ht
  have HWt : Hid (∀ k, k < m → ∃ y, p.waits[k]? = some y ∧ y.since ≤ t ∧ t ≤ y.since + 1) := hid (fun k hk => by
    have hk2 : k < p.waits.length := by rw [HM.out]; exact hk
    refine ⟨p.waits[k], List.getElem?_eq_getElem hk2, ?_⟩
    have := HGp.out.wait _ (List.getElem_mem hk2)
    rw [← ht]
    exact this.2)
  rw [ht] at HW
  clear ht
  go_enter Try.func13, Try.ntmps13
  go_wp2_with fail
  clear hw0 hw1 hY6 hY7 q0 q1 q2 q3
  go_loopw [8, 19] (fun sv j wr => ∃ (k : Nat) (av fv : Value), k ≤ m ∧ j = .int .i64 (k : Int) ∧ Hid (TK w Y6 Y7 (Y7 + 1) sv av fv (agW (t + 1) (leftW (t + 1) (p.waits.take k))) (asksW p.self p.n x hs (t + 1) (p.waits.take k)) (failW (t + 1) (p.waits.take k)) wr)) (fun _ j _ => m - (intOf j).toNat)
  case atStart => exact ⟨0, _, _, Nat.zero_le _, rfl, HT0⟩
  case round =>
    obtain ⟨k, av, fv, hk, rfl, HT⟩ := hrel
    clear HT0
    by_cases hlt : k < m
    · have hltz : (k : Int) < (m : Int) := by omega
      have hm256 : m ≤ 256 := HWl.out
      obtain ⟨y, hy, hy1, hy2⟩ := HWt.out k hlt
      obtain ⟨g9, rfl⟩ := HQ.out (by omega)
      obtain ⟨c0, c1⟩ := rg_W (rg_own encW_ok (og_stays HW.out HT.out.k)) (ag_at (t := t) hy)
      rw [Nat.zero_add] at c0 c1
      have HFn := hid (fail_next hy (t + 1))
      have HLn := hid (ag_left hy hy1)
      have HAn := hid (asks_next hy p.self p.n x hs (t + 1))
      have HLt := hid (late_is hy1)
      have HAl : Hid ((asksW p.self p.n x hs (t + 1) (p.waits.take k)).length ≤ 1000) := hid (by
        have h1 := asks_len p.self p.n x hs (t + 1) (p.waits.take k)
        rw [List.length_take] at h1
        have := HWl.out
        omega)
      have HFl : Hid ((failW (t + 1) (p.waits.take k)).length ≤ 1000) := hid (by
        unfold failW
        rw [List.length_map]
        have h1 := List.length_filter_le (late (t + 1)) (p.waits.take k)
        rw [List.length_take] at h1
        have := HWl.out
        omega)
      have HLl : Hid ((agW (t + 1) (leftW (t + 1) (p.waits.take k))).length ≤ 1000) := hid (by
        unfold agW leftW
        rw [List.length_map]
        have h1 := List.length_filter_le (fun z => !late (t + 1) z) (p.waits.take k)
        rw [List.length_take] at h1
        have := HWl.out
        omega)
      obtain ⟨ag, hag⟩ : ∃ ag, t - y.since = ag := ⟨_, rfl⟩
      rw [hag] at HLn HLt
      simp only [hag] at c1
      have hag1 : ag ≤ 1 := by omega
      have hwa : IntKind.i64.wrap ((ag : Int) + 1) = (ag : Int) + 1 := IntWalk.i64_in _ (by omega)
      clear hy hy1 hy2 hag
      have HKb := hid (kept_alloc (kept_refl wr) (.cells #[.int .u8 y.node, .int .i64 ((ag : Int) + 1)] 86))
      have HBx : Hid (At (wr.alloc (.cells #[.int .u8 y.node, .int .i64 ((ag : Int) + 1)] 86)) wr.heap.size #[.int .u8 y.node, .int .i64 ((ag + 1 : Nat) : Int)] 86) := hid (at_new wr #[.int .u8 y.node, .int .i64 ((ag : Int) + 1)] 86)
      have HTb := hid (tk_kept HT.out HKb.out)
      obtain ⟨-, x1, x2⟩ := at_cells3' HTb.out.y7
      by_cases hlate : 1 < ag + 1
      · have hd : (1 : Int) < (ag : Int) + 1 := by omega
        have HL1 : Hid (late (t + 1) y = true) := hid (by rw [HLt.out]; exact decide_eq_true hlate)
        have kc := kept_alloc (kept_refl (wr.alloc (.cells #[.int .u8 y.node, .int .i64 ((ag : Int) + 1)] 86))) (.cells #[.int .u8 y.node] 5)
        have HTc := hid (tk_kept HTb.out kc)
        have HAo : Hid (Rg encU 1 ((wr.alloc (.cells #[.int .u8 y.node, .int .i64 ((ag : Int) + 1)] 86)).alloc (.cells #[.int .u8 y.node] 5)) (.slice (some ⟨wr.heap.size + 1, 0, none⟩) 1 1) [y.node]) := hid (by
          have h9 := rg_alone encU_ok (y := y.node) (at_new (wr.alloc (.cells #[.int .u8 y.node, .int .i64 ((ag : Int) + 1)] 86)) #[.int .u8 y.node] 5)
          rw [World.size_alloc] at h9
          exact h9)
        obtain ⟨fa, fc, hfv, -, -⟩ := og_is encU_ok HT.out.f
        obtain ⟨fl, hfl⟩ : ∃ fl, (failW (t + 1) (p.waits.take k)).length = fl := ⟨_, rfl⟩
        rw [hfl] at hfv
        subst hfv
        clear hlate hag1 kc hfl
        go_wp2_with (at_builtin; go_must (refine wpList_gapp rfl (.tmp 31) (.tmp 34) rfl encU_ok tyU (by decide) (Y7 + 1) _ _ _ [y.node] rfl HTc.out.f rfl HAo.out (by have := HFl.out; simp; omega) HTc.out.b ?_; intro v3 w3 hown3 hgrow3 hnil3; have HT3 := hid (tk_fail HTy.out HTc.out hown3 hgrow3); have hy3 := at_beside HTc.out.y7 HTc.out.f (by decide) hgrow3; obtain ⟨y0, y1, y2⟩ := at_cells3' hy3; have yf := at_frozen hy3; obtain ⟨va, vc, hv3, -, -⟩ := og_is encU_ok hown3; obtain ⟨ln, hln⟩ : ∃ ln, (failW (t + 1) (p.waits.take k) ++ [y.node]).length = ln := ⟨_, rfl⟩; rw [hln] at hv3; clear hln hown3 hgrow3 hnil3 hy3; subst hv3))
        go_roundw
        case rel =>
          refine ⟨k + 1, av, .slice va ln vc, by omega, by go_num, hid ?_⟩
          rw [HLn.out, HAn.out, HFn.out, HL1.out, if_pos rfl, if_pos rfl, if_pos rfl, List.append_nil, List.append_nil]
          exact HT3.out
        case measure => simp [intOf]; omega
      · have hd : ¬ (1 : Int) < (ag : Int) + 1 := by omega
        have HL1 : Hid (late (t + 1) y = false) := hid (by rw [HLt.out]; exact decide_eq_false hlate)
        have hBd := at_drew HBx.out
        have HTd := hid (tk_kept HTb.out (kept_drew (kept_refl (wr.alloc (.cells #[.int .u8 y.node, .int .i64 ((ag : Int) + 1)] 86)))))
        have hC := HAs.out y.node _ HTd.out.k
        obtain ⟨-, d1, -⟩ := at_cells3' HTd.out.y7
        obtain ⟨aa, ac, hav, -, -⟩ := og_is encA_ok HT.out.a
        obtain ⟨al, hal⟩ : ∃ al, (asksW p.self p.n x hs (t + 1) (p.waits.take k)).length = al := ⟨_, rfl⟩
        rw [hal] at hav
        subst hav
        have hS0 : (wr.alloc (.cells #[.int .u8 y.node, .int .i64 ((ag : Int) + 1)] 86)).cell? ⟨wr.heap.size, 0, none⟩ = some (.int .u8 y.node) := at_cell HBx.out 0
        have hSd : (wr.alloc (.cells #[.int .u8 y.node, .int .i64 ((ag : Int) + 1)] 86)).drew.cell? ⟨wr.heap.size, 0, none⟩ = some (.int .u8 y.node) := at_cell hBd 0
        have HTwo : Hid ((mkA y.node (twoH p.self p.n x hs y.node)).length ≤ 2) := hid (by rw [mkA_len]; exact two_len _ _ _ _ _)
        have HSame := hid (mkA_asks p.self p.n x hs y)
        clear hlate hag1 hal HT HTb HBx
        obtain ⟨Zb, hZb⟩ : ∃ u, wr.heap.size = u := ⟨_, rfl⟩
        rw [hZb] at hBd hS0 hSd
        go_wp2_with fail
        clear hZb hwa hd c0 c1
        refine wp_region_noPanic ?_
        refine wp_region_held_drew (S := (fun w' => (w'.cell? ⟨Zb, 0, none⟩ = some (.int .u8 y.node)))) (by kernel_rfl) (by assumption) (fun hHeld => ?_)
        generalize (wr.alloc (.cells #[.int .u8 y.node, .int .i64 ((ag : Int) + 1)] 86)).drew = wb at *
        refine wpAnyH_take (i := 0) (v := .pointer (some ⟨Y7, 1, none⟩)) rfl (by kernel_rfl) (by kernel_rfl) (by kernel_rfl) (fun _ _ _ h => h) (Or.inl ⟨by rfl, fun w hSw => by (try dsimp only at hSw); go_simp⟩) (by assumption) ?_
        try simp only [List.getElem_toArray, List.getElem_cons_zero, List.getElem_cons_succ, Act.put, List.setIfInBounds_toArray, List.set_cons_zero, List.set_cons_succ]
        refine wpAnyH_take (i := 2) (v := .pointer (some ⟨X, 0, none⟩)) rfl (by kernel_rfl) (by kernel_rfl) (by kernel_rfl) (fun _ _ _ h => h) (Or.inl ⟨by rfl, fun w hSw => by (try dsimp only at hSw); go_simp⟩) (by assumption) ?_
        try simp only [List.getElem_toArray, List.getElem_cons_zero, List.getElem_cons_succ, Act.put, List.setIfInBounds_toArray, List.set_cons_zero, List.set_cons_succ]
        refine wpAnyH_take (i := 3) (v := .pointer (some ⟨Zb, 0, none⟩)) rfl (by kernel_rfl) (by kernel_rfl) (by kernel_rfl) (fun _ _ _ h => h) (Or.inl ⟨by rfl, fun w hSw => by (try dsimp only at hSw); go_simp⟩) (by assumption) ?_
        try simp only [List.getElem_toArray, List.getElem_cons_zero, List.getElem_cons_succ, Act.put, List.setIfInBounds_toArray, List.set_cons_zero, List.set_cons_succ]
        refine wpAnyH_take (i := 4) (v := .int .u8 y.node) rfl (by kernel_rfl) (by kernel_rfl) (by kernel_rfl) (fun _ _ _ h => h) (Or.inl ⟨by rfl, fun w hSw => by (try dsimp only at hSw); go_simp⟩) (by assumption) ?_
        try simp only [List.getElem_toArray, List.getElem_cons_zero, List.getElem_cons_succ, Act.put, List.setIfInBounds_toArray, List.set_cons_zero, List.set_cons_succ]
        refine wpAnyH_take (i := 5) (v := .int .u64 x) rfl (by kernel_rfl) (by kernel_rfl) (by kernel_rfl) (fun _ _ _ h => h) (Or.inl ⟨by rfl, fun w hSw => by (try dsimp only at hSw); go_simp⟩) (by assumption) ?_
        try simp only [List.getElem_toArray, List.getElem_cons_zero, List.getElem_cons_succ, Act.put, List.setIfInBounds_toArray, List.set_cons_zero, List.set_cons_succ]
        refine wpAnyH_take (i := 6) (v := .slice ha0 hs.length hac) rfl (by kernel_rfl) (by kernel_rfl) (by kernel_rfl) (fun _ _ _ h => h) (Or.inl ⟨by rfl, fun w hSw => by (try dsimp only at hSw); go_simp⟩) (by assumption) ?_
        try simp only [List.getElem_toArray, List.getElem_cons_zero, List.getElem_cons_succ, Act.put, List.setIfInBounds_toArray, List.set_cons_zero, List.set_cons_succ]
        refine wpAnyH_ready (rs := [1, 7]) (by kernel_rfl) (by simp) ?_
        refine AllReadyH.cons (i := 1) rfl (fun K hK => ?_) ?_
        · go_simp
          have hS := hSd
          clear hHeld
          show K _ _
          refine hK.out _ _ (by assumption) (fun hHeld => ?_)
          clear hK K
          try simp only [List.getElem_toArray, List.getElem_cons_zero, List.getElem_cons_succ, Act.put, List.setIfInBounds_toArray, List.set_cons_zero, List.set_cons_succ]
          refine wpAnyH_ready (rs := [7]) (by kernel_rfl) (by simp) ?_
          refine AllReadyH.cons (i := 7) rfl (fun K hK => ?_) AllReadyH.nil
          go_simp
          refine hC.mono ?_
          rintro e w5 ⟨v5, rfl, o5, k5⟩
          have HT5 := hid (tk_kept HTd.out k5)
          have hB5 := at_kept hBd k5
          obtain ⟨v6, w6, hrun, hown6, hgrow6, -⟩ := grun_app encA_ok tyA (by decide) HT5.out.a (rg_own encA_ok o5) (by have := HAl.out; have := HTwo.out; omega) HT5.out.b 37
          have HT6 := hid (tk_ask HTy.out HT5.out hown6 hgrow6)
          have hy6 := at_beside HT5.out.y7 HT5.out.a (by decide) hgrow6
          have hB6 := at_beside hB5 HT5.out.a (by decide) hgrow6
          have hB7 := at_other hB6 (at_ne hB6 hy6 (by decide)) 1 v6
          obtain ⟨-, f1, -⟩ := at_cells3' HT5.out.y7
          obtain ⟨-, m1, -⟩ := at_cells3' hy6
          have mf := at_frozen hy6
          have hS5 : w5.cell? ⟨Zb, 0, none⟩ = some (.int .u8 y.node) := at_cell hB5 0
          have hS6 : w6.cell? ⟨Zb, 0, none⟩ = some (.int .u8 y.node) := at_cell hB6 0
          have hS7 : (w6.setCell ⟨Y7, 1, none⟩ v6).cell? ⟨Zb, 0, none⟩ = some (.int .u8 y.node) := at_cell hB7 0
          have HB7 := hid hB7
          obtain ⟨b0, b1⟩ : (w6.setCell ⟨Y7, 1, none⟩ v6).cell? ⟨Zb, 0, none⟩ = some (.int .u8 y.node) ∧ (w6.setCell ⟨Y7, 1, none⟩ v6).cell? ⟨Zb, 1, none⟩ = some (.int .i64 ((ag + 1 : Nat) : Int)) := ⟨at_cell hB7 0, at_cell hB7 1⟩
          rw [show ((ag + 1 : Nat) : Int) = (ag : Int) + 1 by omega] at b1
          obtain ⟨va, vc, hv6, -, -⟩ := og_is encA_ok hown6
          obtain ⟨ln, hln⟩ : ∃ ln, (asksW p.self p.n x hs (t + 1) (p.waits.take k) ++ mkA y.node (twoH p.self p.n x hs y.node)).length = ln := ⟨_, rfl⟩
          rw [hln] at hv6
          clear hln
          subst hv6
          have hS := hS5
          clear o5 hC hown6 hgrow6 hy6 hB5 hB6 hB7 k5
          clear hHeld
          show K _ _
          refine hK.out _ _ (by assumption) (fun hHeld => ?_)
          clear hK K
          try simp only [List.getElem_toArray, List.getElem_cons_zero, List.getElem_cons_succ, Act.put, List.setIfInBounds_toArray, List.set_cons_zero, List.set_cons_succ]
          refine wpAnyH_ready (rs := [8]) (by kernel_rfl) (by simp) ?_
          refine AllReadyH.cons (i := 8) rfl (fun K hK => ?_) AllReadyH.nil
          refine op_run (.tmp 38) (.tmp 44) 37 rfl _ _ _ rfl rfl hrun ?_
          have hS := hS6
          clear hHeld
          show K _ _
          refine hK.out _ _ (by assumption) (fun hHeld => ?_)
          clear hK K
          try simp only [List.getElem_toArray, List.getElem_cons_zero, List.getElem_cons_succ, Act.put, List.setIfInBounds_toArray, List.set_cons_zero, List.set_cons_succ]
          refine wpAnyH_take (i := 9) (v := .pointer (some ⟨Y7, 1, none⟩)) rfl (by kernel_rfl) (by kernel_rfl) (by kernel_rfl) (fun _ _ _ h => h) (Or.inl ⟨by rfl, fun w hSw => by (try dsimp only at hSw); go_simp⟩) (by assumption) ?_
          try simp only [List.getElem_toArray, List.getElem_cons_zero, List.getElem_cons_succ, Act.put, List.setIfInBounds_toArray, List.set_cons_zero, List.set_cons_succ]
          refine wpAnyH_ready (rs := [10]) (by kernel_rfl) (by simp) ?_
          refine AllReadyH.cons (i := 10) rfl (fun K hK => ?_) AllReadyH.nil
          go_simp
          have hS := hS7
          clear hHeld
          show K _ _
          refine hK.out _ _ (by assumption) (fun hHeld => ?_)
          clear hK K
          try simp only [List.getElem_toArray, List.getElem_cons_zero, List.getElem_cons_succ, Act.put, List.setIfInBounds_toArray, List.set_cons_zero, List.set_cons_succ]
          refine wpAnyH_done (by kernel_rfl) ?_ _
          refine NoPanic.normal ?_
          clear hHeld hS hS0 hSd hS5 hS6 hS7 f1 m1 mf hrun
          have HTx := HT6.out
          generalize w6.setCell ⟨Y7, 1, none⟩ (.slice va ln vc) = w7 at *
          have HT7 := hid HTx
          clear HTx HT6
          have k8 := kept_alloc (kept_refl w7) (.cells #[.int .u8 y.node, .int .i64 ((ag : Int) + 1)] 86)
          have HT8 := hid (tk_kept HT7.out k8)
          have HAl8 : Hid (Rg encW 2 (w7.alloc (.cells #[.int .u8 y.node, .int .i64 ((ag : Int) + 1)] 86)) (.slice (some ⟨w7.heap.size, 0, none⟩) 1 1) [(⟨y.node, ag + 1⟩ : Wt)]) := hid (rg_alone encW_ok (y := (⟨y.node, ag + 1⟩ : Wt)) (at_new w7 #[.int .u8 y.node, .int .i64 ((ag : Int) + 1)] 86))
          clear k8
          go_wp2_with (at_builtin; go_must (refine wpList_gapp rfl (.tmp 47) (.tmp 49) rfl encW_ok tyPW (by decide) (Y7 + 1) _ _ _ [(⟨y.node, ag + 1⟩ : Wt)] rfl HT8.out.l rfl HAl8.out (by have := HLl.out; simp; omega) HT8.out.b ?_; intro v9 w9 hown9 hgrow9 hnil9; have HT9 := hid (tk_left HTy.out HT8.out hown9 hgrow9); clear hown9 hgrow9 hnil9))
          go_roundw
          case rel =>
            refine ⟨k + 1, .slice va ln vc, fv, by omega, by go_num, hid ?_⟩
            rw [HLn.out, HAn.out, HFn.out, HL1.out, if_neg (by simp), if_neg (by simp), if_neg (by simp), List.append_nil, ← HSame.out]
            exact HT9.out
          case measure => simp [intOf]; omega
        refine AllReadyH.cons (i := 7) rfl (fun K hK => ?_) AllReadyH.nil
        go_simp
        refine hC.mono ?_
        rintro e w5 ⟨v5, rfl, o5, k5⟩
        have HT5 := hid (tk_kept HTd.out k5)
        have hB5 := at_kept hBd k5
        obtain ⟨v6, w6, hrun, hown6, hgrow6, -⟩ := grun_app encA_ok tyA (by decide) HT5.out.a (rg_own encA_ok o5) (by have := HAl.out; have := HTwo.out; omega) HT5.out.b 37
        have HT6 := hid (tk_ask HTy.out HT5.out hown6 hgrow6)
        have hy6 := at_beside HT5.out.y7 HT5.out.a (by decide) hgrow6
        have hB6 := at_beside hB5 HT5.out.a (by decide) hgrow6
        have hB7 := at_other hB6 (at_ne hB6 hy6 (by decide)) 1 v6
        obtain ⟨-, f1, -⟩ := at_cells3' HT5.out.y7
        obtain ⟨-, m1, -⟩ := at_cells3' hy6
        have mf := at_frozen hy6
        have hS5 : w5.cell? ⟨Zb, 0, none⟩ = some (.int .u8 y.node) := at_cell hB5 0
        have hS6 : w6.cell? ⟨Zb, 0, none⟩ = some (.int .u8 y.node) := at_cell hB6 0
        have hS7 : (w6.setCell ⟨Y7, 1, none⟩ v6).cell? ⟨Zb, 0, none⟩ = some (.int .u8 y.node) := at_cell hB7 0
        have HB7 := hid hB7
        obtain ⟨b0, b1⟩ : (w6.setCell ⟨Y7, 1, none⟩ v6).cell? ⟨Zb, 0, none⟩ = some (.int .u8 y.node) ∧ (w6.setCell ⟨Y7, 1, none⟩ v6).cell? ⟨Zb, 1, none⟩ = some (.int .i64 ((ag + 1 : Nat) : Int)) := ⟨at_cell hB7 0, at_cell hB7 1⟩
        rw [show ((ag + 1 : Nat) : Int) = (ag : Int) + 1 by omega] at b1
        obtain ⟨va, vc, hv6, -, -⟩ := og_is encA_ok hown6
        obtain ⟨ln, hln⟩ : ∃ ln, (asksW p.self p.n x hs (t + 1) (p.waits.take k) ++ mkA y.node (twoH p.self p.n x hs y.node)).length = ln := ⟨_, rfl⟩
        rw [hln] at hv6
        clear hln
        subst hv6
        have hS := hS5
        clear o5 hC hown6 hgrow6 hy6 hB5 hB6 hB7 k5
        clear hHeld
        show K _ _
        refine hK.out _ _ (by assumption) (fun hHeld => ?_)
        clear hK K
        try simp only [List.getElem_toArray, List.getElem_cons_zero, List.getElem_cons_succ, Act.put, List.setIfInBounds_toArray, List.set_cons_zero, List.set_cons_succ]
        refine wpAnyH_ready (rs := [1]) (by kernel_rfl) (by simp) ?_
        refine AllReadyH.cons (i := 1) rfl (fun K hK => ?_) AllReadyH.nil
        go_simp
        have hS := hS5
        clear hHeld
        show K _ _
        refine hK.out _ _ (by assumption) (fun hHeld => ?_)
        clear hK K
        try simp only [List.getElem_toArray, List.getElem_cons_zero, List.getElem_cons_succ, Act.put, List.setIfInBounds_toArray, List.set_cons_zero, List.set_cons_succ]
        refine wpAnyH_ready (rs := [8]) (by kernel_rfl) (by simp) ?_
        refine AllReadyH.cons (i := 8) rfl (fun K hK => ?_) AllReadyH.nil
        refine op_run (.tmp 38) (.tmp 44) 37 rfl _ _ _ rfl rfl hrun ?_
        have hS := hS6
        clear hHeld
        show K _ _
        refine hK.out _ _ (by assumption) (fun hHeld => ?_)
        clear hK K
        try simp only [List.getElem_toArray, List.getElem_cons_zero, List.getElem_cons_succ, Act.put, List.setIfInBounds_toArray, List.set_cons_zero, List.set_cons_succ]
        refine wpAnyH_take (i := 9) (v := .pointer (some ⟨Y7, 1, none⟩)) rfl (by kernel_rfl) (by kernel_rfl) (by kernel_rfl) (fun _ _ _ h => h) (Or.inl ⟨by rfl, fun w hSw => by (try dsimp only at hSw); go_simp⟩) (by assumption) ?_
        try simp only [List.getElem_toArray, List.getElem_cons_zero, List.getElem_cons_succ, Act.put, List.setIfInBounds_toArray, List.set_cons_zero, List.set_cons_succ]
        refine wpAnyH_ready (rs := [10]) (by kernel_rfl) (by simp) ?_
        refine AllReadyH.cons (i := 10) rfl (fun K hK => ?_) AllReadyH.nil
        go_simp
        have hS := hS7
        clear hHeld
        show K _ _
        refine hK.out _ _ (by assumption) (fun hHeld => ?_)
        clear hK K
        try simp only [List.getElem_toArray, List.getElem_cons_zero, List.getElem_cons_succ, Act.put, List.setIfInBounds_toArray, List.set_cons_zero, List.set_cons_succ]
        refine wpAnyH_done (by kernel_rfl) ?_ _
        refine NoPanic.normal ?_
        clear hHeld hS hS0 hSd hS5 hS6 hS7 f1 m1 mf hrun
        have HTx := HT6.out
        generalize w6.setCell ⟨Y7, 1, none⟩ (.slice va ln vc) = w7 at *
        have HT7 := hid HTx
        clear HTx HT6
        have k8 := kept_alloc (kept_refl w7) (.cells #[.int .u8 y.node, .int .i64 ((ag : Int) + 1)] 86)
        have HT8 := hid (tk_kept HT7.out k8)
        have HAl8 : Hid (Rg encW 2 (w7.alloc (.cells #[.int .u8 y.node, .int .i64 ((ag : Int) + 1)] 86)) (.slice (some ⟨w7.heap.size, 0, none⟩) 1 1) [(⟨y.node, ag + 1⟩ : Wt)]) := hid (rg_alone encW_ok (y := (⟨y.node, ag + 1⟩ : Wt)) (at_new w7 #[.int .u8 y.node, .int .i64 ((ag : Int) + 1)] 86))
        clear k8
        go_wp2_with (at_builtin; go_must (refine wpList_gapp rfl (.tmp 47) (.tmp 49) rfl encW_ok tyPW (by decide) (Y7 + 1) _ _ _ [(⟨y.node, ag + 1⟩ : Wt)] rfl HT8.out.l rfl HAl8.out (by have := HLl.out; simp; omega) HT8.out.b ?_; intro v9 w9 hown9 hgrow9 hnil9; have HT9 := hid (tk_left HTy.out HT8.out hown9 hgrow9); clear hown9 hgrow9 hnil9))
        go_roundw
        case rel =>
          refine ⟨k + 1, .slice va ln vc, fv, by omega, by go_num, hid ?_⟩
          rw [HLn.out, HAn.out, HFn.out, HL1.out, if_neg (by simp), if_neg (by simp), if_neg (by simp), List.append_nil, ← HSame.out]
          exact HT9.out
        case measure => simp [intOf]; omega
    · have hltz : ¬ (k : Int) < (m : Int) := by omega
      have hkm : k = m := by omega
      have HTK : Hid (p.waits.take k = p.waits) := hid (by rw [hkm, ← HM.out, List.take_length])
      rw [HTK.out] at HT
      clear hkm HQ HWt HTK
      obtain ⟨lf, hlf⟩ : ∃ lf, agW (t + 1) (leftW (t + 1) p.waits) = lf := ⟨_, rfl⟩
      obtain ⟨ak, has⟩ : ∃ ak, asksW p.self p.n x hs (t + 1) p.waits = ak := ⟨_, rfl⟩
      obtain ⟨fs, hfs⟩ : ∃ fs, failW (t + 1) p.waits = fs := ⟨_, rfl⟩
      rw [hlf, has, hfs] at HT
      have HLf := hid hlf
      have HAs2 := hid has
      have HFs := hid hfs
      have HLfl : Hid (lf.length ≤ 256) := hid (by
        rw [← hlf]
        unfold agW leftW
        rw [List.length_map]
        have h1 := List.length_filter_le (fun z => !late (t + 1) z) p.waits
        have := HWl.out
        rw [HM.out] at h1
        omega)
      clear hlf has hfs
      obtain ⟨la, lc, hsv, -, -⟩ := og_is encW_ok HT.out.l
      obtain ⟨ll, hll⟩ : ∃ ll, lf.length = ll := ⟨_, rfl⟩
      rw [hll] at hsv
      subst hsv
      clear hll
      have hXr := at_kept HX.out HT.out.k
      have hRr := og_stays HR.out HT.out.k
      obtain ⟨q0, q1, q2, q3⟩ := at_cells4 hXr
      have qf := at_frozen hXr
      have HP3 : Hid (Pm (wr.setCell ⟨X, 3, none⟩ (.slice la ll lc)) X p.self (.slice ra p.row.length rc) p.place (.slice la ll lc) p.row lf) := hid (pm_waits hXr hRr (og_low HT.out.l (Nat.zero_le _)))
      have hXB : X < Y7 + 1 := by have := HXB.out.1; have := HTy.out.o1; have := HTy.out.o2; omega
      have HA3 := hid (og_set HT.out.a hXB 3 (.slice la ll lc))
      have HF3 := hid (og_set HT.out.f hXB 3 (.slice la ll lc))
      have hy6 := at_other HT.out.y6 (at_ne HT.out.y6 hXr (by decide)) 3 (.slice la ll lc)
      have hy7 := at_other HT.out.y7 (at_ne HT.out.y7 hXr (by decide)) 3 (.slice la ll lc)
      have HT3 : Hid (Tn F w (wr.setCell ⟨X, 3, none⟩ (.slice la ll lc))) := hid (tn_comp (tn_kept HT.out.k) (tn_set wr X 3 _) (fun b hb => .inl ((HF.out b).2 (.inl hb))))
      have HO3 : Hid (∀ b, Fp X (.slice ra p.row.length rc) (.slice la ll lc) b → F b ∨ w.heap.size ≤ b) := hid (fun b hb => by
        rcases hb with e | e | e
        · exact .inl ((HF.out b).2 (.inl e))
        · exact .inl ((HF.out b).2 (.inr (.inl e)))
        · have := og_lt HT.out.l e
          have := HTy.out.o1
          have := HTy.out.o2
          exact .inr (by omega))
      have HS3 : Hid (Y7 + 1 ≤ (wr.setCell ⟨X, 3, none⟩ (.slice la ll lc)).heap.size) := hid (by rw [World.size_setCell]; exact HT.out.b)
      have hn67 : Y6 ≠ Y7 := by have := HTy.out.o2; omega
      have hn76 : Y7 ≠ Y6 := by omega
      obtain ⟨aa, ac, hav, -, -⟩ := og_is encA_ok HT.out.a
      obtain ⟨al, hal⟩ : ∃ al, ak.length = al := ⟨_, rfl⟩
      rw [hal] at hav
      subst hav
      clear hal
      obtain ⟨fa, fc, hfv, -, -⟩ := og_is encU_ok HT.out.f
      obtain ⟨fl, hfl⟩ : ∃ fl, fs.length = fl := ⟨_, rfl⟩
      rw [hfl] at hfv
      subst hfv
      clear hfl
      have hp3 := at_cells4 HP3.out.a
      obtain ⟨z0, z1, z2, z3⟩ := hp3
      clear hXr hRr HT hXB
      obtain ⟨wz, hwz⟩ : ∃ u, wr.setCell ⟨X, 3, none⟩ (.slice la ll lc) = u := ⟨_, rfl⟩
      rw [hwz] at HP3 HA3 HF3 hy6 hy7 HT3 HS3 z0 z1 z2 z3
      by_cases hn1 : p.n = 1
      · have hrl : p.row.length = 0 := by rw [gp_len HGp.out]; omega
        have hrz : ¬ (0 : Int) < (p.row.length : Int) := by omega
        have HE : Hid (Tend w X Y6 Y7 (Y7 + 1) F (tickP p x).self (.slice ra p.row.length rc) (.slice la ll lc) (.slice none 0 0) (.slice aa al ac) (.slice fa fl fc) (tickP p x).place (tickP p x).row (agW (tickP p x).ticks (tickP p x).waits) (tickR p x hs) wz) := hid (by
          unfold tickP tickR
          rw [if_pos hn1, if_pos hn1]
          show Tend w X Y6 Y7 (Y7 + 1) F p.self _ _ _ _ _ p.place p.row (agW (p.ticks + 1) (leftW (p.ticks + 1) p.waits)) _ wz
          rw [HTk.out, HLf.out, HAs2.out, HFs.out]
          exact ⟨HP3.out, ⟨_, hy6, rfl⟩, og_nil _ _ _ _ _, HA3.out, HF3.out, HXB.out.2, HT3.out, HO3.out⟩)
        have HE3 := hid (tend_done (tend_set (tend_set (tend_set HE.out HTy.out 0 (.slice none 0 0)) HTy.out 1 (.slice aa al ac)) HTy.out 2 (.slice fa fl fc)))
        have HLd := hid (loadRd (at_set (at_set (at_set hy6 0 (.slice none 0 0)) 1 (.slice aa al ac)) 2 (.slice fa fl fc)))
        obtain ⟨y0, y1, y2⟩ := at_cells3' hy6
        have yf := at_frozen hy6
        obtain ⟨v0, v1, v2⟩ := at_cells3' hy7
        clear hrl hn1 hy6 hy7 HE HP3 HA3 HF3 HT3
        go_wp2_with fail
        refine bodyPost_ret (resRd Try.results13 _ rfl HLd.out) rfl ?_
        exact HE3.out
      · have hrl : 0 < p.row.length := by rw [gp_len HGp.out]; have := HGp.out.n1; omega
        obtain ⟨G, rfl⟩ : ∃ G, ra = some ⟨G, 0, none⟩ := by
          rcases HR.out.2 with ⟨e, h0⟩ | ⟨g, cc, cur, e, _⟩
          · omega
          · injection e with e1
            exact ⟨g, e1⟩
        have hrz : (0 : Int) < (p.row.length : Int) := by omega
        have hC := HPi.out G rc (.slice la ll lc) lf wz hn1 HLfl.out HP3.out
        have HRI := hid (row_is (gp_len HGp.out) x)
        have HPA := hid (pingT_at HGp.out x hn1)
        have HN1 := hid hn1
        have hy6 := hid hy6
        have hy7 := hid hy7
        have HEnd : Hid (∀ (a : Int) (wv' : Value) (u : World), (rowN p.row.length p.place x p.row)[placeN p.row.length p.place]? = some a → Pm u X p.self (.slice (some ⟨G, 0, none⟩) p.row.length rc) (placeN p.row.length p.place + 1) wv' (rowN p.row.length p.place x p.row) (waitN lf a) → Tn (Fp X (.slice (some ⟨G, 0, none⟩) p.row.length rc) (.slice la ll lc)) wz u → (∀ b, wv'.ownBlock = some b → (Value.slice la ll lc).ownBlock = some b ∨ wz.heap.size ≤ b) →
            At u Y6 #[.slice none 0 0, .slice none 0 0, .slice none 0 0] 39 ∧ At u Y7 #[.slice none 0 0, .slice aa al ac, .slice fa fl fc] 39 ∧ Tend w X Y6 Y7 (Y7 + 1) F (tickP p x).self (.slice (some ⟨G, 0, none⟩) p.row.length rc) wv' (.slice (some ⟨u.heap.size, 0, none⟩) 1 1) (.slice aa al ac) (.slice fa fl fc) (tickP p x).place (tickP p x).row (agW (tickP p x).ticks (tickP p x).waits) (tickR p x hs) ((u.alloc (.cells #[.int .u8 a] 5)).setCell ⟨Y7, 0, none⟩ (.slice (some ⟨u.heap.size, 0, none⟩) 1 1))) := hid (fun a wv' u ha P1 T1 O1 => by
          have h6 := at_tn hy6.out T1 (fp_ne HP3.out hy6.out)
          have h7 := at_tn hy7.out T1 (fp_ne HP3.out hy7.out)
          refine ⟨h6, h7, ?_⟩
          rw [HRI.out.1, HRI.out.2, HPA.out] at ha
          injection ha with ha
          subst ha
          rw [HRI.out.1, HRI.out.2] at P1
          have kn := kept_alloc (kept_refl u) (.cells #[.int .u8 (pingT p x)] 5)
          have hO : ∀ b, Fp X (.slice (some ⟨G, 0, none⟩) p.row.length rc) wv' b → F b ∨ w.heap.size ≤ b := fun b hb => by
            rcases hb with e | e | e
            · exact HO3.out b (.inl e)
            · exact HO3.out b (.inr (.inl e))
            · rcases O1 b e with q | q
              · exact HO3.out b (.inr (.inr q))
              · exact .inr (by have := HT3.out.2.2.1; omega)
          have hB1 : Y7 + 1 ≤ u.heap.size := Nat.le_trans HS3.out T1.2.2.1
          have hA1 := og_tn HA3.out T1 (fpA HP3.out HA3.out)
          have hF1 := og_tn HF3.out T1 (fp5 HP3.out HXB.out.2 HF3.out)
          have hPg := og_built encU_ok 5 u (Y7 + 1) hB1 [pingT p x] (by simp)
          have hlt := HTy.out.o3
          have hn := HN1.out
          unfold tickP tickR
          rw [if_neg hn, if_neg hn]
          show Tend w X Y6 Y7 (Y7 + 1) F p.self _ _ _ _ _ (placeT p + 1) (rowT p x) (agW (p.ticks + 1) (waitT (leftW (p.ticks + 1) p.waits) (pingT p x) (p.ticks + 1))) _ _
          rw [HTk.out, ← waits_ag, HLf.out, HAs2.out, HFs.out]
          refine ⟨pm_other (pm_kept P1 kn) (at_kept h7 kn) 0 _, ⟨_, at_other (at_kept h6 kn) (by have := HTy.out.o2; omega) 0 _, rfl⟩, og_set hPg hlt 0 _, og_set (og_stays hA1 kn) hlt 0 _, og_set (og_stays hF1 kn) hlt 0 _, HXB.out.2, ?_, hO⟩
          refine tn_comp (tn_comp (tn_comp HT3.out T1 (fun b hb => HO3.out b hb)) (tn_kept (F := fun _ => False) kn) (fun b hb => hb.elim)) (tn_set _ Y7 0 _) (fun b hb => .inr ?_)
          rw [hb]
          have := HTy.out.o1
          have := HTy.out.o2
          omega)
        clear hrl hn1 HP3 HA3 HF3 HT3 hy6 hy7
        go_wp2_with fail
        refine hC.mono ?_
        rintro e w4 ⟨a, wv', rfl, ha, P1, T1, O1⟩
        obtain ⟨h6, h7, he⟩ := HEnd.out a wv' w4 ha P1 T1 O1
        have HE3 := hid (tend_done (tend_set (tend_set (tend_set he HTy.out 0 (.slice (some ⟨w4.heap.size, 0, none⟩) 1 1)) HTy.out 1 (.slice aa al ac)) HTy.out 2 (.slice fa fl fc)))
        have kn := kept_alloc (kept_refl w4) (.cells #[.int .u8 a] 5)
        have h6a := at_kept h6 kn
        have h7a := at_kept h7 kn
        have h6b := at_other h6a hn67 0 (.slice (some ⟨w4.heap.size, 0, none⟩) 1 1)
        have h7b := at_set h7a 0 (.slice (some ⟨w4.heap.size, 0, none⟩) 1 1)
        have HLd := hid (loadRd (at_set (at_set (at_set h6b 0 (.slice (some ⟨w4.heap.size, 0, none⟩) 1 1)) 1 (.slice aa al ac)) 2 (.slice fa fl fc)))
        obtain ⟨e0, e1, e2⟩ := at_cells3' h7a
        have ef := at_frozen h7a
        obtain ⟨y0, y1, y2⟩ := at_cells3' h6b
        have yf := at_frozen h6b
        obtain ⟨v0, v1, v2⟩ := at_cells3' h7b
        clear ha P1 T1 O1 he h6 h7 h6a h7a h6b h7b kn hC HEnd hwz z0 z1 z2 z3 q0 q1 q2 q3 qf
        go_wp2_with fail
        refine bodyPost_ret (resRd Try.results13 _ rfl HLd.out) rfl ?_
        exact HE3.out
end Go.Proofs.Ytgmcjnhijgnadaa
