/- The library's sort of bytes, whole. The row has at most 256 unlike members. The library's sort of no bytes at all. -/
import Derived.Test.YtgmcjnhijgnadaaY6

namespace Go.Proofs.Ytgmcjnhijgnadaa
open Go.ChangeShapes Go.WideShapes Go.ChangeAt Go.RowKit
set_option linter.unusedVariables false
set_option linter.unusedSimpArgs false
set_option maxRecDepth 100000

/- All but what stands from a to b is at its place. -/
def URest (a0 b0 a b : Nat) (E : Nat → Int) : Prop := ∀ p q, a0 ≤ p → p < q → q < b0 → p < a ∨ b ≤ q → E p < E q
section
variable {a0 b0 a b q : Nat} {D E G : Nat → Int}
theorem urest_same (h : URest a0 b0 a b E) (s : USm a b E G) (h1 : a0 ≤ a) (h2 : b ≤ b0) : URest a0 b0 a b G := fun p r p1 p2 p3 p4 => by
  rcases p4 with p4 | p4
  · rw [usm_out s (k := p) (.inl p4)]
    by_cases c : r < a ∨ b ≤ r
    · rw [usm_out s (k := r) c]
      exact h p r p1 p2 p3 (.inl p4)
    · obtain ⟨x, x1, x2, e⟩ := usm_in s (k := r) (by omega) (by omega)
      rw [e]
      exact h p x p1 (by omega) (by omega) (.inl p4)
  · rw [usm_out s (k := r) (.inr p4)]
    by_cases c : p < a ∨ b ≤ p
    · rw [usm_out s (k := p) c]
      exact h p r p1 p2 p3 (.inr p4)
    · obtain ⟨x, x1, x2, e⟩ := usm_in s (k := p) (by omega) (by omega)
      rw [e]
      exact h x r (by omega) (by omega) p3 (.inr p4)
theorem urest_done (h : URest a0 b0 a b E) (s : USm a b E G) (h1 : a0 ≤ a) (h2 : b ≤ b0) (u : UAsc a b G) : UAsc a0 b0 G := fun p r p1 p2 p3 => by
  by_cases c : p < a ∨ b ≤ r
  · exact urest_same h s h1 h2 p r p1 p2 p3 c
  · exact u p r (by omega) p2 (by omega)
theorem urest_left (h : URest a0 b0 a b E) (h1 : a0 ≤ a) (h2 : b ≤ b0) (hq1 : a ≤ q) (hq2 : q < b) (lo : ∀ k, a ≤ k → k < q → E k < E q) (hi : ∀ k, q < k → k < b → E q < E k) (s : USm a q E G) (u : UAsc a q G) : URest a0 b0 (q + 1) b G := fun p r p1 p2 p3 p4 => by
  by_cases c : p < a ∨ b ≤ r
  · exact urest_same h (usm_wide s (Nat.le_refl _) (by omega)) h1 h2 p r p1 p2 p3 c
  · have hp : p ≤ q := by omega
    have hgq : G q = E q := usm_out s (.inr (Nat.le_refl _))
    have hpq : p = q ∨ G p < E q := by
      by_cases e : p = q
      · exact .inl e
      · obtain ⟨x, x1, x2, ex⟩ := usm_in s (k := p) (by omega) (by omega)
        exact .inr (by rw [ex]; exact lo x x1 x2)
    by_cases c2 : r < q
    · exact u p r (by omega) p2 c2
    · by_cases c3 : r = q
      · rw [c3, hgq]
        exact hpq.resolve_left (by omega)
      · have hr : G r = E r := usm_out s (.inr (by omega))
        have := hi r (by omega) (by omega)
        rw [hr]
        rcases hpq with e | e
        · rw [e, hgq]; exact this
        · omega
theorem urest_right (h : URest a0 b0 a b E) (h1 : a0 ≤ a) (h2 : b ≤ b0) (hq1 : a ≤ q) (hq2 : q < b) (lo : ∀ k, a ≤ k → k < q → E k < E q) (hi : ∀ k, q < k → k < b → E q < E k) (s : USm (q + 1) b E G) (u : UAsc (q + 1) b G) : URest a0 b0 a q G := fun p r p1 p2 p3 p4 => by
  by_cases c : p < a ∨ b ≤ r
  · exact urest_same h (usm_wide s (by omega) (Nat.le_refl _)) h1 h2 p r p1 p2 p3 c
  · have hr : q ≤ r := by omega
    have hgq : G q = E q := usm_out s (.inl (by omega))
    have hqr : r = q ∨ E q < G r := by
      by_cases e : r = q
      · exact .inl e
      · obtain ⟨x, x1, x2, ex⟩ := usm_in s (k := r) (by omega) (by omega)
        exact .inr (by rw [ex]; exact hi x (by omega) x2)
    by_cases c2 : q < p
    · exact u p r (by omega) p2 (by omega)
    · by_cases c3 : p = q
      · rw [c3, hgq]
        exact hqr.resolve_left (by omega)
      · have hp : G p = E p := usm_out s (.inl (by omega))
        have := lo p (by omega) (by omega)
        rw [hp]
        rcases hqr with e | e
        · rw [e, hgq]; exact this
        · omega
theorem urest_pre (h : URest a0 b0 a b E) (h1 : a0 ≤ a) (h2 : b ≤ b0) (hp : UPre a0 b0 E) : UPre a b E := by
  by_cases e : a = a0
  · rw [e]
    rcases hp with e0 | h0
    · exact .inl e0
    · exact .inr (fun k k1 k2 => h0 k k1 (by omega))
  · exact .inr (fun k k1 k2 => h (a - 1) k (by omega) (by omega) (by omega) (.inl (by omega)))
theorem upre_less {c : Nat} (h : UPre a b E) (hc : c ≤ b) : UPre a c E := by
  rcases h with e | h
  · exact .inl e
  · exact .inr (fun k k1 k2 => h k k1 (by omega))
end
def PdqIs (R m cap N : Nat) : Prop := ∀ (a b : Nat) (lim : Int) (D : Nat → Int) (w : World), b - a ≤ N → a ≤ b → b ≤ m → Ar w R m cap D → UInj m D → UPre a b D → Calls Try.prog 46 #[.slice (some ⟨R, 0, none⟩) m cap, .int .i64 (a : Int), .int .i64 (b : Int), .int .i64 lim] w (UsC R m cap (fun E => USm a b D E ∧ UAsc a b E) w)
set_option maxHeartbeats 25600000 in
theorem pdq_step {R m cap N : Nat} (hm : m ≤ 256) (ih : PdqIs R m cap N) : PdqIs R m cap (N + 1) := by
  intro a0 b0 lim0 D w hN hab hbm h hinj hpre
  have HE := hid h
  have HI := hid hinj
  have HPre := hid hpre
  have IH := hid ih
  have HB : Hid (b0 - a0 ≤ N + 1 ∧ b0 ≤ m ∧ m ≤ 256) := hid ⟨hN, hbm, hm⟩
  have bb0 : b0 ≤ 256 := by omega
  clear h hinj hpre ih hN hm
  go_enter Try.func46, Try.ntmps46
  go_wp2_with fail
  go_loopw [1, 2, 3, 8, 9] (fun v1 v2 v3 v8 v9 wr => ∃ (a b : Nat) (lim : Int) (wb wp : Bool) (E : Nat → Int), v1 = .int .i64 (a : Int) ∧ v2 = .int .i64 (b : Int) ∧ v3 = .int .i64 lim ∧ v8 = .bool wb ∧ v9 = .bool wp ∧ a0 ≤ a ∧ a ≤ b ∧ b ≤ b0 ∧ Hid (Ar wr R m cap E) ∧ Hid (USm a0 b0 D E ∧ URest a0 b0 a b E) ∧ Hid (Turn R w wr)) (fun v1 v2 _ _ _ _ => (intOf v2 - intOf v1).toNat)
  case atStart => exact ⟨a0, b0, lim0, true, true, D, rfl, rfl, rfl, rfl, rfl, Nat.le_refl _, hab, Nat.le_refl _, HE, hid ⟨usm_refl _ _ _, fun p q p1 p2 p3 p4 => by omega⟩, hid (Turn.refl _ _)⟩
  case round =>
    obtain ⟨a, b, lim, wb, wp, E, rfl, rfl, rfl, rfl, rfl, ha, hb, hbb, HE', HS, HT⟩ := hrel
    clear HE hab
    have HE := HE'
    clear HE'
    have HInj := hid (usm_inj HS.out.1 HB.out.2.1 HI.out)
    have HR : Hid (a0 ≤ a ∧ a ≤ b ∧ b ≤ b0) := hid ⟨ha, hb, hbb⟩
    have HPr := hid (urest_pre HS.out.2 ha hbb (upre_same HPre.out HS.out.1))
    obtain ⟨n, hn⟩ : ∃ n, b - a = n := ⟨_, rfl⟩
    have en : (b : Int) - (a : Int) = (n : Int) := by omega
    have HN : Hid (b - a = n) := hid hn
    have ba : a ≤ 256 := by omega
    have bb : b ≤ 256 := by omega
    by_cases hn12 : n ≤ 12
    · have hn12z : (n : Int) ≤ 12 := by omega
      have C := ins8 wr HE.out HB.out.2.2 HInj.out hb (by have := HB.out; omega)
      clear hn hn12
      go_wp2_with fail
      refine C.mono ?_
      rintro e w1 ⟨rfl, ⟨G, g1, g2, g3⟩, t1⟩
      have HG := hid g1
      have HGs : Hid (USm a0 b0 D G ∧ UAsc a0 b0 G) := hid ⟨usm_trans HS.out.1 (usm_wide g2 HR.out.1 HR.out.2.2), urest_done HS.out.2 g2 HR.out.1 HR.out.2.2 g3⟩
      have HT1 := hid (HT.out.trans t1)
      clear C g1 g2 g3 t1
      go_wp2_with fail
      go_end0
      exact ⟨rfl, ⟨G, HG.out, HGs.out⟩, HT1.out⟩
    · have hn12z : ¬ (n : Int) ≤ 12 := by omega
      have H13 : Hid (13 ≤ n ∧ a + 13 ≤ b) := hid ⟨by omega, by omega⟩
      clear hn12
      by_cases hl0 : lim = 0
      · have hl0z : (lim == 0) = true := by simpa using hl0
        have C := heap8 wr HE.out HB.out.2.2 HInj.out (a := a) (b := b) (by have := H13.out; omega) (by have := HB.out; omega)
        clear hn hl0
        go_wp2_with fail
        refine C.mono ?_
        rintro e w1 ⟨rfl, ⟨G, g1, g2, g3⟩, t1⟩
        have HG := hid g1
        have HGs : Hid (USm a0 b0 D G ∧ UAsc a0 b0 G) := hid ⟨usm_trans HS.out.1 (usm_wide g2 HR.out.1 HR.out.2.2), urest_done HS.out.2 g2 HR.out.1 HR.out.2.2 g3⟩
        have HT1 := hid (HT.out.trans t1)
        clear C g1 g2 g3 t1
        go_wp2_with fail
        go_end0
        exact ⟨rfl, ⟨G, HG.out, HGs.out⟩, HT1.out⟩
      · have hl0z : (lim == 0) = false := by simpa using hl0
        clear hn hl0
        go_upto_if 35 with fail
        go_cut [3] (fun v wx => ∃ (lim : Int) (G : Nat → Int), v = .int .i64 lim ∧ Hid (Ar wx R m cap G) ∧ Hid (USm a b E G) ∧ Hid (Turn R w wx))
        case first =>
          cases wb with
          | true =>
            go_wp2_with fail
            go_meet
            case rel => exact ⟨lim, E, rfl, HE, hid (usm_refl _ _ _), HT⟩
          | false =>
            have C := brk8 wr HE.out HB.out.2.2 (a := a) (b := b) (by have := H13.out; omega) (by have := HB.out; omega)
            go_wp2_with fail
            refine C.mono ?_
            rintro e w1 ⟨rfl, ⟨G, g1, g2⟩, t1⟩
            have HG := hid g1
            have HGs := hid g2
            have HT1 := hid (HT.out.trans t1)
            clear C g1 g2 t1
            go_wp2_with fail
            go_meet
            case rel => exact ⟨_, G, rfl, HG, HGs, HT1⟩
        case rest =>
        obtain ⟨lim2, E1, rfl, HE1, HS1, HT1⟩ := hcut
        clear hl0z
        have C := piv8 wc HE1.out HB.out.2.2 (a := a) (b := b) (by have := H13.out; omega) (by have := HB.out; omega)
        go_wp2_with fail
        refine C.mono ?_
        rintro e w2 ⟨p, t, rfl, hp1, hp2, k2⟩
        have HE2 := hid (ar_kept HE1.out k2)
        have HT2 : Hid (Turn R w w2) := hid (HT1.out.trans (turn_kept k2))
        have HP : Hid (a ≤ p ∧ p < b) := hid ⟨hp1, hp2⟩
        clear C hp1 hp2 k2 HE1 HT1
        go_upto_if 50 with fail
        go_cut [11, 12] (fun v11 v12 wx => ∃ (p : Nat) (t : Int) (G : Nat → Int), v11 = .int .i64 (p : Int) ∧ v12 = .int .i64 t ∧ Hid (a ≤ p ∧ p < b) ∧ Hid (Ar wx R m cap G) ∧ Hid (USm a b E G) ∧ Hid (Turn R w wx))
        case first =>
          by_cases ht2 : t = 2
          · have ht2z : (t == 2) = true := by simpa using ht2
            have C := rev8 w2 HE2.out HB.out.2.2 (a := a) (b := b) (by have := H13.out; omega) (by have := HB.out; omega)
            obtain ⟨p2, hp2⟩ : ∃ q, b - 1 - (p - a) = q := ⟨_, rfl⟩
            have ep2 : (b : Int) - 1 - ((p : Int) - (a : Int)) = (p2 : Int) := by have := HP.out; omega
            have HP2 : Hid (a ≤ p2 ∧ p2 < b) := hid (by have := HP.out; omega)
            have bp : p ≤ 256 := by have := HP.out; omega
            clear ht2 hp2
            go_wp2_with fail
            refine C.mono ?_
            rintro e w3 ⟨rfl, ⟨G, g1, g2⟩, t3⟩
            have HG := hid g1
            have HGs := hid (usm_trans HS1.out g2)
            have HT3 := hid (HT2.out.trans t3)
            clear C g1 g2 t3
            go_wp2_with fail
            go_meet
            case rel => exact ⟨p2, 1, G, by first | rfl | go_num, rfl, HP2, HG, HGs, HT3⟩
          · have ht2z : (t == 2) = false := by simpa using ht2
            clear ht2
            go_wp2_with fail
            go_meet
            case rel => exact ⟨p, t, E1, rfl, rfl, HP, HE2, HS1, HT2⟩
        case rest =>
        obtain ⟨p', t', E2, rfl, rfl, HP', HE3, HS2, HT3⟩ := hcut
        clear HE2 HT2 HS1 HP
        go_upto_region 15 with fail
        go_cut [68] (fun v wx => ∃ c : Bool, v = .bool c ∧ wx = wc)
        case first =>
          cases wb with
          | false =>
            go_wp2_with fail
            go_meet
            case rel => exact ⟨_, rfl, rfl⟩
          | true =>
            cases wp with
            | false =>
              go_wp2_with fail
              go_meet
              case rel => exact ⟨_, rfl, rfl⟩
            | true =>
              go_wp2_with fail
              go_meet
              case rel => exact ⟨_, rfl, rfl⟩
        case rest =>
        obtain ⟨c, rfl, hwx⟩ := hcut
        subst hwx
        go_upto_if 68 with fail
        go_cut [72] (fun _ wx => ∃ (G : Nat → Int), Hid (Ar wx R m cap G) ∧ Hid (USm a b E G) ∧ Hid (Turn R w wx))
        case first =>
          cases c with
          | false =>
            go_wp2_with fail
            go_meet
            case rel => exact ⟨E2, HE3, HS2, HT3⟩
          | true =>
            have C := par8 _ HE3.out HB.out.2.2 (usm_inj HS2.out (by have := HB.out; omega) HInj.out) (a := a) (b := b) (by have := H13.out; omega) (by have := HB.out; omega) (upre_same HPr.out HS2.out)
            go_wp2_with fail
            refine C.mono ?_
            rintro e w3 ⟨t3, G, rfl, g1, g2, g3, t4⟩
            have HG := hid g1
            have HGs := hid (usm_trans HS2.out g2)
            have HT4 := hid (HT3.out.trans t4)
            have HAs : Hid (t3 = true → UAsc a0 b0 G) := hid (fun ht => urest_done HS.out.2 (usm_trans HS2.out g2) HR.out.1 HR.out.2.2 (g3 ht))
            clear C g1 g2 g3 t4
            cases t3 with
            | true =>
              go_wp2_with fail
              go_end0
              exact ⟨rfl, ⟨G, HG.out, usm_trans HS.out.1 (usm_wide HGs.out HR.out.1 HR.out.2.2), HAs.out (by simp)⟩, HT4.out⟩
            | false =>
              go_wp2_with fail
              go_meet
              case rel => exact ⟨G, HG, HGs, HT4⟩
        case rest =>
        obtain ⟨E3, HE4, HS3, HT4⟩ := hcut
        clear HE3 HS2 HT3
        have HP3 := hid (upre_same HPr.out HS3.out)
        have hpm : p' < m := by have := HP'.out; have := HB.out; omega
        have hpz : (p' : Int) < (m : Int) := by omega
        go_upto_region 17 with fail
        go_cut [87] (fun v wx => v = .bool false ∧ ∃ q, wx = wc.drewN q)
        case first =>
          by_cases ha0 : 0 < a
          · have ha0z : (0 : Int) < (a : Int) := by omega
            obtain ⟨ap, hap⟩ : ∃ q, a = q + 1 := ⟨a - 1, by omega⟩
            have eap : (a : Int) - 1 = (ap : Int) := by omega
            have hapm : ap < m := by have := HB.out; omega
            have hapz : (ap : Int) < (m : Int) := by omega
            have cx := ar_cell HE4.out hapm
            have cy := ar_cell HE4.out hpm
            have hq := fun u => less8 (E3 ap) (E3 p') u
            have hl : E3 ap < E3 p' := by
              rcases HP3.out with e | h0
              · omega
              · have := h0 p' HP'.out.1 HP'.out.2
                rw [show a - 1 = ap by omega] at this
                exact this
            simp only [decide_eq_true hl] at hq
            clear hl hap
            generalize E3 ap = x at cx hq
            generalize E3 p' = y at cy hq
            go_wp2_with fail
            go_quiet (first | (go_at_call 55; exact Calls.quiet_of_same (hq _)))
            go_wp2_with fail
            go_meet
            case rel => exact ⟨rfl, nq, rfl⟩
          · have ha0z : decide ((0 : Int) < (a : Int)) = false := decide_eq_false (by omega)
            have ha0y : ¬ (0 : Int) < (a : Int) := by omega
            have ha0x : decide (0 < a) = false := decide_eq_false ha0
            go_wp2_with fail
            go_quiet (fail)
            go_wp2_with fail
            go_meet
            case rel => exact ⟨rfl, nq, rfl⟩
        case rest =>
        obtain ⟨rfl, q0, hwx⟩ := hcut
        subst hwx
        have HE5 := hid (ar_drewN HE4.out q0)
        have HT5 := hid (turn_drewN HT4.out q0)
        have C := part8 _ HE5.out HB.out.2.2 (usm_inj HS3.out (by have := HB.out; omega) HInj.out) (a := a) (b := b) (p := p') (by have := H13.out; omega) (by have := HB.out; omega) HP'.out.1 HP'.out.2
        clear HE4 HT4 hpz hpm
        go_wp2_with fail
        refine C.mono ?_
        rintro e w3 ⟨q, t6, G, rfl, hq1, hq2, g1, g2, t7⟩
        have HG := hid g1
        have HM := hid g2
        have HT6 := hid (HT5.out.trans t7)
        have HQ : Hid (a ≤ q ∧ q < b) := hid ⟨hq1, hq2⟩
        have HUG : Hid (USm a b E G) := hid (usm_trans HS3.out g2.1)
        have HDG : Hid (USm a0 b0 D G) := hid (usm_trans HS.out.1 (usm_wide HUG.out HR.out.1 HR.out.2.2))
        have HRG := hid (urest_same HS.out.2 HUG.out HR.out.1 HR.out.2.2)
        have HInjG := hid (usm_inj HDG.out HB.out.2.1 HI.out)
        have HPG := hid (upre_same HPr.out HUG.out)
        have bq : q ≤ 256 := by omega
        have et : Int.tdiv (n : Int) 8 = ((n / 8 : Nat) : Int) := by rw [Int.tdiv_eq_ediv_of_nonneg (by omega)]; omega
        obtain ⟨th, hth⟩ : ∃ th, n / 8 = th := ⟨_, rfl⟩
        rw [hth] at et
        have et2 : (n : Int) / 8 = (th : Int) := by omega
        obtain ⟨l1, hl1⟩ : ∃ l, q - a = l := ⟨_, rfl⟩
        obtain ⟨l2, hl2⟩ : ∃ l, b - q = l := ⟨_, rfl⟩
        have el1 : (q : Int) - (a : Int) = (l1 : Int) := by omega
        have el2 : (b : Int) - (q : Int) = (l2 : Int) := by omega
        have bth : th ≤ 32 := by have := HN.out; omega
        obtain ⟨q', hq'⟩ : ∃ x, q + 1 = x := ⟨_, rfl⟩
        have eq' : (q : Int) + 1 = (q' : Int) := by omega
        have HQ' : Hid (q + 1 = q') := hid hq'
        have CL := IH.out a q lim2 G w3 (by have := HB.out; have := HR.out; omega) hq1 (by have := HB.out; omega) HG.out HInjG.out (upre_less HPG.out (by omega))
        have CR := IH.out q' b lim2 G w3 (by have := HB.out; have := HR.out; omega) (by omega) (by have := HB.out; omega) HG.out HInjG.out (.inr (fun k k1 k2 => by
          rw [← hq', Nat.add_sub_cancel]
          exact HM.out.2.2 k (by omega) k2))
        clear C g1 g2 t7 HE5 HT5 hth hl1 hl2 hq' hq1 hq2
        by_cases hlr : l1 < l2
        · have hlrz : (l1 : Int) < (l2 : Int) := by omega
          clear hlr CR
          go_wp2_with fail
          refine CL.mono ?_
          rintro e w5 ⟨rfl, ⟨G2, g1, g2, g3⟩, t1⟩
          have HG2 := hid g1
          have HT7 := hid (HT6.out.trans t1)
          have HD2 : Hid (USm a0 b0 D G2) := hid (usm_trans HDG.out (usm_wide g2 HR.out.1 (by have := HQ.out; have := HR.out; omega)))
          have HR2 : Hid (URest a0 b0 q' b G2) := hid (by rw [← HQ'.out]; exact urest_left HRG.out HR.out.1 HR.out.2.2 HQ.out.1 HQ.out.2 HM.out.2.1 HM.out.2.2 g2 g3)
          clear CL g1 g2 g3 t1
          go_wp2_with fail
          go_roundw
          case rel => exact ⟨q', b, lim2, _, t6, G2, by first | rfl | go_num, rfl, rfl, rfl, rfl, by have := HQ'.out; have := HQ.out; have := HR.out; omega, by have := HQ'.out; have := HQ.out; omega, HR.out.2.2, HG2, hid ⟨HD2.out, HR2.out⟩, HT7⟩
          case measure => have := HQ'.out; have := HQ.out; simp [intOf]; omega
        · have hlrz : ¬ (l1 : Int) < (l2 : Int) := by omega
          clear hlr CL
          go_wp2_with fail
          refine CR.mono ?_
          rintro e w5 ⟨rfl, ⟨G2, g1, g2, g3⟩, t1⟩
          have HG2 := hid g1
          have HT7 := hid (HT6.out.trans t1)
          have HD2 : Hid (USm a0 b0 D G2) := hid (usm_trans HDG.out (usm_wide g2 (by have := HQ'.out; have := HQ.out; have := HR.out; omega) HR.out.2.2))
          have HR2 : Hid (URest a0 b0 a q G2) := hid (by rw [← HQ'.out] at g2 g3; exact urest_right HRG.out HR.out.1 HR.out.2.2 HQ.out.1 HQ.out.2 HM.out.2.1 HM.out.2.2 g2 g3)
          clear CR g1 g2 g3 t1
          go_wp2_with fail
          go_roundw
          case rel => exact ⟨a, q, lim2, _, t6, G2, rfl, rfl, rfl, rfl, rfl, HR.out.1, HQ.out.1, by have := HQ.out; have := HR.out; omega, HG2, hid ⟨HD2.out, HR2.out⟩, HT7⟩
          case measure => have := HQ.out; simp [intOf]; omega
theorem pdq_zero {R m cap : Nat} (hm : m ≤ 256) : PdqIs R m cap 0 := by
  intro a b lim D w hN hab hbm h hinj hpre
  have C := ins8 w h hm hinj hab hbm
  have en : (b : Int) - (a : Int) = 0 := by omega
  clear h hinj hpre
  go_enter Try.func46, Try.ntmps46
  go_wp2_with fail
  go_loopw [1, 2] (fun v1 v2 wr => v1 = .int .i64 (a : Int) ∧ v2 = .int .i64 (b : Int) ∧ wr = w) (fun _ _ _ => 0)
  case atStart => exact ⟨rfl, rfl, rfl⟩
  case round =>
    obtain ⟨rfl, rfl, hwr⟩ := hrel
    subst hwr
    go_wp2_with fail
    refine C.mono ?_
    rintro e w1 ⟨rfl, g, t⟩
    have HG := hid g
    have HT := hid t
    clear C g t
    go_wp2_with fail
    go_end0
    exact ⟨rfl, HG.out, HT.out⟩
theorem pdq_any {R m cap : Nat} (hm : m ≤ 256) : ∀ N, PdqIs R m cap N
  | 0 => pdq_zero hm
  | N + 1 => pdq_step hm (pdq_any hm N)
theorem sort8 {R m cap : Nat} {D : Nat → Int} (w : World) (h : Ar w R m cap D) (hm : m ≤ 256) (hi : UInj m D) : Calls Try.prog 40 #[.slice (some ⟨R, 0, none⟩) m cap] w (UsC R m cap (fun E => USm 0 m D E ∧ UAsc 0 m E) w) := by
  have hC := fun u => blen (m : Int) u (by omega) (by omega)
  simp only [Int.toNat_natCast] at hC
  have C := fun lim => pdq_any (R := R) (cap := cap) hm m 0 m lim D w (by omega) (Nat.zero_le _) (Nat.le_refl _) h hi (.inl rfl)
  have w1 : IntKind.u64.wrap (m : Int) = (m : Int) := by rw [IntKind.wrap_u64]; omega
  generalize Lib.bitLen m = k at hC
  have C2 : ∀ lim, Calls Try.prog 46 #[.slice (some ⟨R, 0, none⟩) m cap, .int .i64 0, .int .i64 (m : Int), .int .i64 lim] w (UsC R m cap (fun E => USm 0 m D E ∧ UAsc 0 m E) w) := C
  clear h hi C
  go_enter Try.func40, Try.ntmps40
  go_wp2_with (go_at_call 47; refine (hC _).mono ?_; rintro e w1 ⟨rfl, e2⟩; have e3 := e2.symm; subst e3; clear e2)
  refine (C2 _).mono ?_
  rintro e w1 ⟨rfl, g, t⟩
  have HG := hid g
  have HT := hid t
  clear C2 g t
  go_wp2_with fail
  go_end0
  exact ⟨rfl, HG.out, HT.out⟩
end Go.Proofs.Ytgmcjnhijgnadaa


namespace Go.Proofs.Ytgmcjnhijgnadaa
open Go.ChangeShapes Go.WideShapes Go.ChangeAt Go.RowKit
set_option linter.unusedVariables false
set_option linter.unusedSimpArgs false
set_option maxRecDepth 100000

def NoC (w : World) (e : Ending) (w' : World) : Prop := e = .returned (.tuple #[]) ∧ w' = w
theorem ins8_nil (w : World) : Calls Try.prog 49 #[.slice none 0 0, .int .i64 0, .int .i64 0] w (NoC w) := by
  go_enter Try.func49, Try.ntmps49
  go_wp2
  go_loopw [6] (fun v6 wr => v6 = .int .i64 1 ∧ wr = w) (fun _ _ => 0)
  case atStart => exact ⟨rfl, rfl⟩
  case round =>
    obtain ⟨rfl, hwr⟩ := hrel
    subst hwr
    go_wp2
    go_end0
    exact ⟨rfl, rfl⟩
theorem pdq8_nil (lim : Int) (w : World) : Calls Try.prog 46 #[.slice none 0 0, .int .i64 0, .int .i64 0, .int .i64 lim] w (NoC w) := by
  have C := ins8_nil w
  go_enter Try.func46, Try.ntmps46
  go_wp2_with fail
  go_loopw [1, 2] (fun v1 v2 wr => v1 = .int .i64 0 ∧ v2 = .int .i64 0 ∧ wr = w) (fun _ _ _ => 0)
  case atStart => exact ⟨rfl, rfl, rfl⟩
  case round =>
    obtain ⟨rfl, rfl, hwr⟩ := hrel
    subst hwr
    go_wp2_with fail
    refine C.mono ?_
    rintro e w1 ⟨rfl, e2⟩
    have e3 := e2.symm
    subst e3
    clear C e2
    go_wp2_with fail
    go_end0
    exact ⟨rfl, rfl⟩
theorem sort8_nil (w : World) : Calls Try.prog 40 #[.slice none 0 0] w (NoC w) := by
  have hC := fun u => blen 0 u (by omega) (by omega)
  have C2 := fun lim => pdq8_nil lim w
  simp only [Int.toNat_zero] at hC
  generalize Lib.bitLen 0 = k at hC
  go_enter Try.func40, Try.ntmps40
  go_wp2_with (go_at_call 47; refine (hC _).mono ?_; rintro e w1 ⟨rfl, e2⟩; have e3 := e2.symm; subst e3; clear e2)
  refine (C2 _).mono ?_
  rintro e w1 ⟨rfl, e2⟩
  have e3 := e2.symm
  subst e3
  clear C2 e2
  go_wp2_with fail
  go_end0
  exact ⟨rfl, rfl⟩
end Go.Proofs.Ytgmcjnhijgnadaa
