/- The library's heap sort of bytes. The row has at most 256 unlike members. The library's heap sort of bytes, whole. The row has at most 256 unlike members. -/
import Derived.Test.YtgmcjnhijgnadaaY1
import Derived.Deep.CutBlock
import Derived.Deep.DeepCutAuto

namespace Go.Proofs.Ytgmcjnhijgnadaa
open Go.ChangeShapes Go.WideShapes Go.ChangeAt Go.RowKit
set_option linter.unusedVariables false
set_option linter.unusedSimpArgs false
set_option maxRecDepth 100000

/- The greater child. -/
def UBig (D : Nat → Int) (f hi r c : Nat) : Prop := (c = 2 * r + 1 ∨ c = 2 * r + 2) ∧ c < hi ∧ ∀ q, (q = 2 * r + 1 ∨ q = 2 * r + 2) → q < hi → q ≠ c → D (f + q) < D (f + c)
set_option maxHeartbeats 6400000 in
theorem sift8 {R m cap f lo hi : Nat} {D : Nat → Int} (w : World) (h : Ar w R m cap D) (hm : m ≤ 256) (hi0 : UInj m D) (h1 : f + hi ≤ m) (h2 : lo < hi ∨ hi = 0 ∧ lo = 0) (hh : UHp D f (lo + 1) hi) :
    Calls Try.prog 60 #[.slice (some ⟨R, 0, none⟩) m cap, .int .i64 (lo : Int), .int .i64 (hi : Int), .int .i64 (f : Int)] w (UsC R m cap (fun E => USm f (f + hi) D E ∧ UHp E f lo hi) w) := by
  have HP := hid h
  have HI := hid hi0
  have HH := hid hh
  clear h hi0 hh
  go_enter Try.func60, Try.ntmps60
  go_wp2
  go_loopw [8] (fun vi wr => ∃ (r : Nat) (E : Nat → Int), (r < hi ∨ r = 0 ∧ hi = 0) ∧ vi = .int .i64 (r : Int) ∧ Hid (Ar wr R m cap E) ∧ Hid (USm f (f + hi) D E ∧ USf E f lo hi r) ∧ Hid (Turn R w wr)) (fun vi _ => hi - (intOf vi).toNat)
  case atStart => exact ⟨lo, D, by omega, rfl, HP, hid ⟨usm_refl _ _ D, usf_start HH.out⟩, hid (Turn.refl _ _)⟩
  case round =>
    obtain ⟨r, E, hr, rfl, HE, HS, HTr⟩ := hrel
    clear HP HH
    have HInj := hid (usm_inj HS.out.1 h1 HI.out)
    have w1 : IntKind.i64.wrap (2 * (r : Int)) = 2 * (r : Int) := IntWalk.i64_in _ (by omega)
    have w2 : IntKind.i64.wrap (2 * (r : Int) + 1) = 2 * (r : Int) + 1 := IntWalk.i64_in _ (by omega)
    by_cases hc : hi ≤ 2 * r + 1
    · have hcz : (hi : Int) ≤ 2 * (r : Int) + 1 := by omega
      go_wp2_with fail
      go_end0
      exact ⟨rfl, ⟨E, HE.out, HS.out.1, usf_leaf HS.out.2 hc⟩, HTr.out⟩
    · have hcz : ¬ (hi : Int) ≤ 2 * (r : Int) + 1 := by omega
      obtain ⟨c1, hc1⟩ : ∃ c1, 2 * r + 1 = c1 := ⟨_, rfl⟩
      have ec1 : 2 * (r : Int) + 1 = (c1 : Int) := by omega
      rw [ec1] at w2 hcz
      have HC1 : Hid (2 * r + 1 = c1 ∧ c1 < hi ∧ r < hi ∧ f + c1 < m ∧ f + r < m) := hid ⟨hc1, by omega, by omega, by omega, by omega⟩
      have w3 : IntKind.i64.wrap ((c1 : Int) + 1) = (c1 : Int) + 1 := IntWalk.i64_in _ (by omega)
      have w4 : IntKind.i64.wrap ((f : Int) + (c1 : Int)) = (f : Int) + (c1 : Int) := IntWalk.i64_in _ (by omega)
      have w5 : IntKind.i64.wrap ((f : Int) + (c1 : Int) + 1) = (f : Int) + (c1 : Int) + 1 := IntWalk.i64_in _ (by omega)
      obtain ⟨g1, hg1⟩ : ∃ g, f + c1 = g := ⟨_, rfl⟩
      have eg1 : (f : Int) + (c1 : Int) = (g1 : Int) := by omega
      have hx1 : g1 < m := by omega
      rw [eg1] at w4 w5
      have HG1 := hid hg1
      have bf : f ≤ 256 := by omega
      have bh : hi ≤ 256 := by omega
      clear hc hc1 hg1
      go_upto_region 3 with fail
      go_cut [36] (fun v wx => v = .bool (decide (c1 + 1 < hi ∧ E g1 < E (g1 + 1))) ∧ ∃ q, wx = wr.drewN q)
      case first =>
        by_cases d1 : c1 + 1 < hi
        · have d1z : (c1 : Int) + 1 < (hi : Int) := by omega
          have hx2 : g1 + 1 < m := by have := HG1.out; omega
          have hx2z : (g1 : Int) + 1 < (m : Int) := by omega
          have hx1z : (g1 : Int) < (m : Int) := by omega
          have cx := ar_cell HE.out hx1
          have cy := ar_cell HE.out hx2
          have hq := fun u => less8 (E g1) (E (g1 + 1)) u
          by_cases d2 : E g1 < E (g1 + 1)
          · have HD : Hid (decide (c1 + 1 < hi ∧ E g1 < E (g1 + 1)) = true) := hid (decide_eq_true ⟨d1, d2⟩)
            simp only [decide_eq_true d2] at hq
            generalize E g1 = x at cx hq
            generalize E (g1 + 1) = y at cy hq
            clear d1 d2
            go_wp2_with fail
            go_quiet (first | (go_at_call 55; exact Calls.quiet_of_same (hq _)))
            go_wp2_with fail
            go_meet
            case rel => exact ⟨by rw [HD.out], nq, rfl⟩
          · have HD : Hid (decide (c1 + 1 < hi ∧ E g1 < E (g1 + 1)) = false) := hid (decide_eq_false (fun hh => d2 hh.2))
            simp only [decide_eq_false d2] at hq
            generalize E g1 = x at cx hq
            generalize E (g1 + 1) = y at cy hq
            clear d1 d2
            go_wp2_with fail
            go_quiet (first | (go_at_call 55; exact Calls.quiet_of_same (hq _)))
            go_wp2_with fail
            go_meet
            case rel => exact ⟨by rw [HD.out], nq, rfl⟩
        · have HD : Hid (decide (c1 + 1 < hi ∧ E g1 < E (g1 + 1)) = false) := hid (decide_eq_false (fun hh => d1 hh.1))
          have d1z : decide ((c1 : Int) + 1 < (hi : Int)) = false := decide_eq_false (by omega)
          have d1y : ¬ (c1 : Int) + 1 < (hi : Int) := by omega
          clear d1
          go_wp2_with fail
          go_quiet (fail)
          go_wp2_with fail
          go_meet
          case rel => exact ⟨by rw [HD.out], nq, rfl⟩
      case rest =>
      obtain ⟨rfl, q0, rfl⟩ := hcut
      have HE2 := hid (ar_drewN HE.out q0)
      have HT2 : Hid (Turn R w (wr.drewN q0)) := HTr
      clear HE HTr
      obtain ⟨wc, hwc⟩ : ∃ u, wr.drewN q0 = u := ⟨_, rfl⟩
      rw [hwc] at HE2 HT2
      go_upto_if 36 with fail
      rw [hwc]
      clear hwc
      go_cut [9] (fun v wx => ∃ c : Nat, v = .int .i64 (c : Int) ∧ Hid (UBig E f hi r c) ∧ wx = wc)
      case first =>
        by_cases d : c1 + 1 < hi ∧ E g1 < E (g1 + 1)
        · rw [decide_eq_true d]
          have HB : Hid (UBig E f hi r (c1 + 1)) := hid ⟨by have := HC1.out; omega, d.1, fun q e1 e2 e3 => by
            have h3 := HC1.out.1
            have e4 : q = c1 := by omega
            rw [e4, show f + c1 = g1 from HG1.out, show f + (c1 + 1) = g1 + 1 by have := HG1.out; omega]
            exact d.2⟩
          clear d
          go_wp2_with fail
          go_meet
          case rel => exact ⟨c1 + 1, by go_num, HB, rfl⟩
        · rw [decide_eq_false d]
          have HB : Hid (UBig E f hi r c1) := hid ⟨by have := HC1.out; omega, HC1.out.2.1, fun q e1 e2 e3 => by
            have h3 := HC1.out.1
            have e4 : q = c1 + 1 := by omega
            subst e4
            have e5 : ¬ E g1 < E (g1 + 1) := fun hh => d ⟨e2, hh⟩
            rw [show f + c1 = g1 from HG1.out, show f + (c1 + 1) = g1 + 1 by have := HG1.out; omega]
            exact uinj_lt HInj.out hx1 (by have := HG1.out; omega) (by omega) e5⟩
          clear d
          go_wp2_with fail
          go_meet
          case rel => exact ⟨c1, rfl, HB, rfl⟩
      case rest =>
      obtain ⟨c, rfl, HB, rfl⟩ := hcut
      clear w1 w2 w3 w4 w5 eg1 hcz
      obtain ⟨p, hp⟩ : ∃ p, f + r = p := ⟨_, rfl⟩
      obtain ⟨g, hg⟩ : ∃ g, f + c = g := ⟨_, rfl⟩
      have hpm : p < m := by have := HC1.out; omega
      have hgm : g < m := by have := HB.out.2.1; omega
      have hpz : (p : Int) < (m : Int) := by omega
      have hgz : (g : Int) < (m : Int) := by omega
      have bc : c ≤ 256 := by have := HB.out.2.1; omega
      have br : r ≤ 256 := by omega
      have w6 : IntKind.i64.wrap ((f : Int) + (r : Int)) = (p : Int) := by rw [IntWalk.i64_in _ (by omega)]; omega
      have w7 : IntKind.i64.wrap ((f : Int) + (c : Int)) = (g : Int) := by rw [IntWalk.i64_in _ (by omega)]; omega
      have cx := ar_cell HE2.out hpm
      have cy := ar_cell HE2.out hgm
      have fx := ar_free HE2.out p
      have fy := ar_free HE2.out g
      have hq := fun u => less8 (E p) (E g) u
      obtain ⟨x, hx⟩ : ∃ x, E p = x := ⟨_, rfl⟩
      obtain ⟨y, hy⟩ : ∃ y, E g = y := ⟨_, rfl⟩
      rw [hx] at cx hq
      rw [hy] at cy hq
      have HXY : Hid (E p = x ∧ E g = y ∧ f + r = p ∧ f + c = g ∧ p < m ∧ g < m) := hid ⟨hx, hy, hp, hg, hpm, hgm⟩
      have n1 : p ≠ g := by have := HB.out.1; omega
      have n2 : g ≠ p := Ne.symm n1
      clear hx hy hp hg
      by_cases hl : x < y
      · simp only [decide_eq_true hl] at hq
        have HL := hid hl
        clear hl
        go_wp2_with fail
        go_quiet (first | (go_at_call 55; exact Calls.quiet_of_same (hq _)))
        go_wp2_with fail
        have HEq := hid (ar_drewN HE2.out nq)
        have HTq : Hid (Turn R w (wc.drewN nq)) := HT2
        have cx2 : (wc.drewN nq).cell? ⟨R, p, none⟩ = some (.int .u8 x) := cx
        have cy2 : (wc.drewN nq).cell? ⟨R, g, none⟩ = some (.int .u8 y) := cy
        have fx2 : (wc.drewN nq).frozen? ⟨R, p, none⟩ = false := fx
        have fy2 : (wc.drewN nq).frozen? ⟨R, g, none⟩ = false := fy
        clear cx cy fx fy hq HE2 HT2
        generalize wc.drewN nq = wq at *
        go_region
        all_goals go_wp2
        go_roundw
        case rel =>
          obtain ⟨e1, e2, e3, e4, e5, e6⟩ := HXY.out
          refine ⟨c, uSw E p g, .inl HB.out.2.1, rfl, hid ?_, hid ⟨usm_trans HS.out.1 (usm_sw E (by omega) (by have := HC1.out; omega) (by omega) (by have := HB.out.2.1; omega)), ?_⟩, hid (turn_sw HTq.out _ _ _ _)⟩
          · have hs := ar_sw HEq.out e5 e6
            rw [e1, e2] at hs
            exact hs
          · rw [← e3, ← e4]
            exact usf_step HS.out.2 HB.out.1 HB.out.2.1 HB.out.2.2 (by rw [e3, e4, e1, e2]; exact HL.out)
        case measure => have := HB.out.1; have := HB.out.2.1; simp [intOf]; omega
      · simp only [decide_eq_false hl] at hq
        have HL : Hid (y ≤ x) := hid (by omega)
        clear hl
        go_wp2_with fail
        go_quiet (first | (go_at_call 55; exact Calls.quiet_of_same (hq _)))
        go_wp2_with fail
        go_end0
        obtain ⟨e1, e2, e3, e4, e5, e6⟩ := HXY.out
        refine ⟨rfl, ⟨E, ar_drewN HE2.out _, HS.out.1, usf_done HS.out.2 HB.out.1 HB.out.2.2 ?_⟩, HT2.out⟩
        rw [e3, e4]
        exact uinj_lt HInj.out e5 e6 n1 (by have := HL.out; rw [e1, e2]; omega)
end Go.Proofs.Ytgmcjnhijgnadaa


namespace Go.Proofs.Ytgmcjnhijgnadaa
open Go.ChangeShapes Go.WideShapes Go.ChangeAt Go.RowKit
set_option linter.unusedVariables false
set_option linter.unusedSimpArgs false
set_option maxRecDepth 100000

set_option maxHeartbeats 6400000 in
theorem heap8 {R m cap a b : Nat} {D : Nat → Int} (w : World) (h : Ar w R m cap D) (hm : m ≤ 256) (hi0 : UInj m D) (h1 : a < b) (h2 : b ≤ m) :
    Calls Try.prog 50 #[.slice (some ⟨R, 0, none⟩) m cap, .int .i64 (a : Int), .int .i64 (b : Int)] w (UsC R m cap (fun E => USm a b D E ∧ UAsc a b E) w) := by
  have HP := hid h
  have HI := hid hi0
  obtain ⟨n, hn⟩ : ∃ n, b - a = n := ⟨_, rfl⟩
  have hab : a + n = b := by omega
  have HN : Hid (a + n = b ∧ 1 ≤ n ∧ b ≤ m ∧ m ≤ 256) := hid ⟨hab, by omega, h2, hm⟩
  have w1 : IntKind.i64.wrap ((b : Int) - (a : Int)) = (n : Int) := by rw [IntWalk.i64_in _ (by omega)]; omega
  have w2 : IntKind.i64.wrap ((n : Int) - 1) = (n : Int) - 1 := IntWalk.i64_in _ (by omega)
  obtain ⟨i0, hi1⟩ : ∃ i, (n - 1) / 2 = i := ⟨_, rfl⟩
  have w3 : Int.tdiv ((n : Int) - 1) 2 = (i0 : Int) := by rw [Int.tdiv_eq_ediv_of_nonneg (by omega)]; omega
  have w3b : ((n : Int) - 1) / 2 = (i0 : Int) := by omega
  have HI0 : Hid ((n - 1) / 2 = i0) := hid hi1
  have n1 : 1 ≤ n := by omega
  have n2 : n ≤ 256 := by omega
  clear h hi0 hi1 hn hab
  go_enter Try.func50, Try.ntmps50
  go_wp2
  go_loopw [9] (fun vi wr => ∃ (k : Nat) (z : Int) (E : Nat → Int), k ≤ i0 + 1 ∧ z = (k : Int) - 1 ∧ vi = .int .i64 z ∧ Hid (Ar wr R m cap E) ∧ Hid (USm a b D E ∧ UHp E a k n) ∧ Hid (Turn R w wr)) (fun vi _ => (intOf vi + 1).toNat)
  case atStart => exact ⟨i0 + 1, (i0 : Int), D, Nat.le_refl _, by omega, by first | rfl | (congr 1; omega), HP, hid ⟨usm_refl a b D, fun c c1 c2 c3 => by have := HI0.out; omega⟩, hid (Turn.refl _ _)⟩
  case round =>
    obtain ⟨k, z, E, hk, hz, rfl, HE, HS, HTr⟩ := hrel
    clear HP w1 w3 w3b
    have HInj := hid (usm_inj HS.out.1 HN.out.2.2.1 HI.out)
    have hi0n : i0 < n := by have := HI0.out; omega
    by_cases hk0 : k = 0
    · have hzn : ¬ (0 : Int) ≤ z := by omega
      have hS0 : Hid (USm a b D E ∧ UHp E a 0 n) := hid ⟨HS.out.1, by rw [← hk0]; exact HS.out.2⟩
      clear hk0 hk hz HS HI0
      go_wp2_with fail
      go_loopw [10] (fun vi wr => ∃ (k : Nat) (z : Int) (E : Nat → Int), k ≤ n ∧ z = (k : Int) - 1 ∧ vi = .int .i64 z ∧ Hid (Ar wr R m cap E) ∧ Hid (USm a b D E ∧ UHp E a 0 k ∧ UTl E a k n) ∧ Hid (Turn R w wr)) (fun vi _ => (intOf vi + 1).toNat)
      case atStart => exact ⟨n, (n : Int) - 1, E, Nat.le_refl _, rfl, by first | rfl | (congr 1; omega), HE, hid ⟨hS0.out.1, hS0.out.2, fun p q p1 p2 p3 => by omega⟩, HTr⟩
      case round =>
        obtain ⟨k, z, G, hk, hz, rfl, HG, HGs, HTg⟩ := hrel
        clear HE hS0 HTr HInj
        have HInj := hid (usm_inj HGs.out.1 HN.out.2.2.1 HI.out)
        by_cases hk0 : k = 0
        · have hzn : ¬ (0 : Int) ≤ z := by omega
          go_wp2_with fail
          go_end0
          refine ⟨rfl, ⟨G, HG.out, HGs.out.1, ?_⟩, HTg.out⟩
          have := HGs.out.2.2
          rw [hk0] at this
          have h3 := utl_asc this
          rw [HN.out.1] at h3
          exact h3
        · obtain ⟨i, hi⟩ : ∃ i, k = i + 1 := ⟨k - 1, by omega⟩
          have hzi : z = (i : Int) := by omega
          subst hzi
          have HK : Hid (k = i + 1) := hid hi
          have hiz : (0 : Int) ≤ (i : Int) := by omega
          have hin : i < n := by omega
          obtain ⟨g, hg⟩ : ∃ g, a + i = g := ⟨_, rfl⟩
          have hgm : g < m := by have := HN.out; omega
          have ham : a < m := by have := HN.out; omega
          have hm256 : m ≤ 256 := HN.out.2.2.2
          have w4 : IntKind.i64.wrap ((a : Int) + (i : Int)) = (g : Int) := by rw [IntWalk.i64_in _ (by omega)]; omega
          have w5 : IntKind.i64.wrap ((i : Int) - 1) = (i : Int) - 1 := IntWalk.i64_in _ (by omega)
          have hgz : (g : Int) < (m : Int) := by omega
          have haz : (a : Int) < (m : Int) := by omega
          have hgs : Hid (a + i = g) := hid hg
          have cx := ar_cell HG.out ham
          have cy := ar_cell HG.out hgm
          have fx := ar_free HG.out a
          have fy := ar_free HG.out g
          have HA2 := hid (ar_sw HG.out ham hgm)
          have HT2 := hid (turn_sw HTg.out a g (.int .u8 (G g)) (.int .u8 (G a)))
          have HInj2 := usm_inj (usm_sw (a := a) (b := b) G (i := a) (j := g) (by omega) (by have := HN.out; omega) (by omega) (by have := HN.out; omega)) HN.out.2.2.1 HInj.out
          have hheap : UHp (uSw G a g) a 1 i := by rw [← hgs.out]; exact uhp_swap (by rw [← HK.out]; exact HGs.out.2.1)
          have htail : Hid (UTl (uSw G a g) a i n) := hid (by rw [← hgs.out]; exact utl_swap (by rw [← HK.out]; exact HGs.out.2.1) (by rw [← HK.out]; exact HGs.out.2.2))
          have hSift : Hid (∀ u, Ar u R m cap (uSw G a g) → Calls Try.prog 60 #[.slice (some ⟨R, 0, none⟩) m cap, .int .i64 0, .int .i64 (i : Int), .int .i64 (a : Int)] u (UsC R m cap (fun E => USm a (a + i) (uSw G a g) E ∧ UHp E a 0 i) u)) := hid (fun u hu => sift8 (lo := 0) u hu hm256 HInj2 (by have := HN.out; omega) (by omega) hheap)
          have HEnd : Hid (∀ E, USm a (a + i) (uSw G a g) E → USm a b D E ∧ UTl E a i n) := hid (fun E hE => ⟨usm_trans HGs.out.1 (usm_trans (usm_sw G (by omega) (by have := HN.out; omega) (by have := hgs.out; omega) (by have := HN.out; have := hgs.out; omega)) (usm_wide hE (Nat.le_refl _) (by have := HN.out; omega))), utl_same htail.out hE⟩)
          generalize hxx : G a = x at cx HA2 HT2
          generalize hyy : G g = y at cy HA2 HT2
          clear hxx hyy HInj2 hheap hi hz hk0 hg HGs HTg HG HInj
          by_cases hg0 : a = g
          · subst hg0
            have hxy : x = y := by rw [cx] at cy; injection cy with cy; injection cy
            subst hxy
            clear cy fy
            go_wp2_with fail
            go_region
            all_goals go_wp2_with fail
            refine (hSift.out _ (ar_drewN HA2.out 1)).mono ?_
            rintro e w4 ⟨rfl, ⟨E2, g1, g2, g3⟩, t4⟩
            have HG4 := hid g1
            have HE4 := hid (HEnd.out E2 g2)
            have HH4 := hid g3
            have HT4 := hid ((turn_drew HT2.out).trans t4)
            clear hSift HEnd g1 g2 g3 t4
            go_wp2_with fail
            go_roundw
            case rel => exact ⟨i, (i : Int) - 1, E2, by omega, rfl, by first | rfl | go_num, HG4, hid ⟨HE4.out.1, HH4.out, HE4.out.2⟩, HT4⟩
            case measure => simp [intOf]
          · have n3 : g ≠ a := fun e => hg0 e.symm
            have n4 : a ≠ g := hg0
            clear hg0
            go_wp2_with fail
            go_region
            all_goals go_wp2_with fail
            refine (hSift.out _ (ar_drewN HA2.out 1)).mono ?_
            rintro e w4 ⟨rfl, ⟨E2, g1, g2, g3⟩, t4⟩
            have HG4 := hid g1
            have HE4 := hid (HEnd.out E2 g2)
            have HH4 := hid g3
            have HT4 := hid ((turn_drew HT2.out).trans t4)
            clear hSift HEnd g1 g2 g3 t4
            go_wp2_with fail
            go_roundw
            case rel => exact ⟨i, (i : Int) - 1, E2, by omega, rfl, by first | rfl | go_num, HG4, hid ⟨HE4.out.1, HH4.out, HE4.out.2⟩, HT4⟩
            case measure => simp [intOf]
    · obtain ⟨i, hi⟩ : ∃ i, k = i + 1 := ⟨k - 1, by omega⟩
      have hzi : z = (i : Int) := by omega
      subst hzi
      have hiz : (0 : Int) ≤ (i : Int) := by omega
      have w5 : IntKind.i64.wrap ((i : Int) - 1) = (i : Int) - 1 := IntWalk.i64_in _ (by omega)
      have HK : Hid (k = i + 1 ∧ k ≤ i0 + 1) := hid ⟨hi, hk⟩
      have hS := sift8 (lo := i) wr HE.out HN.out.2.2.2 HInj.out (f := a) (hi := n) (by have := HN.out; omega) (by omega) (by rw [← hi]; exact HS.out.2)
      clear hi hz hk0 hk
      go_wp2_with fail
      refine hS.mono ?_
      rintro e w4 ⟨rfl, ⟨G, g1, g2, g3⟩, t4⟩
      have HG := hid g1
      have HGs : Hid (USm a b D G ∧ UHp G a i n) := hid ⟨usm_trans HS.out.1 (usm_wide g2 (Nat.le_refl _) (by have := HN.out; omega)), g3⟩
      have HT4 := hid (HTr.out.trans t4)
      clear hS g1 g2 g3 t4
      go_wp2_with fail
      go_roundw
      case rel => exact ⟨i, (i : Int) - 1, G, by have := HK.out; omega, rfl, by first | rfl | go_num, HG, HGs, HT4⟩
      case measure => simp [intOf]
end Go.Proofs.Ytgmcjnhijgnadaa
