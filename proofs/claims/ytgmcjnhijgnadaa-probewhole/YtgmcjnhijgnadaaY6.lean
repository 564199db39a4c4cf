/- The library's partial insertion sort of bytes. The row has at most 256 unlike members; what stands ahead of the range is less than all of it. -/
import Derived.Test.YtgmcjnhijgnadaaY5
import Derived.Deep.CutBlock
import Derived.Deep.DeepCutAuto

namespace Go.Proofs.Ytgmcjnhijgnadaa
open Go.ChangeShapes Go.WideShapes Go.ChangeAt Go.RowKit
set_option linter.unusedVariables false
set_option linter.unusedSimpArgs false
set_option maxRecDepth 100000

theorem uasc_less {a b c : Nat} {D : Nat → Int} (h : UAsc a b D) (hc : c ≤ b) : UAsc a c D := fun i j h1 h2 h3 => h i j h1 h2 (by omega)
theorem uasc_eq {a b : Nat} {D E : Nat → Int} (h : UAsc a b D) (e : ∀ k, a ≤ k → k < b → E k = D k) : UAsc a b E := fun i j h1 h2 h3 => by
  rw [e i h1 (by omega), e j (by omega) h3]
  exact h i j h1 h2 h3
def ParC (R m cap a b : Nat) (D : Nat → Int) (w : World) (e : Ending) (w' : World) : Prop := ∃ (t : Bool) (E : Nat → Int), e = .returned (.bool t) ∧ Ar w' R m cap E ∧ USm a b D E ∧ (t = true → UAsc a b E) ∧ Turn R w w'
set_option maxHeartbeats 25600000 in
theorem par8 {R m cap a b : Nat} {D : Nat → Int} (w : World) (h : Ar w R m cap D) (hm : m ≤ 256) (hi0 : UInj m D) (h1 : a < b) (h2 : b ≤ m) (hp : UPre a b D) :
    Calls Try.prog 54 #[.slice (some ⟨R, 0, none⟩) m cap, .int .i64 (a : Int), .int .i64 (b : Int)] w (ParC R m cap a b D w) := by
  have HE := hid h
  have HI := hid hi0
  have HPre := hid hp
  have HB : Hid (a < b ∧ b ≤ m ∧ m ≤ 256) := hid ⟨h1, h2, hm⟩
  have ba : a ≤ 256 := by omega
  have bb : b ≤ 256 := by omega
  clear h hi0 h1 h2 hm hp
  go_enter Try.func54, Try.ntmps54
  go_wp2_with fail
  go_loopw [7, 8] (fun v7 v8 wr => ∃ (i n : Nat) (E : Nat → Int), v7 = .int .i64 (i : Int) ∧ v8 = .int .i64 (n : Int) ∧ n ≤ 5 ∧ a + 1 ≤ i ∧ i ≤ b ∧ Hid (USm a b D E ∧ UAsc a i E) ∧ Hid (Ar wr R m cap E) ∧ Hid (Turn R w wr)) (fun _ v8 _ => (5 - intOf v8).toNat)
  case atStart => exact ⟨a + 1, 0, D, by first | rfl | go_num, rfl, by omega, Nat.le_refl _, by have := HB.out; omega, hid ⟨usm_refl _ _ _, uasc_one a D⟩, HE, hid (Turn.refl _ _)⟩
  case round =>
    obtain ⟨i, n, E, rfl, rfl, hn, hi1, hi2, HS, HE', HT⟩ := hrel
    clear HE
    have HE := HE'
    clear HE'
    by_cases hn5 : n < 5
    · have hn5z : (n : Int) < 5 := by omega
      have HN : Hid (n < 5) := hid hn5
      have HInj := hid (usm_inj HS.out.1 HB.out.2.1 HI.out)
      have HPE := hid (upre_same HPre.out HS.out.1)
      clear hn hn5
      go_upto_block 2 with fail
      go_cut [7] (fun v wx => ∃ i : Nat, v = .int .i64 (i : Int) ∧ a + 1 ≤ i ∧ i ≤ b ∧ Hid (UAsc a i E) ∧ Hid (i = b ∨ E i < E (i - 1)) ∧ Hid (Ar wx R m cap E) ∧ Hid (Turn R w wx))
      case first =>
        go_wp2_with fail
        go_loopw [7] (fun v wr => ∃ i : Nat, v = .int .i64 (i : Int) ∧ a + 1 ≤ i ∧ i ≤ b ∧ Hid (UAsc a i E) ∧ Hid (Ar wr R m cap E) ∧ Hid (Turn R w wr)) (fun v _ => ((b : Int) - intOf v).toNat)
        case atStart => exact ⟨i, rfl, hi1, hi2, hid HS.out.2, HE, HT⟩
        case round =>
          obtain ⟨i, rfl, hi1, hi2, HSi, HE, HT⟩ := hrel
          by_cases hib : i < b
          · have hibz : (i : Int) < (b : Int) := by omega
            obtain ⟨ip, hip⟩ : ∃ q, i = q + 1 := ⟨i - 1, by omega⟩
            have him : i < m := by have := HB.out; omega
            have hipm : ip < m := by omega
            have hiz : (i : Int) < (m : Int) := by omega
            have hipz : (ip : Int) < (m : Int) := by omega
            have eip : (i : Int) - 1 = (ip : Int) := by omega
            have HIP : Hid (i = ip + 1 ∧ i - 1 = ip) := hid ⟨hip, by omega⟩
            have bm : m ≤ 256 := HB.out.2.2
            clear hip
            have cx := ar_cell HE.out him
            have cy := ar_cell HE.out hipm
            have fx := ar_free HE.out i
            have fy := ar_free HE.out ip
            have hq := fun u => less8 (E i) (E ip) u
            by_cases hl : E i < E ip
            · have HL := hid hl
              simp only [decide_eq_true hl] at hq
              clear hl
              obtain ⟨xx, hx⟩ : ∃ q, E i = q := ⟨_, rfl⟩
              obtain ⟨yy, hy⟩ : ∃ q, E ip = q := ⟨_, rfl⟩
              rw [hx] at cx
              rw [hy] at cy
              simp only [hx, hy] at hq
              clear hx hy
              go_wp2_with fail
              go_quiet (first | (go_at_call 55; exact Calls.quiet_of_same (hq _)))
              go_wp2_with fail
              go_meet
              case rel => exact ⟨i, rfl, hi1, hi2, HSi, hid (.inr (by rw [HIP.out.2]; exact HL.out)), hid (ar_drewN HE.out _), HT⟩
            · have HL := hid (show E ip < E i from uinj_lt HInj.out him hipm (by have := HIP.out; omega) hl)
              simp only [decide_eq_false hl] at hq
              clear hl
              obtain ⟨xx, hx⟩ : ∃ q, E i = q := ⟨_, rfl⟩
              obtain ⟨yy, hy⟩ : ∃ q, E ip = q := ⟨_, rfl⟩
              rw [hx] at cx
              rw [hy] at cy
              simp only [hx, hy] at hq
              clear hx hy
              go_wp2_with fail
              go_quiet (first | (go_at_call 55; exact Calls.quiet_of_same (hq _)))
              go_wp2_with fail
              go_roundw
              case rel => exact ⟨i + 1, by first | rfl | go_num, by omega, by omega, hid (uasc_more HSi.out (by omega) (by rw [HIP.out.2]; exact HL.out)), hid (ar_drewN HE.out _), HT⟩
              case measure => simp [intOf]; omega
          · have hibz : decide ((i : Int) < (b : Int)) = false := decide_eq_false (by omega)
            have hibz2 : ¬ (i : Int) < (b : Int) := by omega
            have hibz3 : decide (i < b) = false := decide_eq_false hib
            have HIB : Hid (i = b) := hid (by omega)
            go_wp2_with fail
            go_quiet (fail)
            go_wp2_with fail
            go_meet
            case rel => exact ⟨i, rfl, hi1, hi2, HSi, hid (.inl HIB.out), hid (ar_drewN HE.out _), HT⟩
      case rest =>
      obtain ⟨i', rfl, hj1, hj2, HSi, HX, HE', HT'⟩ := hcut
      have HMono : Hid (True) := hid trivial
      clear HE HT hi1 hi2
      have HE := HE'
      have HT := HT'
      clear HE' HT'
      obtain ⟨i2, hii⟩ : ∃ q, i' = q := ⟨_, rfl⟩
      have hi1 : a + 1 ≤ i2 := by omega
      have hi2 : i2 ≤ b := by omega
      rw [hii] at HSi HX
      have HUS := hid HS.out.1
      clear HS hj1 hj2
      by_cases hib : i2 = b
      · have hibz : ((i2 : Int) == (b : Int)) = true := by rw [beq_iff_eq]; omega
        have HAs : Hid (UAsc a b E) := hid (by rw [← hib]; exact HSi.out)
        clear hib
        rw [hii]
        clear hii
        go_wp2_with fail
        go_ret
        exact ⟨true, E, rfl, HE.out, HUS.out, fun _ => HAs.out, HT.out⟩
      · have hibz : ((i2 : Int) == (b : Int)) = false := by rw [beq_eq_false_iff_ne]; omega
        have hlt : i2 < b := by omega
        rw [hii]
        clear hii
        by_cases h50 : b < a + 50
        · have h50z : (b : Int) - (a : Int) < 50 := by omega
          clear hib h50
          go_wp2_with fail
          go_ret
          exact ⟨false, E, rfl, HE.out, HUS.out, fun h => (by cases h), HT.out⟩
        · have h50z : ¬ (b : Int) - (a : Int) < 50 := by omega
          obtain ⟨ip, hip⟩ : ∃ q, i2 = q + 1 := ⟨i2 - 1, by omega⟩
          have him : i2 < m := by have := HB.out; omega
          have hipm : ip < m := by omega
          have hiz : (i2 : Int) < (m : Int) := by omega
          have hipz : (ip : Int) < (m : Int) := by omega
          have eip : (i2 : Int) - 1 = (ip : Int) := by omega
          have HIP : Hid (i2 = ip + 1 ∧ i2 - 1 = ip ∧ i2 < b ∧ a ≤ ip) := hid ⟨hip, by omega, hlt, by omega⟩
          have bi2 : i2 ≤ 256 := by omega
          have n3 : i2 ≠ ip := by omega
          have n4 : ip ≠ i2 := by omega
          have HU2 : Hid (USm a b D (uSw E i2 ip)) := hid (usm_trans HUS.out (usm_sw E (by omega) hlt (by omega) (by omega)))
          have HA1 : Hid (UAsc a ip (uSw E i2 ip)) := hid (uasc_eq (uasc_less HSi.out (by omega)) (fun k k1 k2 => uSw_o E (by omega) (by omega)))
          clear hip hib h50 HX HSi HUS
          have cx := ar_cell HE.out him
          have cy := ar_cell HE.out hipm
          have fx := ar_free HE.out i2
          have fy := ar_free HE.out ip
          have HA2 := hid (ar_drewN (ar_sw HE.out him hipm) 1)
          have HT2 := hid (turn_drew (turn_sw HT.out i2 ip (.int .u8 (E ip)) (.int .u8 (E i2))))
          obtain ⟨xx, hx⟩ : ∃ q, E i2 = q := ⟨_, rfl⟩
          obtain ⟨yy, hy⟩ : ∃ q, E ip = q := ⟨_, rfl⟩
          rw [hx] at cx HA2 HT2
          rw [hy] at cy HA2 HT2
          clear hx hy HE HT
          obtain ⟨G, hG⟩ : ∃ G, uSw E i2 ip = G := ⟨_, rfl⟩
          rw [hG] at HU2 HA1 HA2
          clear hG
          go_upto_region 11 with fail
          go_cut [51] (fun _ wx => Hid (Ar wx R m cap G) ∧ Hid (Turn R w wx))
          case first =>
            go_region
            all_goals
              go_wp2_with fail
              go_meet
              exact ⟨HA2, HT2⟩
          case rest =>
          obtain ⟨HE, HT⟩ := hcut
          clear cx cy fx fy HA2 HT2 HPE HInj
          have HPG := hid (upre_same HPre.out HU2.out)
          go_upto_if 61 with fail
          go_cut [9] (fun _ wx => ∃ G, Hid (USm a b D G ∧ UAsc a i2 G) ∧ Hid (Ar wx R m cap G) ∧ Hid (Turn R w wx))
          case first =>
            by_cases h2 : a + 2 ≤ i2
            · have h2z : (2 : Int) ≤ (i2 : Int) - (a : Int) := by omega
              clear h2
              go_wp2_with fail
              go_loopw [9] (fun v wr => ∃ (j : Nat) (E : Nat → Int), v = .int .i64 (j : Int) ∧ a ≤ j ∧ j < i2 ∧ Hid (USm a b D E ∧ UIns a i2 j E) ∧ Hid (Ar wr R m cap E) ∧ Hid (Turn R w wr)) (fun v _ => (intOf v).toNat)
              case atStart => exact ⟨ip, G, by first | rfl | go_num, HIP.out.2.2.2, by have := HIP.out; omega, hid ⟨HU2.out, by rw [HIP.out.1]; exact uins_start HA1.out⟩, HE, HT⟩
              case round =>
                obtain ⟨j, E, rfl, hj1, hj2, HS, HE', HT'⟩ := hrel
                clear HE HT
                have HE := HE'
                have HT := HT'
                clear HE' HT'
                have HInj := hid (usm_inj HS.out.1 HB.out.2.1 HI.out)
                by_cases hj0 : 1 ≤ j
                · have hj0z : (1 : Int) ≤ (j : Int) := by omega
                  obtain ⟨jp, hjp⟩ : ∃ q, j = q + 1 := ⟨j - 1, by omega⟩
                  have hjm : j < m := by have := HB.out; omega
                  have hjpm : jp < m := by omega
                  have hjz : (j : Int) < (m : Int) := by omega
                  have hjpz : (jp : Int) < (m : Int) := by omega
                  have ejp : (j : Int) - 1 = (jp : Int) := by omega
                  have HJP : Hid (j = jp + 1 ∧ j - 1 = jp) := hid ⟨hjp, by omega⟩
                  have bm : m ≤ 256 := HB.out.2.2
                  have n5 : j ≠ jp := by omega
                  have n6 : jp ≠ j := by omega
                  have HPj := hid (upre_same HPre.out HS.out.1)
                  clear hjp
                  have cx := ar_cell HE.out hjm
                  have cy := ar_cell HE.out hjpm
                  have fx := ar_free HE.out j
                  have fy := ar_free HE.out jp
                  have hq := fun u => less8 (E j) (E jp) u
                  have HA2 := hid (ar_drewN (ar_sw HE.out hjm hjpm) 1)
                  have HT2 := hid (turn_drew (turn_sw HT.out j jp (.int .u8 (E jp)) (.int .u8 (E j))))
                  by_cases hl : E j < E jp
                  · have HL := hid hl
                    simp only [decide_eq_true hl] at hq
                    have hja : a < j := by
                      refine Nat.lt_of_le_of_ne hj1 (fun e => ?_)
                      rcases HPj.out with e0 | h0
                      · omega
                      · have := h0 j hj1 (by have := HIP.out; omega)
                        rw [e, HJP.out.2] at this
                        omega
                    have HS3 : Hid (USm a b D (uSw E j jp) ∧ UIns a i2 jp (uSw E j jp)) := hid ⟨usm_trans HS.out.1 (usm_sw E hj1 (by have := HIP.out; omega) (by have := HJP.out; omega) (by have := HIP.out; have := HJP.out; omega)), by
                      have := uins_step HS.out.2 hja hj2 (by rw [HJP.out.2]; exact hl)
                      rw [HJP.out.2] at this
                      exact this⟩
                    have HJA := hid hja
                    clear hja
                    obtain ⟨xx, hx⟩ : ∃ q, E j = q := ⟨_, rfl⟩
                    obtain ⟨yy, hy⟩ : ∃ q, E jp = q := ⟨_, rfl⟩
                    rw [hx] at cx HA2 HT2
                    rw [hy] at cy HA2 HT2
                    simp only [hx, hy] at hq
                    clear hx hy hl
                    go_wp2_with fail
                    go_quiet (first | (go_at_call 55; exact Calls.quiet_of_same (hq _)))
                    go_wp2_with fail
                    have cx2 : (wr.drewN nq).cell? ⟨R, j, none⟩ = some (.int .u8 xx) := cx
                    have cy2 : (wr.drewN nq).cell? ⟨R, jp, none⟩ = some (.int .u8 yy) := cy
                    have fx2 : (wr.drewN nq).frozen? ⟨R, j, none⟩ = false := fx
                    have fy2 : (wr.drewN nq).frozen? ⟨R, jp, none⟩ = false := fy
                    have HA3 : Hid (Ar (((wr.drewN nq).setCell ⟨R, j, none⟩ (.int .u8 yy)).setCell ⟨R, jp, none⟩ (.int .u8 xx)) R m cap (uSw E j jp)) := HA2
                    have HT3 : Hid (Turn R w (((wr.drewN nq).setCell ⟨R, j, none⟩ (.int .u8 yy)).setCell ⟨R, jp, none⟩ (.int .u8 xx))) := HT2
                    clear cx cy fx fy hq HA2 HT2 HE HT
                    generalize wr.drewN nq = wq at *
                    go_region
                    all_goals
                      go_wp2_with fail
                      go_roundw
                      case rel => exact ⟨jp, uSw E j jp, by first | rfl | go_num, by have := HJA.out; have := HJP.out; omega, by have := HJP.out; omega, HS3, hid (ar_drewN HA3.out 1), hid (turn_drew HT3.out)⟩
                      case measure => have := HJP.out; simp [intOf]; omega
                  · have HL := hid (show E jp < E j from uinj_lt HInj.out hjm hjpm (by omega) hl)
                    simp only [decide_eq_false hl] at hq
                    clear hl
                    obtain ⟨xx, hx⟩ : ∃ q, E j = q := ⟨_, rfl⟩
                    obtain ⟨yy, hy⟩ : ∃ q, E jp = q := ⟨_, rfl⟩
                    rw [hx] at cx
                    rw [hy] at cy
                    simp only [hx, hy] at hq
                    clear hx hy HA2 HT2
                    go_wp2_with fail
                    go_quiet (first | (go_at_call 55; exact Calls.quiet_of_same (hq _)))
                    go_wp2_with fail
                    go_meet
                    case rel => exact ⟨E, hid ⟨HS.out.1, uins_done HS.out.2 hj1 hj2 (.inr (by rw [HJP.out.2]; exact HL.out))⟩, hid (ar_drewN HE.out _), HT⟩
                · have hj0z : ¬ (1 : Int) ≤ (j : Int) := by omega
                  have HJ0 : Hid (j = a) := hid (by omega)
                  go_wp2_with fail
                  go_meet
                  case rel => exact ⟨E, hid ⟨HS.out.1, uins_done HS.out.2 hj1 hj2 (.inl HJ0.out)⟩, HE, HT⟩
            · have h2z : ¬ (2 : Int) ≤ (i2 : Int) - (a : Int) := by omega
              have HAi : Hid (UAsc a i2 G) := hid (by rw [show i2 = a + 1 by omega]; exact uasc_one a G)
              go_wp2_with fail
              go_meet
              case rel => exact ⟨G, hid ⟨HU2.out, HAi.out⟩, HE, HT⟩
          case rest =>
          obtain ⟨G2, HS2, HE', HT'⟩ := hcut
          clear HE HT HU2 HA1 HPG
          have HE := HE'
          have HT := HT'
          clear HE' HT'
          by_cases h2 : i2 + 2 ≤ b
          · have h2z : (2 : Int) ≤ (b : Int) - (i2 : Int) := by omega
            clear h2
            go_wp2_with fail
            go_loopw [10] (fun v wr => ∃ (j : Nat) (E : Nat → Int), v = .int .i64 (j : Int) ∧ i2 + 1 ≤ j ∧ j ≤ b ∧ Hid (USm a b D E ∧ UAsc a i2 E) ∧ Hid (Ar wr R m cap E) ∧ Hid (Turn R w wr)) (fun v _ => ((b : Int) - intOf v).toNat)
            case atStart => exact ⟨i2 + 1, G2, by first | rfl | go_num, Nat.le_refl _, by have := HIP.out; omega, HS2, HE, HT⟩
            case round =>
              obtain ⟨j, E, rfl, hj1, hj2, HS, HE', HT'⟩ := hrel
              clear HE HT
              have HE := HE'
              have HT := HT'
              clear HE' HT'
              have HInj := hid (usm_inj HS.out.1 HB.out.2.1 HI.out)
              by_cases hjb : j < b
              · have hjbz : (j : Int) < (b : Int) := by omega
                obtain ⟨jp, hjp⟩ : ∃ q, j = q + 1 := ⟨j - 1, by omega⟩
                have hjm : j < m := by have := HB.out; omega
                have hjpm : jp < m := by omega
                have hjz : (j : Int) < (m : Int) := by omega
                have hjpz : (jp : Int) < (m : Int) := by omega
                have ejp : (j : Int) - 1 = (jp : Int) := by omega
                have HJP : Hid (j = jp + 1 ∧ j - 1 = jp) := hid ⟨hjp, by omega⟩
                have bm : m ≤ 256 := HB.out.2.2
                have n5 : j ≠ jp := by omega
                have n6 : jp ≠ j := by omega
                clear hjp
                have cx := ar_cell HE.out hjm
                have cy := ar_cell HE.out hjpm
                have fx := ar_free HE.out j
                have fy := ar_free HE.out jp
                have hq := fun u => less8 (E j) (E jp) u
                have HA2 := hid (ar_drewN (ar_sw HE.out hjm hjpm) 1)
                have HT2 := hid (turn_drew (turn_sw HT.out j jp (.int .u8 (E jp)) (.int .u8 (E j))))
                by_cases hl : E j < E jp
                · have HL := hid hl
                  simp only [decide_eq_true hl] at hq
                  have HS3 : Hid (USm a b D (uSw E j jp) ∧ UAsc a i2 (uSw E j jp)) := hid ⟨usm_trans HS.out.1 (usm_sw E (by have := HIP.out; omega) hjb (by have := HIP.out; have := HJP.out; omega) (by have := HJP.out; omega)), uasc_eq HS.out.2 (fun k k1 k2 => uSw_o E (by omega) (by have := HJP.out; omega))⟩
                  obtain ⟨xx, hx⟩ : ∃ q, E j = q := ⟨_, rfl⟩
                  obtain ⟨yy, hy⟩ : ∃ q, E jp = q := ⟨_, rfl⟩
                  rw [hx] at cx HA2 HT2
                  rw [hy] at cy HA2 HT2
                  simp only [hx, hy] at hq
                  clear hx hy hl
                  go_wp2_with fail
                  go_quiet (first | (go_at_call 55; exact Calls.quiet_of_same (hq _)))
                  go_wp2_with fail
                  have cx2 : (wr.drewN nq).cell? ⟨R, j, none⟩ = some (.int .u8 xx) := cx
                  have cy2 : (wr.drewN nq).cell? ⟨R, jp, none⟩ = some (.int .u8 yy) := cy
                  have fx2 : (wr.drewN nq).frozen? ⟨R, j, none⟩ = false := fx
                  have fy2 : (wr.drewN nq).frozen? ⟨R, jp, none⟩ = false := fy
                  have HA3 : Hid (Ar (((wr.drewN nq).setCell ⟨R, j, none⟩ (.int .u8 yy)).setCell ⟨R, jp, none⟩ (.int .u8 xx)) R m cap (uSw E j jp)) := HA2
                  have HT3 : Hid (Turn R w (((wr.drewN nq).setCell ⟨R, j, none⟩ (.int .u8 yy)).setCell ⟨R, jp, none⟩ (.int .u8 xx))) := HT2
                  clear cx cy fx fy hq HA2 HT2 HE HT
                  generalize wr.drewN nq = wq at *
                  go_region
                  all_goals
                    go_wp2_with fail
                    go_roundw
                    case rel => exact ⟨j + 1, uSw E j jp, by first | rfl | go_num, by omega, by omega, HS3, hid (ar_drewN HA3.out 1), hid (turn_drew HT3.out)⟩
                    case measure => simp [intOf]; omega
                · have HL := hid (show E jp < E j from uinj_lt HInj.out hjm hjpm (by omega) hl)
                  simp only [decide_eq_false hl] at hq
                  clear hl
                  obtain ⟨xx, hx⟩ : ∃ q, E j = q := ⟨_, rfl⟩
                  obtain ⟨yy, hy⟩ : ∃ q, E jp = q := ⟨_, rfl⟩
                  rw [hx] at cx
                  rw [hy] at cy
                  simp only [hx, hy] at hq
                  clear hx hy HA2 HT2
                  go_wp2_with fail
                  go_quiet (first | (go_at_call 55; exact Calls.quiet_of_same (hq _)))
                  go_wp2_with fail
                  go_roundw
                  case rel => exact ⟨i2, n + 1, E, rfl, by first | rfl | go_num, by have := HN.out; omega, hi1, hi2, HS, hid (ar_drewN HE.out _), HT⟩
                  case measure => have := HN.out; simp [intOf]; omega
              · have hjbz : ¬ (j : Int) < (b : Int) := by omega
                go_wp2_with fail
                go_roundw
                case rel => exact ⟨i2, n + 1, E, rfl, by first | rfl | go_num, by have := HN.out; omega, hi1, hi2, HS, HE, HT⟩
                case measure => have := HN.out; simp [intOf]; omega
          · have h2z : ¬ (2 : Int) ≤ (b : Int) - (i2 : Int) := by omega
            go_wp2_with fail
            go_roundw
            case rel => exact ⟨i2, n + 1, G2, rfl, by first | rfl | go_num, by have := HN.out; omega, hi1, hi2, HS2, HE, HT⟩
            case measure => have := HN.out; simp [intOf]; omega
    · have hn5z : ¬ (n : Int) < 5 := by omega
      go_wp2_with fail
      go_ret
      exact ⟨false, E, rfl, HE.out, HS.out.1, fun h => (by cases h), HT.out⟩
end Go.Proofs.Ytgmcjnhijgnadaa
