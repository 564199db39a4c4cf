/- The library's partition of bytes around a pivot. The row has at most 256 unlike members. -/
import Derived.Test.YtgmcjnhijgnadaaY4
import Derived.Deep.CutBlock
import Derived.Deep.DeepCutAuto

namespace Go.Proofs.Ytgmcjnhijgnadaa
open Go.ChangeShapes Go.WideShapes Go.ChangeAt Go.RowKit
set_option linter.unusedVariables false
set_option linter.unusedSimpArgs false
set_option maxRecDepth 100000

/- What stands while the row is parted by what lies at a. -/
structure UPt (a b : Nat) (D : Nat → Int) (i j : Nat) (E : Nat → Int) : Prop where
  s : USm a b D E
  i1 : a + 1 ≤ i
  i2 : i ≤ j + 1
  i3 : j < b
  lo : ∀ k, a < k → k < i → E k < E a
  hi : ∀ k, j < k → k < b → E a < E k
section
variable {a b i j m : Nat} {D E : Nat → Int}
theorem upt_up (h : UPt a b D i j E) (h1 : i ≤ j) (hl : E i < E a) : UPt a b D (i + 1) j E := ⟨h.s, by have := h.i1; omega, by omega, h.i3, fun k k1 k2 => by
  by_cases e : k = i
  · rw [e]; exact hl
  · exact h.lo k k1 (by omega), h.hi⟩
theorem upt_dn (h : UPt a b D i j E) (h1 : i ≤ j) (hl : E a < E j) : UPt a b D i (j - 1) E := ⟨h.s, h.i1, by have := h.i1; omega, by have := h.i3; omega, h.lo, fun k k1 k2 => by
  by_cases e : k = j
  · rw [e]; exact hl
  · exact h.hi k (by omega) k2⟩
theorem upt_sw (h : UPt a b D i j E) (h1 : i < j) (hj : E j < E a) (hi : E a < E i) : UPt a b D (i + 1) (j - 1) (uSw E i j) := by
  have b1 := h.i1
  have b3 := h.i3
  have ea : uSw E i j a = E a := uSw_o E (by omega) (by omega)
  have ei : uSw E i j i = E j := uSw_i E i j
  have ej : uSw E i j j = E i := uSw_j E i j
  refine ⟨usm_trans h.s (usm_sw E (by omega) (by omega) (by omega) b3), by omega, by omega, by omega, fun k k1 k2 => ?_, fun k k1 k2 => ?_⟩
  · rw [ea]
    by_cases e : k = i
    · rw [e, ei]; exact hj
    · rw [uSw_o E e (by omega)]
      exact h.lo k k1 (by omega)
  · rw [ea]
    by_cases e : k = j
    · rw [e, ej]; exact hi
    · rw [uSw_o E (by omega) e]
      exact h.hi k (by omega) k2
def UMid (a b : Nat) (D E : Nat → Int) (q : Nat) : Prop := USm a b D E ∧ (∀ k, a ≤ k → k < q → E k < E q) ∧ ∀ k, q < k → k < b → E q < E k
theorem upt_done (h : UPt a b D (j + 1) j E) : UMid a b D (uSw E j a) j := by
  have b1 := h.i1
  have b3 := h.i3
  have ea : uSw E j a a = E j := uSw_j E j a
  have ej : uSw E j a j = E a := uSw_i E j a
  refine ⟨usm_trans h.s (usm_sw E (by omega) b3 (by omega) (by omega)), fun k k1 k2 => ?_, fun k k1 k2 => ?_⟩
  · rw [ej]
    by_cases e : k = a
    · subst e
      rw [ea]
      exact h.lo j (by omega) (by omega)
    · rw [uSw_o E (by omega) e]
      exact h.lo k (by omega) (by omega)
  · rw [ej, uSw_o E (by omega) (by omega)]
    exact h.hi k k1 k2
end
def PartC (R m cap a b : Nat) (D : Nat → Int) (w : World) (e : Ending) (w' : World) : Prop := ∃ (q : Nat) (t : Bool) (E : Nat → Int), e = .returned (.tuple #[.int .i64 (q : Int), .bool t]) ∧ a ≤ q ∧ q < b ∧ Ar w' R m cap E ∧ UMid a b D E q ∧ Turn R w w'
set_option maxHeartbeats 25600000 in
theorem part8 {R m cap a b p : Nat} {D : Nat → Int} (w : World) (h : Ar w R m cap D) (hm : m ≤ 256) (hi0 : UInj m D) (h1 : a + 2 ≤ b) (h2 : b ≤ m) (h3 : a ≤ p) (h4 : p < b) :
    Calls Try.prog 57 #[.slice (some ⟨R, 0, none⟩) m cap, .int .i64 (a : Int), .int .i64 (b : Int), .int .i64 (p : Int)] w (PartC R m cap a b D w) := by
  have HE := hid h
  have HI := hid hi0
  have HB : Hid (a + 2 ≤ b ∧ (a ≤ p ∧ p < b) ∧ b ≤ m ∧ m ≤ 256) := hid ⟨h1, ⟨h3, h4⟩, h2, hm⟩
  have HT : Hid (Turn R w w) := hid (Turn.refl _ _)
  have ham : a < m := by omega
  have hpm : p < m := by omega
  have haz : (a : Int) < (m : Int) := by omega
  have hpz : (p : Int) < (m : Int) := by omega
  have ba : a ≤ 256 := by omega
  have bb : b ≤ 256 := by omega
  obtain ⟨j0, hj0⟩ : ∃ j, b - 1 = j := ⟨_, rfl⟩
  have ej0 : (b : Int) - 1 = (j0 : Int) := by omega
  have HJ0 : Hid (j0 + 1 = b) := hid (by omega)
  clear h hi0 h1 h2 h3 h4 hm hj0
  go_enter Try.func57, Try.ntmps57
  go_upto_region 1 with fail
  go_cut [23] (fun _ wx => Hid (Ar wx R m cap (uSw D a p)) ∧ Hid (Turn R w wx))
  case first =>
    have cx := ar_cell HE.out ham
    have cy := ar_cell HE.out hpm
    have fx := ar_free HE.out a
    have fy := ar_free HE.out p
    have HA2 := hid (ar_drewN (ar_sw HE.out ham hpm) 1)
    have HT2 := hid (turn_drew (turn_sw HT.out a p (.int .u8 (D p)) (.int .u8 (D a))))
    generalize hxx : D a = x at cx HA2 HT2
    generalize hyy : D p = y at cy HA2 HT2
    clear hxx hyy HE HT
    by_cases hpa : a = p
    · subst hpa
      have hxy : x = y := by rw [cx] at cy; injection cy with cy; injection cy
      subst hxy
      clear cy fy hpz
      go_region
      all_goals
        go_wp2_with fail
        go_meet
        exact ⟨HA2, HT2⟩
    · have n3 : p ≠ a := fun e => hpa e.symm
      have n4 : a ≠ p := hpa
      clear hpa
      go_region
      all_goals
        go_wp2_with fail
        go_meet
        exact ⟨HA2, HT2⟩
  case rest =>
  obtain ⟨HE, HT⟩ := hcut
  obtain ⟨E, hE⟩ : ∃ E, uSw D a p = E := ⟨_, rfl⟩
  rw [hE] at HE
  have HS0 : Hid (UPt a b D (a + 1) j0 E) := hid ⟨by rw [← hE]; exact usm_sw D (Nat.le_refl _) (by have := HB.out; omega) HB.out.2.1.1 HB.out.2.1.2, Nat.le_refl _, by have := HB.out; have := HJ0.out; omega, by have := HJ0.out; omega, fun k k1 k2 => by omega, fun k k1 k2 => by have := HJ0.out; omega⟩
  clear hE hpm hpz
  obtain ⟨i, hi⟩ : ∃ i, a + 1 = i := ⟨_, rfl⟩
  rw [hi] at HS0
  have ei : (a : Int) + 1 = (i : Int) := by omega
  have bi : i ≤ 257 := by omega
  clear hi
  obtain ⟨j, hj⟩ : ∃ j, j0 = j := ⟨_, rfl⟩
  rw [hj] at HS0 ej0
  have HU := HS0
  clear HS0 HJ0 hj
  obtain ⟨iS, hIS⟩ : ∃ q, i = q := ⟨_, rfl⟩
  have HIS := hid hIS
  clear hIS
  go_upto_block 0 with fail
  go_cut [10] (fun v wx => ∃ i : Nat, v = .int .i64 (i : Int) ∧ Hid (UPt a b D i j E) ∧ Hid (iS ≤ i) ∧ Hid (i = j + 1 ∨ E a < E i) ∧ Hid (Ar wx R m cap E) ∧ Hid (Turn R w wx))
  case first =>
    go_wp2_with fail
    go_loopw [10] (fun v wr => ∃ i : Nat, v = .int .i64 (i : Int) ∧ Hid (UPt a b D i j E) ∧ Hid (iS ≤ i) ∧ Hid (Ar wr R m cap E) ∧ Hid (Turn R w wr)) (fun v _ => ((j : Int) + 1 - intOf v).toNat)
    case atStart => exact ⟨i, rfl, HU, hid (by have := HIS.out; omega), HE, HT⟩
    case round =>
      obtain ⟨i, rfl, HU, HMo, HE, HT⟩ := hrel
      have hb1 := HU.out.i1
      have hb2 := HU.out.i2
      have hb3 := HU.out.i3
      have hbb := HB.out
      have HInj := hid (usm_inj HU.out.s HB.out.2.2.1 HI.out)
      by_cases hle : i ≤ j
      · have hlez : (i : Int) ≤ (j : Int) := by omega
        have hvm : i < m := by omega
        have ham : a < m := by omega
        have hvz : (i : Int) < (m : Int) := by omega
        have haz : (a : Int) < (m : Int) := by omega
        have cx := ar_cell HE.out hvm
        have ca := ar_cell HE.out ham
        have hq := fun u => less8 (E i) (E a) u
        have bm : m ≤ 256 := HB.out.2.2.2
        by_cases hl : E i < E a
        · have HL := hid hl
          simp only [decide_eq_true hl] at hq
          clear hl
          obtain ⟨x, hx⟩ : ∃ x, E i = x := ⟨_, rfl⟩
          obtain ⟨y, hy⟩ : ∃ y, E a = y := ⟨_, rfl⟩
          rw [hx] at cx
          rw [hy] at ca
          simp only [hx, hy] at hq
          clear hx hy
          clear hbb
          go_wp2_with fail
          go_quiet (first | (go_at_call 55; exact Calls.quiet_of_same (hq _)))
          go_wp2_with fail
          go_roundw
          case rel => exact ⟨i + 1, by first | rfl | go_num, hid (upt_up HU.out hle HL.out), hid (by have := HMo.out; omega), hid (ar_drewN HE.out _), HT⟩
          case measure => simp [intOf]; omega
        · have HL := hid (show E a < E i from uinj_lt HInj.out hvm ham (by omega) hl)
          simp only [decide_eq_false hl] at hq
          clear hl
          obtain ⟨x, hx⟩ : ∃ x, E i = x := ⟨_, rfl⟩
          obtain ⟨y, hy⟩ : ∃ y, E a = y := ⟨_, rfl⟩
          rw [hx] at cx
          rw [hy] at ca
          simp only [hx, hy] at hq
          clear hx hy
          clear hbb
          go_wp2_with fail
          go_quiet (first | (go_at_call 55; exact Calls.quiet_of_same (hq _)))
          go_wp2_with fail
          go_meet
          case rel => exact ⟨i, rfl, HU, HMo, hid (.inr HL.out), hid (ar_drewN HE.out _), HT⟩
      · have hlez : decide ((i : Int) ≤ (j : Int)) = false := decide_eq_false (by omega)
        have hlez2 : ¬ (i : Int) ≤ (j : Int) := by omega
        have hlez3 : decide (i ≤ j) = false := decide_eq_false hle
        have hij : i = j + 1 := by omega
        have HIJ := hid hij
        clear hij hbb
        go_wp2_with fail
        go_quiet (fail)
        go_wp2_with fail
        go_meet
        case rel => exact ⟨i, rfl, HU, HMo, hid (.inl HIJ.out), hid (ar_drewN HE.out _), HT⟩
  case rest =>
  obtain ⟨i, rfl, HU, HMi, HX, HE, HT⟩ := hcut
  have HX0 : Hid (i ≤ j → E a < E i) := hid (fun hle => HX.out.resolve_left (by omega))
  have HX := HX0
  clear ei ej0 HX0
  obtain ⟨jS, hJS⟩ : ∃ q, j = q := ⟨_, rfl⟩
  have HJS := hid hJS
  clear hJS
  go_upto_block 2 with fail
  go_cut [11] (fun v wx => ∃ j : Nat, v = .int .i64 (j : Int) ∧ Hid (UPt a b D i j E) ∧ Hid (j ≤ jS) ∧ Hid (i = j + 1 ∨ (E j < E a ∧ E a < E i)) ∧ Hid (Ar wx R m cap E) ∧ Hid (Turn R w wx))
  case first =>
    go_wp2_with fail
    go_loopw [11] (fun v wr => ∃ j : Nat, v = .int .i64 (j : Int) ∧ Hid (UPt a b D i j E) ∧ Hid (j ≤ jS) ∧ Hid (i ≤ j → E a < E i) ∧ Hid (Ar wr R m cap E) ∧ Hid (Turn R w wr)) (fun v _ => (intOf v).toNat)
    case atStart => exact ⟨j, rfl, HU, hid (by have := HJS.out; omega), HX, HE, HT⟩
    case round =>
      obtain ⟨j, rfl, HU, HMo, HX, HE, HT⟩ := hrel
      have hb1 := HU.out.i1
      have hb2 := HU.out.i2
      have hb3 := HU.out.i3
      have hbb := HB.out
      have HInj := hid (usm_inj HU.out.s HB.out.2.2.1 HI.out)
      by_cases hle : i ≤ j
      · have hlez : (i : Int) ≤ (j : Int) := by omega
        have hvm : j < m := by omega
        have ham : a < m := by omega
        have hvz : (j : Int) < (m : Int) := by omega
        have haz : (a : Int) < (m : Int) := by omega
        have cx := ar_cell HE.out hvm
        have ca := ar_cell HE.out ham
        have hq := fun u => less8 (E j) (E a) u
        have bm : m ≤ 256 := HB.out.2.2.2
        by_cases hl : E j < E a
        · have HL := hid hl
          simp only [decide_eq_true hl] at hq
          clear hl
          obtain ⟨x, hx⟩ : ∃ x, E j = x := ⟨_, rfl⟩
          obtain ⟨y, hy⟩ : ∃ y, E a = y := ⟨_, rfl⟩
          rw [hx] at cx
          rw [hy] at ca
          simp only [hx, hy] at hq
          clear hx hy
          clear hbb
          go_wp2_with fail
          go_quiet (first | (go_at_call 55; exact Calls.quiet_of_same (hq _)))
          go_wp2_with fail
          go_meet
          case rel => exact ⟨j, rfl, HU, HMo, hid (.inr ⟨HL.out, HX.out hle⟩), hid (ar_drewN HE.out _), HT⟩
        · have HL := hid (show E a < E j from uinj_lt HInj.out hvm ham (by omega) hl)
          simp only [decide_eq_false hl] at hq
          clear hl
          obtain ⟨x, hx⟩ : ∃ x, E j = x := ⟨_, rfl⟩
          obtain ⟨y, hy⟩ : ∃ y, E a = y := ⟨_, rfl⟩
          rw [hx] at cx
          rw [hy] at ca
          simp only [hx, hy] at hq
          clear hx hy
          clear hbb
          go_wp2_with fail
          go_quiet (first | (go_at_call 55; exact Calls.quiet_of_same (hq _)))
          go_wp2_with fail
          have HJ : Hid (j = j - 1 + 1) := hid (by omega)
          obtain ⟨jp, hjp⟩ : ∃ q, j - 1 = q := ⟨_, rfl⟩
          go_roundw
          case rel => exact ⟨jp, by first | rfl | (congr 1; omega), hid (by rw [← hjp]; exact upt_dn HU.out hle HL.out), hid (by have := HMo.out; omega), hid (fun _ => HX.out hle), hid (ar_drewN HE.out _), HT⟩
          case measure => simp [intOf]; omega
      · have hlez : decide ((i : Int) ≤ (j : Int)) = false := decide_eq_false (by omega)
        have hlez2 : ¬ (i : Int) ≤ (j : Int) := by omega
        have hlez3 : decide (i ≤ j) = false := decide_eq_false hle
        have hij : i = j + 1 := by omega
        have HIJ := hid hij
        clear hij hbb
        go_wp2_with fail
        go_quiet (fail)
        go_wp2_with fail
        go_meet
        case rel => exact ⟨j, rfl, HU, HMo, hid (.inl HIJ.out), hid (ar_drewN HE.out _), HT⟩
  case rest =>
  obtain ⟨j, rfl, HU, HMj, HX, HE, HT⟩ := hcut
  have bj : j ≤ 256 := by have := HB.out; have := HU.out.i3; omega
  have bi2 : i ≤ 257 := by have := HU.out.i2; omega
  by_cases hgt : j < i
  · have hgtz : (j : Int) < (i : Int) := by omega
    have hij : i = j + 1 := by have := HU.out.i2; omega
    subst hij
    clear hgt
    have hjm : j < m := by have := HB.out; have := HU.out.i3; omega
    have hjz : (j : Int) < (m : Int) := by omega
    have HM := hid (upt_done HU.out)
    have HJb : Hid (a ≤ j ∧ j < b) := hid ⟨by have := HU.out.i1; omega, HU.out.i3⟩
    have cx := ar_cell HE.out hjm
    have cy := ar_cell HE.out ham
    have fx := ar_free HE.out j
    have fy := ar_free HE.out a
    have HA2 := hid (ar_drewN (ar_sw HE.out hjm ham) 1)
    have HT2 := hid (turn_drew (turn_sw HT.out j a (.int .u8 (E a)) (.int .u8 (E j))))
    generalize hxx : E j = x at cx HA2 HT2
    generalize hyy : E a = y at cy HA2 HT2
    clear hxx hyy HE HT
    by_cases hpa : j = a
    · subst hpa
      have hxy : x = y := by rw [cx] at cy; injection cy with cy; injection cy
      subst hxy
      clear cy fy
      go_wp2_with fail
      go_region
      all_goals
        go_wp2_with fail
        go_ret2
        exact ⟨j, true, uSw E j j, rfl, HJb.out.1, HJb.out.2, HA2.out, HM.out, HT2.out⟩
    · have n3 : a ≠ j := fun e => hpa e.symm
      have n4 : j ≠ a := hpa
      clear hpa
      go_wp2_with fail
      go_region
      all_goals
        go_wp2_with fail
        go_ret2
        exact ⟨j, true, uSw E j a, rfl, HJb.out.1, HJb.out.2, HA2.out, HM.out, HT2.out⟩
  · have hgtz : ¬ (j : Int) < (i : Int) := by omega
    have hjm : j < m := by have := HB.out; have := HU.out.i3; omega
    have him : i < m := by omega
    have hjz : (j : Int) < (m : Int) := by omega
    have hiz : (i : Int) < (m : Int) := by omega
    have hX2 : E j < E a ∧ E a < E i := HX.out.resolve_left (by omega)
    have hne : i ≠ j := fun e => by subst e; omega
    have n4 : j ≠ i := Ne.symm hne
    have HU2 : Hid (UPt a b D (i + 1) (j - 1) (uSw E i j)) := hid (upt_sw HU.out (by omega) hX2.1 hX2.2)
    obtain ⟨jp, hjp⟩ : ∃ q, j - 1 = q := ⟨_, rfl⟩
    obtain ⟨ip, hip⟩ : ∃ q, i + 1 = q := ⟨_, rfl⟩
    have ejp : (j : Int) - 1 = (jp : Int) := by have := HU.out.i1; omega
    have eip : (i : Int) + 1 = (ip : Int) := by omega
    rw [hjp, hip] at HU2
    have bjm : j ≤ 256 := by have := HB.out; omega
    have HIJ : Hid (ip = i + 1 ∧ j = jp + 1 ∧ i < j) := hid ⟨hip.symm, by have := HU.out.i1; omega, by omega⟩
    clear hX2 hjp hip
    have cx := ar_cell HE.out him
    have cy := ar_cell HE.out hjm
    have fx := ar_free HE.out i
    have fy := ar_free HE.out j
    have HA2 := hid (ar_drewN (ar_sw HE.out him hjm) 1)
    have HT2 := hid (turn_drew (turn_sw HT.out i j (.int .u8 (E j)) (.int .u8 (E i))))
    generalize hxx : E i = x at cx HA2 HT2
    generalize hyy : E j = y at cy HA2 HT2
    clear hxx hyy HE HT
    clear HX HU
    go_wp2_with fail
    go_region
    all_goals
      go_wp2_with fail
      have HE := HA2
      have HT := HT2
      have HU := HU2
      clear HA2 HT2 HU2 cx cy fx fy hne n4 hiz hjz him hjm ejp eip HIJ hgtz hgt
      go_loopw [10, 11] (fun v10 v11 wr => ∃ (i j : Nat) (E : Nat → Int), v10 = .int .i64 (i : Int) ∧ v11 = .int .i64 (j : Int) ∧ Hid (UPt a b D i j E) ∧ Hid (Ar wr R m cap E) ∧ Hid (Turn R w wr)) (fun v10 v11 _ => (intOf v11 + 1 - intOf v10).toNat)
      case atStart => exact ⟨_, _, _, rfl, rfl, HU, HE, HT⟩
      case round =>
        obtain ⟨i, j, E, rfl, rfl, HU, HE, HT⟩ := hrel
        have HU0 := HU
        obtain ⟨iS, hIS⟩ : ∃ q, i = q := ⟨_, rfl⟩
        have HIS := hid hIS
        clear hIS
        go_upto_block 6 with fail
        go_cut [10] (fun v wx => ∃ i : Nat, v = .int .i64 (i : Int) ∧ Hid (UPt a b D i j E) ∧ Hid (iS ≤ i) ∧ Hid (i = j + 1 ∨ E a < E i) ∧ Hid (Ar wx R m cap E) ∧ Hid (Turn R w wx))
        case first =>
          go_wp2_with fail
          go_loopw [10] (fun v wr => ∃ i : Nat, v = .int .i64 (i : Int) ∧ Hid (UPt a b D i j E) ∧ Hid (iS ≤ i) ∧ Hid (Ar wr R m cap E) ∧ Hid (Turn R w wr)) (fun v _ => ((j : Int) + 1 - intOf v).toNat)
          case atStart => exact ⟨i, rfl, HU, hid (by have := HIS.out; omega), HE, HT⟩
          case round =>
            obtain ⟨i, rfl, HU, HMo, HE, HT⟩ := hrel
            have hb1 := HU.out.i1
            have hb2 := HU.out.i2
            have hb3 := HU.out.i3
            have hbb := HB.out
            have HInj := hid (usm_inj HU.out.s HB.out.2.2.1 HI.out)
            by_cases hle : i ≤ j
            · have hlez : (i : Int) ≤ (j : Int) := by omega
              have hvm : i < m := by omega
              have ham : a < m := by omega
              have hvz : (i : Int) < (m : Int) := by omega
              have haz : (a : Int) < (m : Int) := by omega
              have cx := ar_cell HE.out hvm
              have ca := ar_cell HE.out ham
              have hq := fun u => less8 (E i) (E a) u
              have bm : m ≤ 256 := HB.out.2.2.2
              by_cases hl : E i < E a
              · have HL := hid hl
                simp only [decide_eq_true hl] at hq
                clear hl
                obtain ⟨x, hx⟩ : ∃ x, E i = x := ⟨_, rfl⟩
                obtain ⟨y, hy⟩ : ∃ y, E a = y := ⟨_, rfl⟩
                rw [hx] at cx
                rw [hy] at ca
                simp only [hx, hy] at hq
                clear hx hy
                clear hbb
                go_wp2_with fail
                go_quiet (first | (go_at_call 55; exact Calls.quiet_of_same (hq _)))
                go_wp2_with fail
                go_roundw
                case rel => exact ⟨i + 1, by first | rfl | go_num, hid (upt_up HU.out hle HL.out), hid (by have := HMo.out; omega), hid (ar_drewN HE.out _), HT⟩
                case measure => simp [intOf]; omega
              · have HL := hid (show E a < E i from uinj_lt HInj.out hvm ham (by omega) hl)
                simp only [decide_eq_false hl] at hq
                clear hl
                obtain ⟨x, hx⟩ : ∃ x, E i = x := ⟨_, rfl⟩
                obtain ⟨y, hy⟩ : ∃ y, E a = y := ⟨_, rfl⟩
                rw [hx] at cx
                rw [hy] at ca
                simp only [hx, hy] at hq
                clear hx hy
                clear hbb
                go_wp2_with fail
                go_quiet (first | (go_at_call 55; exact Calls.quiet_of_same (hq _)))
                go_wp2_with fail
                go_meet
                case rel => exact ⟨i, rfl, HU, HMo, hid (.inr HL.out), hid (ar_drewN HE.out _), HT⟩
            · have hlez : decide ((i : Int) ≤ (j : Int)) = false := decide_eq_false (by omega)
              have hlez2 : ¬ (i : Int) ≤ (j : Int) := by omega
              have hlez3 : decide (i ≤ j) = false := decide_eq_false hle
              have hij : i = j + 1 := by omega
              have HIJ := hid hij
              clear hij hbb
              go_wp2_with fail
              go_quiet (fail)
              go_wp2_with fail
              go_meet
              case rel => exact ⟨i, rfl, HU, HMo, hid (.inl HIJ.out), hid (ar_drewN HE.out _), HT⟩
        case rest =>
        obtain ⟨i, rfl, HU, HMi, HX, HE, HT⟩ := hcut
        have HX0 : Hid (i ≤ j → E a < E i) := hid (fun hle => HX.out.resolve_left (by omega))
        have HX := HX0
        clear HX0
        obtain ⟨jS, hJS⟩ : ∃ q, j = q := ⟨_, rfl⟩
        have HJS := hid hJS
        clear hJS
        go_upto_block 8 with fail
        go_cut [11] (fun v wx => ∃ j : Nat, v = .int .i64 (j : Int) ∧ Hid (UPt a b D i j E) ∧ Hid (j ≤ jS) ∧ Hid (i = j + 1 ∨ (E j < E a ∧ E a < E i)) ∧ Hid (Ar wx R m cap E) ∧ Hid (Turn R w wx))
        case first =>
          go_wp2_with fail
          go_loopw [11] (fun v wr => ∃ j : Nat, v = .int .i64 (j : Int) ∧ Hid (UPt a b D i j E) ∧ Hid (j ≤ jS) ∧ Hid (i ≤ j → E a < E i) ∧ Hid (Ar wr R m cap E) ∧ Hid (Turn R w wr)) (fun v _ => (intOf v).toNat)
          case atStart => exact ⟨j, rfl, HU, hid (by have := HJS.out; omega), HX, HE, HT⟩
          case round =>
            obtain ⟨j, rfl, HU, HMo, HX, HE, HT⟩ := hrel
            have hb1 := HU.out.i1
            have hb2 := HU.out.i2
            have hb3 := HU.out.i3
            have hbb := HB.out
            have HInj := hid (usm_inj HU.out.s HB.out.2.2.1 HI.out)
            by_cases hle : i ≤ j
            · have hlez : (i : Int) ≤ (j : Int) := by omega
              have hvm : j < m := by omega
              have ham : a < m := by omega
              have hvz : (j : Int) < (m : Int) := by omega
              have haz : (a : Int) < (m : Int) := by omega
              have cx := ar_cell HE.out hvm
              have ca := ar_cell HE.out ham
              have hq := fun u => less8 (E j) (E a) u
              have bm : m ≤ 256 := HB.out.2.2.2
              by_cases hl : E j < E a
              · have HL := hid hl
                simp only [decide_eq_true hl] at hq
                clear hl
                obtain ⟨x, hx⟩ : ∃ x, E j = x := ⟨_, rfl⟩
                obtain ⟨y, hy⟩ : ∃ y, E a = y := ⟨_, rfl⟩
                rw [hx] at cx
                rw [hy] at ca
                simp only [hx, hy] at hq
                clear hx hy
                clear hbb
                go_wp2_with fail
                go_quiet (first | (go_at_call 55; exact Calls.quiet_of_same (hq _)))
                go_wp2_with fail
                go_meet
                case rel => exact ⟨j, rfl, HU, HMo, hid (.inr ⟨HL.out, HX.out hle⟩), hid (ar_drewN HE.out _), HT⟩
              · have HL := hid (show E a < E j from uinj_lt HInj.out hvm ham (by omega) hl)
                simp only [decide_eq_false hl] at hq
                clear hl
                obtain ⟨x, hx⟩ : ∃ x, E j = x := ⟨_, rfl⟩
                obtain ⟨y, hy⟩ : ∃ y, E a = y := ⟨_, rfl⟩
                rw [hx] at cx
                rw [hy] at ca
                simp only [hx, hy] at hq
                clear hx hy
                clear hbb
                go_wp2_with fail
                go_quiet (first | (go_at_call 55; exact Calls.quiet_of_same (hq _)))
                go_wp2_with fail
                have HJ : Hid (j = j - 1 + 1) := hid (by omega)
                obtain ⟨jp, hjp⟩ : ∃ q, j - 1 = q := ⟨_, rfl⟩
                go_roundw
                case rel => exact ⟨jp, by first | rfl | (congr 1; omega), hid (by rw [← hjp]; exact upt_dn HU.out hle HL.out), hid (by have := HMo.out; omega), hid (fun _ => HX.out hle), hid (ar_drewN HE.out _), HT⟩
                case measure => simp [intOf]; omega
            · have hlez : decide ((i : Int) ≤ (j : Int)) = false := decide_eq_false (by omega)
              have hlez2 : ¬ (i : Int) ≤ (j : Int) := by omega
              have hlez3 : decide (i ≤ j) = false := decide_eq_false hle
              have hij : i = j + 1 := by omega
              have HIJ := hid hij
              clear hij hbb
              go_wp2_with fail
              go_quiet (fail)
              go_wp2_with fail
              go_meet
              case rel => exact ⟨j, rfl, HU, HMo, hid (.inl HIJ.out), hid (ar_drewN HE.out _), HT⟩
        case rest =>
        obtain ⟨j, rfl, HU, HMj, HX, HE, HT⟩ := hcut
        have bj : j ≤ 256 := by have := HB.out; have := HU.out.i3; omega
        have bi2 : i ≤ 257 := by have := HU.out.i2; omega
        by_cases hgt : j < i
        · have hgtz : (j : Int) < (i : Int) := by omega
          have hij : i = j + 1 := by have := HU.out.i2; omega
          subst hij
          clear hgt
          have hjm : j < m := by have := HB.out; have := HU.out.i3; omega
          have hjz : (j : Int) < (m : Int) := by omega
          have HM := hid (upt_done HU.out)
          have HJb : Hid (a ≤ j ∧ j < b) := hid ⟨by have := HU.out.i1; omega, HU.out.i3⟩
          have cx := ar_cell HE.out hjm
          have cy := ar_cell HE.out ham
          have fx := ar_free HE.out j
          have fy := ar_free HE.out a
          have HA2 := hid (ar_drewN (ar_sw HE.out hjm ham) 1)
          have HT2 := hid (turn_drew (turn_sw HT.out j a (.int .u8 (E a)) (.int .u8 (E j))))
          generalize hxx : E j = x at cx HA2 HT2
          generalize hyy : E a = y at cy HA2 HT2
          clear hxx hyy HE HT
          by_cases hpa : j = a
          · subst hpa
            have hxy : x = y := by rw [cx] at cy; injection cy with cy; injection cy
            subst hxy
            clear cy fy
            go_wp2_with fail
            go_region
            all_goals
              go_wp2_with fail
              go_ret2
              exact ⟨j, false, uSw E j j, rfl, HJb.out.1, HJb.out.2, HA2.out, HM.out, HT2.out⟩
          · have n3 : a ≠ j := fun e => hpa e.symm
            have n4 : j ≠ a := hpa
            clear hpa
            go_wp2_with fail
            go_region
            all_goals
              go_wp2_with fail
              go_ret2
              exact ⟨j, false, uSw E j a, rfl, HJb.out.1, HJb.out.2, HA2.out, HM.out, HT2.out⟩
        · have hgtz : ¬ (j : Int) < (i : Int) := by omega
          have hjm : j < m := by have := HB.out; have := HU.out.i3; omega
          have him : i < m := by omega
          have hjz : (j : Int) < (m : Int) := by omega
          have hiz : (i : Int) < (m : Int) := by omega
          have hX2 : E j < E a ∧ E a < E i := HX.out.resolve_left (by omega)
          have hne : i ≠ j := fun e => by subst e; omega
          have n4 : j ≠ i := Ne.symm hne
          have HU2 : Hid (UPt a b D (i + 1) (j - 1) (uSw E i j)) := hid (upt_sw HU.out (by omega) hX2.1 hX2.2)
          obtain ⟨jp, hjp⟩ : ∃ q, j - 1 = q := ⟨_, rfl⟩
          obtain ⟨ip, hip⟩ : ∃ q, i + 1 = q := ⟨_, rfl⟩
          have ejp : (j : Int) - 1 = (jp : Int) := by have := HU.out.i1; omega
          have eip : (i : Int) + 1 = (ip : Int) := by omega
          rw [hjp, hip] at HU2
          have bjm : j ≤ 256 := by have := HB.out; omega
          have HIJ : Hid (ip = i + 1 ∧ j = jp + 1 ∧ i < j) := hid ⟨hip.symm, by have := HU.out.i1; omega, by omega⟩
          clear hX2 hjp hip
          have cx := ar_cell HE.out him
          have cy := ar_cell HE.out hjm
          have fx := ar_free HE.out i
          have fy := ar_free HE.out j
          have HA2 := hid (ar_drewN (ar_sw HE.out him hjm) 1)
          have HT2 := hid (turn_drew (turn_sw HT.out i j (.int .u8 (E j)) (.int .u8 (E i))))
          generalize hxx : E i = x at cx HA2 HT2
          generalize hyy : E j = y at cy HA2 HT2
          clear hxx hyy HE HT
          clear HX HU
          go_wp2_with fail
          go_region
          all_goals
            go_wp2_with fail
            go_roundw
            case rel => exact ⟨ip, jp, uSw E i j, by first | rfl | go_num, by first | rfl | go_num, HU2, HA2, HT2⟩
            case measure => have := HIJ.out; have := HIS.out; have := HJS.out; have := HMi.out; have := HMj.out; simp [intOf]; omega
end Go.Proofs.Ytgmcjnhijgnadaa
