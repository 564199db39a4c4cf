/- The library's symmetric merge where both neighbours have two members or more, and the first isn't the longer one. The row has at most 64 members. -/
import Derived.Test.YtalcbahnhiibkaaSrtSym
import Derived.Deep.CutBlock
import Derived.Deep.DeepCutAuto
namespace Go.Proofs.Ytalcbahnhiibkaa
open Go.ChangeShapes Go.WideShapes Go.ChangeAt Go.RowKit
set_option linter.unusedVariables false
set_option linter.unusedSimpArgs false
set_option maxRecDepth 100000

set_option maxHeartbeats 6400000 in
theorem sym_low {key : Nat → Nat} {R n cap a m b mid : Nat} {D : Nat → Nat} {T : Value} (w0 w : World) (hc : CmpOk key n R T w0) (h : Pl w R n D) (ht : Turn R w0 w) (hn : n ≤ 64) (hD : ∀ p, p < n → D p < n) (hH : Halves key D a m b) (h1 : a + 1 < m) (h2 : m + 1 < b) (h3 : b ≤ n) (hm1 : 2 * mid ≤ a + b) (hm2 : a + b ≤ 2 * mid + 1) (hm : m ≤ mid) (ih : SymIs key R n cap T w0 (b - a)) :
    Calls Try.prog 31 #[.slice (some ⟨R, 0, none⟩) n cap, .int .i64 (a : Int), .int .i64 (m : Int), .int .i64 (b : Int), .func (.func 22) #[] #[T]] w (SymC key R n a b D w0) := by
  have HP := hid h
  have HT := hid ht
  have HC := hid hc
  have HH := hid hH
  have HD := hid hD
  have IH := hid ih
  obtain ⟨nn, hnn⟩ : ∃ nn, mid + m = nn := ⟨_, rfl⟩
  obtain ⟨pp, hpp⟩ : ∃ pp, nn - 1 = pp := ⟨_, rfl⟩
  have y : Sym a m b mid a m := ⟨by omega, by omega, hm1, hm2, Or.inl ⟨hm, rfl, rfl⟩⟩
  have tm : ¬ (mid : Int) < (m : Int) := by omega
  obtain ⟨d1, hd1⟩ : ∃ d, m - a = d := ⟨_, rfl⟩
  obtain ⟨d2, hd2⟩ : ∃ d, b - m = d := ⟨_, rfl⟩
  have hw0 : IntKind.i64.wrap ((m : Int) - (a : Int)) = (d1 : Int) := by rw [IntWalk.i64_in _ (by omega)]; omega
  have hw1 : IntKind.i64.wrap ((b : Int) - (m : Int)) = (d2 : Int) := by rw [IntWalk.i64_in _ (by omega)]; omega
  have hn1 : ((d1 : Int) == 1) = false := by rw [beq_eq_false_iff_ne]; omega
  have hn2 : ((d2 : Int) == 1) = false := by rw [beq_eq_false_iff_ne]; omega
  have hdv : ((a : Int) + (b : Int)) / 2 = (mid : Int) := by omega
  have hwn : IntKind.i64.wrap ((mid : Int) + (m : Int)) = (nn : Int) := by rw [IntWalk.i64_in _ (by omega)]; omega
  have hwp : IntKind.i64.wrap ((nn : Int) - 1) = (pp : Int) := by rw [IntWalk.i64_in _ (by omega)]; omega
  have HY := hid y
  have ba : a ≤ 64 := by omega
  have bm : m ≤ 64 := by omega
  have bmid : mid ≤ 64 := by omega
  have HN : Hid (mid + m = nn ∧ nn - 1 = pp) := hid ⟨hnn, hpp⟩
  have HB : Hid (a + 1 < m ∧ m + 1 < b ∧ b ≤ n ∧ 2 * mid ≤ a + b ∧ a + b ≤ 2 * mid + 1 ∧ m ≤ mid) := hid ⟨h1, h2, h3, hm1, hm2, hm⟩
  clear h ht hc hH hD ih y hnn hpp hd1 hd2 h1 h2 hm1 hm2 hm
  go_enter Try.func31, Try.ntmps31
  go_wp2_with fail
  go_loopw [20, 21] (fun vi vj wr => ∃ i j : Nat, vi = .int .i64 (i : Int) ∧ vj = .int .i64 (j : Int) ∧ j ≤ m ∧ i ≤ j ∧ Hid (Pl wr R n D) ∧ Hid (Cut (fun c => ¬ key (D (mid + m - 1 - c)) < key (D c)) a m i j) ∧ Hid (Turn R w0 wr)) (fun vi vj _ => (intOf vj).toNat - (intOf vi).toNat)
  case atStart => exact ⟨a, m, rfl, rfl, Nat.le_refl _, by have := HB.out; omega, HP, hid (cut_start (by have := HB.out; omega)), HT⟩
  case round =>
    obtain ⟨i, j, rfl, rfl, hj, hij, HPr, HCr, HTr⟩ := hrel
    clear HP HT hw1 hw0 hdv hwn hwp
    by_cases hlt : i < j
    · have hltz : (i : Int) < (j : Int) := by omega
      obtain ⟨t, hlo, hhi⟩ : ∃ t, 2 * t ≤ i + j ∧ i + j ≤ 2 * t + 1 := ⟨(i + j) / 2, by omega, by omega⟩
      obtain ⟨u, hu⟩ : ∃ u, pp - t = u := ⟨_, rfl⟩
      have HTt : Hid (i ≤ t ∧ t < j ∧ t < n ∧ mid + m - 1 - t = u ∧ u < n) := hid (by
        have := HB.out; have := HN.out; have := HCr.out.a; have hy := HY.out.way; omega)
      have b1 : (i : Int) + (j : Int) ≤ 128 := by have := HB.out; omega
      have hdv : ((i : Int) + (j : Int)) / 2 = (t : Int) := by omega
      have hwu : IntKind.i64.wrap ((pp : Int) - (t : Int)) = (u : Int) := by have := HB.out; have := HN.out; have := HTt.out; rw [IntWalk.i64_in _ (by omega)]; omega
      have bT : (t : Int) < (n : Int) := by have := HTt.out; omega
      have bU : (u : Int) < (n : Int) := by have := HTt.out; omega
      clear hlo hhi hu
      go_wp2_with fail
      clear hdv
      have ct := pl_cell HPr.out HTt.out.2.2.1
      have ca := pl_cell HPr.out HTt.out.2.2.2.2
      have hq := fun q => HC.out (wr.drewN q) (D u) (D t) (turn_drewN HTr.out q) (HD.out u HTt.out.2.2.2.2) (HD.out t HTt.out.2.2.1)
      obtain ⟨x, hx⟩ : ∃ x, D t = x := ⟨_, rfl⟩
      obtain ⟨y, hy⟩ : ∃ y, D u = y := ⟨_, rfl⟩
      rw [hx] at ct hq
      rw [hy] at ca hq
      have HXY : Hid (D t = x ∧ D u = y) := hid ⟨hx, hy⟩
      clear hx hy
      by_cases hl : key y < key x
      · have hl2 : cmpI (key y) (key x) < 0 := by rw [cmpI_yes hl]; decide
        have HL := hid hl
        clear hl
        go_quiet (first | (go_at_call 22; refine Calls.quiet_of (hq _)))
        go_wp2_with fail
        go_roundw
        case rel =>
          obtain ⟨e1, e2⟩ := HXY.out
          obtain ⟨t1, t2, t3, t4, t5⟩ := HTt.out
          exact ⟨i, t, rfl, rfl, by omega, t1, HPr, hid (cut_dn HCr.out (sym_mono HY.out HH.out) t1 t2 (by rw [t4, e1, e2]; exact fun hh => hh HL.out)), HTr⟩
        case measure =>
          obtain ⟨t1, t2, t3, t4, t5⟩ := HTt.out
          simp [intOf]
          omega
      · have hl2 : ¬ cmpI (key y) (key x) < 0 := cmpI_no hl
        have HL := hid hl
        clear hl
        go_quiet (first | (go_at_call 22; refine Calls.quiet_of (hq _)))
        go_wp2_with fail
        go_roundw
        case rel =>
          obtain ⟨e1, e2⟩ := HXY.out
          obtain ⟨t1, t2, t3, t4, t5⟩ := HTt.out
          exact ⟨t + 1, j, by go_num, rfl, hj, by omega, HPr, hid (cut_up HCr.out (sym_mono HY.out HH.out) t1 t2 (by rw [t4, e1, e2]; exact HL.out)), HTr⟩
        case measure =>
          obtain ⟨t1, t2, t3, t4, t5⟩ := HTt.out
          simp [intOf]
          omega
    · have hltz : ¬ (i : Int) < (j : Int) := by omega
      obtain rfl : i = j := by omega
      have HS := hid (sym_step HY.out HH.out HCr.out)
      obtain ⟨z, hz⟩ : ∃ z, mid + m - i = z := ⟨_, rfl⟩
      rw [hz] at HS
      have hwz : IntKind.i64.wrap ((nn : Int) - (i : Int)) = (z : Int) := by have := HB.out; have := HN.out; have := HS.out.2.2.1; rw [IntWalk.i64_in _ (by omega)]; omega
      obtain ⟨E, HE⟩ : ∃ E, Hid (E = rot D i m z) := ⟨_, rfl⟩
      have HBE : Hid (∀ p, p < n → E p < n) := hid (by rw [HE.out]; exact same_bound HS.out.2.2.2.2.2.2.1 h3 HD.out)
      clear hz hltz hij
      go_upto_region 39 with fail
      clear hwz
      go_cut [185] (fun v wx => v = .bool (decide (i < m ∧ m < z)) ∧ wx = wr)
      case first =>
        by_cases c1 : i < m
        · have c1z : (i : Int) < (m : Int) := by omega
          by_cases c2 : m < z
          · have c2z : (m : Int) < (z : Int) := by omega
            go_wp2_with fail
            go_meet
            exact ⟨by rw [decide_eq_true (p := i < m ∧ m < z) ⟨c1, c2⟩], rfl⟩
          · have c2z : ¬ (m : Int) < (z : Int) := by omega
            go_wp2_with fail
            go_meet
            exact ⟨by rw [decide_eq_false (p := i < m ∧ m < z) (fun hh => c2 hh.2)], rfl⟩
        · have c1z : ¬ (i : Int) < (m : Int) := by omega
          go_wp2_with fail
          go_meet
          exact ⟨by rw [decide_eq_false (p := i < m ∧ m < z) (fun hh => c1 hh.1)], rfl⟩
      case rest =>
      obtain ⟨rfl, rfl⟩ := hcut
      go_upto_if 185 with fail
      go_cut [191] (fun _ wx => Hid (Pl wx R n E) ∧ Hid (Turn R w0 wx))
      case first =>
        by_cases c1 : i < m ∧ m < z
        · rw [decide_eq_true c1]
          have hR := rot_any (cap := cap) (f := .func (.func 22) #[] #[T]) w0 wc HPr.out HTr.out hn c1.1 c1.2 (by have := HS.out.2.2.2.2.1; omega)
          rw [← HE.out] at hR
          clear c1
          go_wp2_with fail
          refine hR.mono ?_
          rintro e w1 ⟨rfl, p1, t1⟩
          have HP1 := hid p1
          have HT1 := hid t1
          clear p1 t1 hR
          go_wp2_with fail
          go_meet
          exact ⟨HP1, HT1⟩
        · rw [decide_eq_false c1]
          have HP1 : Hid (Pl wc R n E) := hid (pl_ext HPr.out (fun p _ => by
            rw [HE.out]
            by_cases c2 : i < m
            · rw [show z = m by have := HS.out.2.2.2.1; omega]; exact rot_right D i m p
            · rw [show i = m by have := HS.out.2.1; omega]; exact rot_left D m z p))
          clear c1
          go_wp2_with fail
          go_meet
          exact ⟨HP1, HTr⟩
      case rest =>
      obtain ⟨HP1, HT1⟩ := hcut
      clear HPr HTr
      go_upto_region 41 with fail
      go_cut [199] (fun v wx => v = .bool (decide (a < i ∧ i < mid)) ∧ wx = wc)
      case first =>
        by_cases c1 : a < i
        · have c1z : (a : Int) < (i : Int) := by omega
          by_cases c2 : i < mid
          · have c2z : (i : Int) < (mid : Int) := by omega
            go_wp2_with fail
            go_meet
            exact ⟨by rw [decide_eq_true (p := a < i ∧ i < mid) ⟨c1, c2⟩], rfl⟩
          · have c2z : ¬ (i : Int) < (mid : Int) := by omega
            go_wp2_with fail
            go_meet
            exact ⟨by rw [decide_eq_false (p := a < i ∧ i < mid) (fun hh => c2 hh.2)], rfl⟩
        · have c1z : ¬ (a : Int) < (i : Int) := by omega
          go_wp2_with fail
          go_meet
          exact ⟨by rw [decide_eq_false (p := a < i ∧ i < mid) (fun hh => c1 hh.1)], rfl⟩
      case rest =>
      obtain ⟨rfl, rfl⟩ := hcut
      go_upto_if 199 with fail
      go_cut [205] (fun _ wx => ∃ F, Hid (Pl wx R n F) ∧ Hid (Turn R w0 wx) ∧ Hid (Merged key E F a mid))
      case first =>
        by_cases c1 : a < i ∧ i < mid
        · rw [decide_eq_true c1]
          have hR := IH.out a i mid E wc HP1.out HT1.out HBE.out (by rw [HE.out]; exact HS.out.2.2.2.2.2.2.2.1) c1.1 c1.2 (by have := HB.out; omega) (by have := HB.out; omega)
          clear c1
          go_wp2_with fail
          refine hR.mono ?_
          rintro e w1 ⟨rfl, ⟨F, p1, m1⟩, t1⟩
          have HP2 := hid p1
          have HT2 := hid t1
          have HM1 := hid m1
          clear p1 t1 hR m1
          go_wp2_with fail
          go_meet
          exact ⟨F, HP2, HT2, HM1⟩
        · rw [decide_eq_false c1]
          have HM1 : Hid (Merged key E E a mid) := hid (by rw [HE.out]; exact half_done HS.out.2.2.2.2.2.2.2.1 HS.out.1 HS.out.2.2.1 c1)
          clear c1
          go_wp2_with fail
          go_meet
          exact ⟨E, HP1, HT1, HM1⟩
      case rest =>
      obtain ⟨F, HP2, HT2, HM1⟩ := hcut
      clear HP1 HT1
      have HHF : Hid (Halves key F mid z b) := hid (halves_out HM1.out.same (by rw [HE.out]; exact HS.out.2.2.2.2.2.2.2.2.1) HS.out.2.2.2.2.2.1 HS.out.2.2.2.2.1 (Or.inr (Nat.le_refl _)))
      have HBF : Hid (∀ p, p < n → F p < n) := hid (same_bound HM1.out.same (by have := HB.out; omega) HBE.out)
      have hend : ∀ G, Merged key F G mid b → Merged key D G a b := fun G hG => sym_done (by have := HB.out; omega) (by have := HB.out; omega) (by rw [← HE.out] at HS; exact HS.out.2.2.2.2.2.2.1) (by rw [HE.out]; exact HS.out.2.2.2.2.2.2.2.2.2) HM1.out hG
      have HEND := hid hend
      clear hend
      by_cases c1 : mid < z
      · have c1z : (mid : Int) < (z : Int) := by omega
        by_cases c2 : z < b
        · have c2z : (z : Int) < (b : Int) := by omega
          have hR := IH.out mid z b F wc HP2.out HT2.out HBF.out HHF.out c1 c2 h3 (by have := HB.out; omega)
          go_wp2_with fail
          refine hR.mono ?_
          rintro e w1 ⟨rfl, ⟨G, p1, m1⟩, t1⟩
          have HP3 := hid p1
          have HT3 := hid t1
          have HM2 := hid m1
          clear p1 t1 hR m1
          go_wp2_with fail
          go_end0
          exact ⟨rfl, ⟨G, HP3.out, HEND.out G HM2.out⟩, HT3.out⟩
        · have c2z : ¬ (z : Int) < (b : Int) := by omega
          go_wp2_with fail
          go_end0
          exact ⟨rfl, ⟨F, HP2.out, HEND.out F (half_done HHF.out HS.out.2.2.2.2.2.1 HS.out.2.2.2.2.1 (fun hh => c2 hh.2))⟩, HT2.out⟩
      · have c1z : ¬ (mid : Int) < (z : Int) := by omega
        go_wp2_with fail
        go_end0
        exact ⟨rfl, ⟨F, HP2.out, HEND.out F (half_done HHF.out HS.out.2.2.2.2.2.1 HS.out.2.2.2.2.1 (fun hh => c1 hh.1))⟩, HT2.out⟩
end Go.Proofs.Ytalcbahnhiibkaa
