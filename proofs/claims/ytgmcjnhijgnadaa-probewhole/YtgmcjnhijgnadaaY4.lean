/- The library's choice of a pivot. The row has at most 256 unlike members. The library's choice of a pivot, whole. The row has at most 256 unlike members. -/
import Derived.Test.YtgmcjnhijgnadaaY3
import Derived.Deep.CutBlock
import Derived.Deep.DeepCutAuto

namespace Go.Proofs.Ytgmcjnhijgnadaa
open Go.ChangeShapes Go.WideShapes Go.ChangeAt Go.RowKit
set_option linter.unusedVariables false
set_option linter.unusedSimpArgs false
set_option maxRecDepth 100000

theorem ar_turn {w w' : World} {R m cap Z : Nat} {D : Nat → Int} (h : Ar w R m cap D) (t : Turn Z w w') (hn : R ≠ Z) : Ar w' R m cap D := og_block h (fun g cur hg hc => t.2.2.2 g (at_lt hc) (by injection hg with hg; simp at hg; omega))
def O2 (Z i j : Nat) (w : World) (e : Ending) (w' : World) : Prop := ∃ (p q : Nat) (c : Int), e = .returned (.tuple #[.int .i64 (p : Int), .int .i64 (q : Int)]) ∧ (p = i ∧ q = j ∨ p = j ∧ q = i) ∧ At w' Z #[.int .i64 c] 3 ∧ Turn Z w w'
set_option maxHeartbeats 3200000 in
theorem order2 {R m cap i j Z : Nat} {c : Int} {D : Nat → Int} (w : World) (h : Ar w R m cap D) (hm : m ≤ 256) (h1 : i < m) (h2 : j < m) (hz : At w Z #[.int .i64 c] 3) :
    Calls Try.prog 66 #[.slice (some ⟨R, 0, none⟩) m cap, .int .i64 (i : Int), .int .i64 (j : Int), .pointer (some ⟨Z, 0, none⟩)] w (O2 Z i j w) := by
  have HZ := hid hz
  have cx := ar_cell h h1
  have cy := ar_cell h h2
  have hq := fun u => less8 (D j) (D i) u
  generalize D i = x at cx hq
  generalize D j = y at cy hq
  have iz : (i : Int) < (m : Int) := by omega
  have jz : (j : Int) < (m : Int) := by omega
  have c0 : w.cell? ⟨Z, 0, none⟩ = some (.int .i64 c) := at_cell hz 0
  have f0 : w.frozen? ⟨Z, 0, none⟩ = false := at_frozen hz 0
  clear h h1 h2 hz
  by_cases hl : y < x
  · simp only [decide_eq_true hl] at hq
    clear hl
    go_enter Try.func66, Try.ntmps66
    go_wp2_with fail
    go_quiet (first | (go_at_call 55; exact Calls.quiet_of_same (hq _)))
    go_wp2_with fail
    go_ret2
    exact ⟨j, i, _, rfl, .inr ⟨rfl, rfl⟩, at_set (T := 3) (cs := #[.int .i64 c]) HZ.out 0 _, turn_set (turn_kept (kept_drewN (kept_refl w) nq)) 0 _⟩
  · simp only [decide_eq_false hl] at hq
    clear hl
    go_enter Try.func66, Try.ntmps66
    go_wp2_with fail
    go_quiet (first | (go_at_call 55; exact Calls.quiet_of_same (hq _)))
    go_wp2_with fail
    go_ret2
    exact ⟨i, j, c, rfl, .inl ⟨rfl, rfl⟩, HZ.out, turn_kept (kept_drewN (kept_refl w) nq)⟩
def Md (Z : Nat) (p : Nat → Prop) (w : World) (e : Ending) (w' : World) : Prop := ∃ (r : Nat) (c : Int), e = .returned (.int .i64 (r : Int)) ∧ p r ∧ At w' Z #[.int .i64 c] 3 ∧ Turn Z w w'
set_option maxHeartbeats 3200000 in
theorem median {R m cap i j k Z : Nat} {c : Int} {D : Nat → Int} (w : World) (h : Ar w R m cap D) (hm : m ≤ 256) (h1 : i < m) (h2 : j < m) (h3 : k < m) (hz : At w Z #[.int .i64 c] 3) (hn : R ≠ Z) :
    Calls Try.prog 64 #[.slice (some ⟨R, 0, none⟩) m cap, .int .i64 (i : Int), .int .i64 (j : Int), .int .i64 (k : Int), .pointer (some ⟨Z, 0, none⟩)] w (Md Z (fun r => r = i ∨ r = j ∨ r = k) w) := by
  have HA := hid h
  have HB : Hid (i < m ∧ j < m ∧ k < m ∧ R ≠ Z) := hid ⟨h1, h2, h3, hn⟩
  have C1 := order2 w h hm h1 h2 hz
  clear h h1 h2 h3 hn hz
  go_enter Try.func64, Try.ntmps64
  go_wp2_with fail
  refine C1.mono ?_
  rintro e w1 ⟨p1, q1, c1, rfl, hp1, a1, t1⟩
  have HP1 := hid hp1
  have HA1 := hid (ar_turn HA.out t1 HB.out.2.2.2)
  have HT1 := hid t1
  have C2 := order2 (i := q1) (j := k) w1 HA1.out hm (by have := HB.out; omega) HB.out.2.2.1 a1
  clear C1 hp1 a1 t1
  go_wp2_with fail
  refine C2.mono ?_
  rintro e w2 ⟨p2, q2, c2, rfl, hp2, a2, t2⟩
  have HP2 := hid hp2
  have HA2 := hid (ar_turn HA1.out t2 HB.out.2.2.2)
  have HT2 := hid (HT1.out.trans t2)
  have C3 := order2 (i := p1) (j := p2) w2 HA2.out hm (by have := HB.out; have := HP1.out; omega) (by have := HB.out; have := HP1.out; omega) a2
  clear C2 hp2 a2 t2
  go_wp2_with fail
  refine C3.mono ?_
  rintro e w3 ⟨p3, q3, c3, rfl, hp3, a3, t3⟩
  have HP3 := hid hp3
  have HA3 := hid a3
  have HT3 := hid (HT2.out.trans t3)
  clear C3 hp3 a3 t3
  go_wp2_with fail
  go_ret
  exact ⟨q3, c3, rfl, by have := HP1.out; have := HP2.out; have := HP3.out; omega, HA3.out, HT3.out⟩
set_option maxHeartbeats 1600000 in
theorem medadj {R m cap i Z : Nat} {c : Int} {D : Nat → Int} (w : World) (h : Ar w R m cap D) (hm : m ≤ 256) (h1 : i + 2 < m) (hz : At w Z #[.int .i64 c] 3) (hn : R ≠ Z) :
    Calls Try.prog 63 #[.slice (some ⟨R, 0, none⟩) m cap, .int .i64 ((i + 1 : Nat) : Int), .pointer (some ⟨Z, 0, none⟩)] w (Md Z (fun r => i ≤ r ∧ r ≤ i + 2) w) := by
  have C1 := median (i := i) (j := i + 1) (k := i + 2) w h hm (by omega) (by omega) h1 hz hn
  obtain ⟨j, hj⟩ : ∃ j, i + 1 = j := ⟨_, rfl⟩
  obtain ⟨k, hk⟩ : ∃ k, i + 2 = k := ⟨_, rfl⟩
  rw [hj, hk] at C1
  have e1 : (j : Int) - 1 = (i : Int) := by omega
  have e2 : (j : Int) + 1 = (k : Int) := by omega
  have HJ : Hid (i + 1 = j ∧ i + 2 = k) := hid ⟨hj, hk⟩
  have bj : j ≤ 256 := by omega
  rw [hj]
  clear hj hk h h1 hz hn
  go_enter Try.func63, Try.ntmps63
  go_wp2_with fail
  refine C1.mono ?_
  rintro e w1 ⟨r, c1, rfl, hr, a1, t1⟩
  have HR := hid hr
  have HA1 := hid a1
  have HT1 := hid t1
  clear C1 hr a1 t1
  go_wp2_with fail
  go_ret
  exact ⟨r, c1, rfl, by have := HR.out; have := HJ.out; omega, HA1.out, HT1.out⟩
def PivC (a b : Nat) (w : World) (e : Ending) (w' : World) : Prop := ∃ (p : Nat) (t : Int), e = .returned (.tuple #[.int .i64 (p : Int), .int .i64 t]) ∧ a ≤ p ∧ p < b ∧ Kept w w'
end Go.Proofs.Ytgmcjnhijgnadaa


namespace Go.Proofs.Ytgmcjnhijgnadaa
open Go.ChangeShapes Go.WideShapes Go.ChangeAt Go.RowKit
set_option linter.unusedVariables false
set_option linter.unusedSimpArgs false
set_option maxRecDepth 100000

set_option maxHeartbeats 6400000 in
theorem piv8 {R m cap a b : Nat} {D : Nat → Int} (w : World) (h : Ar w R m cap D) (hm : m ≤ 256) (h1 : a + 12 ≤ b) (h2 : b ≤ m) :
    Calls Try.prog 52 #[.slice (some ⟨R, 0, none⟩) m cap, .int .i64 (a : Int), .int .i64 (b : Int)] w (PivC a b w) := by
  obtain ⟨n, hn⟩ : ∃ n, b - a = n := ⟨_, rfl⟩
  obtain ⟨q, hq⟩ : ∃ q, n / 4 = q := ⟨_, rfl⟩
  have e1 : (b : Int) - (a : Int) = (n : Int) := by omega
  have w2 : Int.tdiv (n : Int) 4 = (q : Int) := by rw [Int.tdiv_eq_ediv_of_nonneg (by omega)]; omega
  have w2b : (n : Int) / 4 = (q : Int) := by omega
  obtain ⟨i, hi⟩ : ∃ i, a + q = i := ⟨_, rfl⟩
  obtain ⟨j, hj⟩ : ∃ j, a + q * 2 = j := ⟨_, rfl⟩
  obtain ⟨k, hk⟩ : ∃ k, a + q * 3 = k := ⟨_, rfl⟩
  have e2 : (a : Int) + (q : Int) = (i : Int) := by omega
  have e3 : (a : Int) + (q : Int) * 2 = (j : Int) := by omega
  have e4 : (a : Int) + (q : Int) * 3 = (k : Int) := by omega
  have ba : a ≤ 256 := by omega
  have bb : b ≤ 256 := by omega
  have bq : q ≤ 64 := by omega
  have n8 : (8 : Int) ≤ (n : Int) := by omega
  have HB : Hid (a + n = b ∧ a + 3 ≤ i ∧ i + 2 < b ∧ a + 3 ≤ j ∧ j + 2 < b ∧ a + 3 ≤ k ∧ k + 2 < b ∧ b ≤ m ∧ m ≤ 256) := hid ⟨by omega, by omega, by omega, by omega, by omega, by omega, by omega, h2, hm⟩
  have hA := at_new w #[.int .i64 0] 3
  have kA := kept_alloc (kept_refl w) (.cells #[.int .i64 0] 3)
  obtain ⟨W0, hW0⟩ : ∃ u, w.alloc (.cells #[.int .i64 0] 3) = u := ⟨_, rfl⟩
  obtain ⟨Z, hZ⟩ : ∃ u, w.heap.size = u := ⟨_, rfl⟩
  rw [hW0] at hA kA
  rw [hZ] at hA
  have hP0 := ar_kept h kA
  have hRZ : R ≠ Z := by
    obtain ⟨cs, hc⟩ := ar_at hP0
    exact at_ne hc hA (by decide)
  have HRZ : Hid (R ≠ Z) := hid hRZ
  have HP0 := hid hP0
  have HA0 := hid hA
  have HK0 := hid kA
  have HZ : Hid (w.heap.size = Z) := hid hZ
  clear h hn hq hi hj hk hA kA hP0 hRZ h1 h2
  go_enter Try.func52, Try.ntmps52
  go_upto_if 32 with fail
  clear hW0 hZ
  go_cut [10, 11, 12] (fun vi vj vk wx => ∃ (p : Nat) (c : Int), vj = .int .i64 (p : Int) ∧ a ≤ p ∧ p < b ∧ Hid (At wx Z #[.int .i64 c] 3) ∧ Hid (Turn Z W0 wx))
  case first =>
    go_upto_if 34 with fail
    go_cut [10, 11, 12] (fun vi vj vk wx => ∃ (i j k : Nat) (c : Int), vi = .int .i64 (i : Int) ∧ vj = .int .i64 (j : Int) ∧ vk = .int .i64 (k : Int) ∧ Hid (a ≤ i ∧ i < b ∧ a ≤ j ∧ j < b ∧ a ≤ k ∧ k < b) ∧ Hid (At wx Z #[.int .i64 c] 3) ∧ Hid (Turn Z W0 wx))
    case first =>
      by_cases h50 : 50 ≤ n
      · have h50z : (50 : Int) ≤ (n : Int) := by omega
        obtain ⟨i1, hi1⟩ : ∃ i1, i = i1 + 1 := ⟨i - 1, by have := HB.out; omega⟩
        obtain ⟨j1, hj1⟩ : ∃ j1, j = j1 + 1 := ⟨j - 1, by have := HB.out; omega⟩
        obtain ⟨k1, hk1⟩ : ∃ k1, k = k1 + 1 := ⟨k - 1, by have := HB.out; omega⟩
        have HIJ : Hid (i = i1 + 1 ∧ j = j1 + 1 ∧ k = k1 + 1) := hid ⟨hi1, hj1, hk1⟩
        have C1 := medadj (i := i1) W0 HP0.out hm (by have := HB.out; omega) HA0.out HRZ.out
        rw [← hi1] at C1
        clear h50 hi1 hj1 hk1
        go_wp2_with fail
        refine C1.mono ?_
        rintro e w1 ⟨r1, c1, rfl, hr1, a1, t1⟩
        have HR1 := hid hr1
        have HT1 := hid t1
        have C2 := medadj (i := j1) w1 (ar_turn HP0.out t1 HRZ.out) hm (by have := HB.out; have := HIJ.out; omega) a1 HRZ.out
        rw [← HIJ.out.2.1] at C2
        clear C1 hr1 a1 t1
        go_wp2_with fail
        refine C2.mono ?_
        rintro e w2 ⟨r2, c2, rfl, hr2, a2, t2⟩
        have HR2 := hid hr2
        have HT2 := hid (HT1.out.trans t2)
        have C3 := medadj (i := k1) w2 (ar_turn HP0.out HT2.out HRZ.out) hm (by have := HB.out; have := HIJ.out; omega) a2 HRZ.out
        rw [← HIJ.out.2.2] at C3
        clear C2 hr2 a2 t2
        go_wp2_with fail
        refine C3.mono ?_
        rintro e w3 ⟨r3, c3, rfl, hr3, a3, t3⟩
        have HR3 := hid hr3
        have HA3 := hid a3
        have HT3 := hid (HT2.out.trans t3)
        clear C3 hr3 a3 t3
        go_wp2_with fail
        go_meet
        case rel => exact ⟨r1, r2, r3, c3, rfl, rfl, rfl, hid (by have := HB.out; have := HIJ.out; have := HR1.out; have := HR2.out; have := HR3.out; omega), HA3, HT3⟩
      · have h50z : ¬ (50 : Int) ≤ (n : Int) := by omega
        clear h50
        go_wp2_with fail
        go_meet
        case rel => exact ⟨i, j, k, 0, rfl, rfl, rfl, hid (by have := HB.out; omega), HA0, hid (Turn.refl _ _)⟩
    case rest =>
      obtain ⟨i', j', k', c, rfl, rfl, rfl, HI, HAc, HTc⟩ := hcut
      have C := median (i := i') (j := j') (k := k') wc (ar_turn HP0.out HTc.out HRZ.out) hm (by have := HB.out; have := HI.out; omega) (by have := HB.out; have := HI.out; omega) (by have := HB.out; have := HI.out; omega) HAc.out HRZ.out
      go_wp2_with fail
      refine C.mono ?_
      rintro e w3 ⟨r3, c3, rfl, hr3, a3, t3⟩
      have HR3 := hid hr3
      have HA3 := hid a3
      have HT3 := hid (HTc.out.trans t3)
      clear C hr3 a3 t3
      go_wp2_with fail
      go_meet
      case rel => exact ⟨r3, c3, rfl, by have := HI.out; have := HR3.out; omega, by have := HI.out; have := HR3.out; omega, HA3, HT3⟩
  case rest =>
    obtain ⟨p, c, rfl, hp1, hp2, HAc, HTc⟩ := hcut
    have HPp : Hid (a ≤ p ∧ p < b) := hid ⟨hp1, hp2⟩
    have HKc : Hid (Kept w wc) := hid (kept_turn HK0.out (by have := HZ.out; omega) HTc.out)
    have c0 : wc.cell? ⟨Z, 0, none⟩ = some (.int .i64 c) := at_cell HAc.out 0
    clear hp1 hp2
    by_cases hc0 : c = 0
    · have b0 : (c == 0) = true := by simpa using hc0
      clear hc0
      go_wp2_with fail
      go_ret2
      exact ⟨p, _, rfl, HPp.out.1, HPp.out.2, HKc.out⟩
    · have b0 : (c == 0) = false := by simpa using hc0
      by_cases hc1 : c = 12
      · have b1 : (c == 12) = true := by simpa using hc1
        clear hc0 hc1
        go_wp2_with fail
        go_ret2
        exact ⟨p, _, rfl, HPp.out.1, HPp.out.2, HKc.out⟩
      · have b1 : (c == 12) = false := by simpa using hc1
        clear hc0 hc1
        go_wp2_with fail
        go_ret2
        exact ⟨p, _, rfl, HPp.out.1, HPp.out.2, HKc.out⟩
end Go.Proofs.Ytgmcjnhijgnadaa
