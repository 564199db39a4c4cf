/- The library's symmetric merge of two neighbours of a row of places. The row has at most 64 members. -/
import Derived.Test.YtalcbahnhiibkaaSrtIns
namespace Go.Proofs.Ytalcbahnhiibkaa
open Go.ChangeShapes Go.WideShapes Go.ChangeAt Go.RowKit
set_option linter.unusedVariables false
set_option linter.unusedSimpArgs false
set_option maxRecDepth 100000

def SymC (key : Nat → Nat) (R n a b : Nat) (D : Nat → Nat) (w0 : World) (e : Ending) (w' : World) : Prop := e = .returned (.tuple #[]) ∧ (∃ E, Pl w' R n E ∧ Merged key D E a b) ∧ Turn R w0 w'
/- The merge of fewer than N members does as it should. -/
def SymIs (key : Nat → Nat) (R n cap : Nat) (T : Value) (w0 : World) (N : Nat) : Prop := ∀ (a m b : Nat) (D : Nat → Nat) (w : World), Pl w R n D → Turn R w0 w → (∀ p, p < n → D p < n) → Halves key D a m b → a < m → m < b → b ≤ n → b - a < N → Calls Try.prog 31 #[.slice (some ⟨R, 0, none⟩) n cap, .int .i64 (a : Int), .int .i64 (m : Int), .int .i64 (b : Int), .func (.func 22) #[] #[T]] w (SymC key R n a b D w0)
theorem first_mono {key D : Nat → Nat} {a b : Nat} (h : Halves key D a (a + 1) b) : Mono (fun p => key (D p) < key (D a)) (a + 1) b := fun p q h1 h2 h3 hq => by
  have := srt_le h.r (i := p) (j := q) h1 h2 h3
  omega
theorem last_mono {key D : Nat → Nat} {a m : Nat} (h : Halves key D a m (m + 1)) : Mono (fun p => ¬ key (D m) < key (D p)) a m := fun p q h1 h2 h3 hq => by
  have := srt_le h.l (i := p) (j := q) h1 h2 h3
  omega
set_option maxHeartbeats 3200000 in
theorem sym_first {key : Nat → Nat} {R n cap a b : Nat} {D : Nat → Nat} {T : Value} (w0 w : World) (hc : CmpOk key n R T w0) (h : Pl w R n D) (ht : Turn R w0 w) (hn : n ≤ 64) (hD : ∀ p, p < n → D p < n) (hH : Halves key D a (a + 1) b) (h1 : a + 1 < b) (h2 : b ≤ n) :
    Calls Try.prog 31 #[.slice (some ⟨R, 0, none⟩) n cap, .int .i64 (a : Int), .int .i64 ((a + 1 : Nat) : Int), .int .i64 (b : Int), .func (.func 22) #[] #[T]] w (SymC key R n a b D w0) := by
  have HP := hid h
  have HT := hid ht
  have HC := hid hc
  have HH := hid hH
  have HD := hid hD
  obtain ⟨m, hm⟩ : ∃ m, m = a + 1 := ⟨_, rfl⟩
  rw [← hm]
  have hw1 : IntKind.i64.wrap ((m : Int) - (a : Int)) = 1 := by rw [IntWalk.i64_in _ (by omega)]; omega
  have HM := hid hm
  have bA : (a : Int) < (n : Int) := by omega
  have HB : Hid (m < b ∧ a < n) := hid (by omega)
  clear h ht hc hH hD hm
  go_enter Try.func31, Try.ntmps31
  go_wp2_with fail
  go_loopw [10, 11] (fun vi vj wr => ∃ i j : Nat, vi = .int .i64 (i : Int) ∧ vj = .int .i64 (j : Int) ∧ j ≤ b ∧ i ≤ j ∧ Hid (Pl wr R n D) ∧ Hid (Cut (fun p => key (D p) < key (D a)) (a + 1) b i j) ∧ Hid (Turn R w0 wr)) (fun vi vj _ => (intOf vj).toNat - (intOf vi).toNat)
  case atStart => exact ⟨m, b, rfl, rfl, Nat.le_refl _, by have := HB.out; omega, HP, hid (by rw [HM.out]; exact cut_start (by omega)), HT⟩
  case round =>
    obtain ⟨i, j, rfl, rfl, hj, hij, HPr, HCr, HTr⟩ := hrel
    clear HP HT hw1
    by_cases hlt : i < j
    · have hltz : (i : Int) < (j : Int) := by omega
      obtain ⟨t, hlo, hhi⟩ : ∃ t, 2 * t ≤ i + j ∧ i + j ≤ 2 * t + 1 := ⟨(i + j) / 2, by omega, by omega⟩
      have hdv : ((i : Int) + (j : Int)) / 2 = (t : Int) := by omega
      have HTt : Hid (i ≤ t ∧ t < j ∧ t < n) := hid (by omega)
      have bT : (t : Int) < (n : Int) := by omega
      clear hlo hhi
      go_wp2_with fail
      clear hdv
      have ct := pl_cell HPr.out HTt.out.2.2
      have ca := pl_cell HPr.out HB.out.2
      have hq := fun q => HC.out (wr.drewN q) (D t) (D a) (turn_drewN HTr.out q) (HD.out t HTt.out.2.2) (HD.out a HB.out.2)
      obtain ⟨x, hx⟩ : ∃ x, D t = x := ⟨_, rfl⟩
      obtain ⟨y, hy⟩ : ∃ y, D a = y := ⟨_, rfl⟩
      rw [hx] at ct hq
      rw [hy] at ca hq
      have HXY : Hid (D t = x ∧ D a = y) := hid ⟨hx, hy⟩
      clear hx hy
      by_cases hl : key x < key y
      · have hl2 : cmpI (key x) (key y) < 0 := by rw [cmpI_yes hl]; decide
        have HL := hid hl
        clear hl
        go_quiet (first | (go_at_call 22; refine Calls.quiet_of (hq _)))
        go_wp2_with fail
        go_roundw
        case rel =>
          obtain ⟨e1, e2⟩ := HXY.out
          obtain ⟨t1, t2, t3⟩ := HTt.out
          exact ⟨t + 1, j, by go_num, rfl, hj, by omega, HPr, hid (cut_up HCr.out (first_mono HH.out) t1 t2 (by rw [e1, e2]; exact HL.out)), HTr⟩
        case measure =>
          obtain ⟨t1, t2, t3⟩ := HTt.out
          simp [intOf]
          omega
      · have hl2 : ¬ cmpI (key x) (key y) < 0 := cmpI_no hl
        have HL := hid hl
        clear hl
        go_quiet (first | (go_at_call 22; refine Calls.quiet_of (hq _)))
        go_wp2_with fail
        go_roundw
        case rel =>
          obtain ⟨e1, e2⟩ := HXY.out
          obtain ⟨t1, t2, t3⟩ := HTt.out
          exact ⟨i, t, rfl, rfl, by omega, t1, HPr, hid (cut_dn HCr.out (first_mono HH.out) t1 t2 (by rw [e1, e2]; exact HL.out)), HTr⟩
        case measure =>
          obtain ⟨t1, t2, t3⟩ := HTt.out
          simp [intOf]
          omega
    · have hltz : ¬ (i : Int) < (j : Int) := by omega
      obtain rfl : i = j := by omega
      have HI1 : Hid (a + 1 ≤ i ∧ i ≤ b) := hid ⟨HCr.out.a, HCr.out.c⟩
      obtain ⟨i1, hi1⟩ : ∃ i1, i = i1 + 1 := ⟨i - 1, by have := HI1.out; omega⟩
      have hw2 : IntKind.i64.wrap ((i : Int) - 1) = (i1 : Int) := by rw [IntWalk.i64_in _ (by omega)]; omega
      have HI2 := hid hi1
      clear hi1
      go_wp2_with fail
      obtain ⟨W1, HW1⟩ : ∃ W1, Hid (W1 = wr) := ⟨wr, rfl⟩
      go_loopw [13] (fun vk wr2 => ∃ k : Nat, a ≤ k ∧ k ≤ i1 ∧ vk = .int .i64 (k : Int) ∧ Hid (Pl wr2 R n (rot D a (a + 1) (k + 1))) ∧ Hid (Turn R w0 wr2)) (fun vk _ => i1 - (intOf vk).toNat)
      case atStart => exact ⟨a, Nat.le_refl _, by have := HI1.out; have := HI2.out; omega, rfl, hid (pl_ext HPr.out (fun p _ => rot_right D a (a + 1) p)), HTr⟩
      case round =>
        obtain ⟨k, hk1, hk2, rfl, HPk, HTk⟩ := hrel
        clear HPr HTr
        by_cases hlt2 : k < i1
        · have hlz : (k : Int) < (i1 : Int) := by omega
          obtain ⟨k1, hk⟩ : ∃ k1, k1 = k + 1 := ⟨_, rfl⟩
          have HK : Hid (k1 = k + 1 ∧ k < n ∧ k1 < n) := hid (by have := HI1.out; have := HI2.out; omega)
          have hw3 : IntKind.i64.wrap ((k : Int) + 1) = (k1 : Int) := by have := HK.out; rw [IntWalk.i64_in _ (by omega)]; omega
          have b1 : (k : Int) < (n : Int) := by have := HK.out; omega
          have b2 : (k1 : Int) < (n : Int) := by have := HK.out; omega
          have ck := pl_cell HPk.out HK.out.2.1
          have ck1 := pl_cell HPk.out HK.out.2.2
          have fk := pl_free HPk.out k
          have fk1 := pl_free HPk.out k1
          have ne1 : k ≠ k1 := by omega
          have ne2 : k1 ≠ k := by omega
          obtain ⟨x, hx⟩ : ∃ x, rot D a (a + 1) (k + 1) k = x := ⟨_, rfl⟩
          obtain ⟨y, hy⟩ : ∃ y, rot D a (a + 1) (k + 1) k1 = y := ⟨_, rfl⟩
          rw [hx] at ck
          rw [hy] at ck1
          have HXY : Hid (rot D a (a + 1) (k + 1) k = x ∧ rot D a (a + 1) (k + 1) k1 = y) := hid ⟨hx, hy⟩
          clear hx hy hk
          go_wp2_with fail
          go_region
          all_goals go_wp2
          go_roundw
          case rel =>
            obtain ⟨e1, e2⟩ := HXY.out
            obtain ⟨q1, q2, q3⟩ := HK.out
            refine ⟨k1, by omega, by omega, by first | rfl | go_num, hid ?_, hid (turn_sw HTk.out _ _ _ _)⟩
            have hs := pl_sw HPk.out q2 q3
            rw [e1, e2] at hs
            refine pl_ext hs (fun p _ => ?_)
            rw [q1]
            exact (sw_up hk1 p).symm
          case measure =>
            have := HK.out
            simp [intOf]
            omega
        · have hlz : ¬ (k : Int) < (i1 : Int) := by omega
          go_wp2_with fail
          go_end0
          have hk : k = i1 := by omega
          refine ⟨rfl, ⟨_, HPk.out, ?_⟩, HTk.out⟩
          rw [hk, ← HI2.out]
          exact one_first HH.out HCr.out
set_option maxHeartbeats 3200000 in
theorem sym_last {key : Nat → Nat} {R n cap a m : Nat} {D : Nat → Nat} {T : Value} (w0 w : World) (hc : CmpOk key n R T w0) (h : Pl w R n D) (ht : Turn R w0 w) (hn : n ≤ 64) (hD : ∀ p, p < n → D p < n) (hH : Halves key D a m (m + 1)) (h1 : a + 1 < m) (h2 : m + 1 ≤ n) :
    Calls Try.prog 31 #[.slice (some ⟨R, 0, none⟩) n cap, .int .i64 (a : Int), .int .i64 (m : Int), .int .i64 ((m + 1 : Nat) : Int), .func (.func 22) #[] #[T]] w (SymC key R n a (m + 1) D w0) := by
  have HP := hid h
  have HT := hid ht
  have HC := hid hc
  have HH := hid hH
  have HD := hid hD
  obtain ⟨b, hb⟩ : ∃ b, b = m + 1 := ⟨_, rfl⟩
  rw [show (((m + 1 : Nat) : Int)) = (b : Int) by rw [hb]]
  obtain ⟨d, hd⟩ : ∃ d, m - a = d := ⟨_, rfl⟩
  have hw0 : IntKind.i64.wrap ((m : Int) - (a : Int)) = (d : Int) := by rw [IntWalk.i64_in _ (by omega)]; omega
  have hd1 : ((d : Int) == 1) = false := by rw [beq_eq_false_iff_ne]; omega
  have hw1 : IntKind.i64.wrap ((b : Int) - (m : Int)) = 1 := by rw [IntWalk.i64_in _ (by omega)]; omega
  have HM := hid hb
  have bM : (m : Int) < (n : Int) := by omega
  have HB : Hid (a < m ∧ m < n) := hid (by omega)
  clear h ht hc hH hD hb hd h1
  go_enter Try.func31, Try.ntmps31
  go_wp2_with fail
  go_loopw [14, 15] (fun vi vj wr => ∃ i j : Nat, vi = .int .i64 (i : Int) ∧ vj = .int .i64 (j : Int) ∧ j ≤ m ∧ i ≤ j ∧ Hid (Pl wr R n D) ∧ Hid (Cut (fun p => ¬ key (D m) < key (D p)) a m i j) ∧ Hid (Turn R w0 wr)) (fun vi vj _ => (intOf vj).toNat - (intOf vi).toNat)
  case atStart => exact ⟨a, m, rfl, rfl, Nat.le_refl _, by have := HB.out; omega, HP, hid (cut_start (by have := HB.out; omega)), HT⟩
  case round =>
    obtain ⟨i, j, rfl, rfl, hj, hij, HPr, HCr, HTr⟩ := hrel
    clear HP HT hw1 hw0
    by_cases hlt : i < j
    · have hltz : (i : Int) < (j : Int) := by omega
      obtain ⟨t, hlo, hhi⟩ : ∃ t, 2 * t ≤ i + j ∧ i + j ≤ 2 * t + 1 := ⟨(i + j) / 2, by omega, by omega⟩
      have hdv : ((i : Int) + (j : Int)) / 2 = (t : Int) := by omega
      have HTt : Hid (i ≤ t ∧ t < j ∧ t < n) := hid (by omega)
      have bT : (t : Int) < (n : Int) := by omega
      clear hlo hhi
      go_wp2_with fail
      clear hdv
      have ct := pl_cell HPr.out HTt.out.2.2
      have ca := pl_cell HPr.out HB.out.2
      have hq := fun q => HC.out (wr.drewN q) (D m) (D t) (turn_drewN HTr.out q) (HD.out m HB.out.2) (HD.out t HTt.out.2.2)
      obtain ⟨x, hx⟩ : ∃ x, D t = x := ⟨_, rfl⟩
      obtain ⟨y, hy⟩ : ∃ y, D m = y := ⟨_, rfl⟩
      rw [hx] at ct hq
      rw [hy] at ca hq
      have HXY : Hid (D t = x ∧ D m = y) := hid ⟨hx, hy⟩
      clear hx hy
      by_cases hl : key y < key x
      · have hl2 : cmpI (key y) (key x) < 0 := by rw [cmpI_yes hl]; decide
        have HL := hid hl
        clear hl
        go_quiet (first | (go_at_call 22; refine Calls.quiet_of (hq _)))
        go_wp2_with fail
        go_roundw
        case rel =>
          obtain ⟨e1, e2⟩ := HXY.out
          obtain ⟨t1, t2, t3⟩ := HTt.out
          exact ⟨i, t, rfl, rfl, by omega, t1, HPr, hid (cut_dn HCr.out (last_mono HH.out) t1 t2 (by rw [e1, e2]; exact fun hh => hh HL.out)), HTr⟩
        case measure =>
          obtain ⟨t1, t2, t3⟩ := HTt.out
          simp [intOf]
          omega
      · have hl2 : ¬ cmpI (key y) (key x) < 0 := cmpI_no hl
        have HL := hid hl
        clear hl
        go_quiet (first | (go_at_call 22; refine Calls.quiet_of (hq _)))
        go_wp2_with fail
        go_roundw
        case rel =>
          obtain ⟨e1, e2⟩ := HXY.out
          obtain ⟨t1, t2, t3⟩ := HTt.out
          exact ⟨t + 1, j, by go_num, rfl, hj, by omega, HPr, hid (cut_up HCr.out (last_mono HH.out) t1 t2 (by rw [e1, e2]; exact HL.out)), HTr⟩
        case measure =>
          obtain ⟨t1, t2, t3⟩ := HTt.out
          simp [intOf]
          omega
    · have hltz : ¬ (i : Int) < (j : Int) := by omega
      obtain rfl : i = j := by omega
      go_wp2_with fail
      go_loopw [17] (fun vk wr2 => ∃ k : Nat, i ≤ k ∧ k ≤ m ∧ vk = .int .i64 (k : Int) ∧ Hid (Pl wr2 R n (rot D k m (m + 1))) ∧ Hid (Turn R w0 wr2)) (fun vk _ => (intOf vk).toNat)
      case atStart => exact ⟨m, hj, Nat.le_refl _, rfl, hid (pl_ext HPr.out (fun p _ => rot_left D m (m + 1) p)), HTr⟩
      case round =>
        obtain ⟨k, hk1, hk2, rfl, HPk, HTk⟩ := hrel
        clear HPr HTr
        by_cases hlt2 : i < k
        · have hlz : (i : Int) < (k : Int) := by omega
          obtain ⟨k1, hk⟩ : ∃ k1, k = k1 + 1 := ⟨k - 1, by omega⟩
          have hw3 : IntKind.i64.wrap ((k : Int) - 1) = (k1 : Int) := by rw [IntWalk.i64_in _ (by omega)]; omega
          have HK : Hid (k = k1 + 1 ∧ k < n ∧ k1 < n) := hid (by have := HB.out; omega)
          have b1 : (k : Int) < (n : Int) := by have := HK.out; omega
          have b2 : (k1 : Int) < (n : Int) := by have := HK.out; omega
          have ck := pl_cell HPk.out HK.out.2.1
          have ck1 := pl_cell HPk.out HK.out.2.2
          have fk := pl_free HPk.out k
          have fk1 := pl_free HPk.out k1
          have ne1 : k ≠ k1 := by omega
          have ne2 : k1 ≠ k := by omega
          obtain ⟨x, hx⟩ : ∃ x, rot D k m (m + 1) k = x := ⟨_, rfl⟩
          obtain ⟨y, hy⟩ : ∃ y, rot D k m (m + 1) k1 = y := ⟨_, rfl⟩
          rw [hx] at ck
          rw [hy] at ck1
          have HXY : Hid (rot D k m (m + 1) k = x ∧ rot D k m (m + 1) k1 = y) := hid ⟨hx, hy⟩
          clear hx hy hk
          go_wp2_with fail
          go_region
          all_goals go_wp2
          go_roundw
          case rel =>
            obtain ⟨e1, e2⟩ := HXY.out
            obtain ⟨q1, q2, q3⟩ := HK.out
            refine ⟨k1, by omega, by omega, by first | rfl | go_num, hid ?_, hid (turn_sw HTk.out _ _ _ _)⟩
            have hs := pl_sw HPk.out q2 q3
            rw [e1, e2] at hs
            refine pl_ext hs (fun p _ => ?_)
            have := sw_down (D := D) (i := m) (j := k) (by omega) hk2 p
            rw [show k - 1 = k1 by omega] at this
            exact this.symm
          case measure =>
            have := HK.out
            simp [intOf]
            omega
        · have hlz : ¬ (i : Int) < (k : Int) := by omega
          go_wp2_with fail
          go_end0
          have hk : k = i := by omega
          refine ⟨rfl, ⟨_, HPk.out, ?_⟩, HTk.out⟩
          rw [hk]
          exact one_last HH.out HCr.out
end Go.Proofs.Ytalcbahnhiibkaa
