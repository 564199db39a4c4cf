/- The library's reckoning of bits, its numbers at random, and what breaks patterns and turns ranges round. The row has at most 256 unlike members. The library's numbers at random, its breaking of patterns, and ranges turned round. The row has at most 256 unlike members. -/
import Derived.Test.YtgmcjnhijgnadaaY2
import Derived.Shelf.SortM.So_math_bits_LenIn
import Derived.Sort.EveryDepth
import Derived.Deep.CutBlock
import Derived.Deep.DeepCutAuto

namespace Go.Proofs.Ytgmcjnhijgnadaa
open Go.ChangeShapes Go.WideShapes Go.ChangeAt Go.RowKit
set_option linter.unusedVariables false
set_option linter.unusedSimpArgs false
set_option maxRecDepth 100000

def renB : Go.Shelf.Ren := ⟨fun | 8 => 47 | 19 => 58 | 20 => 59 | n => n, fun | 3 => 3 | 4 => 4 | 5 => 5 | 9 => 9 | 32 => 113 | 44 => 62 | 46 => 34 | n => n, fun | n => n⟩
theorem layB : Go.Proofs.SlLaysM.n8 Try.prog renB := {
  mixed := by kernel_rfl
  f8 := Try.func47.trans (congrArg some (by kernel_rfl))
  f19 := Try.func58.trans (congrArg some (by kernel_rfl))
  f20 := Try.func59.trans (congrArg some (by kernel_rfl))
  t3 := Try.underlying3
  a3 := Try.isAgg3
  z3 := Try.sizeOf3
  v3 := Try.zeroValue3
  t4 := Try.underlying4
  a4 := Try.isAgg4
  z4 := Try.sizeOf4
  v4 := Try.zeroValue4
  t5 := Try.underlying5
  a5 := Try.isAgg5
  z5 := Try.sizeOf5
  v5 := Try.zeroValue5
  t9 := Try.underlying9
  a9 := Try.isAgg9
  z9 := Try.sizeOf9
  v9 := Try.zeroValue9
  t32 := Try.underlying113
  a32 := Try.isAgg113
  z32 := Try.sizeOf113
  v32 := Try.zeroValue113
  t44 := Try.underlying62
  a44 := Try.isAgg62
  z44 := Try.sizeOf62
  v44 := Try.zeroValue62
  t46 := Try.underlying34
  a46 := Try.isAgg34
  z46 := Try.sizeOf34
  v46 := Try.zeroValue34 }
theorem blen (x : Int) (w : World) (h0 : 0 ≤ x) (h1 : x ≤ 18446744073709551615) : Calls Try.prog 47 #[.int .u64 x] w fun e w' => e = .returned (.int .i64 (Lib.bitLen x.toNat)) ∧ w' = w :=
  calls_of_every_depth fun D => AnySM.bits_LenIn layB D x w h0 h1
theorem bitLen_small : ∀ n : Fin 257, n.val ≠ 0 → 2 ^ Lib.bitLen n.val ≤ 2 * n.val ∧ Lib.bitLen n.val ≤ 9 := by decide +kernel
theorem nextpow (L : Nat) (h1 : 1 ≤ L) (h2 : L ≤ 256) (w : World) : ∃ M : Nat, 1 ≤ M ∧ M ≤ 2 * L ∧ Calls Try.prog 61 #[.int .i64 (L : Int)] w fun e w' => e = .returned (.int .u64 (M : Int)) ∧ w' = w := by
  have hb := bitLen_small ⟨L, by omega⟩ (show L ≠ 0 by omega)
  have hC := fun u => blen (L : Int) u (by omega) (by omega)
  simp only [Int.toNat_natCast] at hC
  obtain ⟨k, hk⟩ : ∃ k, Lib.bitLen L = k := ⟨_, rfl⟩
  have hb' : 2 ^ k ≤ 2 * L ∧ k ≤ 9 := by rw [← hk]; exact hb
  simp only [hk] at hC
  obtain ⟨M, hM⟩ : ∃ M, 2 ^ k = M := ⟨_, rfl⟩
  have hMi : (2 : Int) ^ k = (M : Int) := by rw [← hM]; simp
  rw [hM] at hb'
  have hM1 : 1 ≤ M := by rw [← hM]; exact Nat.one_le_two_pow
  refine ⟨M, hM1, hb'.1, ?_⟩
  have w1 : IntKind.u64.wrap (L : Int) = (L : Int) := by rw [IntKind.wrap_u64]; omega
  have w2 : IntKind.u64.wrap (M : Int) = (M : Int) := by rw [IntKind.wrap_u64]; omega
  have hk9 : k ≤ 9 := hb'.2
  clear hb hk hb' hM h1
  go_enter Try.func61, Try.ntmps61
  go_wp2_with (go_at_call 47; refine (hC _).mono ?_; rintro e w1 ⟨rfl, e2⟩; have e3 := e2.symm; subst e3; clear e2)
  go_ret
  exact ⟨by simp [hMi, w2], rfl⟩
theorem bits_u64 (o : BinOp) (a b : Int) : ∃ y : Int, bits o .u64 a b = y ∧ 0 ≤ y ∧ y < 18446744073709551616 := by
  have h := wf_bits o .u64 a b
  have := bounds_u64 h
  exact ⟨_, rfl, by omega, by omega⟩
end Go.Proofs.Ytgmcjnhijgnadaa


namespace Go.Proofs.Ytgmcjnhijgnadaa
open Go.ChangeShapes Go.WideShapes Go.ChangeAt Go.RowKit
set_option linter.unusedVariables false
set_option linter.unusedSimpArgs false
set_option maxRecDepth 100000

def NextC (Z : Nat) (w : World) (e : Ending) (w' : World) : Prop := ∃ y : Int, e = .returned (.int .u64 y) ∧ 0 ≤ y ∧ y < 18446744073709551616 ∧ At w' Z #[.int .u64 y] 124 ∧ Turn Z w w'
set_option maxHeartbeats 1600000 in
theorem xnext {Z : Nat} {x : Int} (w : World) (h : At w Z #[.int .u64 x] 124) : Calls Try.prog 62 #[.pointer (some ⟨Z, 0, none⟩)] w (NextC Z w) := by
  have HA := hid h
  have c0 : w.cell? ⟨Z, 0, none⟩ = some (.int .u64 x) := at_cell h 0
  have f0 : w.frozen? ⟨Z, 0, none⟩ = false := at_frozen h 0
  have HT := hid (Turn.refl Z w)
  clear h
  go_enter Try.func62, Try.ntmps62
  go_wp2_with fail
  go_region
  obtain ⟨v1, hv1, p1, q1⟩ := bits_u64 .xor x (IntKind.u64.wrap (x * 8192))
  rw [hv1]
  have HA1 := hid (at_drew (at_set HA.out 0 (.int .u64 v1)))
  have HT1 := hid (turn_drew (turn_set HT.out 0 (.int .u64 v1)))
  obtain ⟨w1, hw1⟩ : ∃ u, (w.setCell ⟨Z, 0, none⟩ (.int .u64 v1)).drew = u := ⟨_, rfl⟩
  have c1 : w1.cell? ⟨Z, 0, none⟩ = some (.int .u64 v1) := by rw [← hw1]; exact at_cell HA1.out 0
  have f1 : w1.frozen? ⟨Z, 0, none⟩ = false := by rw [← hw1]; exact at_frozen HA1.out 0
  rw [hw1] at HA1 HT1
  go_wp2_with fail
  rw [hw1]
  clear hw1 hv1 HA HT c0 f0
  go_region
  obtain ⟨v2, hv2, p2, q2⟩ := bits_u64 .xor v1 (v1 / 128)
  rw [hv2]
  have HA2 := hid (at_drew (at_set HA1.out 0 (.int .u64 v2)))
  have HT2 := hid (turn_drew (turn_set HT1.out 0 (.int .u64 v2)))
  obtain ⟨w2, hw2⟩ : ∃ u, (w1.setCell ⟨Z, 0, none⟩ (.int .u64 v2)).drew = u := ⟨_, rfl⟩
  have c2 : w2.cell? ⟨Z, 0, none⟩ = some (.int .u64 v2) := by rw [← hw2]; exact at_cell HA2.out 0
  have f2 : w2.frozen? ⟨Z, 0, none⟩ = false := by rw [← hw2]; exact at_frozen HA2.out 0
  rw [hw2] at HA2 HT2
  go_wp2_with fail
  rw [hw2]
  clear hw2 hv2 HA1 HT1 c1 f1
  go_region
  obtain ⟨v3, hv3, p3, q3⟩ := bits_u64 .xor v2 (IntKind.u64.wrap (v2 * 131072))
  rw [hv3]
  have HA3 := hid (at_drew (at_set HA2.out 0 (.int .u64 v3)))
  have HT3 := hid (turn_drew (turn_set HT2.out 0 (.int .u64 v3)))
  obtain ⟨w3, hw3⟩ : ∃ u, (w2.setCell ⟨Z, 0, none⟩ (.int .u64 v3)).drew = u := ⟨_, rfl⟩
  have c3 : w3.cell? ⟨Z, 0, none⟩ = some (.int .u64 v3) := by rw [← hw3]; exact at_cell HA3.out 0
  have f3 : w3.frozen? ⟨Z, 0, none⟩ = false := by rw [← hw3]; exact at_frozen HA3.out 0
  rw [hw3] at HA3 HT3
  go_wp2_with fail
  go_ret
  exact ⟨v3, rfl, p3, q3, HA3.out, HT3.out⟩
theorem and_le {M : Nat} (y : Int) (h0 : 0 ≤ y) (h1 : y < 18446744073709551616) (hM : 1 ≤ M) (hM2 : M ≤ 512) : ∃ o : Nat, bits .and .u64 y ((M : Int) - 1) = (o : Int) ∧ o ≤ M - 1 := by
  obtain ⟨n, rfl⟩ := Int.eq_ofNat_of_zero_le h0
  rw [show ((M : Int) - 1) = ((M - 1 : Nat) : Int) by omega, bits_and_u64_nat _ _ (by omega) (by omega)]
  exact ⟨_, rfl, Nat.and_le_right⟩
set_option maxHeartbeats 6400000 in
theorem brk8 {R m cap a b : Nat} {D : Nat → Int} (w : World) (h : Ar w R m cap D) (hm : m ≤ 256) (h1 : a + 8 ≤ b) (h2 : b ≤ m) :
    Calls Try.prog 51 #[.slice (some ⟨R, 0, none⟩) m cap, .int .i64 (a : Int), .int .i64 (b : Int)] w (UsC R m cap (fun E => USm a b D E) w) := by
  have HP := hid h
  obtain ⟨n, hn⟩ : ∃ n, b - a = n := ⟨_, rfl⟩
  obtain ⟨h8, hh8⟩ : ∃ q, a + n / 4 * 2 = q := ⟨_, rfl⟩
  have HN : Hid (a + n = b ∧ 8 ≤ n ∧ b ≤ m ∧ m ≤ 256 ∧ a + 3 ≤ h8 ∧ h8 + 2 ≤ b) := hid ⟨by omega, by omega, h2, hm, by omega, by omega⟩
  have w1 : IntKind.i64.wrap ((b : Int) - (a : Int)) = (n : Int) := by rw [IntWalk.i64_in _ (by omega)]; omega
  have w2 : Int.tdiv (n : Int) 4 = ((n / 4 : Nat) : Int) := by rw [Int.tdiv_eq_ediv_of_nonneg (by omega)]; omega
  obtain ⟨q4, hq4⟩ : ∃ q, n / 4 = q := ⟨_, rfl⟩
  rw [hq4] at w2 hh8
  have w2b : (n : Int) / 4 = (q4 : Int) := by omega
  have ba : a ≤ 256 := by omega
  have bq : q4 ≤ 64 := by omega
  have bn : n ≤ 256 := by omega
  have bh : h8 ≤ 256 := by omega
  have w4 : (a : Int) + (q4 : Int) * 2 = (h8 : Int) := by omega
  have w7 : IntKind.u64.wrap (n : Int) = (n : Int) := by rw [IntKind.wrap_u64]; omega
  have n8 : (8 : Int) ≤ (n : Int) := by omega
  have hA := at_new w #[.int .u64 (n : Int)] 124
  have kA := kept_alloc (kept_refl w) (.cells #[.int .u64 (n : Int)] 124)
  obtain ⟨W0, hW0⟩ : ∃ u, w.alloc (.cells #[.int .u64 (n : Int)] 124) = u := ⟨_, rfl⟩
  obtain ⟨Z, hZ⟩ : ∃ u, w.heap.size = u := ⟨_, rfl⟩
  rw [hW0] at hA kA
  rw [hZ] at hA
  obtain ⟨M, hM1, hM2, hC⟩ := nextpow n (by omega) (by omega) W0
  have HM : Hid (1 ≤ M ∧ M ≤ 2 * n) := hid ⟨hM1, hM2⟩
  have HZ : Hid (w.heap.size ≤ Z) := hid (by omega)
  have HA := hid hA
  have HP0 := hid (ar_kept HP.out kA)
  have HK0 := hid kA
  have hz : ∀ u, (zeroValue 124).run Try.prog u = .ok (.int .u64 0) u := fun u => by kernel_rfl
  have bM : (M : Int) ≤ 512 := by omega
  have hMpos : (1 : Int) ≤ (M : Int) := by omega
  clear h hn hh8 hq4 hA kA hM1 hM2 h1 h2 hm
  go_enter Try.func51, Try.ntmps51
  go_wp2_with (go_at_call 61; refine hC.mono ?_; rintro e w1 ⟨rfl, e2⟩; have e3 := e2.symm; subst e3; clear e2)
  clear hC hz hW0 hZ w1 w7 n8
  go_loopw [9] (fun vi wr => ∃ (t : Nat) (z : Int) (E : Nat → Int) (y : Int), t ≤ 3 ∧ z = (h8 : Int) - 1 + (t : Int) ∧ vi = .int .i64 z ∧ Hid (Ar wr R m cap E) ∧ Hid (USm a b D E) ∧ Hid (At wr Z #[.int .u64 y] 124) ∧ Hid (Turn R w wr)) (fun vi _ => ((h8 : Int) + 2 - intOf vi).toNat)
  case atStart => exact ⟨0, (h8 : Int) - 1, D, (n : Int), by omega, by omega, by first | rfl | (congr 1; omega), HP0, hid (usm_refl _ _ _), HA, hid (turn_kept HK0.out)⟩
  case round =>
    obtain ⟨t, z, E, y, ht, hz, rfl, HE, HS, HAz, HTr⟩ := hrel
    clear HP HP0 HA HK0
    by_cases ht3 : t = 3
    · have hzn : ¬ z ≤ (h8 : Int) + 1 := by omega
      clear hz
      go_wp2_with fail
      go_end0
      exact ⟨rfl, ⟨E, HE.out, HS.out⟩, HTr.out⟩
    · obtain ⟨p, hp⟩ : ∃ p : Nat, z = (p : Int) := ⟨h8 - 1 + t, by have := HN.out; omega⟩
      subst hp
      have hzn : (p : Int) ≤ (h8 : Int) + 1 := by omega
      have HPz : Hid (p + 1 = h8 + t ∧ p < b ∧ a ≤ p ∧ t < 3) := hid ⟨by have := HN.out; omega, by have := HN.out; omega, by have := HN.out; omega, by omega⟩
      have hX := xnext wr HAz.out
      clear hz ht3 ht
      go_wp2_with fail
      refine hX.mono ?_
      rintro e w5 ⟨y2, rfl, p0, p1, ha2, ht2⟩
      have hRZ : R ≠ Z := by
        obtain ⟨cs, hc⟩ := ar_at HE.out
        exact at_ne hc HAz.out (by decide)
      have HE5 : Hid (Ar w5 R m cap E) := hid (og_block HE.out (fun g cur hg hc => ht2.2.2.2 g (at_lt hc) (by injection hg with hg; simp at hg; omega)))
      have HA5 := hid ha2
      have HT5 : Hid (Turn R w w5) := hid ⟨ht2.1.trans HTr.out.1, ht2.2.1.trans HTr.out.2.1, Nat.le_trans HTr.out.2.2.1 ht2.2.2.1, fun k hk hn => (ht2.2.2.2 k (Nat.lt_of_lt_of_le hk HTr.out.2.2.1) (by have := HZ.out; omega)).trans (HTr.out.2.2.2 k hk hn)⟩
      obtain ⟨o, ho, ho2⟩ := and_le (M := M) y2 p0 p1 HM.out.1 (by omega)
      have hMw : IntKind.u64.wrap ((M : Int) - 1) = (M : Int) - 1 := by rw [IntKind.wrap_u64]; omega
      have bo : o ≤ 512 := by have := HM.out; omega
      have HO : Hid (o < 2 * n) := hid (by have := HM.out; omega)
      clear hX ha2 ht2 HE HAz HTr p0 p1 ho2
      go_upto_if 43 with fail
      go_cut [10, 44, 45, 46] (fun v _ _ _ wx => ∃ o : Nat, v = .int .i64 (o : Int) ∧ o < n ∧ wx = w5)
      case first =>
        by_cases hno : n ≤ o
        · have hnoz : (n : Int) ≤ (o : Int) := by omega
          obtain ⟨q, hq⟩ : ∃ q, o - n = q := ⟨_, rfl⟩
          have hw : IntKind.i64.wrap ((o : Int) - (n : Int)) = (q : Int) := by rw [IntWalk.i64_in _ (by omega)]; omega
          have hqn : q < n := by have := HO.out; omega
          clear hq
          go_wp2_with fail
          go_meet
          case rel => exact ⟨q, by first | rfl | go_num, hqn, rfl⟩
        · have hnoz : ¬ (n : Int) ≤ (o : Int) := by omega
          have hon : o < n := by omega
          go_wp2_with fail
          go_meet
          case rel => exact ⟨o, rfl, hon, rfl⟩
      case rest =>
        clear ho bo HO hMw
        obtain ⟨o, rfl, hon, rfl⟩ := hcut
        obtain ⟨g, hg⟩ : ∃ g, a + o = g := ⟨_, rfl⟩
        have hgm : g < m := by have := HN.out; omega
        have hpm : p < m := by have := HN.out; have := HPz.out; omega
        have hm2 : m ≤ 256 := HN.out.2.2.2.1
        have hgi : (a : Int) + (o : Int) = (g : Int) := by omega
        have hgz : (g : Int) < (m : Int) := by omega
        have hpz : (p : Int) < (m : Int) := by omega
        have HG : Hid (a ≤ g ∧ g < b) := hid ⟨by omega, by have := HN.out; omega⟩
        have cx := ar_cell HE5.out hpm
        have cy := ar_cell HE5.out hgm
        have fx := ar_free HE5.out p
        have fy := ar_free HE5.out g
        have HA2 := hid (ar_drewN (ar_sw HE5.out hpm hgm) 1)
        have HT2 := hid (turn_drew (turn_sw HT5.out p g (.int .u8 (E g)) (.int .u8 (E p))))
        have HZ2 := hid (at_drew (at_other (at_other HA5.out (Ne.symm hRZ) p (.int .u8 (E g))) (Ne.symm hRZ) g (.int .u8 (E p))))
        have HS2 : Hid (USm a b D (uSw E p g)) := hid (usm_trans HS.out (usm_sw E HPz.out.2.2.1 HPz.out.2.1 HG.out.1 HG.out.2))
        generalize hxx : E p = x at cx HA2 HT2 HZ2
        generalize hyy : E g = y at cy HA2 HT2 HZ2
        clear hxx hyy hg hon HE5 HT5 HA5 HS
        by_cases hpg : p = g
        · have HPG : Hid (p = g) := hid hpg
          subst hpg
          have hxy : x = y := by rw [cx] at cy; injection cy with cy; injection cy
          subst hxy
          clear cy fy hgz
          go_wp2_with fail
          go_region
          all_goals
            go_wp2_with fail
            go_roundw
            case rel =>
              refine ⟨t + 1, (p : Int) + 1, uSw E p p, y2, by have := HPz.out; omega, by have := HPz.out; omega, by first | rfl | go_num, HA2, HS2, HZ2, HT2⟩
            case measure => simp [intOf]; omega
        · have n3 : g ≠ p := fun e => hpg e.symm
          have n4 : p ≠ g := hpg
          clear hpg
          go_wp2_with fail
          go_region
          all_goals
            go_wp2_with fail
            go_roundw
            case rel =>
              refine ⟨t + 1, (p : Int) + 1, uSw E p g, y2, by have := HPz.out; omega, by have := HPz.out; omega, by first | rfl | go_num, HA2, HS2, HZ2, HT2⟩
            case measure => simp [intOf]; omega
set_option maxHeartbeats 3200000 in
theorem rev8 {R m cap a b : Nat} {D : Nat → Int} (w : World) (h : Ar w R m cap D) (hm : m ≤ 256) (h1 : a < b) (h2 : b ≤ m) :
    Calls Try.prog 53 #[.slice (some ⟨R, 0, none⟩) m cap, .int .i64 (a : Int), .int .i64 (b : Int)] w (UsC R m cap (fun E => USm a b D E) w) := by
  have HP := hid h
  have w1 : (b : Int) - 1 = ((b - 1 : Nat) : Int) := by omega
  obtain ⟨j0, hj0⟩ : ∃ j, b - 1 = j := ⟨_, rfl⟩
  rw [hj0] at w1
  have HB : Hid (j0 + 1 = b ∧ a ≤ j0 ∧ b ≤ m ∧ m ≤ 256) := hid ⟨by omega, by omega, h2, hm⟩
  have bb : b ≤ 256 := by omega
  have ba : a ≤ 256 := by omega
  clear h hj0 h1 h2 hm
  go_enter Try.func53, Try.ntmps53
  go_wp2
  go_loopw [6, 7] (fun vi vj wr => ∃ (i j : Nat) (E : Nat → Int), vi = .int .i64 (i : Int) ∧ vj = .int .i64 (j : Int) ∧ a ≤ i ∧ i ≤ j + 1 ∧ j ≤ j0 ∧ a ≤ j + 1 ∧ Hid (Ar wr R m cap E) ∧ Hid (USm a b D E) ∧ Hid (Turn R w wr)) (fun vi vj _ => (intOf vj - intOf vi + 1).toNat)
  case atStart => exact ⟨a, j0, D, rfl, by first | rfl | go_num, Nat.le_refl _, by have := HB.out; omega, Nat.le_refl _, by have := HB.out; omega, HP, hid (usm_refl _ _ _), hid (Turn.refl _ _)⟩
  case round =>
    obtain ⟨i, j, E, rfl, rfl, ha, hij, hj, haj, HE, HS, HTr⟩ := hrel
    clear HP
    by_cases hlt : i < j
    · have hltz : (i : Int) < (j : Int) := by omega
      have him : i < m := by have := HB.out; omega
      have hjm : j < m := by have := HB.out; omega
      have hm2 : m ≤ 256 := HB.out.2.2.2
      have hiz : (i : Int) < (m : Int) := by omega
      have hjz : (j : Int) < (m : Int) := by omega
      obtain ⟨jp, hjp⟩ : ∃ q, j - 1 = q := ⟨_, rfl⟩
      have hje : (j : Int) - 1 = (jp : Int) := by omega
      have cx := ar_cell HE.out him
      have cy := ar_cell HE.out hjm
      have fx := ar_free HE.out i
      have fy := ar_free HE.out j
      have HA2 := hid (ar_drewN (ar_sw HE.out him hjm) 1)
      have HT2 := hid (turn_drew (turn_sw HTr.out i j (.int .u8 (E j)) (.int .u8 (E i))))
      have HS2 : Hid (USm a b D (uSw E i j)) := hid (usm_trans HS.out (usm_sw E ha (by have := HB.out; omega) (by omega) (by have := HB.out; omega)))
      have HJ : Hid (j = jp + 1 ∧ i < j ∧ a ≤ i) := hid ⟨by omega, hlt, ha⟩
      generalize hxx : E i = x at cx HA2 HT2
      generalize hyy : E j = y at cy HA2 HT2
      have n3 : i ≠ j := by omega
      have n4 : j ≠ i := by omega
      clear hxx hyy HE HTr HS hjp
      go_wp2_with fail
      go_region
      all_goals
        go_wp2_with fail
        go_roundw
        case rel => exact ⟨i + 1, jp, uSw E i j, by first | rfl | go_num, by first | rfl | go_num, by omega, by have := HJ.out; omega, by have := HJ.out; omega, by have := HJ.out; omega, HA2, HS2, HT2⟩
        case measure => have := HJ.out; simp [intOf]; omega
    · have hltz : ¬ (i : Int) < (j : Int) := by omega
      go_wp2_with fail
      go_end0
      exact ⟨rfl, ⟨E, HE.out, HS.out⟩, HTr.out⟩
end Go.Proofs.Ytgmcjnhijgnadaa
