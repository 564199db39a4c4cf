/- The contract of the reference's Get: the record at a place, the place behind it, or the error's number. It turns nothing that was there. The bytes are at most 2^47. -/
import Derived.Test.YtioeidhblbfgmaaGreatY24
import Derived.Test.YtioeidhblbfgmaaGreatY26
import Derived.Test.YtioeidhblbfgmaaGreatY15

namespace Go.Proofs.YtioeidhblbfgmaaGreat
open Go.ChangeShapes Go.WideShapes Go.ChangeAt Go.RowKit
set_option linter.unusedVariables false
set_option maxRecDepth 100000
set_option linter.unusedSimpArgs false

theorem refText_at (s : ByteArray) (hs : s.size ≤ 140737488355328) (p most : Int) (hm : -9223372036854775808 ≤ most ∧ most ≤ 9223372036854775807) (w : World) :
    Calls Tryz.prog 76 #[.string s, .int .i64 p, .int .i64 most] w fun e w' => e = .returned (.tuple #[.string (getT s p most).1, .int .i64 ((getT s p most).2.1 : Int), .int .i64 ((getT s p most).2.2 : Int)]) ∧ Kept w w' :=
  (refGetText_any s p most hs hm w).mono fun _ _ ⟨he, hb⟩ => ⟨he, kept_below hb⟩
theorem refNum_at (s : ByteArray) (hs : s.size ≤ 140737488355328) (p : Int) (w : World) :
    Calls Tryz.prog 75 #[.string s, .int .i64 p] w fun e w' => e = .returned (.tuple #[.int .u64 ((getN s p).1 : Int), .int .i64 ((getN s p).2.1 : Int), .int .i64 ((getN s p).2.2 : Int)]) ∧ Kept w w' :=
  (refGet_any s p hs w).mono fun _ _ ⟨he, hb⟩ => ⟨he, kept_below hb⟩
theorem at_cells6 {w : World} {X T : Nat} {a0 a1 a2 a3 a4 a5 : Value} (h : At w X #[a0, a1, a2, a3, a4, a5] T) : w.cell? ⟨X, 0, none⟩ = some a0 ∧ w.cell? ⟨X, 1, none⟩ = some a1 ∧ w.cell? ⟨X, 2, none⟩ = some a2 ∧ w.cell? ⟨X, 3, none⟩ = some a3 ∧ w.cell? ⟨X, 4, none⟩ = some a4 ∧ w.cell? ⟨X, 5, none⟩ = some a5 :=
  ⟨at_cell h 0, at_cell h 1, at_cell h 2, at_cell h 3, at_cell h 4, at_cell h 5⟩
theorem zero71 (w : World) : (zeroValue 179).run Tryz.prog w = .ok (.agg #[.int .u64 0, .int .u64 0, .int .u64 0, .int .u64 0, .int .u64 0, .int .u64 0]) w := by kernel_rfl
set_option maxHeartbeats 400000 in
set_option maxRecDepth 100000 in
theorem refGet_text (s : ByteArray) (hs : s.size ≤ 140737488355328) (p : Int) (T : ByteArray) (t e0 : Nat) (hg : getT s p 250 = (T, t, e0)) (he : e0 ≠ 0) (w : World) :
    Calls Tryz.prog 77 #[.string s, .int .i64 p] w fun e w' => e = .returned (recV (getR s p)) ∧ Kept w w' := by
  have hR : getR s p = (zeroR, 0, e0) := get_text (T := T) (q := t) (by unfold stepT; rw [if_pos rfl, hg]) he
  rw [hR]
  have hT := refText_at s hs p 250 (by omega)
  rw [hg] at hT
  have g1 : ((e0 : Int) != 0) = true := by simp; omega
  clear hg he hs hR
  have hz := zero27
  have hY := at_new w #[.string zeroR.key, .int .u64 zeroR.s.p, .int .u32 zeroR.s.l, .int .u8 zeroR.s.n, .int .u8 zeroR.kind, .int .u32 zeroR.flags, .int .u64 zeroR.exp, .string zeroR.body] 57
  have hW := kept_alloc (kept_refl w) (.cells #[.string zeroR.key, .int .u64 zeroR.s.p, .int .u32 zeroR.s.l, .int .u8 zeroR.s.n, .int .u8 zeroR.kind, .int .u32 zeroR.flags, .int .u64 zeroR.exp, .string zeroR.body] 57)
  simp only [zeroR, zero] at hY hW
  have HKY : Hid (∀ (u : World) (a0 a1 a2 a3 a4 a5 a6 a7 : Value), Kept w u → Kept w (set8 u w.heap.size a0 a1 a2 a3 a4 a5 a6 a7)) := fun u a0 a1 a2 a3 a4 a5 a6 a7 h => kept_set8 h (Nat.le_refl _) _ _ _ _ _ _ _ _
  go_enter Tryz.func77, Tryz.ntmps77
  go_wp2_with fail
  generalize w.alloc (.cells #[.string ⟨#[]⟩, .int .u64 0, .int .u32 0, .int .u8 0, .int .u8 0, .int .u32 0, .int .u64 0, .string ⟨#[]⟩] 57) = w0 at *
  generalize w.heap.size = bY at *
  refine (hT _).mono ?_
  rintro e w1 ⟨rfl, k1⟩
  replace hW := kept_trans hW k1
  replace hY := at_kept hY k1
  clear k1 hT
  obtain ⟨d0, d1, d2, d3, d4, d5, d6, d7, df⟩ := at_cells8 hY
  have hY2 := hid (at_set8 hY (.string ⟨#[]⟩) (.int .u64 0) (.int .u32 0) (.int .u8 0) (.int .u8 0) (.int .u32 0) (.int .u64 0) (.string ⟨#[]⟩))
  have hW2 := hid (HKY.out _ (.string ⟨#[]⟩) (.int .u64 0) (.int .u32 0) (.int .u8 0) (.int .u8 0) (.int .u32 0) (.int .u64 0) (.string ⟨#[]⟩) hW)
  clear hY hW
  go_wp2_with fail
  exact bodyPost_ret (res3 Tryz.results77 _ rfl rfl rfl hY2.out) rfl ⟨rfl, hW2.out⟩
set_option maxHeartbeats 1600000 in
set_option maxRecDepth 100000 in
theorem refGet_go (s : ByteArray) (hs : s.size ≤ 140737488355328) (p : Int) (T : ByteArray) (t : Nat) (hg : getT s p 250 = (T, t, 0)) (w : World) :
    Calls Tryz.prog 77 #[.string s, .int .i64 p] w fun e w' => e = .returned (recV (getR s p)) ∧ Kept w w' := by
  have hT := refText_at s hs p 250 (by omega)
  rw [hg] at hT
  have HT : Hid (stepT s 250 p 0 = (T, (t : Int), 0)) := by show _ = _; unfold stepT; rw [if_pos rfl, hg]
  have hTs : T.size ≤ s.size := by have := getT_size s p 250; rw [hg] at this; exact this
  clear hg
  have HTs : Hid (T.size ≤ maxLen ∧ s.size ≤ 140737488355328) := ⟨by unfold maxLen; omega, hs⟩
  clear hTs hs
  have hz := zero27
  have hz71 := zero71
  have hY := at_new w #[.string zeroR.key, .int .u64 zeroR.s.p, .int .u32 zeroR.s.l, .int .u8 zeroR.s.n, .int .u8 zeroR.kind, .int .u32 zeroR.flags, .int .u64 zeroR.exp, .string zeroR.body] 57
  have hW := kept_alloc (kept_refl w) (.cells #[.string zeroR.key, .int .u64 zeroR.s.p, .int .u32 zeroR.s.l, .int .u8 zeroR.s.n, .int .u8 zeroR.kind, .int .u32 zeroR.flags, .int .u64 zeroR.exp, .string zeroR.body] 57)
  simp only [zeroR, zero] at hY hW
  have HKY : Hid (∀ (u : World) (a0 a1 a2 a3 a4 a5 a6 a7 : Value), Kept w u → Kept w (set8 u w.heap.size a0 a1 a2 a3 a4 a5 a6 a7)) := fun u a0 a1 a2 a3 a4 a5 a6 a7 h => kept_set8 h (Nat.le_refl _) _ _ _ _ _ _ _ _
  go_enter Tryz.func77, Tryz.ntmps77
  go_wp2_with fail
  generalize w.alloc (.cells #[.string ⟨#[]⟩, .int .u64 0, .int .u32 0, .int .u8 0, .int .u8 0, .int .u32 0, .int .u64 0, .string ⟨#[]⟩] 57) = w0 at *
  generalize w.heap.size = bY at *
  refine (hT _).mono ?_
  rintro e w1 ⟨rfl, k1⟩
  replace hW := kept_trans hW k1
  replace hY := at_kept hY k1
  clear k1 hT
  have M1 := hid (at_alloc (at_new w1 arrM 179) (.cells #[.int .u64 0, .int .u64 0, .int .u64 0, .int .u64 0, .int .u64 0, .int .u64 0] 179))
  have N1 := at_new (w1.alloc (.cells arrM 179)) #[.int .u64 0, .int .u64 0, .int .u64 0, .int .u64 0, .int .u64 0, .int .u64 0] 179
  simp only [World.size_alloc] at N1
  have N2 := hid N1
  clear N1
  have Y1 := hid (at_alloc (at_alloc hY (.cells arrM 179)) (.cells #[.int .u64 0, .int .u64 0, .int .u64 0, .int .u64 0, .int .u64 0, .int .u64 0] 179))
  have W1 := hid (kept_alloc (kept_alloc hW (.cells arrM 179)) (.cells #[.int .u64 0, .int .u64 0, .int .u64 0, .int .u64 0, .int .u64 0, .int .u64 0] 179))
  have HKN : Hid (∀ (u : World) (o : Nat) (v : Value), Kept w u → Kept w (u.setCell ⟨w1.heap.size + 1, o, none⟩ v)) := fun u o v h => kept_set h (by have := hW.2; omega) o v
  have nYN : Hid (bY ≠ w1.heap.size + 1) := by show _ ≠ _; have := at_lt hY; omega
  have nMN : Hid (w1.heap.size ≠ w1.heap.size + 1) := by show _ ≠ _; omega
  clear hY hW
  go_wp2_with fail
  unfold arrM at M1 N2 Y1 W1
  generalize (w1.alloc (.cells #[.int .u64 18446744073709551615, .int .u64 4294967295, .int .u64 255, .int .u64 255, .int .u64 4294967295, .int .u64 18446744073709551615] 179)).alloc (.cells #[.int .u64 0, .int .u64 0, .int .u64 0, .int .u64 0, .int .u64 0, .int .u64 0] 179) = w2 at *
  generalize w1.heap.size = bM at *
  generalize bM + 1 = bN at *
  go_loopw [8, 12, 13, 14, 15, 16] (fun iv cv kv _ _ _ wr => ∃ (k c : Nat) (i : Int), k ≤ c ∧ c ≤ 6 ∧ iv = .int .i64 i ∧ cv = .int .i64 c ∧ kv = .int .i64 k ∧ Hid ((c = 4 ∧ (4 ≤ k → valN s (t : Int) 0 3 ≠ 3)) ∨ (c = 6 ∧ 4 ≤ k ∧ valN s (t : Int) 0 3 = 3)) ∧ Hid (runN s (t : Int) 0 k = (i, 0)) ∧ Hid (Kept w wr) ∧ Hid (At wr bY #[.string ⟨#[]⟩, .int .u64 0, .int .u32 0, .int .u8 0, .int .u8 0, .int .u32 0, .int .u64 0, .string ⟨#[]⟩] 57) ∧ Hid (At wr bM arrM 179) ∧ Hid (At wr bN (arrN (valN s (t : Int) 0) k) 179)) (fun _ _ kv _ _ _ _ => 6 - (intOf kv).toNat)
  case atStart => exact ⟨0, 4, (t : Int), by omega, by omega, rfl, rfl, rfl, .inl ⟨rfl, fun h => absurd h (by omega)⟩, rfl, W1, Y1, M1, N2⟩
  case round =>
    obtain ⟨k, c, i, hkc, hc6, rfl, rfl, rfl, HD, HR, HK, HY, HM, HN⟩ := hrel
    by_cases hlt : k < c
    · have hk6 : k < 6 := by omega
      have hcond : Hid (k + 1 ≤ 4 ∨ (k + 1 ≤ 6 ∧ valN s (t : Int) 0 3 = 3)) := by
        rcases HD.out with ⟨h1, h2⟩ | ⟨h1, h2, h3⟩
        · exact .inl (by omega)
        · exact .inr ⟨by omega, h3⟩
      have hN0 := refNum_at s HTs.out.2 i
      obtain ⟨g, hgv⟩ : ∃ g, g = getN s i := ⟨_, rfl⟩
      rw [← hgv] at hN0
      obtain ⟨v, nx, f⟩ := g
      have HGV : Hid (getN s i = (v, nx, f)) := hgv.symm
      clear hgv
      go_wp2_with fail
      refine (hN0 _).mono ?_
      rintro e w5 ⟨rfl, k5⟩
      have K5 := kept_trans HK.out k5
      have Y5 := at_kept HY.out k5
      have M5 := at_kept HM.out k5
      have N5 := at_kept HN.out k5
      clear k5 hN0 HK HY HM HN
      have hm0 := (at_cell M5 k).trans (arrM_cell hk6)
      have hn0 := (at_cell N5 k).trans (arrN_cell hk6)
      have hnf := at_frozen N5 k
      by_cases hf : f = 0
      · subst hf
        by_cases hm : mostOf k < v
        · have hR2 : Hid (getR s p = (zeroR, 0, 3)) := get_fault HT.out (step_big HR.out HGV.out hm) (by omega) hcond.out
          have hm' : decide (mostOf k < v) = true := decide_eq_true hm
          clear hm
          generalize mostOf k = m at *
          clear M5 N5
          obtain ⟨d0, d1, d2, d3, d4, d5, d6, d7, df⟩ := at_cells8 Y5
          have hY2 := hid (at_set8 Y5 (.string ⟨#[]⟩) (.int .u64 0) (.int .u32 0) (.int .u8 0) (.int .u8 0) (.int .u32 0) (.int .u64 0) (.string ⟨#[]⟩))
          have hW2 := hid (HKY.out _ (.string ⟨#[]⟩) (.int .u64 0) (.int .u32 0) (.int .u8 0) (.int .u8 0) (.int .u32 0) (.int .u64 0) (.string ⟨#[]⟩) K5)
          clear Y5 K5
          go_wp2_with fail
          rw [hR2.out]
          exact bodyPost_ret (res3 Tryz.results77 _ rfl rfl rfl hY2.out) rfl ⟨rfl, hW2.out⟩
        · obtain ⟨hr', hv'⟩ := step_good HR.out HGV.out hm
          have N6 : At (w5.setCell ⟨bN, k, none⟩ (.int .u64 (v : Int))) bN (arrN (valN s (t : Int) 0) (k + 1)) 179 := by
            have h6 := at_set N5 k (.int .u64 (v : Int))
            rw [← arrN_next hk6, hv']
            exact h6
          have N7 := hid N6
          have Y7 := hid (at_other Y5 nYN.out k (.int .u64 (v : Int)))
          have M7 := hid (at_other M5 nMN.out k (.int .u64 (v : Int)))
          have K7 := hid (HKN.out _ k (.int .u64 (v : Int)) K5)
          have R7 := hid hr'
          have hm' : decide (mostOf k < v) = false := decide_eq_false hm
          have HV := hid hv'
          clear N6 N5 Y5 M5 K5 hr' hm hv'
          generalize mostOf k = m at *
          by_cases h3 : k = 3
          · have h3' : ((k : Int) == 3) = true := by simp; omega
            have HV3 : Hid (valN s (t : Int) 0 3 = v) := by
              show _ = _
              have h := HV.out
              rw [h3] at h
              exact h
            have hk3 := hid h3
            clear h3
            by_cases v3 : v = 3
            · have v3' : ((v : Int) == 3) = true := by simp; omega
              have HD2 : Hid (4 ≤ k + 1 ∧ valN s (t : Int) 0 3 = 3) := ⟨by have := hk3.out; omega, by rw [HV3.out, v3]⟩
              clear v3
              go_wp2_with fail
              go_roundw
              case rel => exact ⟨k + 1, 6, (nx : Int), by have := hk3.out; omega, by omega, rfl, rfl, by go_num, .inr ⟨rfl, HD2.out.1, HD2.out.2⟩, R7, K7, Y7, M7, N7⟩
              case measure => simp [intOf]; omega
            · have v3' : ((v : Int) == 3) = false := by simp; omega
              have HD2 : Hid ((c = 4 ∧ (4 ≤ k + 1 → valN s (t : Int) 0 3 ≠ 3)) ∨ (c = 6 ∧ 4 ≤ k + 1 ∧ valN s (t : Int) 0 3 = 3)) := by
                rcases HD.out with ⟨h1, h2⟩ | ⟨h1, h2, h4⟩
                · exact .inl ⟨h1, fun _ => by rw [HV3.out]; exact v3⟩
                · have := hk3.out; omega
              clear v3
              go_wp2_with fail
              go_roundw
              case rel => exact ⟨k + 1, c, (nx : Int), by omega, hc6, rfl, rfl, by go_num, HD2, R7, K7, Y7, M7, N7⟩
              case measure => simp [intOf]; omega
          · have h3' : ((k : Int) == 3) = false := by simp; omega
            have HD2 : Hid ((c = 4 ∧ (4 ≤ k + 1 → valN s (t : Int) 0 3 ≠ 3)) ∨ (c = 6 ∧ 4 ≤ k + 1 ∧ valN s (t : Int) 0 3 = 3)) := by
              rcases HD.out with ⟨h1, h2⟩ | ⟨h1, h2, h4⟩
              · exact .inl ⟨h1, fun h => by omega⟩
              · exact .inr ⟨h1, by omega, h4⟩
            clear h3
            go_wp2_with fail
            go_roundw
            case rel => exact ⟨k + 1, c, (nx : Int), by omega, hc6, rfl, rfl, by go_num, HD2, R7, K7, Y7, M7, N7⟩
            case measure => simp [intOf]; omega
      · have hR2 : Hid (getR s p = (zeroR, 0, f)) := get_fault HT.out (step_bad HR.out HGV.out hf) hf hcond.out
        have hf' : ((f : Int) != 0) = true := by simp; omega
        clear hf M5 N5 hm0 hn0 hnf
        obtain ⟨d0, d1, d2, d3, d4, d5, d6, d7, df⟩ := at_cells8 Y5
        have hY2 := hid (at_set8 Y5 (.string ⟨#[]⟩) (.int .u64 0) (.int .u32 0) (.int .u8 0) (.int .u8 0) (.int .u32 0) (.int .u64 0) (.string ⟨#[]⟩))
        have hW2 := hid (HKY.out _ (.string ⟨#[]⟩) (.int .u64 0) (.int .u32 0) (.int .u8 0) (.int .u8 0) (.int .u32 0) (.int .u64 0) (.string ⟨#[]⟩) K5)
        clear Y5 K5
        go_wp2_with fail
        rw [hR2.out]
        exact bodyPost_ret (res3 Tryz.results77 _ rfl rfl rfl hY2.out) rfl ⟨rfl, hW2.out⟩
    · have hkc2 : k = c := by omega
      subst hkc2
      have b1 : valN s (t : Int) 0 1 ≤ 4294967295 := val_le s _ 0 1
      have b2 : valN s (t : Int) 0 2 ≤ 255 := val_le s _ 0 2
      have b3 : valN s (t : Int) 0 3 ≤ 255 := val_le s _ 0 3
      have b4 : valN s (t : Int) 0 4 ≤ 4294967295 := val_le s _ 0 4
      have b5 : valN s (t : Int) 0 5 ≤ 18446744073709551615 := val_le s _ 0 5
      rcases HD.out with ⟨h1, h2⟩ | ⟨h1, h2, h3⟩
      · subst h1
        have hv3 := h2 (by omega)
        have N4 : At wr bN #[.int .u64 (valN s (t : Int) 0 0 : Int), .int .u64 (valN s (t : Int) 0 1 : Int), .int .u64 (valN s (t : Int) 0 2 : Int), .int .u64 (valN s (t : Int) 0 3 : Int), .int .u64 0, .int .u64 0] 179 := HN.out
        have HG := get_four HT.out hv3 HR.out
        have hM := refMay_any ⟨T, ⟨valN s (t : Int) 0 0, valN s (t : Int) 0 1, valN s (t : Int) 0 2⟩, valN s (t : Int) 0 3, 0, 0, ⟨#[]⟩⟩ (rec_okay HTs.out.1 (Nat.zero_le _) (Nat.zero_le _) (Nat.zero_le _))
        clear HR HN HD h2
        generalize valN s (t : Int) 0 0 = v0 at *
        generalize valN s (t : Int) 0 1 = v1 at *
        generalize valN s (t : Int) 0 2 = v2 at *
        generalize valN s (t : Int) 0 3 = v3 at *
        have e1 := wrap_32 b1
        have e2 := wrap_8 b2
        have e3 := wrap_8 b3
        have g3 : ((v3 : Int) == 3) = false := by simp; omega
        have R7 := at_new wr #[.string T, .int .u64 (v0 : Int), .int .u32 (v1 : Int), .int .u8 (v2 : Int), .int .u8 (v3 : Int), .int .u32 0, .int .u64 0, .string ⟨#[]⟩] 57
        have Y7 := at_alloc HY.out (.cells #[.string T, .int .u64 (v0 : Int), .int .u32 (v1 : Int), .int .u8 (v2 : Int), .int .u8 (v3 : Int), .int .u32 0, .int .u64 0, .string ⟨#[]⟩] 57)
        have K7 := kept_alloc HK.out (.cells #[.string T, .int .u64 (v0 : Int), .int .u32 (v1 : Int), .int .u8 (v2 : Int), .int .u8 (v3 : Int), .int .u32 0, .int .u64 0, .string ⟨#[]⟩] 57)
        have hlN := at_lt N4
        have N4c := N4
        obtain ⟨n0, n1, n2, n3, n4, n5⟩ := at_cells6 N4
        have R8 := hid R7
        have Y8 := hid Y7
        have K8 := hid K7
        clear R7 Y7 K7 HY HK HM N4 N4c hv3 b1 b2 b3 b4 b5
        go_wp2_with fail
        have R7 := R8.out
        have Y7 := Y8.out
        have K7 := K8.out
        clear R8 Y8 K8 n0 n1 n2 n3 n4 n5 hlN
        generalize wr.alloc (.cells #[.string T, .int .u64 (v0 : Int), .int .u32 (v1 : Int), .int .u8 (v2 : Int), .int .u8 (v3 : Int), .int .u32 0, .int .u64 0, .string ⟨#[]⟩] 57) = w7 at *
        generalize wr.heap.size = bR at *
        cases hm : mayR ⟨T, ⟨v0, v1, v2⟩, v3, 0, 0, ⟨#[]⟩⟩ with
        | true =>
          rw [hm] at hM HG
          rw [if_pos rfl] at HG
          have HG2 := hid HG
          clear HG hm
          refine (hM _).mono ?_
          rintro e w8 ⟨rfl, k8⟩
          replace K7 := kept_trans K7 k8
          replace Y7 := at_kept Y7 k8
          replace R7 := at_kept R7 k8
          clear k8 hM
          obtain ⟨x0, x1, x2, x3, x4, x5, x6, x7, -⟩ := at_cells8 R7
          obtain ⟨d0, d1, d2, d3, d4, d5, d6, d7, df⟩ := at_cells8 Y7
          have hY2 := hid (at_set8 Y7 (.string T) (.int .u64 (v0 : Int)) (.int .u32 (v1 : Int)) (.int .u8 (v2 : Int)) (.int .u8 (v3 : Int)) (.int .u32 0) (.int .u64 0) (.string ⟨#[]⟩))
          have hW2 := hid (HKY.out _ (.string T) (.int .u64 (v0 : Int)) (.int .u32 (v1 : Int)) (.int .u8 (v2 : Int)) (.int .u8 (v3 : Int)) (.int .u32 0) (.int .u64 0) (.string ⟨#[]⟩) K7)
          clear Y7 K7 R7
          go_wp2_with fail
          rw [HG2.out]
          exact bodyPost_ret (res3 Tryz.results77 _ rfl rfl rfl hY2.out) rfl ⟨rfl, hW2.out⟩
        | false =>
          rw [hm] at hM HG
          rw [if_neg (by simp)] at HG
          have HG2 := hid HG
          clear HG hm
          refine (hM _).mono ?_
          rintro e w8 ⟨rfl, k8⟩
          replace K7 := kept_trans K7 k8
          replace Y7 := at_kept Y7 k8
          clear k8 hM R7
          obtain ⟨d0, d1, d2, d3, d4, d5, d6, d7, df⟩ := at_cells8 Y7
          have hY2 := hid (at_set8 Y7 (.string ⟨#[]⟩) (.int .u64 0) (.int .u32 0) (.int .u8 0) (.int .u8 0) (.int .u32 0) (.int .u64 0) (.string ⟨#[]⟩))
          have hW2 := hid (HKY.out _ (.string ⟨#[]⟩) (.int .u64 0) (.int .u32 0) (.int .u8 0) (.int .u8 0) (.int .u32 0) (.int .u64 0) (.string ⟨#[]⟩) K7)
          clear Y7 K7
          go_wp2_with fail
          rw [HG2.out]
          exact bodyPost_ret (res3 Tryz.results77 _ rfl rfl rfl hY2.out) rfl ⟨rfl, hW2.out⟩
      · subst h1
        have N4 : At wr bN #[.int .u64 (valN s (t : Int) 0 0 : Int), .int .u64 (valN s (t : Int) 0 1 : Int), .int .u64 (valN s (t : Int) 0 2 : Int), .int .u64 (valN s (t : Int) 0 3 : Int), .int .u64 (valN s (t : Int) 0 4 : Int), .int .u64 (valN s (t : Int) 0 5 : Int)] 179 := HN.out
        have hT2 := refText_at s HTs.out.2 i 1024 (by omega)
        have hDs := getT_size s i 1024
        obtain ⟨g, hgv⟩ : ∃ g, g = getT s i 1024 := ⟨_, rfl⟩
        rw [← hgv] at hT2 hDs
        obtain ⟨D, nx, f⟩ := g
        have HD2 : Hid (D.size ≤ maxLen) := by have := HTs.out.2; show _ ≤ _; unfold maxLen; simp only at hDs; omega
        have HG6 : Hid (f ≠ 0 → getR s p = (zeroR, 0, f)) := fun hf => get_six_bad HT.out h3 HR.out hgv.symm hf
        have HG7 : Hid (f = 0 → getR s p = if mayR ⟨T, ⟨valN s (t : Int) 0 0, valN s (t : Int) 0 1, valN s (t : Int) 0 2⟩, valN s (t : Int) 0 3, valN s (t : Int) 0 4, valN s (t : Int) 0 5, D⟩ = true then (⟨T, ⟨valN s (t : Int) 0 0, valN s (t : Int) 0 1, valN s (t : Int) 0 2⟩, valN s (t : Int) 0 3, valN s (t : Int) 0 4, valN s (t : Int) 0 5, D⟩, (nx : Int), 0) else (zeroR, 0, 3)) := fun hf => by
          subst hf; exact get_six HT.out h3 HR.out hgv.symm
        have hM := refMay_any ⟨T, ⟨valN s (t : Int) 0 0, valN s (t : Int) 0 1, valN s (t : Int) 0 2⟩, valN s (t : Int) 0 3, valN s (t : Int) 0 4, valN s (t : Int) 0 5, D⟩ (rec_okay HTs.out.1 HD2.out b4 b5)
        clear HR HN HD h2 hgv hDs HD2
        generalize valN s (t : Int) 0 0 = v0 at *
        generalize valN s (t : Int) 0 1 = v1 at *
        generalize valN s (t : Int) 0 2 = v2 at *
        generalize valN s (t : Int) 0 3 = v3 at *
        generalize valN s (t : Int) 0 4 = v4 at *
        generalize valN s (t : Int) 0 5 = v5 at *
        have e1 := wrap_32 b1
        have e2 := wrap_8 b2
        have e3 := wrap_8 b3
        have e4 := wrap_32 b4
        have g3 : ((v3 : Int) == 3) = true := by simp; omega
        have R7 := at_new wr #[.string T, .int .u64 (v0 : Int), .int .u32 (v1 : Int), .int .u8 (v2 : Int), .int .u8 (v3 : Int), .int .u32 (v4 : Int), .int .u64 (v5 : Int), .string ⟨#[]⟩] 57
        have Y7 := at_alloc HY.out (.cells #[.string T, .int .u64 (v0 : Int), .int .u32 (v1 : Int), .int .u8 (v2 : Int), .int .u8 (v3 : Int), .int .u32 (v4 : Int), .int .u64 (v5 : Int), .string ⟨#[]⟩] 57)
        have K7 := kept_alloc HK.out (.cells #[.string T, .int .u64 (v0 : Int), .int .u32 (v1 : Int), .int .u8 (v2 : Int), .int .u8 (v3 : Int), .int .u32 (v4 : Int), .int .u64 (v5 : Int), .string ⟨#[]⟩] 57)
        have HKR : Hid (∀ (u : World) (o : Nat) (v : Value), Kept w u → Kept w (u.setCell ⟨wr.heap.size, o, none⟩ v)) := fun u o v h => kept_set h HK.out.2 o v
        have nYR : Hid (bY ≠ wr.heap.size) := Nat.ne_of_lt (at_lt HY.out)
        have hlN := at_lt N4
        obtain ⟨n0, n1, n2, n3, n4, n5⟩ := at_cells6 N4
        have R8 := hid R7
        have Y8 := hid Y7
        have K8 := hid K7
        clear R7 Y7 K7 HY HK HM N4 h3 b1 b2 b3 b4 b5
        go_wp2_with fail
        have R7 := R8.out
        have Y7 := Y8.out
        have K7 := K8.out
        clear R8 Y8 K8 n0 n1 n2 n3 n4 n5 hlN
        generalize wr.alloc (.cells #[.string T, .int .u64 (v0 : Int), .int .u32 (v1 : Int), .int .u8 (v2 : Int), .int .u8 (v3 : Int), .int .u32 (v4 : Int), .int .u64 (v5 : Int), .string ⟨#[]⟩] 57) = w7 at *
        generalize wr.heap.size = bR at *
        refine (hT2 _).mono ?_
        rintro e w6 ⟨rfl, k6⟩
        replace K7 := kept_trans K7 k6
        replace Y7 := at_kept Y7 k6
        replace R7 := at_kept R7 k6
        clear k6 hT2
        by_cases hf : f = 0
        · have HG := HG7.out hf
          subst hf
          have R8 : Hid (At (w6.setCell ⟨bR, 7, none⟩ (.string D)) bR #[.string T, .int .u64 (v0 : Int), .int .u32 (v1 : Int), .int .u8 (v2 : Int), .int .u8 (v3 : Int), .int .u32 (v4 : Int), .int .u64 (v5 : Int), .string D] 57) := at_set R7 7 (.string D)
          have Y8 := hid (at_other Y7 nYR.out 7 (.string D))
          have K8 := hid (HKR.out _ 7 (.string D) K7)
          have HGh := hid HG
          obtain ⟨x0, x1, x2, x3, x4, x5, x6, x7, xf⟩ := at_cells8 R7
          clear R7 Y7 K7 HG HG6 HG7
          go_wp2_with fail
          have R7 := R8.out
          have Y7 := Y8.out
          have K7 := K8.out
          have HG := HGh.out
          clear R8 Y8 K8 HGh x0 x1 x2 x3 x4 x5 x6 x7 xf
          generalize w6.setCell ⟨bR, 7, none⟩ (.string D) = w9 at *
          cases hm : mayR ⟨T, ⟨v0, v1, v2⟩, v3, v4, v5, D⟩ with
          | true =>
            rw [hm] at hM HG
            rw [if_pos rfl] at HG
            have HG2 := hid HG
            clear HG hm
            refine (hM _).mono ?_
            rintro e w8 ⟨rfl, k8⟩
            replace K7 := kept_trans K7 k8
            replace Y7 := at_kept Y7 k8
            replace R7 := at_kept R7 k8
            clear k8 hM
            obtain ⟨x0, x1, x2, x3, x4, x5, x6, x7, -⟩ := at_cells8 R7
            obtain ⟨d0, d1, d2, d3, d4, d5, d6, d7, df⟩ := at_cells8 Y7
            have hY2 := hid (at_set8 Y7 (.string T) (.int .u64 (v0 : Int)) (.int .u32 (v1 : Int)) (.int .u8 (v2 : Int)) (.int .u8 (v3 : Int)) (.int .u32 (v4 : Int)) (.int .u64 (v5 : Int)) (.string D))
            have hW2 := hid (HKY.out _ (.string T) (.int .u64 (v0 : Int)) (.int .u32 (v1 : Int)) (.int .u8 (v2 : Int)) (.int .u8 (v3 : Int)) (.int .u32 (v4 : Int)) (.int .u64 (v5 : Int)) (.string D) K7)
            clear Y7 K7 R7
            go_wp2_with fail
            rw [HG2.out]
            exact bodyPost_ret (res3 Tryz.results77 _ rfl rfl rfl hY2.out) rfl ⟨rfl, hW2.out⟩
          | false =>
            rw [hm] at hM HG
            rw [if_neg (by simp)] at HG
            have HG2 := hid HG
            clear HG hm
            refine (hM _).mono ?_
            rintro e w8 ⟨rfl, k8⟩
            replace K7 := kept_trans K7 k8
            replace Y7 := at_kept Y7 k8
            clear k8 hM R7
            obtain ⟨d0, d1, d2, d3, d4, d5, d6, d7, df⟩ := at_cells8 Y7
            have hY2 := hid (at_set8 Y7 (.string ⟨#[]⟩) (.int .u64 0) (.int .u32 0) (.int .u8 0) (.int .u8 0) (.int .u32 0) (.int .u64 0) (.string ⟨#[]⟩))
            have hW2 := hid (HKY.out _ (.string ⟨#[]⟩) (.int .u64 0) (.int .u32 0) (.int .u8 0) (.int .u8 0) (.int .u32 0) (.int .u64 0) (.string ⟨#[]⟩) K7)
            clear Y7 K7
            go_wp2_with fail
            rw [HG2.out]
            exact bodyPost_ret (res3 Tryz.results77 _ rfl rfl rfl hY2.out) rfl ⟨rfl, hW2.out⟩
        · have HG := hid (HG6.out hf)
          have hf' : ((f : Int) != 0) = true := by simp; omega
          clear hf HG6 HG7 R7
          obtain ⟨d0, d1, d2, d3, d4, d5, d6, d7, df⟩ := at_cells8 Y7
          have hY2 := hid (at_set8 Y7 (.string ⟨#[]⟩) (.int .u64 0) (.int .u32 0) (.int .u8 0) (.int .u8 0) (.int .u32 0) (.int .u64 0) (.string ⟨#[]⟩))
          have hW2 := hid (HKY.out _ (.string ⟨#[]⟩) (.int .u64 0) (.int .u32 0) (.int .u8 0) (.int .u8 0) (.int .u32 0) (.int .u64 0) (.string ⟨#[]⟩) K7)
          clear Y7 K7
          go_wp2_with fail
          rw [HG.out]
          exact bodyPost_ret (res3 Tryz.results77 _ rfl rfl rfl hY2.out) rfl ⟨rfl, hW2.out⟩
theorem refGetR_any (s : ByteArray) (hs : s.size ≤ 140737488355328) (p : Int) (w : World) :
    Calls Tryz.prog 77 #[.string s, .int .i64 p] w fun e w' => e = .returned (recV (getR s p)) ∧ Kept w w' := by
  generalize hg : getT s p 250 = g
  obtain ⟨T, t, e⟩ := g
  by_cases he : e = 0
  · subst he; exact refGet_go s hs p T t hg w
  · exact refGet_text s hs p T t e hg he w
end Go.Proofs.YtioeidhblbfgmaaGreat
