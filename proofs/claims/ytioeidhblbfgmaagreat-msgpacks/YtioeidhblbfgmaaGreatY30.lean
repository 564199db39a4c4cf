/- The contracts of the reference's reader: Number, Key, Rec; put. The text has at most 2^47 bytes. -/
import Derived.Test.YtioeidhblbfgmaaGreatY11
import Derived.Test.YtioeidhblbfgmaaGreatY27
import Derived.Test.YtioeidhblbfgmaaGreatY26
import Derived.Test.YtioeidhblbfgmaaGreatY20
import Derived.Test.YtioeidhblbfgmaaGreatY29

namespace Go.Proofs.YtioeidhblbfgmaaGreat
open Go.ChangeShapes Go.WideShapes Go.ChangeAt Go.RowKit
set_option linter.unusedVariables false
set_option linter.unusedSimpArgs false
set_option maxRecDepth 100000

theorem zeroRd (w : World) : (zeroValue 73).run Tryz.prog w = .ok (.agg #[.string ⟨#[]⟩, .int .i64 0, .int .i64 0]) w := by kernel_rfl
def set3 (w : World) (G : Nat) (a0 a1 a2 : Value) : World := ((w.setCell ⟨G, 0, none⟩ a0).setCell ⟨G, 1, none⟩ a1).setCell ⟨G, 2, none⟩ a2
theorem at_set3 {w : World} {G T : Nat} {v0 v1 v2 : Value} (h : At w G #[v0, v1, v2] T) (a0 a1 a2 : Value) : At (set3 w G a0 a1 a2) G #[a0, a1, a2] T := by
  have h0 : At (w.setCell ⟨G, 0, none⟩ a0) G #[a0, v1, v2] T := at_set h 0 a0
  have h1 : At ((w.setCell ⟨G, 0, none⟩ a0).setCell ⟨G, 1, none⟩ a1) G #[a0, a1, v2] T := at_set h0 1 a1
  exact at_set h1 2 a2
theorem kept_set3 {W w : World} (h : Kept W w) {G : Nat} (hG : W.heap.size ≤ G) (a0 a1 a2 : Value) : Kept W (set3 w G a0 a1 a2) := kept_set (kept_set (kept_set h hG 0 a0) hG 1 a1) hG 2 a2
theorem at_out3 {w : World} {X T G : Nat} {cs : Array Value} (h : At w X cs T) (hn : X ≠ G) (a0 a1 a2 : Value) : At (set3 w G a0 a1 a2) X cs T := at_other (at_other (at_other h hn _ _) hn _ _) hn _ _
theorem resTR {fn : Func} {p q : Tmp} (h : fn.results = #[.tmp q, .cell p 73]) (tmps : Array Value) {w : World} {X T : Nat} {v0 v1 v2 : Value} (hp : tmps.getD p undef = .pointer (some ⟨X, 0, none⟩)) (hA : At w X #[v0, v1, v2] T) :
    (results fn tmps).run Tryz.prog w = .ok (.tuple #[tmps.getD q undef, .agg #[v0, v1, v2]]) w := by
  obtain ⟨c0, c1, c2, -⟩ := at_cells3 hA
  have hp' : tmps[p]?.getD undef = .pointer (some ⟨X, 0, none⟩) := by simpa using hp
  simp [results, h, go_sem, hp', c0, c1, c2]
def rdV (s : ByteArray) (q : Int × Nat) : Value := .agg #[.string s, .int .i64 q.1, .int .i64 (q.2 : Int)]
def RdE (s : ByteArray) (v : Value) (q : Int × Nat) (w : World) (e : Ending) (w' : World) : Prop := e = .returned (.tuple #[v, rdV s q]) ∧ Kept w w'
set_option maxHeartbeats 3200000 in
theorem number_rd (s : ByteArray) (hs : s.size ≤ 140737488355328) (lo hi : Nat) (q : Int × Nat) (w : World) :
    Calls Tryz.prog 27 #[rdV s q, .int .u64 (lo : Int), .int .u64 (hi : Int)] w (RdE s (.int .u64 ((numM s lo hi q).1 : Int)) (numM s lo hi q).2 w) := by
  obtain ⟨p, f⟩ := q
  have HN : Hid (numM s lo hi (p, f) = if f = 0 then (if (getN s p).2.2 = 0 then (if (getN s p).1 < lo ∨ hi < (getN s p).1 then (0, (p, 3)) else ((getN s p).1, (((getN s p).2.1 : Int), 0))) else (0, (p, (getN s p).2.2))) else (0, (p, f))) := hid rfl
  have hG := fun u => refGet_any s p hs u
  generalize numM s lo hi (p, f) = N at *
  generalize getN s p = g at *
  obtain ⟨n, nx, er⟩ := g
  unfold trip at hG
  simp only at hG HN
  have hz := zeroRd
  have k1 := kept_alloc (kept_refl w) (.cells #[.string s, .int .i64 p, .int .i64 (f : Int)] 73)
  have a1 := at_new w #[.string s, .int .i64 p, .int .i64 (f : Int)] 73
  obtain ⟨w1, hw1⟩ : ∃ u, w.alloc (.cells #[.string s, .int .i64 p, .int .i64 (f : Int)] 73) = u := ⟨_, rfl⟩
  obtain ⟨X, hX⟩ : ∃ u, w.heap.size = u := ⟨_, rfl⟩
  rw [hw1] at k1 a1
  rw [hX] at a1
  have k2 := kept_alloc (kept_refl w1) (.cells #[.string ⟨#[]⟩, .int .i64 0, .int .i64 0] 73)
  have a2 := at_new w1 #[.string ⟨#[]⟩, .int .i64 0, .int .i64 0] 73
  obtain ⟨w2, hw2⟩ : ∃ u, w1.alloc (.cells #[.string ⟨#[]⟩, .int .i64 0, .int .i64 0] 73) = u := ⟨_, rfl⟩
  obtain ⟨Y, hY⟩ : ∃ u, w1.heap.size = u := ⟨_, rfl⟩
  rw [hw2] at k2 a2
  rw [hY] at a2
  have HX := hid (at_kept a1 k2)
  have HY := hid a2
  have HK := hid (kept_trans k1 k2)
  have HXY : Hid (X ≠ Y ∧ w.heap.size ≤ X ∧ w.heap.size ≤ Y) := hid ⟨by have := at_lt a1; omega, by omega, by have := k1.2; omega⟩
  clear a1 a2 k1 k2
  obtain ⟨c0, c1, c2, cf⟩ := at_cells3 HX.out
  by_cases hf : f = 0
  · subst hf
    have e0 : ((0 : Nat) : Int) = 0 := rfl
    rw [e0] at hw1 HX c2
    clear e0
    have HN1 : Hid (N = if er = 0 then (if n < lo ∨ hi < n then (0, (p, 3)) else (n, ((nx : Int), 0))) else (0, (p, er))) := hid (by rw [HN.out, if_pos rfl])
    clear HN
    unfold rdV
    go_enter Tryz.func27, Tryz.ntmps27
    go_wp2_with fail
    refine (hG _).mono ?_
    rintro e w3 ⟨rfl, b3⟩
    have HK3 := hid (kept_trans HK.out (kept_below b3))
    have HX3 := hid (at_kept HX.out (kept_below b3))
    have HY3 := hid (at_kept HY.out (kept_below b3))
    clear hG b3 c0 c1 c2 cf HX HY HK
    obtain ⟨c0, c1, c2, cf⟩ := at_cells3 HX3.out
    obtain ⟨d0, d1, d2, df⟩ := at_cells3 HY3.out
    by_cases he : er = 0
    · subst he
      by_cases hb : n < lo ∨ hi < n
      · have HN2 : Hid (N = (0, (p, 3))) := hid (by rw [HN1.out, if_pos rfl, if_pos hb])
        have HX4 : Hid (At (w3.setCell ⟨X, 2, none⟩ (.int .i64 3)) X #[.string s, .int .i64 p, .int .i64 3] 73) := hid (at_set HX3.out 2 (.int .i64 3))
        have HY4 := hid (at_other HY3.out (fun e => HXY.out.1 e.symm) 2 (.int .i64 3))
        have HK4 := hid (kept_set HK3.out HXY.out.2.1 2 (.int .i64 3))
        have HA := hid (at_set3 (at_drew HY4.out) (.string s) (.int .i64 p) (.int .i64 3))
        have HKe := hid (kept_set3 (kept_drew HK4.out) HXY.out.2.2 (.string s) (.int .i64 p) (.int .i64 3))
        obtain ⟨e0, e1, e2, ef⟩ := at_cells3 HX4.out
        obtain ⟨f0, f1, f2, ff⟩ := at_cells3 HY4.out
        clear HN1 HX4 HY4 HK4
        by_cases h1 : n < lo
        · have g1 : (n : Int) < (lo : Int) := by omega
          clear hb
          go_wp2_with fail
          go_region
          go_wp2_with fail
          refine bodyPost_ret (resTR Tryz.results27 _ rfl HA.out) rfl ⟨?_, HKe.out⟩
          rw [HN2.out]; rfl
        · have q2 : hi < n := by omega
          have g1 : ¬ (n : Int) < (lo : Int) := by omega
          have g2 : (hi : Int) < (n : Int) := by omega
          clear hb
          go_wp2_with fail
          go_region
          go_wp2_with fail
          refine bodyPost_ret (resTR Tryz.results27 _ rfl HA.out) rfl ⟨?_, HKe.out⟩
          rw [HN2.out]; rfl
      · have HN2 : Hid (N = (n, ((nx : Int), 0))) := hid (by rw [HN1.out, if_pos rfl, if_neg hb])
        have q1 : ¬ n < lo := by omega
        have q2 : ¬ hi < n := by omega
        have g1 : ¬ (n : Int) < (lo : Int) := by omega
        have g2 : ¬ (hi : Int) < (n : Int) := by omega
        have HX4 : Hid (At (w3.setCell ⟨X, 1, none⟩ (.int .i64 (nx : Int))) X #[.string s, .int .i64 (nx : Int), .int .i64 0] 73) := hid (at_set HX3.out 1 (.int .i64 (nx : Int)))
        have HY4 := hid (at_other HY3.out (fun e => HXY.out.1 e.symm) 1 (.int .i64 (nx : Int)))
        have HK4 := hid (kept_set HK3.out HXY.out.2.1 1 (.int .i64 (nx : Int)))
        have HA := hid (at_set3 (at_drew HY4.out) (.string s) (.int .i64 (nx : Int)) (.int .i64 0))
        have HKe := hid (kept_set3 (kept_drew HK4.out) HXY.out.2.2 (.string s) (.int .i64 (nx : Int)) (.int .i64 0))
        obtain ⟨e0, e1, e2, ef⟩ := at_cells3 HX4.out
        obtain ⟨f0, f1, f2, ff⟩ := at_cells3 HY4.out
        clear HN1 HX4 HY4 HK4 hb
        go_wp2_with fail
        go_region
        go_wp2_with fail
        refine bodyPost_ret (resTR Tryz.results27 _ rfl HA.out) rfl ⟨?_, HKe.out⟩
        rw [HN2.out]; rfl
    · have HN2 : Hid (N = (0, (p, er))) := hid (by rw [HN1.out, if_neg he])
      have g1 : ((er : Int) == 0) = false := by simpa using he
      have g2 : ((er : Int) != 0) = true := by simpa using he
      have HX4 : Hid (At (w3.setCell ⟨X, 2, none⟩ (.int .i64 (er : Int))) X #[.string s, .int .i64 p, .int .i64 (er : Int)] 73) := hid (at_set HX3.out 2 (.int .i64 (er : Int)))
      have HY4 := hid (at_other HY3.out (fun e => HXY.out.1 e.symm) 2 (.int .i64 (er : Int)))
      have HK4 := hid (kept_set HK3.out HXY.out.2.1 2 (.int .i64 (er : Int)))
      have HA := hid (at_set3 (at_drew HY4.out) (.string s) (.int .i64 p) (.int .i64 (er : Int)))
      have HKe := hid (kept_set3 (kept_drew HK4.out) HXY.out.2.2 (.string s) (.int .i64 p) (.int .i64 (er : Int)))
      obtain ⟨e0, e1, e2, ef⟩ := at_cells3 HX4.out
      obtain ⟨f0, f1, f2, ff⟩ := at_cells3 HY4.out
      clear HN1 HX4 HY4 HK4 he
      go_wp2_with fail
      go_region
      go_wp2_with fail
      refine bodyPost_ret (resTR Tryz.results27 _ rfl HA.out) rfl ⟨?_, HKe.out⟩
      rw [HN2.out]; rfl
  · have hd : ((f : Int) != 0) = true := by rw [bne_iff_ne]; omega
    have HN1 : Hid (N = (0, (p, f))) := hid (by rw [HN.out, if_neg hf])
    clear HN hG
    obtain ⟨d0, d1, d2, df⟩ := at_cells3 HY.out
    unfold rdV
    go_enter Tryz.func27, Tryz.ntmps27
    go_wp2_with fail
    have HA := hid (at_set3 (at_drew HY.out) (.string s) (.int .i64 p) (.int .i64 (f : Int)))
    have HK3 := hid (kept_set3 (kept_drew HK.out) HXY.out.2.2 (.string s) (.int .i64 p) (.int .i64 (f : Int)))
    go_region
    go_wp2_with fail
    refine bodyPost_ret (resTR Tryz.results27 _ rfl HA.out) rfl ⟨?_, HK3.out⟩
    rw [HN1.out]
    rfl
theorem getT_lim {s : ByteArray} {p : Int} (h : (getT s p 250).2.2 = 0) : (getT s p 250).1.size ≤ s.size := by
  obtain ⟨a, g1, g2, g3, g4, g5⟩ := getT_ok s p 250 (getT s p 250).1 (getT s p 250).2.1 (by rw [← h])
  exact g4
set_option maxHeartbeats 3200000 in
theorem key_rd (s : ByteArray) (hs : s.size ≤ 140737488355328) (q : Int × Nat) (w : World) :
    Calls Tryz.prog 28 #[rdV s q] w (RdE s (.string (keyM s q).1) (keyM s q).2 w) := by
  obtain ⟨p, f⟩ := q
  have HN : Hid (keyM s (p, f) = if f = 0 then (if (getT s p 250).2.2 = 0 then (if keyMay (getT s p 250).1 then ((getT s p 250).1, (((getT s p 250).2.1 : Int), 0)) else (⟨#[]⟩, (p, 3))) else (⟨#[]⟩, (p, (getT s p 250).2.2))) else (⟨#[]⟩, (p, f))) := hid rfl
  have hG := fun u => refGetText_any s p 250 hs (by omega) u
  have hL : (getT s p 250).2.2 = 0 → (getT s p 250).1.size ≤ s.size := getT_lim
  generalize keyM s (p, f) = N at *
  generalize getT s p 250 = g at *
  obtain ⟨n, nx, er⟩ := g
  unfold tripT at hG
  simp only at hG HN hL
  have hz := zeroRd
  by_cases hf : f = 0
  · subst hf
    have HN1 : Hid (N = if er = 0 then (if keyMay n then (n, ((nx : Int), 0)) else (⟨#[]⟩, (p, 3))) else (⟨#[]⟩, (p, er))) := hid (by rw [HN.out, if_pos rfl])
    clear HN
    have k1 := kept_alloc (kept_refl w) (.cells #[.string s, .int .i64 p, .int .i64 0] 73)
    have a1 := at_new w #[.string s, .int .i64 p, .int .i64 0] 73
    obtain ⟨w1, hw1⟩ : ∃ u, w.alloc (.cells #[.string s, .int .i64 p, .int .i64 0] 73) = u := ⟨_, rfl⟩
    obtain ⟨X, hX⟩ : ∃ u, w.heap.size = u := ⟨_, rfl⟩
    rw [hw1] at k1 a1
    rw [hX] at a1
    have k2 := kept_alloc (kept_refl w1) (.cells #[.string ⟨#[]⟩, .int .i64 0, .int .i64 0] 73)
    have a2 := at_new w1 #[.string ⟨#[]⟩, .int .i64 0, .int .i64 0] 73
    obtain ⟨w2, hw2⟩ : ∃ u, w1.alloc (.cells #[.string ⟨#[]⟩, .int .i64 0, .int .i64 0] 73) = u := ⟨_, rfl⟩
    obtain ⟨Y, hY⟩ : ∃ u, w1.heap.size = u := ⟨_, rfl⟩
    rw [hw2] at k2 a2
    rw [hY] at a2
    have HX := hid (at_kept a1 k2)
    have HY := hid a2
    have HK := hid (kept_trans k1 k2)
    have HXY : Hid (X ≠ Y ∧ w.heap.size ≤ X ∧ w.heap.size ≤ Y) := hid ⟨by have := at_lt a1; omega, by omega, by have := k1.2; omega⟩
    clear a1 a2 k1 k2
    obtain ⟨c0, c1, c2, cf⟩ := at_cells3 HX.out
    unfold rdV
    go_enter Tryz.func28, Tryz.ntmps28
    go_wp2_with fail
    refine (hG _).mono ?_
    rintro e w3 ⟨rfl, b3⟩
    have HK3 := hid (kept_trans HK.out (kept_below b3))
    have HX3 := hid (at_kept HX.out (kept_below b3))
    have HY3 := hid (at_kept HY.out (kept_below b3))
    clear hG b3 c0 c1 c2 cf HX HY HK
    obtain ⟨c0, c1, c2, cf⟩ := at_cells3 HX3.out
    obtain ⟨d0, d1, d2, df⟩ := at_cells3 HY3.out
    by_cases he : er = 0
    · subst he
      have hkm := fun u => refKeyMay_any n (Nat.le_trans (hL rfl) (by unfold maxLen; omega)) u
      clear hL
      cases hb : keyMay n with
      | false =>
        rw [hb] at hkm
        have HN2 : Hid (N = (⟨#[]⟩, (p, 3))) := hid (by rw [HN1.out, if_pos rfl, hb]; rfl)
        have HX4 : Hid (At (w3.setCell ⟨X, 2, none⟩ (.int .i64 3)) X #[.string s, .int .i64 p, .int .i64 3] 73) := hid (at_set HX3.out 2 (.int .i64 3))
        have HY4 := hid (at_other HY3.out (fun e => HXY.out.1 e.symm) 2 (.int .i64 3))
        have HK4 := hid (kept_set HK3.out HXY.out.2.1 2 (.int .i64 3))
        have HA := hid (at_set3 (at_drew HY4.out) (.string s) (.int .i64 p) (.int .i64 3))
        have HKe := hid (kept_set3 (kept_drew HK4.out) HXY.out.2.2 (.string s) (.int .i64 p) (.int .i64 3))
        obtain ⟨e0, e1, e2, ef⟩ := at_cells3 HX4.out
        obtain ⟨f0, f1, f2, ff⟩ := at_cells3 HY4.out
        clear HN1 HX4 HY4 HK4 hb
        go_wp2_with fail
        refine (hkm _).mono ?_
        rintro e w4 ⟨rfl, rfl⟩
        go_wp2_with fail
        go_region
        go_wp2_with fail
        refine bodyPost_ret (resTR Tryz.results28 _ rfl HA.out) rfl ⟨?_, HKe.out⟩
        rw [HN2.out]; rfl
      | true =>
        rw [hb] at hkm
        have HN2 : Hid (N = (n, ((nx : Int), 0))) := hid (by rw [HN1.out, if_pos rfl, hb]; rfl)
        have HX4 : Hid (At (w3.setCell ⟨X, 1, none⟩ (.int .i64 (nx : Int))) X #[.string s, .int .i64 (nx : Int), .int .i64 0] 73) := hid (at_set HX3.out 1 (.int .i64 (nx : Int)))
        have HY4 := hid (at_other HY3.out (fun e => HXY.out.1 e.symm) 1 (.int .i64 (nx : Int)))
        have HK4 := hid (kept_set HK3.out HXY.out.2.1 1 (.int .i64 (nx : Int)))
        have HA := hid (at_set3 (at_drew HY4.out) (.string s) (.int .i64 (nx : Int)) (.int .i64 0))
        have HKe := hid (kept_set3 (kept_drew HK4.out) HXY.out.2.2 (.string s) (.int .i64 (nx : Int)) (.int .i64 0))
        obtain ⟨e0, e1, e2, ef⟩ := at_cells3 HX4.out
        obtain ⟨f0, f1, f2, ff⟩ := at_cells3 HY4.out
        clear HN1 HX4 HY4 HK4 hb
        go_wp2_with fail
        refine (hkm _).mono ?_
        rintro e w4 ⟨rfl, rfl⟩
        go_wp2_with fail
        go_region
        go_wp2_with fail
        refine bodyPost_ret (resTR Tryz.results28 _ rfl HA.out) rfl ⟨?_, HKe.out⟩
        rw [HN2.out]; rfl
    · have HN2 : Hid (N = (⟨#[]⟩, (p, er))) := hid (by rw [HN1.out, if_neg he])
      have g1 : ((er : Int) == 0) = false := by simpa using he
      have g2 : ((er : Int) != 0) = true := by simpa using he
      have HX4 : Hid (At (w3.setCell ⟨X, 2, none⟩ (.int .i64 (er : Int))) X #[.string s, .int .i64 p, .int .i64 (er : Int)] 73) := hid (at_set HX3.out 2 (.int .i64 (er : Int)))
      have HY4 := hid (at_other HY3.out (fun e => HXY.out.1 e.symm) 2 (.int .i64 (er : Int)))
      have HK4 := hid (kept_set HK3.out HXY.out.2.1 2 (.int .i64 (er : Int)))
      have HA := hid (at_set3 (at_drew HY4.out) (.string s) (.int .i64 p) (.int .i64 (er : Int)))
      have HKe := hid (kept_set3 (kept_drew HK4.out) HXY.out.2.2 (.string s) (.int .i64 p) (.int .i64 (er : Int)))
      obtain ⟨e0, e1, e2, ef⟩ := at_cells3 HX4.out
      obtain ⟨f0, f1, f2, ff⟩ := at_cells3 HY4.out
      clear HN1 HX4 HY4 HK4 he hL
      go_wp2_with fail
      go_region
      go_wp2_with fail
      refine bodyPost_ret (resTR Tryz.results28 _ rfl HA.out) rfl ⟨?_, HKe.out⟩
      rw [HN2.out]; rfl
  · have hd : ((f : Int) != 0) = true := by rw [bne_iff_ne]; omega
    have HN1 : Hid (N = (⟨#[]⟩, (p, f))) := hid (by rw [HN.out, if_neg hf])
    clear HN hG hL
    have k1 := kept_alloc (kept_refl w) (.cells #[.string s, .int .i64 p, .int .i64 (f : Int)] 73)
    have a1 := at_new w #[.string s, .int .i64 p, .int .i64 (f : Int)] 73
    obtain ⟨w1, hw1⟩ : ∃ u, w.alloc (.cells #[.string s, .int .i64 p, .int .i64 (f : Int)] 73) = u := ⟨_, rfl⟩
    obtain ⟨X, hX⟩ : ∃ u, w.heap.size = u := ⟨_, rfl⟩
    rw [hw1] at k1 a1
    rw [hX] at a1
    have k2 := kept_alloc (kept_refl w1) (.cells #[.string ⟨#[]⟩, .int .i64 0, .int .i64 0] 73)
    have a2 := at_new w1 #[.string ⟨#[]⟩, .int .i64 0, .int .i64 0] 73
    obtain ⟨w2, hw2⟩ : ∃ u, w1.alloc (.cells #[.string ⟨#[]⟩, .int .i64 0, .int .i64 0] 73) = u := ⟨_, rfl⟩
    obtain ⟨Y, hY⟩ : ∃ u, w1.heap.size = u := ⟨_, rfl⟩
    rw [hw2] at k2 a2
    rw [hY] at a2
    have HY := hid a2
    have HK := hid (kept_trans k1 k2)
    have HXY : Hid (w.heap.size ≤ Y) := hid (by have := k1.2; omega)
    obtain ⟨c0, c1, c2, cf⟩ := at_cells3 (at_kept a1 k2)
    clear a1 a2 k1 k2
    obtain ⟨d0, d1, d2, df⟩ := at_cells3 HY.out
    unfold rdV
    go_enter Tryz.func28, Tryz.ntmps28
    go_wp2_with fail
    have HA := hid (at_set3 (at_drew HY.out) (.string s) (.int .i64 p) (.int .i64 (f : Int)))
    have HK3 := hid (kept_set3 (kept_drew HK.out) HXY.out (.string s) (.int .i64 p) (.int .i64 (f : Int)))
    go_region
    go_wp2_with fail
    refine bodyPost_ret (resTR Tryz.results28 _ rfl HA.out) rfl ⟨?_, HK3.out⟩
    rw [HN1.out]
    rfl
theorem putS_any (x : Int) (h : 0 ≤ x ∧ x < 4611686018427387904) (w : World) : Calls Tryz.prog 67 #[.int .u64 x] w fun e w' => e = .returned (.string (encI x)) ∧ Kept w w' := by
  have hP := fun u => refNum_any x h u
  generalize encI x = E at *
  clear h
  go_enter Tryz.func67, Tryz.ntmps67
  go_wp2_with fail
  refine (hP _).mono ?_
  rintro e w1 ⟨rfl, k1⟩
  have HK := hid k1
  clear hP k1
  go_wp2_with fail
  go_ret
  exact ⟨rfl, HK.out⟩
end Go.Proofs.YtioeidhblbfgmaaGreat
