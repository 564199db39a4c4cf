/- The contract of the reference's reader: Rec. The text has at most 2^47 bytes. The reader's contracts with their answers named; rows beside the reader stay. The text has at most 2^47 bytes. -/
import Derived.Test.YtioeidhblbfgmaaGreatY30
import Derived.Test.YtioeidhblbfgmaaGreatY14

namespace Go.Proofs.YtioeidhblbfgmaaGreat
open Go.ChangeShapes Go.WideShapes Go.ChangeAt Go.RowKit
set_option linter.unusedVariables false
set_option linter.unusedSimpArgs false
set_option maxRecDepth 100000

theorem at_out8 {w : World} {X T G : Nat} {cs : Array Value} (h : At w X cs T) (hn : X ≠ G) (a0 a1 a2 a3 a4 a5 a6 a7 : Value) : At (set8 w G a0 a1 a2 a3 a4 a5 a6 a7) X cs T :=
  at_other (at_other (at_other (at_other (at_other (at_other (at_other (at_other h hn _ _) hn _ _) hn _ _) hn _ _) hn _ _) hn _ _) hn _ _) hn _ _
theorem resRR {fn : Func} {p q : Tmp} (h : fn.results = #[.cell q 57, .cell p 73]) (tmps : Array Value) {w : World} {X Q T U : Nat} {v0 v1 v2 a0 a1 a2 a3 a4 a5 a6 a7 : Value} (hq : tmps.getD q undef = .pointer (some ⟨Q, 0, none⟩)) (hp : tmps.getD p undef = .pointer (some ⟨X, 0, none⟩)) (hB : At w Q #[a0, a1, a2, a3, a4, a5, a6, a7] U) (hA : At w X #[v0, v1, v2] T) :
    (results fn tmps).run Tryz.prog w = .ok (.tuple #[.agg #[a0, a1, a2, a3, a4, a5, a6, a7], .agg #[v0, v1, v2]]) w := by
  obtain ⟨c0, c1, c2, -⟩ := at_cells3 hA
  obtain ⟨d0, d1, d2, d3, d4, d5, d6, d7, -⟩ := at_cells8 hB
  have hp' : tmps[p]?.getD undef = .pointer (some ⟨X, 0, none⟩) := by simpa using hp
  have hq' : tmps[q]?.getD undef = .pointer (some ⟨Q, 0, none⟩) := by simpa using hq
  simp [results, h, go_sem, hp', hq', c0, c1, c2, d0, d1, d2, d3, d4, d5, d6, d7]
theorem zeroRc (w : World) : (zeroValue 57).run Tryz.prog w = .ok (.agg #[.string ⟨#[]⟩, .int .u64 0, .int .u32 0, .int .u8 0, .int .u8 0, .int .u32 0, .int .u64 0, .string ⟨#[]⟩]) w := by kernel_rfl
set_option maxHeartbeats 6400000 in
theorem rec_rd (s : ByteArray) (hs : s.size ≤ 140737488355328) (q : Int × Nat) (w : World) :
    Calls Tryz.prog 29 #[rdV s q] w (RdE s (.agg #[.string (recM s q).1.key, .int .u64 (recM s q).1.s.p, .int .u32 (recM s q).1.s.l, .int .u8 (recM s q).1.s.n, .int .u8 (recM s q).1.kind, .int .u32 (recM s q).1.flags, .int .u64 (recM s q).1.exp, .string (recM s q).1.body]) (recM s q).2 w) := by
  obtain ⟨p, f⟩ := q
  have HN : Hid (recM s (p, f) = if f = 0 then (if (getR s p).2.2 = 0 then ((getR s p).1, ((getR s p).2.1, 0)) else (zeroR, (p, (getR s p).2.2))) else (zeroR, (p, f))) := hid rfl
  have hG := fun u => refGetR_any s hs p u
  generalize recM s (p, f) = N at *
  generalize getR s p = g at *
  obtain ⟨r, nx, er⟩ := g
  unfold recV at hG
  simp only at hG HN
  have hz := zeroRd
  have hz8 := zeroRc
  by_cases hf : f = 0
  · subst hf
    have HN1 : Hid (N = if er = 0 then (r, (nx, 0)) else (zeroR, (p, er))) := hid (by rw [HN.out, if_pos rfl])
    clear HN
    have k1 := kept_alloc (kept_refl w) (.cells #[.string s, .int .i64 p, .int .i64 0] 73)
    have a1 := at_new w #[.string s, .int .i64 p, .int .i64 0] 73
    obtain ⟨w1, hw1⟩ : ∃ u, w.alloc (.cells #[.string s, .int .i64 p, .int .i64 0] 73) = u := ⟨_, rfl⟩
    obtain ⟨X, hX⟩ : ∃ u, w.heap.size = u := ⟨_, rfl⟩
    rw [hw1] at k1 a1
    rw [hX] at a1
    have k2 := kept_alloc (kept_refl w1) (.cells #[.string ⟨#[]⟩, .int .u64 0, .int .u32 0, .int .u8 0, .int .u8 0, .int .u32 0, .int .u64 0, .string ⟨#[]⟩] 57)
    have a2 := at_new w1 #[.string ⟨#[]⟩, .int .u64 0, .int .u32 0, .int .u8 0, .int .u8 0, .int .u32 0, .int .u64 0, .string ⟨#[]⟩] 57
    obtain ⟨w2, hw2⟩ : ∃ u, w1.alloc (.cells #[.string ⟨#[]⟩, .int .u64 0, .int .u32 0, .int .u8 0, .int .u8 0, .int .u32 0, .int .u64 0, .string ⟨#[]⟩] 57) = u := ⟨_, rfl⟩
    obtain ⟨P, hP⟩ : ∃ u, w1.heap.size = u := ⟨_, rfl⟩
    rw [hw2] at k2 a2
    rw [hP] at a2
    have k3 := kept_alloc (kept_refl w2) (.cells #[.string ⟨#[]⟩, .int .i64 0, .int .i64 0] 73)
    have a3 := at_new w2 #[.string ⟨#[]⟩, .int .i64 0, .int .i64 0] 73
    obtain ⟨w3, hw3⟩ : ∃ u, w2.alloc (.cells #[.string ⟨#[]⟩, .int .i64 0, .int .i64 0] 73) = u := ⟨_, rfl⟩
    obtain ⟨Y, hY⟩ : ∃ u, w2.heap.size = u := ⟨_, rfl⟩
    rw [hw3] at k3 a3
    rw [hY] at a3
    have HX := hid (at_kept (at_kept a1 k2) k3)
    have HP := hid (at_kept a2 k3)
    have HY := hid a3
    have HK := hid (kept_trans (kept_trans k1 k2) k3)
    have HXY : Hid (X ≠ P ∧ X ≠ Y ∧ P ≠ Y ∧ w.heap.size ≤ X ∧ w.heap.size ≤ P ∧ w.heap.size ≤ Y) := hid ⟨by have := at_lt a1; omega, by have := at_lt a1; have := k2.2; omega, by have := at_lt a2; omega, by omega, by have := k1.2; omega, by have := k1.2; have := k2.2; omega⟩
    clear a1 a2 a3 k1 k2 k3
    obtain ⟨c0, c1, c2, cf⟩ := at_cells3 HX.out
    unfold rdV
    go_enter Tryz.func29, Tryz.ntmps29
    go_wp2_with fail
    refine (hG _).mono ?_
    rintro e w4 ⟨rfl, k4⟩
    have k5 := kept_alloc (kept_refl w4) (.cells #[.string r.key, .int .u64 r.s.p, .int .u32 r.s.l, .int .u8 r.s.n, .int .u8 r.kind, .int .u32 r.flags, .int .u64 r.exp, .string r.body] 57)
    have a5 := at_new w4 #[.string r.key, .int .u64 r.s.p, .int .u32 r.s.l, .int .u8 r.s.n, .int .u8 r.kind, .int .u32 r.flags, .int .u64 r.exp, .string r.body] 57
    obtain ⟨w5, hw5⟩ : ∃ u, w4.alloc (.cells #[.string r.key, .int .u64 r.s.p, .int .u32 r.s.l, .int .u8 r.s.n, .int .u8 r.kind, .int .u32 r.flags, .int .u64 r.exp, .string r.body] 57) = u := ⟨_, rfl⟩
    obtain ⟨Z, hZ⟩ : ∃ u, w4.heap.size = u := ⟨_, rfl⟩
    rw [hw5] at k5 a5
    rw [hZ] at a5
    have HK5 := hid (kept_trans (kept_trans HK.out k4) k5)
    have HX5 := hid (at_kept (at_kept HX.out k4) k5)
    have HP5 := hid (at_kept (at_kept HP.out k4) k5)
    have HY5 := hid (at_kept (at_kept HY.out k4) k5)
    have HZ5 := hid a5
    have HZX : Hid (Z ≠ X) := hid (by have := at_lt (at_kept HX.out k4); omega)
    clear hG k4 k5 a5 c0 c1 c2 cf HX HP HY HK
    obtain ⟨c0, c1, c2, cf⟩ := at_cells3 HX5.out
    by_cases he : er = 0
    · subst he
      have HN2 : Hid (N = (r, (nx, 0))) := hid (by rw [HN1.out, if_pos rfl])
      have HX6 : Hid (At (w5.setCell ⟨X, 1, none⟩ (.int .i64 nx)) X #[.string s, .int .i64 nx, .int .i64 0] 73) := hid (at_set HX5.out 1 (.int .i64 nx))
      have HY6 := hid (at_other HY5.out (fun e => HXY.out.2.1 e.symm) 1 (.int .i64 nx))
      have HP6 := hid (at_other HP5.out (fun e => HXY.out.1 e.symm) 1 (.int .i64 nx))
      have HZ6 := hid (at_other HZ5.out HZX.out 1 (.int .i64 nx))
      have HK6 := hid (kept_set HK5.out HXY.out.2.2.2.1 1 (.int .i64 nx))
      have HP7 := hid (at_set8 HP6.out (.string r.key) (.int .u64 r.s.p) (.int .u32 r.s.l) (.int .u8 r.s.n) (.int .u8 r.kind) (.int .u32 r.flags) (.int .u64 r.exp) (.string r.body))
      have HY7 := hid (at_out8 HY6.out (fun e => HXY.out.2.2.1 e.symm) (.string r.key) (.int .u64 r.s.p) (.int .u32 r.s.l) (.int .u8 r.s.n) (.int .u8 r.kind) (.int .u32 r.flags) (.int .u64 r.exp) (.string r.body))
      have HK7 := hid (kept_set8 HK6.out HXY.out.2.2.2.2.1 (.string r.key) (.int .u64 r.s.p) (.int .u32 r.s.l) (.int .u8 r.s.n) (.int .u8 r.kind) (.int .u32 r.flags) (.int .u64 r.exp) (.string r.body))
      have HA := hid (at_drew (at_set3 HY7.out (.string s) (.int .i64 nx) (.int .i64 0)))
      have HB := hid (at_drew (at_out3 HP7.out HXY.out.2.2.1 (.string s) (.int .i64 nx) (.int .i64 0)))
      have HKe := hid (kept_drew (kept_set3 HK7.out HXY.out.2.2.2.2.2 (.string s) (.int .i64 nx) (.int .i64 0)))
      unfold set3 set8 at HA HB HKe
      obtain ⟨e0, e1, e2, ef⟩ := at_cells3 HX6.out
      obtain ⟨f0, f1, f2, ff⟩ := at_cells3 HY6.out
      obtain ⟨g0, g1, g2, g3, g4, g5, g6, g7, gf⟩ := at_cells8 HP6.out
      have hx7 := at_cells3 (at_out8 HX6.out HXY.out.1 (.string r.key) (.int .u64 r.s.p) (.int .u32 r.s.l) (.int .u8 r.s.n) (.int .u8 r.kind) (.int .u32 r.flags) (.int .u64 r.exp) (.string r.body))
      unfold set8 at hx7
      obtain ⟨x0, x1, x2, xf⟩ := hx7
      have hy7 := at_cells3 (at_out8 HY6.out (fun e => HXY.out.2.2.1 e.symm) (.string r.key) (.int .u64 r.s.p) (.int .u32 r.s.l) (.int .u8 r.s.n) (.int .u8 r.kind) (.int .u32 r.flags) (.int .u64 r.exp) (.string r.body))
      unfold set8 at hy7
      obtain ⟨y0, y1, y2, yf⟩ := hy7
      obtain ⟨z0, z1, z2, z3, z4, z5, z6, z7, zf⟩ := at_cells8 HZ6.out
      clear HN1 HX6 HY6 HP6 HZ6 HK6 HP7 HY7 HK7
      go_wp2_with fail
      go_region
      go_wp2_with fail
      refine bodyPost_ret (resRR Tryz.results29 _ rfl rfl HB.out HA.out) rfl ⟨?_, HKe.out⟩
      rw [HN2.out]; rfl
    · have HN2 : Hid (N = (zeroR, (p, er))) := hid (by rw [HN1.out, if_neg he])
      have g1 : ((er : Int) != 0) = true := by simpa using he
      have HX6 : Hid (At (w5.setCell ⟨X, 2, none⟩ (.int .i64 (er : Int))) X #[.string s, .int .i64 p, .int .i64 (er : Int)] 73) := hid (at_set HX5.out 2 (.int .i64 (er : Int)))
      have HY6 := hid (at_other HY5.out (fun e => HXY.out.2.1 e.symm) 2 (.int .i64 (er : Int)))
      have HP6 := hid (at_other HP5.out (fun e => HXY.out.1 e.symm) 2 (.int .i64 (er : Int)))
      have HK6 := hid (kept_set HK5.out HXY.out.2.2.2.1 2 (.int .i64 (er : Int)))
      have HP7 := hid (at_set8 HP6.out (.string ⟨#[]⟩) (.int .u64 0) (.int .u32 0) (.int .u8 0) (.int .u8 0) (.int .u32 0) (.int .u64 0) (.string ⟨#[]⟩))
      have HY7 := hid (at_out8 HY6.out (fun e => HXY.out.2.2.1 e.symm) (.string ⟨#[]⟩) (.int .u64 0) (.int .u32 0) (.int .u8 0) (.int .u8 0) (.int .u32 0) (.int .u64 0) (.string ⟨#[]⟩))
      have HK7 := hid (kept_set8 HK6.out HXY.out.2.2.2.2.1 (.string ⟨#[]⟩) (.int .u64 0) (.int .u32 0) (.int .u8 0) (.int .u8 0) (.int .u32 0) (.int .u64 0) (.string ⟨#[]⟩))
      have HA := hid (at_drew (at_set3 HY7.out (.string s) (.int .i64 p) (.int .i64 (er : Int))))
      have HB := hid (at_drew (at_out3 HP7.out HXY.out.2.2.1 (.string s) (.int .i64 p) (.int .i64 (er : Int))))
      have HKe := hid (kept_drew (kept_set3 HK7.out HXY.out.2.2.2.2.2 (.string s) (.int .i64 p) (.int .i64 (er : Int))))
      unfold set3 set8 at HA HB HKe
      obtain ⟨e0, e1, e2, ef⟩ := at_cells3 HX6.out
      obtain ⟨f0, f1, f2, ff⟩ := at_cells3 HY6.out
      obtain ⟨g0, g1, g2, g3, g4, g5, g6, g7, gf⟩ := at_cells8 HP6.out
      have hx7 := at_cells3 (at_out8 HX6.out HXY.out.1 (.string ⟨#[]⟩) (.int .u64 0) (.int .u32 0) (.int .u8 0) (.int .u8 0) (.int .u32 0) (.int .u64 0) (.string ⟨#[]⟩))
      unfold set8 at hx7
      obtain ⟨x0, x1, x2, xf⟩ := hx7
      have hy7 := at_cells3 (at_out8 HY6.out (fun e => HXY.out.2.2.1 e.symm) (.string ⟨#[]⟩) (.int .u64 0) (.int .u32 0) (.int .u8 0) (.int .u8 0) (.int .u32 0) (.int .u64 0) (.string ⟨#[]⟩))
      unfold set8 at hy7
      obtain ⟨y0, y1, y2, yf⟩ := hy7
      have g9 : ((er : Int) != 0) = true := by simpa using he
      clear HN1 HX6 HY6 HP6 HK6 HP7 HY7 HK7
      go_wp2_with fail
      go_region
      go_wp2_with fail
      refine bodyPost_ret (resRR Tryz.results29 _ rfl rfl HB.out HA.out) rfl ⟨?_, HKe.out⟩
      rw [HN2.out]; rfl
  · have hd : ((f : Int) != 0) = true := by rw [bne_iff_ne]; omega
    have HN1 : Hid (N = (zeroR, (p, f))) := hid (by rw [HN.out, if_neg hf])
    clear HN hG
    have k1 := kept_alloc (kept_refl w) (.cells #[.string s, .int .i64 p, .int .i64 (f : Int)] 73)
    have a1 := at_new w #[.string s, .int .i64 p, .int .i64 (f : Int)] 73
    obtain ⟨w1, hw1⟩ : ∃ u, w.alloc (.cells #[.string s, .int .i64 p, .int .i64 (f : Int)] 73) = u := ⟨_, rfl⟩
    obtain ⟨X, hX⟩ : ∃ u, w.heap.size = u := ⟨_, rfl⟩
    rw [hw1] at k1 a1
    rw [hX] at a1
    have k2 := kept_alloc (kept_refl w1) (.cells #[.string ⟨#[]⟩, .int .u64 0, .int .u32 0, .int .u8 0, .int .u8 0, .int .u32 0, .int .u64 0, .string ⟨#[]⟩] 57)
    have a2 := at_new w1 #[.string ⟨#[]⟩, .int .u64 0, .int .u32 0, .int .u8 0, .int .u8 0, .int .u32 0, .int .u64 0, .string ⟨#[]⟩] 57
    obtain ⟨w2, hw2⟩ : ∃ u, w1.alloc (.cells #[.string ⟨#[]⟩, .int .u64 0, .int .u32 0, .int .u8 0, .int .u8 0, .int .u32 0, .int .u64 0, .string ⟨#[]⟩] 57) = u := ⟨_, rfl⟩
    obtain ⟨P, hP⟩ : ∃ u, w1.heap.size = u := ⟨_, rfl⟩
    rw [hw2] at k2 a2
    rw [hP] at a2
    have k3 := kept_alloc (kept_refl w2) (.cells #[.string ⟨#[]⟩, .int .i64 0, .int .i64 0] 73)
    have a3 := at_new w2 #[.string ⟨#[]⟩, .int .i64 0, .int .i64 0] 73
    obtain ⟨w3, hw3⟩ : ∃ u, w2.alloc (.cells #[.string ⟨#[]⟩, .int .i64 0, .int .i64 0] 73) = u := ⟨_, rfl⟩
    obtain ⟨Y, hY⟩ : ∃ u, w2.heap.size = u := ⟨_, rfl⟩
    rw [hw3] at k3 a3
    rw [hY] at a3
    have HPX : Hid (X ≠ P) := hid (by have := at_lt a1; omega)
    have HXY : Hid (P ≠ Y ∧ w.heap.size ≤ P ∧ w.heap.size ≤ Y) := hid ⟨by have := at_lt a2; omega, by have := k1.2; omega, by have := k1.2; have := k2.2; omega⟩
    have hK := kept_trans (kept_trans k1 k2) k3
    have hPx := at_kept a2 k3
    obtain ⟨c0, c1, c2, cf⟩ := at_cells3 (at_kept (at_kept a1 k2) k3)
    obtain ⟨f0, f1, f2, ff⟩ := at_cells3 a3
    obtain ⟨g0, g1, g2, g3, g4, g5, g6, g7, gf⟩ := at_cells8 hPx
    have hx7 := at_cells3 (at_out8 (at_kept (at_kept a1 k2) k3) HPX.out (.string ⟨#[]⟩) (.int .u64 0) (.int .u32 0) (.int .u8 0) (.int .u8 0) (.int .u32 0) (.int .u64 0) (.string ⟨#[]⟩))
    unfold set8 at hx7
    obtain ⟨x0, x1, x2, xf⟩ := hx7
    have hy7 := at_cells3 (at_out8 a3 (fun e => HXY.out.1 e.symm) (.string ⟨#[]⟩) (.int .u64 0) (.int .u32 0) (.int .u8 0) (.int .u8 0) (.int .u32 0) (.int .u64 0) (.string ⟨#[]⟩))
    unfold set8 at hy7
    obtain ⟨y0, y1, y2, yf⟩ := hy7
    have HP7 := hid (at_set8 hPx (.string ⟨#[]⟩) (.int .u64 0) (.int .u32 0) (.int .u8 0) (.int .u8 0) (.int .u32 0) (.int .u64 0) (.string ⟨#[]⟩))
    have HY7 := hid (at_out8 a3 (fun e => HXY.out.1 e.symm) (.string ⟨#[]⟩) (.int .u64 0) (.int .u32 0) (.int .u8 0) (.int .u8 0) (.int .u32 0) (.int .u64 0) (.string ⟨#[]⟩))
    have HK7 := hid (kept_set8 hK HXY.out.2.1 (.string ⟨#[]⟩) (.int .u64 0) (.int .u32 0) (.int .u8 0) (.int .u8 0) (.int .u32 0) (.int .u64 0) (.string ⟨#[]⟩))
    have HA := hid (at_drew (at_set3 HY7.out (.string s) (.int .i64 p) (.int .i64 (f : Int))))
    have HB := hid (at_drew (at_out3 HP7.out HXY.out.1 (.string s) (.int .i64 p) (.int .i64 (f : Int))))
    have HKe := hid (kept_drew (kept_set3 HK7.out HXY.out.2.2 (.string s) (.int .i64 p) (.int .i64 (f : Int))))
    unfold set3 set8 at HA HB HKe
    clear a1 a2 a3 k1 k2 k3 hPx hK HP7 HY7 HK7
    unfold rdV
    go_enter Tryz.func29, Tryz.ntmps29
    go_wp2_with fail
    go_region
    go_wp2_with fail
    refine bodyPost_ret (resRR Tryz.results29 _ rfl rfl HB.out HA.out) rfl ⟨?_, HKe.out⟩
    rw [HN1.out]; rfl
end Go.Proofs.YtioeidhblbfgmaaGreat


namespace Go.Proofs.YtioeidhblbfgmaaGreat
open Go.ChangeShapes Go.WideShapes Go.ChangeAt Go.RowKit
set_option linter.unusedVariables false
set_option linter.unusedSimpArgs false
set_option maxRecDepth 100000

theorem og_out3 {α : Type} {enc : α → List Value} {c T B X U : Nat} {w : World} {v : Value} {xs : List α} {cs : Array Value} (h : Og enc c T w B v xs) (hX : At w X cs U) (hTU : T ≠ U) (a0 a1 a2 : Value) : Og enc c T (set3 w X a0 a1 a2) B v xs :=
  og_tn h (F := fun b => b = X) (tn_turn (turn_set (turn_set (turn_set (Turn.refl X w) 0 a0) 1 a1) 2 a2)) (fun b hb => own_ne h hX hTU b hb)
theorem number_at (s : ByteArray) (hs : s.size ≤ 140737488355328) {lo hi : Nat} {p : Int} {f n f' : Nat} {p' : Int} (h : numM s lo hi (p, f) = (n, (p', f'))) (w : World) :
    Calls Tryz.prog 27 #[.agg #[.string s, .int .i64 p, .int .i64 (f : Int)], .int .u64 (lo : Int), .int .u64 (hi : Int)] w fun e w' => e = .returned (.tuple #[.int .u64 (n : Int), .agg #[.string s, .int .i64 p', .int .i64 (f' : Int)]]) ∧ Kept w w' := by
  have h9 := number_rd s hs lo hi (p, f) w
  rw [h] at h9
  exact h9
theorem key_at (s : ByteArray) (hs : s.size ≤ 140737488355328) {p : Int} {f f' : Nat} {t : ByteArray} {p' : Int} (h : keyM s (p, f) = (t, (p', f'))) (w : World) :
    Calls Tryz.prog 28 #[.agg #[.string s, .int .i64 p, .int .i64 (f : Int)]] w fun e w' => e = .returned (.tuple #[.string t, .agg #[.string s, .int .i64 p', .int .i64 (f' : Int)]]) ∧ Kept w w' := by
  have h9 := key_rd s hs (p, f) w
  rw [h] at h9
  exact h9
theorem rec_at (s : ByteArray) (hs : s.size ≤ 140737488355328) {p : Int} {f f' : Nat} {r : R} {p' : Int} (h : recM s (p, f) = (r, (p', f'))) (w : World) :
    Calls Tryz.prog 29 #[.agg #[.string s, .int .i64 p, .int .i64 (f : Int)]] w fun e w' => e = .returned (.tuple #[.agg #[.string r.key, .int .u64 r.s.p, .int .u32 r.s.l, .int .u8 r.s.n, .int .u8 r.kind, .int .u32 r.flags, .int .u64 r.exp, .string r.body], .agg #[.string s, .int .i64 p', .int .i64 (f' : Int)]]) ∧ Kept w w' := by
  have h9 := rec_rd s hs (p, f) w
  rw [h] at h9
  exact h9
end Go.Proofs.YtioeidhblbfgmaaGreat
