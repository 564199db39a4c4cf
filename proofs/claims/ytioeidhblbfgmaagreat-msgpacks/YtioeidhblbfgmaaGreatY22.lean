/- The contract of the program's reader of a whole record. It turns its own block alone. The bytes are at most 2^47. -/
import Derived.Test.YtioeidhblbfgmaaGreatY21

namespace Go.Proofs.YtioeidhblbfgmaaGreat
open Go.ChangeShapes Go.WideShapes Go.ChangeAt Go.RowKit
set_option linter.unusedVariables false
set_option maxRecDepth 100000
set_option linter.unusedSimpArgs false

theorem rdN_at (s : ByteArray) (hs : s.size ≤ 140737488355328) (q : Int) (g k X : Nat) (v : Nat) (hv : v = valN s q g k) (w : World) (h : Rd X s (runN s q g k).1 (runN s q g k).2 w) :
    Calls Tryz.prog 137 #[.pointer (some ⟨X, 0, none⟩), .int .u64 (mostOf k : Int)] w fun e w' => e = .returned (.int .u64 (v : Int)) ∧ Turn X w w' ∧ Rd X s (runN s q g (k + 1)).1 (runN s q g (k + 1)).2 w' := by
  rw [hv]
  exact rdN_any s hs (mostOf k) (runN s q g k).1 (runN s q g k).2 X w h
theorem val_le (s : ByteArray) (q : Int) (g k : Nat) : valN s q g k ≤ mostOf k := stepN_val _ _ _ _
theorem wrap_32 {v : Nat} (h : v ≤ 4294967295) : IntKind.u32.wrap (v : Int) = (v : Int) := by rw [IntKind.wrap_u32']; omega
theorem wrap_8 {v : Nat} (h : v ≤ 255) : IntKind.u8.wrap (v : Int) = (v : Int) := by rw [IntKind.wrap_u8']; omega
theorem turn_set8 {c X : Nat} {u w : World} (h : Turn c u w) (hX : u.heap.size ≤ X) (a0 a1 a2 a3 a4 a5 a6 a7 : Value) : Turn c u (set8 w X a0 a1 a2 a3 a4 a5 a6 a7) :=
  turn_new (turn_new (turn_new (turn_new (turn_new (turn_new (turn_new (turn_new h hX 0 a0) hX 1 a1) hX 2 a2) hX 3 a3) hX 4 a4) hX 5 a5) hX 6 a6) hX 7 a7
set_option maxHeartbeats 3200000 in
set_option maxRecDepth 100000 in
theorem record_value (s : ByteArray) (hs : s.size ≤ 140737488355328) (p : Int) (f bI : Nat) (w : World) (h : Rd bI s p f w) (h3 : valN s (stepT s 250 p f).2.1 (stepT s 250 p f).2.2 3 = 3) :
    Calls Tryz.prog 131 #[.pointer (some ⟨bI, 0, none⟩)] w fun e w' => e = .returned (.agg #[.string (recP s (stepT s 250 p f)).1.key, .int .u64 (recP s (stepT s 250 p f)).1.s.p, .int .u32 (recP s (stepT s 250 p f)).1.s.l, .int .u8 (recP s (stepT s 250 p f)).1.s.n, .int .u8 (recP s (stepT s 250 p f)).1.kind, .int .u32 (recP s (stepT s 250 p f)).1.flags, .int .u64 (recP s (stepT s 250 p f)).1.exp, .string (recP s (stepT s 250 p f)).1.body]) ∧ Turn bI w w' ∧ Rd bI s (recP s (stepT s 250 p f)).2.1 (recP s (stepT s 250 p f)).2.2 w' := by
  unfold recP
  rw [if_pos h3]
  have HK : ∀ w, Rd bI s p f w → _ := fun w h => rdT_any s hs 250 p (by omega) f bI w h
  generalize (stepT s 250 p f).1 = D at *
  generalize (stepT s 250 p f).2.1 = q at *
  generalize (stepT s 250 p f).2.2 = g at *
  have b1 := val_le s q g 1
  have b2 := val_le s q g 2
  have b3 := val_le s q g 3
  have b4 := val_le s q g 4
  have H0 := fun v hv w h => rdN_at s hs q g 0 bI v hv w h
  have H1 := fun v hv w h => rdN_at s hs q g 1 bI v hv w h
  have H2 := fun v hv w h => rdN_at s hs q g 2 bI v hv w h
  have H3 := fun v hv w h => rdN_at s hs q g 3 bI v hv w h
  have H4 := fun v hv w h => rdN_at s hs q g 4 bI v hv w h
  have H5 := fun v hv w h => rdN_at s hs q g 5 bI v hv w h
  have HB : ∀ w, Rd bI s (runN s q g 6).1 (runN s q g 6).2 w → _ := fun w h => rdT_any s hs 1024 (runN s q g 6).1 (by omega) (runN s q g 6).2 bI w h
  generalize (stepT s 1024 (runN s q g 6).1 (runN s q g 6).2).1 = B at *
  generalize (stepT s 1024 (runN s q g 6).1 (runN s q g 6).2).2 = E at *
  replace H0 := H0 _ rfl
  replace H1 := H1 _ rfl
  replace H2 := H2 _ rfl
  replace H3 := H3 _ rfl
  replace H4 := H4 _ rfl
  replace H5 := H5 _ rfl
  generalize valN s q g 0 = v0 at *
  generalize valN s q g 1 = v1 at *
  generalize valN s q g 2 = v2 at *
  generalize valN s q g 3 = v3 at *
  generalize valN s q g 4 = v4 at *
  generalize valN s q g 5 = v5 at *
  have e1 := wrap_32 (v := v1) b1
  have e2 := wrap_8 (v := v2) b2
  have e3 := wrap_8 (v := v3) b3
  have e4 := wrap_32 (v := v4) b4
  have g3 : ((v3 : Int) == 3) = true := by simp; omega
  simp only [mostOf] at H0 H1 H2 H3 H4 H5
  clear b1 b2 b3 b4 h3 hs
  have hz := zero27
  have hR := rd_kept h (kept_alloc (kept_alloc (kept_refl w) (.cells #[.string zeroR.key, .int .u64 zeroR.s.p, .int .u32 zeroR.s.l, .int .u8 zeroR.s.n, .int .u8 zeroR.kind, .int .u32 zeroR.flags, .int .u64 zeroR.exp, .string zeroR.body] 57)) (.cells #[.string zeroR.key, .int .u64 zeroR.s.p, .int .u32 zeroR.s.l, .int .u8 zeroR.s.n, .int .u8 zeroR.kind, .int .u32 zeroR.flags, .int .u64 zeroR.exp, .string zeroR.body] 57))
  have hT := turn_kept (c := bI) (kept_alloc (kept_alloc (kept_refl w) (.cells #[.string zeroR.key, .int .u64 zeroR.s.p, .int .u32 zeroR.s.l, .int .u8 zeroR.s.n, .int .u8 zeroR.kind, .int .u32 zeroR.flags, .int .u64 zeroR.exp, .string zeroR.body] 57)) (.cells #[.string zeroR.key, .int .u64 zeroR.s.p, .int .u32 zeroR.s.l, .int .u8 zeroR.s.n, .int .u8 zeroR.kind, .int .u32 zeroR.flags, .int .u64 zeroR.exp, .string zeroR.body] 57))
  have hY := at_alloc (at_new w #[.string zeroR.key, .int .u64 zeroR.s.p, .int .u32 zeroR.s.l, .int .u8 zeroR.s.n, .int .u8 zeroR.kind, .int .u32 zeroR.flags, .int .u64 zeroR.exp, .string zeroR.body] 57) (.cells #[.string zeroR.key, .int .u64 zeroR.s.p, .int .u32 zeroR.s.l, .int .u8 zeroR.s.n, .int .u8 zeroR.kind, .int .u32 zeroR.flags, .int .u64 zeroR.exp, .string zeroR.body] 57)
  have hZ := at_new (w.alloc (.cells #[.string zeroR.key, .int .u64 zeroR.s.p, .int .u32 zeroR.s.l, .int .u8 zeroR.s.n, .int .u8 zeroR.kind, .int .u32 zeroR.flags, .int .u64 zeroR.exp, .string zeroR.body] 57)) #[.string zeroR.key, .int .u64 zeroR.s.p, .int .u32 zeroR.s.l, .int .u8 zeroR.s.n, .int .u8 zeroR.kind, .int .u32 zeroR.flags, .int .u64 zeroR.exp, .string zeroR.body] 57
  simp only [World.size_alloc] at hZ
  simp only [zeroR, zero] at hR hT hY hZ
  have HTZ : Hid (∀ (u : World) (o : Nat) (v : Value), Turn bI w u → Turn bI w (u.setCell ⟨w.heap.size + 1, o, none⟩ v)) := fun u o v h => turn_new h (by omega) o v
  have HTY : Hid (∀ (u : World) (a0 a1 a2 a3 a4 a5 a6 a7 : Value), Turn bI w u → Turn bI w (set8 u w.heap.size a0 a1 a2 a3 a4 a5 a6 a7)) := fun u a0 a1 a2 a3 a4 a5 a6 a7 h => turn_set8 h (Nat.le_refl _) _ _ _ _ _ _ _ _
  have nZI : Hid (w.heap.size + 1 ≠ bI) := by show _ ≠ _; have := at_lt h; omega
  have nYI : Hid (w.heap.size ≠ bI) := by show _ ≠ _; have := at_lt h; omega
  have nYZ : Hid (w.heap.size ≠ w.heap.size + 1) := by show _ ≠ _; omega
  clear h
  go_enter Tryz.func131, Tryz.ntmps131
  go_wp2_with fail
  generalize (w.alloc (.cells #[.string ⟨#[]⟩, .int .u64 0, .int .u32 0, .int .u8 0, .int .u8 0, .int .u32 0, .int .u64 0, .string ⟨#[]⟩] 57)).alloc (.cells #[.string ⟨#[]⟩, .int .u64 0, .int .u32 0, .int .u8 0, .int .u8 0, .int .u32 0, .int .u64 0, .string ⟨#[]⟩] 57) = w0 at *
  generalize w.heap.size = bY at *
  generalize bY + 1 = bZ at *
  refine (HK _ hR).mono ?_
  rintro e w1 ⟨rfl, hT1, hR1⟩
  replace hT := hT.trans hT1
  replace hZ := at_turn hZ hT1 nZI.out
  replace hY := at_turn hY hT1 nYI.out
  clear hT1 hR
  have hR := hR1
  clear hR1
  obtain ⟨d0, d1, d2, d3, d4, d5, d6, d7, df⟩ := at_cells8 hZ
  have hZ1 : Hid (At (w1.setCell ⟨bZ, 0, none⟩ (.string D)) bZ #[.string D, .int .u64 0, .int .u32 0, .int .u8 0, .int .u8 0, .int .u32 0, .int .u64 0, .string ⟨#[]⟩] 57) := at_set hZ 0 (.string D)
  have hR1 := hid (at_other hR (Ne.symm nZI.out) 0 (.string D))
  have hY1 := hid (at_other hY nYZ.out 0 (.string D))
  have hT1 := hid (HTZ.out w1 0 (.string D) hT)
  clear hZ hR hY hT
  go_wp2_with fail
  clear d0 d1 d2 d3 d4 d5 d6 d7 df
  have hZ := hZ1.out
  have hR := hR1.out
  have hY := hY1.out
  have hT := hT1.out
  clear hZ1 hR1 hY1 hT1
  generalize w1.setCell ⟨bZ, 0, none⟩ (.string D) = u1 at *
  refine (H0 _ hR).mono ?_
  rintro e w2 ⟨rfl, hT1, hR1⟩
  replace hT := hT.trans hT1
  replace hZ := at_turn hZ hT1 nZI.out
  replace hY := at_turn hY hT1 nYI.out
  clear hT1 hR
  have hR := hR1
  clear hR1
  obtain ⟨d0, d1, d2, d3, d4, d5, d6, d7, df⟩ := at_cells8 hZ
  have hZ1 : Hid (At (w2.setCell ⟨bZ, 1, none⟩ (.int .u64 (v0 : Int))) bZ #[.string D, .int .u64 (v0 : Int), .int .u32 0, .int .u8 0, .int .u8 0, .int .u32 0, .int .u64 0, .string ⟨#[]⟩] 57) := at_set hZ 1 (.int .u64 (v0 : Int))
  have hR1 := hid (at_other hR (Ne.symm nZI.out) 1 (.int .u64 (v0 : Int)))
  have hY1 := hid (at_other hY nYZ.out 1 (.int .u64 (v0 : Int)))
  have hT1 := hid (HTZ.out w2 1 (.int .u64 (v0 : Int)) hT)
  clear hZ hR hY hT
  go_wp2_with fail
  clear d0 d1 d2 d3 d4 d5 d6 d7 df
  have hZ := hZ1.out
  have hR := hR1.out
  have hY := hY1.out
  have hT := hT1.out
  clear hZ1 hR1 hY1 hT1
  generalize w2.setCell ⟨bZ, 1, none⟩ (.int .u64 (v0 : Int)) = u2 at *
  refine (H1 _ hR).mono ?_
  rintro e w3 ⟨rfl, hT1, hR1⟩
  replace hT := hT.trans hT1
  replace hZ := at_turn hZ hT1 nZI.out
  replace hY := at_turn hY hT1 nYI.out
  clear hT1 hR
  have hR := hR1
  clear hR1
  obtain ⟨d0, d1, d2, d3, d4, d5, d6, d7, df⟩ := at_cells8 hZ
  have hZ1 : Hid (At (w3.setCell ⟨bZ, 2, none⟩ (.int .u32 (v1 : Int))) bZ #[.string D, .int .u64 (v0 : Int), .int .u32 (v1 : Int), .int .u8 0, .int .u8 0, .int .u32 0, .int .u64 0, .string ⟨#[]⟩] 57) := at_set hZ 2 (.int .u32 (v1 : Int))
  have hR1 := hid (at_other hR (Ne.symm nZI.out) 2 (.int .u32 (v1 : Int)))
  have hY1 := hid (at_other hY nYZ.out 2 (.int .u32 (v1 : Int)))
  have hT1 := hid (HTZ.out w3 2 (.int .u32 (v1 : Int)) hT)
  clear hZ hR hY hT
  go_wp2_with fail
  clear d0 d1 d2 d3 d4 d5 d6 d7 df
  have hZ := hZ1.out
  have hR := hR1.out
  have hY := hY1.out
  have hT := hT1.out
  clear hZ1 hR1 hY1 hT1
  generalize w3.setCell ⟨bZ, 2, none⟩ (.int .u32 (v1 : Int)) = u3 at *
  refine (H2 _ hR).mono ?_
  rintro e w4 ⟨rfl, hT1, hR1⟩
  replace hT := hT.trans hT1
  replace hZ := at_turn hZ hT1 nZI.out
  replace hY := at_turn hY hT1 nYI.out
  clear hT1 hR
  have hR := hR1
  clear hR1
  obtain ⟨d0, d1, d2, d3, d4, d5, d6, d7, df⟩ := at_cells8 hZ
  have hZ1 : Hid (At (w4.setCell ⟨bZ, 3, none⟩ (.int .u8 (v2 : Int))) bZ #[.string D, .int .u64 (v0 : Int), .int .u32 (v1 : Int), .int .u8 (v2 : Int), .int .u8 0, .int .u32 0, .int .u64 0, .string ⟨#[]⟩] 57) := at_set hZ 3 (.int .u8 (v2 : Int))
  have hR1 := hid (at_other hR (Ne.symm nZI.out) 3 (.int .u8 (v2 : Int)))
  have hY1 := hid (at_other hY nYZ.out 3 (.int .u8 (v2 : Int)))
  have hT1 := hid (HTZ.out w4 3 (.int .u8 (v2 : Int)) hT)
  clear hZ hR hY hT
  go_wp2_with fail
  clear d0 d1 d2 d3 d4 d5 d6 d7 df
  have hZ := hZ1.out
  have hR := hR1.out
  have hY := hY1.out
  have hT := hT1.out
  clear hZ1 hR1 hY1 hT1
  generalize w4.setCell ⟨bZ, 3, none⟩ (.int .u8 (v2 : Int)) = u4 at *
  refine (H3 _ hR).mono ?_
  rintro e w5 ⟨rfl, hT1, hR1⟩
  replace hT := hT.trans hT1
  replace hZ := at_turn hZ hT1 nZI.out
  replace hY := at_turn hY hT1 nYI.out
  clear hT1 hR
  have hR := hR1
  clear hR1
  obtain ⟨d0, d1, d2, d3, d4, d5, d6, d7, df⟩ := at_cells8 hZ
  have hZ1 : Hid (At (w5.setCell ⟨bZ, 4, none⟩ (.int .u8 (v3 : Int))) bZ #[.string D, .int .u64 (v0 : Int), .int .u32 (v1 : Int), .int .u8 (v2 : Int), .int .u8 (v3 : Int), .int .u32 0, .int .u64 0, .string ⟨#[]⟩] 57) := at_set hZ 4 (.int .u8 (v3 : Int))
  have hR1 := hid (at_other hR (Ne.symm nZI.out) 4 (.int .u8 (v3 : Int)))
  have hY1 := hid (at_other hY nYZ.out 4 (.int .u8 (v3 : Int)))
  have hT1 := hid (HTZ.out w5 4 (.int .u8 (v3 : Int)) hT)
  clear hZ hR hY hT
  go_wp2_with fail
  clear d0 d1 d2 d3 d4 d5 d6 d7 df
  have hZ := hZ1.out
  have hR := hR1.out
  have hY := hY1.out
  have hT := hT1.out
  clear hZ1 hR1 hY1 hT1
  generalize w5.setCell ⟨bZ, 4, none⟩ (.int .u8 (v3 : Int)) = u5 at *
  refine (H4 _ hR).mono ?_
  rintro e w6 ⟨rfl, hT1, hR1⟩
  replace hT := hT.trans hT1
  replace hZ := at_turn hZ hT1 nZI.out
  replace hY := at_turn hY hT1 nYI.out
  clear hT1 hR
  have hR := hR1
  clear hR1
  obtain ⟨d0, d1, d2, d3, d4, d5, d6, d7, df⟩ := at_cells8 hZ
  have hZ1 : Hid (At (w6.setCell ⟨bZ, 5, none⟩ (.int .u32 (v4 : Int))) bZ #[.string D, .int .u64 (v0 : Int), .int .u32 (v1 : Int), .int .u8 (v2 : Int), .int .u8 (v3 : Int), .int .u32 (v4 : Int), .int .u64 0, .string ⟨#[]⟩] 57) := at_set hZ 5 (.int .u32 (v4 : Int))
  have hR1 := hid (at_other hR (Ne.symm nZI.out) 5 (.int .u32 (v4 : Int)))
  have hY1 := hid (at_other hY nYZ.out 5 (.int .u32 (v4 : Int)))
  have hT1 := hid (HTZ.out w6 5 (.int .u32 (v4 : Int)) hT)
  clear hZ hR hY hT
  go_wp2_with fail
  clear d0 d1 d2 d3 d4 d5 d6 d7 df
  have hZ := hZ1.out
  have hR := hR1.out
  have hY := hY1.out
  have hT := hT1.out
  clear hZ1 hR1 hY1 hT1
  generalize w6.setCell ⟨bZ, 5, none⟩ (.int .u32 (v4 : Int)) = u6 at *
  refine (H5 _ hR).mono ?_
  rintro e w7 ⟨rfl, hT1, hR1⟩
  replace hT := hT.trans hT1
  replace hZ := at_turn hZ hT1 nZI.out
  replace hY := at_turn hY hT1 nYI.out
  clear hT1 hR
  have hR := hR1
  clear hR1
  obtain ⟨d0, d1, d2, d3, d4, d5, d6, d7, df⟩ := at_cells8 hZ
  have hZ1 : Hid (At (w7.setCell ⟨bZ, 6, none⟩ (.int .u64 (v5 : Int))) bZ #[.string D, .int .u64 (v0 : Int), .int .u32 (v1 : Int), .int .u8 (v2 : Int), .int .u8 (v3 : Int), .int .u32 (v4 : Int), .int .u64 (v5 : Int), .string ⟨#[]⟩] 57) := at_set hZ 6 (.int .u64 (v5 : Int))
  have hR1 := hid (at_other hR (Ne.symm nZI.out) 6 (.int .u64 (v5 : Int)))
  have hY1 := hid (at_other hY nYZ.out 6 (.int .u64 (v5 : Int)))
  have hT1 := hid (HTZ.out w7 6 (.int .u64 (v5 : Int)) hT)
  clear hZ hR hY hT
  go_wp2_with fail
  clear d0 d1 d2 d3 d4 d5 d6 d7 df
  have hZ := hZ1.out
  have hR := hR1.out
  have hY := hY1.out
  have hT := hT1.out
  clear hZ1 hR1 hY1 hT1
  generalize w7.setCell ⟨bZ, 6, none⟩ (.int .u64 (v5 : Int)) = u7 at *
  refine (HB _ hR).mono ?_
  rintro e w8 ⟨rfl, hT1, hR1⟩
  replace hT := hT.trans hT1
  replace hZ := at_turn hZ hT1 nZI.out
  replace hY := at_turn hY hT1 nYI.out
  clear hT1 hR
  have hR := hR1
  clear hR1
  obtain ⟨d0, d1, d2, d3, d4, d5, d6, d7, df⟩ := at_cells8 hZ
  obtain ⟨y0, y1, y2, y3, y4, y5, y6, y7, yf⟩ := at_cells8 hY
  have hY1 := hid (at_set8 (at_other hY nYZ.out 7 (.string B)) (.string D) (.int .u64 (v0 : Int)) (.int .u32 (v1 : Int)) (.int .u8 (v2 : Int)) (.int .u8 (v3 : Int)) (.int .u32 (v4 : Int)) (.int .u64 (v5 : Int)) (.string B))
  have hR1 := hid (at_other8 (at_other hR (Ne.symm nZI.out) 7 (.string B)) (Ne.symm nYI.out) (.string D) (.int .u64 (v0 : Int)) (.int .u32 (v1 : Int)) (.int .u8 (v2 : Int)) (.int .u8 (v3 : Int)) (.int .u32 (v4 : Int)) (.int .u64 (v5 : Int)) (.string B))
  have hT1 := hid (HTY.out _ (.string D) (.int .u64 (v0 : Int)) (.int .u32 (v1 : Int)) (.int .u8 (v2 : Int)) (.int .u8 (v3 : Int)) (.int .u32 (v4 : Int)) (.int .u64 (v5 : Int)) (.string B) (HTZ.out w8 7 (.string B) hT))
  have nn := nYZ.out
  have nn2 := Ne.symm nYZ.out
  clear hZ hR hY hT
  go_wp2_with fail
  exact bodyPost_ret (res1 Tryz.results131 _ rfl hY1.out) rfl ⟨rfl, hT1.out, hR1.out⟩
set_option maxHeartbeats 3200000 in
set_option maxRecDepth 100000 in
theorem record_other (s : ByteArray) (hs : s.size ≤ 140737488355328) (p : Int) (f bI : Nat) (w : World) (h : Rd bI s p f w) (h3 : valN s (stepT s 250 p f).2.1 (stepT s 250 p f).2.2 3 ≠ 3) :
    Calls Tryz.prog 131 #[.pointer (some ⟨bI, 0, none⟩)] w fun e w' => e = .returned (.agg #[.string (recP s (stepT s 250 p f)).1.key, .int .u64 (recP s (stepT s 250 p f)).1.s.p, .int .u32 (recP s (stepT s 250 p f)).1.s.l, .int .u8 (recP s (stepT s 250 p f)).1.s.n, .int .u8 (recP s (stepT s 250 p f)).1.kind, .int .u32 (recP s (stepT s 250 p f)).1.flags, .int .u64 (recP s (stepT s 250 p f)).1.exp, .string (recP s (stepT s 250 p f)).1.body]) ∧ Turn bI w w' ∧ Rd bI s (recP s (stepT s 250 p f)).2.1 (recP s (stepT s 250 p f)).2.2 w' := by
  unfold recP
  rw [if_neg h3]
  have HK : ∀ w, Rd bI s p f w → _ := fun w h => rdT_any s hs 250 p (by omega) f bI w h
  generalize (stepT s 250 p f).1 = D at *
  generalize (stepT s 250 p f).2.1 = q at *
  generalize (stepT s 250 p f).2.2 = g at *
  have b1 := val_le s q g 1
  have b2 := val_le s q g 2
  have b3 := val_le s q g 3
  have H0 := fun v hv w h => rdN_at s hs q g 0 bI v hv w h
  have H1 := fun v hv w h => rdN_at s hs q g 1 bI v hv w h
  have H2 := fun v hv w h => rdN_at s hs q g 2 bI v hv w h
  have H3 := fun v hv w h => rdN_at s hs q g 3 bI v hv w h
  replace H0 := H0 _ rfl
  replace H1 := H1 _ rfl
  replace H2 := H2 _ rfl
  replace H3 := H3 _ rfl
  generalize valN s q g 0 = v0 at *
  generalize valN s q g 1 = v1 at *
  generalize valN s q g 2 = v2 at *
  generalize valN s q g 3 = v3 at *
  have e1 := wrap_32 (v := v1) b1
  have e2 := wrap_8 (v := v2) b2
  have e3 := wrap_8 (v := v3) b3
  have g3 : ((v3 : Int) == 3) = false := by simp; omega
  simp only [mostOf] at H0 H1 H2 H3
  clear b1 b2 b3 h3 hs
  have hz := zero27
  have hR := rd_kept h (kept_alloc (kept_alloc (kept_refl w) (.cells #[.string zeroR.key, .int .u64 zeroR.s.p, .int .u32 zeroR.s.l, .int .u8 zeroR.s.n, .int .u8 zeroR.kind, .int .u32 zeroR.flags, .int .u64 zeroR.exp, .string zeroR.body] 57)) (.cells #[.string zeroR.key, .int .u64 zeroR.s.p, .int .u32 zeroR.s.l, .int .u8 zeroR.s.n, .int .u8 zeroR.kind, .int .u32 zeroR.flags, .int .u64 zeroR.exp, .string zeroR.body] 57))
  have hT := turn_kept (c := bI) (kept_alloc (kept_alloc (kept_refl w) (.cells #[.string zeroR.key, .int .u64 zeroR.s.p, .int .u32 zeroR.s.l, .int .u8 zeroR.s.n, .int .u8 zeroR.kind, .int .u32 zeroR.flags, .int .u64 zeroR.exp, .string zeroR.body] 57)) (.cells #[.string zeroR.key, .int .u64 zeroR.s.p, .int .u32 zeroR.s.l, .int .u8 zeroR.s.n, .int .u8 zeroR.kind, .int .u32 zeroR.flags, .int .u64 zeroR.exp, .string zeroR.body] 57))
  have hY := at_alloc (at_new w #[.string zeroR.key, .int .u64 zeroR.s.p, .int .u32 zeroR.s.l, .int .u8 zeroR.s.n, .int .u8 zeroR.kind, .int .u32 zeroR.flags, .int .u64 zeroR.exp, .string zeroR.body] 57) (.cells #[.string zeroR.key, .int .u64 zeroR.s.p, .int .u32 zeroR.s.l, .int .u8 zeroR.s.n, .int .u8 zeroR.kind, .int .u32 zeroR.flags, .int .u64 zeroR.exp, .string zeroR.body] 57)
  have hZ := at_new (w.alloc (.cells #[.string zeroR.key, .int .u64 zeroR.s.p, .int .u32 zeroR.s.l, .int .u8 zeroR.s.n, .int .u8 zeroR.kind, .int .u32 zeroR.flags, .int .u64 zeroR.exp, .string zeroR.body] 57)) #[.string zeroR.key, .int .u64 zeroR.s.p, .int .u32 zeroR.s.l, .int .u8 zeroR.s.n, .int .u8 zeroR.kind, .int .u32 zeroR.flags, .int .u64 zeroR.exp, .string zeroR.body] 57
  simp only [World.size_alloc] at hZ
  simp only [zeroR, zero] at hR hT hY hZ
  have HTZ : Hid (∀ (u : World) (o : Nat) (v : Value), Turn bI w u → Turn bI w (u.setCell ⟨w.heap.size + 1, o, none⟩ v)) := fun u o v h => turn_new h (by omega) o v
  have HTY : Hid (∀ (u : World) (a0 a1 a2 a3 a4 a5 a6 a7 : Value), Turn bI w u → Turn bI w (set8 u w.heap.size a0 a1 a2 a3 a4 a5 a6 a7)) := fun u a0 a1 a2 a3 a4 a5 a6 a7 h => turn_set8 h (Nat.le_refl _) _ _ _ _ _ _ _ _
  have nZI : Hid (w.heap.size + 1 ≠ bI) := by show _ ≠ _; have := at_lt h; omega
  have nYI : Hid (w.heap.size ≠ bI) := by show _ ≠ _; have := at_lt h; omega
  have nYZ : Hid (w.heap.size ≠ w.heap.size + 1) := by show _ ≠ _; omega
  clear h
  go_enter Tryz.func131, Tryz.ntmps131
  go_wp2_with fail
  generalize (w.alloc (.cells #[.string ⟨#[]⟩, .int .u64 0, .int .u32 0, .int .u8 0, .int .u8 0, .int .u32 0, .int .u64 0, .string ⟨#[]⟩] 57)).alloc (.cells #[.string ⟨#[]⟩, .int .u64 0, .int .u32 0, .int .u8 0, .int .u8 0, .int .u32 0, .int .u64 0, .string ⟨#[]⟩] 57) = w0 at *
  generalize w.heap.size = bY at *
  generalize bY + 1 = bZ at *
  refine (HK _ hR).mono ?_
  rintro e w1 ⟨rfl, hT1, hR1⟩
  replace hT := hT.trans hT1
  replace hZ := at_turn hZ hT1 nZI.out
  replace hY := at_turn hY hT1 nYI.out
  clear hT1 hR
  have hR := hR1
  clear hR1
  obtain ⟨d0, d1, d2, d3, d4, d5, d6, d7, df⟩ := at_cells8 hZ
  have hZ1 : Hid (At (w1.setCell ⟨bZ, 0, none⟩ (.string D)) bZ #[.string D, .int .u64 0, .int .u32 0, .int .u8 0, .int .u8 0, .int .u32 0, .int .u64 0, .string ⟨#[]⟩] 57) := at_set hZ 0 (.string D)
  have hR1 := hid (at_other hR (Ne.symm nZI.out) 0 (.string D))
  have hY1 := hid (at_other hY nYZ.out 0 (.string D))
  have hT1 := hid (HTZ.out w1 0 (.string D) hT)
  clear hZ hR hY hT
  go_wp2_with fail
  clear d0 d1 d2 d3 d4 d5 d6 d7 df
  have hZ := hZ1.out
  have hR := hR1.out
  have hY := hY1.out
  have hT := hT1.out
  clear hZ1 hR1 hY1 hT1
  generalize w1.setCell ⟨bZ, 0, none⟩ (.string D) = u1 at *
  refine (H0 _ hR).mono ?_
  rintro e w2 ⟨rfl, hT1, hR1⟩
  replace hT := hT.trans hT1
  replace hZ := at_turn hZ hT1 nZI.out
  replace hY := at_turn hY hT1 nYI.out
  clear hT1 hR
  have hR := hR1
  clear hR1
  obtain ⟨d0, d1, d2, d3, d4, d5, d6, d7, df⟩ := at_cells8 hZ
  have hZ1 : Hid (At (w2.setCell ⟨bZ, 1, none⟩ (.int .u64 (v0 : Int))) bZ #[.string D, .int .u64 (v0 : Int), .int .u32 0, .int .u8 0, .int .u8 0, .int .u32 0, .int .u64 0, .string ⟨#[]⟩] 57) := at_set hZ 1 (.int .u64 (v0 : Int))
  have hR1 := hid (at_other hR (Ne.symm nZI.out) 1 (.int .u64 (v0 : Int)))
  have hY1 := hid (at_other hY nYZ.out 1 (.int .u64 (v0 : Int)))
  have hT1 := hid (HTZ.out w2 1 (.int .u64 (v0 : Int)) hT)
  clear hZ hR hY hT
  go_wp2_with fail
  clear d0 d1 d2 d3 d4 d5 d6 d7 df
  have hZ := hZ1.out
  have hR := hR1.out
  have hY := hY1.out
  have hT := hT1.out
  clear hZ1 hR1 hY1 hT1
  generalize w2.setCell ⟨bZ, 1, none⟩ (.int .u64 (v0 : Int)) = u2 at *
  refine (H1 _ hR).mono ?_
  rintro e w3 ⟨rfl, hT1, hR1⟩
  replace hT := hT.trans hT1
  replace hZ := at_turn hZ hT1 nZI.out
  replace hY := at_turn hY hT1 nYI.out
  clear hT1 hR
  have hR := hR1
  clear hR1
  obtain ⟨d0, d1, d2, d3, d4, d5, d6, d7, df⟩ := at_cells8 hZ
  have hZ1 : Hid (At (w3.setCell ⟨bZ, 2, none⟩ (.int .u32 (v1 : Int))) bZ #[.string D, .int .u64 (v0 : Int), .int .u32 (v1 : Int), .int .u8 0, .int .u8 0, .int .u32 0, .int .u64 0, .string ⟨#[]⟩] 57) := at_set hZ 2 (.int .u32 (v1 : Int))
  have hR1 := hid (at_other hR (Ne.symm nZI.out) 2 (.int .u32 (v1 : Int)))
  have hY1 := hid (at_other hY nYZ.out 2 (.int .u32 (v1 : Int)))
  have hT1 := hid (HTZ.out w3 2 (.int .u32 (v1 : Int)) hT)
  clear hZ hR hY hT
  go_wp2_with fail
  clear d0 d1 d2 d3 d4 d5 d6 d7 df
  have hZ := hZ1.out
  have hR := hR1.out
  have hY := hY1.out
  have hT := hT1.out
  clear hZ1 hR1 hY1 hT1
  generalize w3.setCell ⟨bZ, 2, none⟩ (.int .u32 (v1 : Int)) = u3 at *
  refine (H2 _ hR).mono ?_
  rintro e w4 ⟨rfl, hT1, hR1⟩
  replace hT := hT.trans hT1
  replace hZ := at_turn hZ hT1 nZI.out
  replace hY := at_turn hY hT1 nYI.out
  clear hT1 hR
  have hR := hR1
  clear hR1
  obtain ⟨d0, d1, d2, d3, d4, d5, d6, d7, df⟩ := at_cells8 hZ
  have hZ1 : Hid (At (w4.setCell ⟨bZ, 3, none⟩ (.int .u8 (v2 : Int))) bZ #[.string D, .int .u64 (v0 : Int), .int .u32 (v1 : Int), .int .u8 (v2 : Int), .int .u8 0, .int .u32 0, .int .u64 0, .string ⟨#[]⟩] 57) := at_set hZ 3 (.int .u8 (v2 : Int))
  have hR1 := hid (at_other hR (Ne.symm nZI.out) 3 (.int .u8 (v2 : Int)))
  have hY1 := hid (at_other hY nYZ.out 3 (.int .u8 (v2 : Int)))
  have hT1 := hid (HTZ.out w4 3 (.int .u8 (v2 : Int)) hT)
  clear hZ hR hY hT
  go_wp2_with fail
  clear d0 d1 d2 d3 d4 d5 d6 d7 df
  have hZ := hZ1.out
  have hR := hR1.out
  have hY := hY1.out
  have hT := hT1.out
  clear hZ1 hR1 hY1 hT1
  generalize w4.setCell ⟨bZ, 3, none⟩ (.int .u8 (v2 : Int)) = u4 at *
  refine (H3 _ hR).mono ?_
  rintro e w5 ⟨rfl, hT1, hR1⟩
  replace hT := hT.trans hT1
  replace hZ := at_turn hZ hT1 nZI.out
  replace hY := at_turn hY hT1 nYI.out
  clear hT1 hR
  have hR := hR1
  clear hR1
  obtain ⟨d0, d1, d2, d3, d4, d5, d6, d7, df⟩ := at_cells8 hZ
  obtain ⟨y0, y1, y2, y3, y4, y5, y6, y7, yf⟩ := at_cells8 hY
  have hY1 := hid (at_set8 (at_other hY nYZ.out 4 (.int .u8 (v3 : Int))) (.string D) (.int .u64 (v0 : Int)) (.int .u32 (v1 : Int)) (.int .u8 (v2 : Int)) (.int .u8 (v3 : Int)) (.int .u32 0) (.int .u64 0) (.string ⟨#[]⟩))
  have hR1 := hid (at_other8 (at_other hR (Ne.symm nZI.out) 4 (.int .u8 (v3 : Int))) (Ne.symm nYI.out) (.string D) (.int .u64 (v0 : Int)) (.int .u32 (v1 : Int)) (.int .u8 (v2 : Int)) (.int .u8 (v3 : Int)) (.int .u32 0) (.int .u64 0) (.string ⟨#[]⟩))
  have hT1 := hid (HTY.out _ (.string D) (.int .u64 (v0 : Int)) (.int .u32 (v1 : Int)) (.int .u8 (v2 : Int)) (.int .u8 (v3 : Int)) (.int .u32 0) (.int .u64 0) (.string ⟨#[]⟩) (HTZ.out w5 4 (.int .u8 (v3 : Int)) hT))
  have nn := nYZ.out
  have nn2 := Ne.symm nYZ.out
  clear hZ hR hY hT
  go_wp2_with fail
  exact bodyPost_ret (res1 Tryz.results131 _ rfl hY1.out) rfl ⟨rfl, hT1.out, hR1.out⟩
theorem record_any (s : ByteArray) (hs : s.size ≤ 140737488355328) (p : Int) (f bI : Nat) (w : World) (h : Rd bI s p f w) :
    Calls Tryz.prog 131 #[.pointer (some ⟨bI, 0, none⟩)] w fun e w' => e = .returned (.agg #[.string (recP s (stepT s 250 p f)).1.key, .int .u64 (recP s (stepT s 250 p f)).1.s.p, .int .u32 (recP s (stepT s 250 p f)).1.s.l, .int .u8 (recP s (stepT s 250 p f)).1.s.n, .int .u8 (recP s (stepT s 250 p f)).1.kind, .int .u32 (recP s (stepT s 250 p f)).1.flags, .int .u64 (recP s (stepT s 250 p f)).1.exp, .string (recP s (stepT s 250 p f)).1.body]) ∧ Turn bI w w' ∧ Rd bI s (recP s (stepT s 250 p f)).2.1 (recP s (stepT s 250 p f)).2.2 w' := by
  by_cases h3 : valN s (stepT s 250 p f).2.1 (stepT s 250 p f).2.2 3 = 3
  · exact record_value s hs p f bI w h h3
  · exact record_other s hs p f bI w h h3
end Go.Proofs.YtioeidhblbfgmaaGreat
