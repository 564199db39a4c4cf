/- The contract of the landed reader's message. The bytes are at most 2^47. -/
import Derived.Test.YtioeidhblbfgmaaGreatY42
import Derived.Test.YtioeidhblbfgmaaGreatY18

namespace Go.Proofs.YtioeidhblbfgmaaGreat
open Go.ChangeShapes Go.WideShapes Go.ChangeAt Go.RowKit
set_option linter.unusedVariables false
set_option linter.unusedSimpArgs false
set_option maxRecDepth 100000

/- What the whole body's reading answers. -/
def RdMs (s : ByteArray) (X : Nat) (w : World) (e : Ending) (w' : World) : Prop :=
  ((rG s).2.2 = 0 ∧ ∃ vn vk vr vs vd, e = .returned (msgV (msgOf 0 0 0 s) vn vk vr vs vd) ∧ MsO w' w.heap.size vn vk vr vs vd (msgOf 0 0 0 s) ∧ In X s (rG s).2.1 w' ∧ Turn X w w') ∨ ((rG s).2.2 ≠ 0 ∧ e = .panicked (fault (rG s).2.2) ∧ Turn X w w')
theorem list_stop {α : Type} {s : ByteArray} {one : Int × Nat → α × (Int × Nat)} {q : Int} {f f' : Nat} {xs : List α} {q' : Int} (hf : f ≠ 0) (h : listM s one (q, f) = (xs, (q', f'))) : f' = f := by
  have e0 : numM s 0 4096 (q, f) = (0, (q, f)) := by unfold numM; rw [if_neg hf]
  unfold listM at h
  rw [e0, runL_stop (.inl rfl)] at h
  injection h with h1 h2
  injection h2 with h2 h3
  exact h3.symm
theorem og_putY {α : Type} {enc : α → List Value} {c T U B Y : Nat} {w : World} {v : Value} {xs : List α} {cs : Array Value} (h : Og enc c T w B v xs) (hY : At w Y cs U) (hTU : T ≠ U) (o : Nat) (x : Value) : Og enc c T (w.setCell ⟨Y, o, none⟩ x) B v xs :=
  og_tn h (tn_set w Y o x) (fun b hb => own_ne h hY hTU b hb)
theorem strM : StructOf Tryz.prog 29 12 := ⟨by kernel_rfl, _, Tryz.underlying29, rfl⟩
set_option maxHeartbeats 25600000 in
theorem ldMsg_any (s : ByteArray) (hs : s.size ≤ 140737488355328) (X : Nat) (w : World) (h : In X s 0 w) :
    Calls Tryz.prog 73 #[.pointer (some ⟨X, 0, none⟩)] w (RdMs s X w) := by
  obtain ⟨n1, p1, f1, h1⟩ := trio (rA s)
  obtain ⟨n2, p2, f2, h2⟩ := trio (rB s)
  obtain ⟨n3, p3, f3, h3⟩ := trio (rC s)
  obtain ⟨n4, p4, f4, h4⟩ := trio (rD s)
  obtain ⟨xN, p5, f5, h5⟩ := trio (rN s)
  obtain ⟨xK, p6, f6, h6⟩ := trio (rK s)
  obtain ⟨xR, p7, f7, h7⟩ := trio (rR s)
  obtain ⟨xS, p8, f8, h8⟩ := trio (rS s)
  obtain ⟨xG, p9, f9, h9⟩ := trio (rG s)
  have HM : Hid (msgOf 0 0 0 s = ⟨0, 0, 0, (n1 : Int), (n2 : Int), (n3 : Int), decide (n4 = 1), xN, xK, xR, xS, xG⟩) := hid (by unfold msgOf; simp only [h1, h2, h3, h4, h5, h6, h7, h8, h9])
  have HG : Hid (rG s = (xG, (p9, f9))) := hid h9
  have q1 : numM s 0 4294967295 (0, 0) = (n1, (p1, f1)) := h1
  have q2 : numM s 0 63 (p1, f1) = (n2, (p2, f2)) := by rw [← h2]; unfold rB; rw [h1]
  have q3 : numM s 0 63 (p2, f2) = (n3, (p3, f3)) := by rw [← h3]; unfold rC; rw [h2]
  have q4 : numM s 0 1 (p3, f3) = (n4, (p4, f4)) := by rw [← h4]; unfold rD; rw [h3]
  have q5 : listM s (newsM s) (p4, f4) = (xN, (p5, f5)) := by rw [← h5]; unfold rN; rw [h4]
  have q6 : listM s (keyM s) (p5, f5) = (xK, (p6, f6)) := by rw [← h6]; unfold rK; rw [h5]
  have q7 : listM s (recM s) (p6, f6) = (xR, (p7, f7)) := by rw [← h7]; unfold rR; rw [h6]
  have q8 : listM s (seenM s) (p7, f7) = (xS, (p8, f8)) := by rw [← h8]; unfold rS; rw [h7]
  have q9 : listM s (digM s) (p8, f8) = (xG, (p9, f9)) := by rw [← h9]; unfold rG; rw [h8]
  clear h1 h2 h3 h4 h5 h6 h7 h8 h9
  have m1 := wrap32 (num_le q1)
  have m3 := wrap8 (Nat.le_trans (num_le q3) (by omega))
  have m4 : (((n4 : Nat) : Int) == 1) = decide (n4 = 1) := by
    have : (((n4 : Nat) : Int) == 1) = decide (((n4 : Nat) : Int) = 1) := rfl
    rw [this]
    exact decide_eq_decide.2 (by omega)
  generalize hb4 : decide (n4 = 1) = b4 at *
  clear hb4
  have hz := zeroMv
  have k2 := kept_alloc (kept_alloc (kept_refl w) (.cells #[.int .u8 0, .int .u8 0, .int .u8 0, .int .u32 0, .int .u8 0, .int .u8 0, .bool false, .slice none 0 0, .slice none 0 0, .slice none 0 0, .slice none 0 0, .slice none 0 0] 29)) (.cells #[.int .u8 0, .int .u8 0, .int .u8 0, .int .u32 0, .int .u8 0, .int .u8 0, .bool false, .slice none 0 0, .slice none 0 0, .slice none 0 0, .slice none 0 0, .slice none 0 0] 29)
  have a1 := at_alloc (at_new w #[.int .u8 0, .int .u8 0, .int .u8 0, .int .u32 0, .int .u8 0, .int .u8 0, .bool false, .slice none 0 0, .slice none 0 0, .slice none 0 0, .slice none 0 0, .slice none 0 0] 29) (.cells #[.int .u8 0, .int .u8 0, .int .u8 0, .int .u32 0, .int .u8 0, .int .u8 0, .bool false, .slice none 0 0, .slice none 0 0, .slice none 0 0, .slice none 0 0, .slice none 0 0] 29)
  have a2 := at_new (w.alloc (.cells #[.int .u8 0, .int .u8 0, .int .u8 0, .int .u32 0, .int .u8 0, .int .u8 0, .bool false, .slice none 0 0, .slice none 0 0, .slice none 0 0, .slice none 0 0, .slice none 0 0] 29)) #[.int .u8 0, .int .u8 0, .int .u8 0, .int .u32 0, .int .u8 0, .int .u8 0, .bool false, .slice none 0 0, .slice none 0 0, .slice none 0 0, .slice none 0 0, .slice none 0 0] 29
  simp only [World.size_alloc] at a2
  have hXw := at_lt h
  have HI := hid (in_kept h k2)
  have HT0 := hid (turn_kept (c := X) k2)
  have HR := hid a1
  have HY := hid a2
  clear h k2 a1 a2
  go_enter Tryz.func73, Tryz.ntmps73
  go_wp2_with fail
  generalize (w.alloc (.cells #[.int .u8 0, .int .u8 0, .int .u8 0, .int .u32 0, .int .u8 0, .int .u8 0, .bool false, .slice none 0 0, .slice none 0 0, .slice none 0 0, .slice none 0 0, .slice none 0 0] 29)).alloc (.cells #[.int .u8 0, .int .u8 0, .int .u8 0, .int .u32 0, .int .u8 0, .int .u8 0, .bool false, .slice none 0 0, .slice none 0 0, .slice none 0 0, .slice none 0 0, .slice none 0 0] 29) = w0 at *
  generalize hY : w.heap.size + 1 = Y at *
  generalize hB : w.heap.size = B at *
  have HN : Hid (X ≠ Y ∧ X ≠ B ∧ B ≠ Y ∧ w.heap.size ≤ B ∧ w.heap.size ≤ Y) := hid (by omega)
  clear hY hB hXw
  have C1 := ldNum_any s hs 0 4294967295 0 X w0 HI.out
  rw [q1] at C1
  refine C1.mono ?_
  rintro e w1 (⟨h0, rfl, hA, hT⟩ | ⟨h0, rfl, hT⟩)
  · simp only at h0
    subst h0
    have y1 := at_turn HY.out hT (Ne.symm HN.out.1)
    have HY1 : Hid (At (w1.setCell ⟨Y, 3, none⟩ (.int .u32 (n1 : Int))) Y #[.int .u8 0, .int .u8 0, .int .u8 0, .int .u32 (n1 : Int), .int .u8 0, .int .u8 0, .bool false, .slice none 0 0, .slice none 0 0, .slice none 0 0, .slice none 0 0, .slice none 0 0] 29) := hid (at_set y1 3 (.int .u32 (n1 : Int)))
    have HR1 := hid (at_other (at_turn HR.out hT (Ne.symm HN.out.2.1)) HN.out.2.2.1 3 (.int .u32 (n1 : Int)))
    have HI1 := hid (at_other hA HN.out.1 3 (.int .u32 (n1 : Int)))
    have HT1 := hid (turn_new (HT0.out.trans hT) HN.out.2.2.2.2 3 (.int .u32 (n1 : Int)))
    obtain ⟨⟨y0, y1, y2, y3, y4, y5, y6, y7, y8, y9, ya, yb⟩, yf⟩ := cells12 y1
    clear hA hT y1 C1 q1 HI HT0 HY HR
    go_wp2_with fail
    generalize w1.setCell ⟨Y, 3, none⟩ (.int .u32 (n1 : Int)) = v1 at *
    clear y0 y1 y2 y3 y4 y5 y6 y7 y8 y9 ya yb yf
    have C2 := ldNode_any s hs p1 X v1 HI1.out
    rw [q2] at C2
    refine C2.mono ?_
    rintro e w2 (⟨h0, rfl, hA, hT⟩ | ⟨h0, rfl, hT⟩)
    · simp only at h0
      subst h0
      have y1 := at_turn HY1.out hT (Ne.symm HN.out.1)
      have HY2 : Hid (At (w2.setCell ⟨Y, 4, none⟩ (.int .u8 (n2 : Int))) Y #[.int .u8 0, .int .u8 0, .int .u8 0, .int .u32 (n1 : Int), .int .u8 (n2 : Int), .int .u8 0, .bool false, .slice none 0 0, .slice none 0 0, .slice none 0 0, .slice none 0 0, .slice none 0 0] 29) := hid (at_set y1 4 (.int .u8 (n2 : Int)))
      have HR2 := hid (at_other (at_turn HR1.out hT (Ne.symm HN.out.2.1)) HN.out.2.2.1 4 (.int .u8 (n2 : Int)))
      have HI2 := hid (at_other hA HN.out.1 4 (.int .u8 (n2 : Int)))
      have HT2 := hid (turn_new (HT1.out.trans hT) HN.out.2.2.2.2 4 (.int .u8 (n2 : Int)))
      obtain ⟨⟨y0, y1, y2, y3, y4, y5, y6, y7, y8, y9, ya, yb⟩, yf⟩ := cells12 y1
      clear hA hT y1 C2 q2 HI1 HT1 HY1 HR1
      go_wp2_with fail
      generalize w2.setCell ⟨Y, 4, none⟩ (.int .u8 (n2 : Int)) = v2 at *
      clear y0 y1 y2 y3 y4 y5 y6 y7 y8 y9 ya yb yf
      have C3 := ldNum_any s hs 0 63 p2 X v2 HI2.out
      rw [q3] at C3
      refine C3.mono ?_
      rintro e w3 (⟨h0, rfl, hA, hT⟩ | ⟨h0, rfl, hT⟩)
      · simp only at h0
        subst h0
        have y1 := at_turn HY2.out hT (Ne.symm HN.out.1)
        have HY3 : Hid (At (w3.setCell ⟨Y, 5, none⟩ (.int .u8 (n3 : Int))) Y #[.int .u8 0, .int .u8 0, .int .u8 0, .int .u32 (n1 : Int), .int .u8 (n2 : Int), .int .u8 (n3 : Int), .bool false, .slice none 0 0, .slice none 0 0, .slice none 0 0, .slice none 0 0, .slice none 0 0] 29) := hid (at_set y1 5 (.int .u8 (n3 : Int)))
        have HR3 := hid (at_other (at_turn HR2.out hT (Ne.symm HN.out.2.1)) HN.out.2.2.1 5 (.int .u8 (n3 : Int)))
        have HI3 := hid (at_other hA HN.out.1 5 (.int .u8 (n3 : Int)))
        have HT3 := hid (turn_new (HT2.out.trans hT) HN.out.2.2.2.2 5 (.int .u8 (n3 : Int)))
        obtain ⟨⟨y0, y1, y2, y3, y4, y5, y6, y7, y8, y9, ya, yb⟩, yf⟩ := cells12 y1
        clear hA hT y1 C3 q3 HI2 HT2 HY2 HR2
        go_wp2_with fail
        generalize w3.setCell ⟨Y, 5, none⟩ (.int .u8 (n3 : Int)) = v3 at *
        clear y0 y1 y2 y3 y4 y5 y6 y7 y8 y9 ya yb yf
        have C4 := ldNum_any s hs 0 1 p3 X v3 HI3.out
        rw [q4] at C4
        refine C4.mono ?_
        rintro e w4 (⟨h0, rfl, hA, hT⟩ | ⟨h0, rfl, hT⟩)
        · simp only at h0
          subst h0
          have y1 := at_turn HY3.out hT (Ne.symm HN.out.1)
          have HY4 : Hid (At (w4.setCell ⟨Y, 6, none⟩ (.bool b4)) Y #[.int .u8 0, .int .u8 0, .int .u8 0, .int .u32 (n1 : Int), .int .u8 (n2 : Int), .int .u8 (n3 : Int), .bool b4, .slice none 0 0, .slice none 0 0, .slice none 0 0, .slice none 0 0, .slice none 0 0] 29) := hid (at_set y1 6 (.bool b4))
          have HR4 := hid (at_other (at_turn HR3.out hT (Ne.symm HN.out.2.1)) HN.out.2.2.1 6 (.bool b4))
          have HI4 := hid (at_other hA HN.out.1 6 (.bool b4))
          have HT4 := hid (turn_new (HT3.out.trans hT) HN.out.2.2.2.2 6 (.bool b4))
          obtain ⟨⟨y0, y1, y2, y3, y4, y5, y6, y7, y8, y9, ya, yb⟩, yf⟩ := cells12 y1
          clear hA hT y1 C4 q4 HI3 HT3 HY3 HR3
          go_wp2_with fail
          generalize w4.setCell ⟨Y, 6, none⟩ (.bool b4) = v4 at *
          clear y0 y1 y2 y3 y4 y5 y6 y7 y8 y9 ya yb yf
          have C5 := ldLN_any s hs p4 X v4 HI4.out
          rw [q5] at C5
          refine C5.mono ?_
          rintro e w5 (⟨h0, vN, rfl, hO, hA, hT⟩ | ⟨h0, rfl, hT⟩)
          · simp only at h0
            subst h0
            obtain ⟨aN, cN, eN, -, -⟩ := og_is encN_ok hO
            obtain ⟨lN, hlN⟩ : ∃ n, xN.length = n := ⟨_, rfl⟩
            rw [hlN] at eN
            subst eN
            clear hlN
            have hO0 := og_low hO (show w.heap.size ≤ v4.heap.size from HT4.out.2.2.1)
            have y1 := at_turn HY4.out hT (Ne.symm HN.out.1)
            have HY5 : Hid (At (w5.setCell ⟨Y, 7, none⟩ (.slice aN lN cN)) Y #[.int .u8 0, .int .u8 0, .int .u8 0, .int .u32 (n1 : Int), .int .u8 (n2 : Int), .int .u8 (n3 : Int), .bool b4, .slice aN lN cN, .slice none 0 0, .slice none 0 0, .slice none 0 0, .slice none 0 0] 29) := hid (at_set y1 7 (.slice aN lN cN))
            have HR5 := hid (at_other (at_turn HR4.out hT (Ne.symm HN.out.2.1)) HN.out.2.2.1 7 (.slice aN lN cN))
            have HI5 := hid (at_other hA HN.out.1 7 (.slice aN lN cN))
            have HT5 := hid (turn_new (HT4.out.trans hT) HN.out.2.2.2.2 7 (.slice aN lN cN))
            have HON5 := hid (og_putY hO0 y1 (by decide) 7 (.slice aN lN cN))
            obtain ⟨⟨y0, y1, y2, y3, y4, y5, y6, y7, y8, y9, ya, yb⟩, yf⟩ := cells12 y1
            clear hA hT y1 C5 q5 HI4 HT4 HY4 HR4 hO hO0
            go_wp2_with fail
            generalize w5.setCell ⟨Y, 7, none⟩ (.slice aN lN cN) = v5 at *
            clear y0 y1 y2 y3 y4 y5 y6 y7 y8 y9 ya yb yf
            have C6 := ldLK_any s hs p5 X v5 HI5.out
            rw [q6] at C6
            refine C6.mono ?_
            rintro e w6 (⟨h0, vK, rfl, hO, hA, hT⟩ | ⟨h0, rfl, hT⟩)
            · simp only at h0
              subst h0
              obtain ⟨aK, cK, eK, -, -⟩ := og_is encK_ok hO
              obtain ⟨lK, hlK⟩ : ∃ n, xK.length = n := ⟨_, rfl⟩
              rw [hlK] at eK
              subst eK
              clear hlK
              have hO0 := og_low hO (show w.heap.size ≤ v5.heap.size from HT5.out.2.2.1)
              have y1 := at_turn HY5.out hT (Ne.symm HN.out.1)
              have HY6 : Hid (At (w6.setCell ⟨Y, 8, none⟩ (.slice aK lK cK)) Y #[.int .u8 0, .int .u8 0, .int .u8 0, .int .u32 (n1 : Int), .int .u8 (n2 : Int), .int .u8 (n3 : Int), .bool b4, .slice aN lN cN, .slice aK lK cK, .slice none 0 0, .slice none 0 0, .slice none 0 0] 29) := hid (at_set y1 8 (.slice aK lK cK))
              have HR6 := hid (at_other (at_turn HR5.out hT (Ne.symm HN.out.2.1)) HN.out.2.2.1 8 (.slice aK lK cK))
              have HI6 := hid (at_other hA HN.out.1 8 (.slice aK lK cK))
              have HT6 := hid (turn_new (HT5.out.trans hT) HN.out.2.2.2.2 8 (.slice aK lK cK))
              have HON6 := hid (og_putY (og_tn HON5.out (tn_turn hT) (fun b hb => own_ne HON5.out HI5.out (by decide) b hb)) y1 (by decide) 8 (.slice aK lK cK))
              have HOK6 := hid (og_putY hO0 y1 (by decide) 8 (.slice aK lK cK))
              obtain ⟨⟨y0, y1, y2, y3, y4, y5, y6, y7, y8, y9, ya, yb⟩, yf⟩ := cells12 y1
              clear hA hT y1 C6 q6 HI5 HT5 HY5 HR5 hO hO0 HON5
              go_wp2_with fail
              generalize w6.setCell ⟨Y, 8, none⟩ (.slice aK lK cK) = v6 at *
              clear y0 y1 y2 y3 y4 y5 y6 y7 y8 y9 ya yb yf
              have C7 := ldLR_any s hs p6 X v6 HI6.out
              rw [q7] at C7
              refine C7.mono ?_
              rintro e w7 (⟨h0, vR, rfl, hO, hA, hT⟩ | ⟨h0, rfl, hT⟩)
              · simp only at h0
                subst h0
                obtain ⟨aR, cR, eR, -, -⟩ := og_is encR_ok hO
                obtain ⟨lR, hlR⟩ : ∃ n, xR.length = n := ⟨_, rfl⟩
                rw [hlR] at eR
                subst eR
                clear hlR
                have hO0 := og_low hO (show w.heap.size ≤ v6.heap.size from HT6.out.2.2.1)
                have y1 := at_turn HY6.out hT (Ne.symm HN.out.1)
                have HY7 : Hid (At (w7.setCell ⟨Y, 9, none⟩ (.slice aR lR cR)) Y #[.int .u8 0, .int .u8 0, .int .u8 0, .int .u32 (n1 : Int), .int .u8 (n2 : Int), .int .u8 (n3 : Int), .bool b4, .slice aN lN cN, .slice aK lK cK, .slice aR lR cR, .slice none 0 0, .slice none 0 0] 29) := hid (at_set y1 9 (.slice aR lR cR))
                have HR7 := hid (at_other (at_turn HR6.out hT (Ne.symm HN.out.2.1)) HN.out.2.2.1 9 (.slice aR lR cR))
                have HI7 := hid (at_other hA HN.out.1 9 (.slice aR lR cR))
                have HT7 := hid (turn_new (HT6.out.trans hT) HN.out.2.2.2.2 9 (.slice aR lR cR))
                have HON7 := hid (og_putY (og_tn HON6.out (tn_turn hT) (fun b hb => own_ne HON6.out HI6.out (by decide) b hb)) y1 (by decide) 9 (.slice aR lR cR))
                have HOK7 := hid (og_putY (og_tn HOK6.out (tn_turn hT) (fun b hb => own_ne HOK6.out HI6.out (by decide) b hb)) y1 (by decide) 9 (.slice aR lR cR))
                have HOR7 := hid (og_putY hO0 y1 (by decide) 9 (.slice aR lR cR))
                obtain ⟨⟨y0, y1, y2, y3, y4, y5, y6, y7, y8, y9, ya, yb⟩, yf⟩ := cells12 y1
                clear hA hT y1 C7 q7 HI6 HT6 HY6 HR6 hO hO0 HON6 HOK6
                go_wp2_with fail
                generalize w7.setCell ⟨Y, 9, none⟩ (.slice aR lR cR) = v7 at *
                clear y0 y1 y2 y3 y4 y5 y6 y7 y8 y9 ya yb yf
                have C8 := ldLS_any s hs p7 X v7 HI7.out
                rw [q8] at C8
                refine C8.mono ?_
                rintro e w8 (⟨h0, vS, rfl, hO, hA, hT⟩ | ⟨h0, rfl, hT⟩)
                · simp only at h0
                  subst h0
                  obtain ⟨aS, cS, eS, -, -⟩ := og_is encS_ok hO
                  obtain ⟨lS, hlS⟩ : ∃ n, xS.length = n := ⟨_, rfl⟩
                  rw [hlS] at eS
                  subst eS
                  clear hlS
                  have hO0 := og_low hO (show w.heap.size ≤ v7.heap.size from HT7.out.2.2.1)
                  have y1 := at_turn HY7.out hT (Ne.symm HN.out.1)
                  have HY8 : Hid (At (w8.setCell ⟨Y, 10, none⟩ (.slice aS lS cS)) Y #[.int .u8 0, .int .u8 0, .int .u8 0, .int .u32 (n1 : Int), .int .u8 (n2 : Int), .int .u8 (n3 : Int), .bool b4, .slice aN lN cN, .slice aK lK cK, .slice aR lR cR, .slice aS lS cS, .slice none 0 0] 29) := hid (at_set y1 10 (.slice aS lS cS))
                  have HR8 := hid (at_other (at_turn HR7.out hT (Ne.symm HN.out.2.1)) HN.out.2.2.1 10 (.slice aS lS cS))
                  have HI8 := hid (at_other hA HN.out.1 10 (.slice aS lS cS))
                  have HT8 := hid (turn_new (HT7.out.trans hT) HN.out.2.2.2.2 10 (.slice aS lS cS))
                  have HON8 := hid (og_putY (og_tn HON7.out (tn_turn hT) (fun b hb => own_ne HON7.out HI7.out (by decide) b hb)) y1 (by decide) 10 (.slice aS lS cS))
                  have HOK8 := hid (og_putY (og_tn HOK7.out (tn_turn hT) (fun b hb => own_ne HOK7.out HI7.out (by decide) b hb)) y1 (by decide) 10 (.slice aS lS cS))
                  have HOR8 := hid (og_putY (og_tn HOR7.out (tn_turn hT) (fun b hb => own_ne HOR7.out HI7.out (by decide) b hb)) y1 (by decide) 10 (.slice aS lS cS))
                  have HOS8 := hid (og_putY hO0 y1 (by decide) 10 (.slice aS lS cS))
                  obtain ⟨⟨y0, y1, y2, y3, y4, y5, y6, y7, y8, y9, ya, yb⟩, yf⟩ := cells12 y1
                  clear hA hT y1 C8 q8 HI7 HT7 HY7 HR7 hO hO0 HON7 HOK7 HOR7
                  go_wp2_with fail
                  generalize w8.setCell ⟨Y, 10, none⟩ (.slice aS lS cS) = v8 at *
                  clear y0 y1 y2 y3 y4 y5 y6 y7 y8 y9 ya yb yf
                  have C9 := ldLG_any s hs p8 X v8 HI8.out
                  rw [q9] at C9
                  refine C9.mono ?_
                  rintro e w9 (⟨h0, vG, rfl, hO, hA, hT⟩ | ⟨h0, rfl, hT⟩)
                  · simp only at h0
                    subst h0
                    obtain ⟨aG, cG, eG, -, -⟩ := og_is encG_ok hO
                    obtain ⟨lG, hlG⟩ : ∃ n, xG.length = n := ⟨_, rfl⟩
                    rw [hlG] at eG
                    subst eG
                    clear hlG
                    have hO0 := og_low hO (show w.heap.size ≤ v8.heap.size from HT8.out.2.2.1)
                    have y1 := at_turn HY8.out hT (Ne.symm HN.out.1)
                    have HY9 : Hid (At (w9.setCell ⟨Y, 11, none⟩ (.slice aG lG cG)) Y #[.int .u8 0, .int .u8 0, .int .u8 0, .int .u32 (n1 : Int), .int .u8 (n2 : Int), .int .u8 (n3 : Int), .bool b4, .slice aN lN cN, .slice aK lK cK, .slice aR lR cR, .slice aS lS cS, .slice aG lG cG] 29) := hid (at_set y1 11 (.slice aG lG cG))
                    have HR9 := hid (at_other (at_turn HR8.out hT (Ne.symm HN.out.2.1)) HN.out.2.2.1 11 (.slice aG lG cG))
                    have HI9 := hid (at_other hA HN.out.1 11 (.slice aG lG cG))
                    have HT9 := hid (turn_new (HT8.out.trans hT) HN.out.2.2.2.2 11 (.slice aG lG cG))
                    have HON9 := hid (og_putY (og_tn HON8.out (tn_turn hT) (fun b hb => own_ne HON8.out HI8.out (by decide) b hb)) y1 (by decide) 11 (.slice aG lG cG))
                    have HOK9 := hid (og_putY (og_tn HOK8.out (tn_turn hT) (fun b hb => own_ne HOK8.out HI8.out (by decide) b hb)) y1 (by decide) 11 (.slice aG lG cG))
                    have HOR9 := hid (og_putY (og_tn HOR8.out (tn_turn hT) (fun b hb => own_ne HOR8.out HI8.out (by decide) b hb)) y1 (by decide) 11 (.slice aG lG cG))
                    have HOS9 := hid (og_putY (og_tn HOS8.out (tn_turn hT) (fun b hb => own_ne HOS8.out HI8.out (by decide) b hb)) y1 (by decide) 11 (.slice aG lG cG))
                    have HOG9 := hid (og_putY hO0 y1 (by decide) 11 (.slice aG lG cG))
                    obtain ⟨⟨y0, y1, y2, y3, y4, y5, y6, y7, y8, y9, ya, yb⟩, yf⟩ := cells12 y1
                    clear hA hT y1 C9 q9 HI8 HT8 HY8 HR8 hO hO0 HON8 HOK8 HOR8 HOS8
                    have HLD := hid (loadW strM HY9.out rfl)
                    have HLD2 : Hid ((loadVar 29 ⟨Y, 0, none⟩).run Tryz.prog (w9.setCell ⟨Y, 11, none⟩ (.slice aG lG cG)) = .ok (.agg #[.int .u8 0, .int .u8 0, .int .u8 0, .int .u32 (n1 : Int), .int .u8 (n2 : Int), .int .u8 (n3 : Int), .bool b4, .slice aN lN cN, .slice aK lK cK, .slice aR lR cR, .slice aS lS cS, .slice aG lG cG]) (w9.setCell ⟨Y, 11, none⟩ (.slice aG lG cG))) := HLD
                    have HST := hid (storeW (cs := #[.int .u8 0, .int .u8 0, .int .u8 0, .int .u32 (n1 : Int), .int .u8 (n2 : Int), .int .u8 (n3 : Int), .bool b4, .slice aN lN cN, .slice aK lK cK, .slice aR lR cR, .slice aS lS cS, .slice aG lG cG]) strM HR9.out rfl rfl (by simp [Value.oneCell']))
                    have HRe := hid (at_setRow (cs := #[.int .u8 0, .int .u8 0, .int .u8 0, .int .u32 (n1 : Int), .int .u8 (n2 : Int), .int .u8 (n3 : Int), .bool b4, .slice aN lN cN, .slice aK lK cK, .slice aR lR cR, .slice aS lS cS, .slice aG lG cG]) HR9.out)
                    have HIe := hid (at_outW (ds := #[.int .u8 0, .int .u8 0, .int .u8 0, .int .u32 (n1 : Int), .int .u8 (n2 : Int), .int .u8 (n3 : Int), .bool b4, .slice aN lN cN, .slice aK lK cK, .slice aR lR cR, .slice aS lS cS, .slice aG lG cG]) HI9.out HN.out.2.1)
                    have HTe := hid (turn_rowW HT9.out HN.out.2.2.2.1 #[.int .u8 0, .int .u8 0, .int .u8 0, .int .u32 (n1 : Int), .int .u8 (n2 : Int), .int .u8 (n3 : Int), .bool b4, .slice aN lN cN, .slice aK lK cK, .slice aR lR cR, .slice aS lS cS, .slice aG lG cG])
                    have HONe := hid (og_outW HON9.out HR9.out (by decide) #[.int .u8 0, .int .u8 0, .int .u8 0, .int .u32 (n1 : Int), .int .u8 (n2 : Int), .int .u8 (n3 : Int), .bool b4, .slice aN lN cN, .slice aK lK cK, .slice aR lR cR, .slice aS lS cS, .slice aG lG cG])
                    have HOKe := hid (og_outW HOK9.out HR9.out (by decide) #[.int .u8 0, .int .u8 0, .int .u8 0, .int .u32 (n1 : Int), .int .u8 (n2 : Int), .int .u8 (n3 : Int), .bool b4, .slice aN lN cN, .slice aK lK cK, .slice aR lR cR, .slice aS lS cS, .slice aG lG cG])
                    have HORe := hid (og_outW HOR9.out HR9.out (by decide) #[.int .u8 0, .int .u8 0, .int .u8 0, .int .u32 (n1 : Int), .int .u8 (n2 : Int), .int .u8 (n3 : Int), .bool b4, .slice aN lN cN, .slice aK lK cK, .slice aR lR cR, .slice aS lS cS, .slice aG lG cG])
                    have HOSe := hid (og_outW HOS9.out HR9.out (by decide) #[.int .u8 0, .int .u8 0, .int .u8 0, .int .u32 (n1 : Int), .int .u8 (n2 : Int), .int .u8 (n3 : Int), .bool b4, .slice aN lN cN, .slice aK lK cK, .slice aR lR cR, .slice aS lS cS, .slice aG lG cG])
                    have HOGe := hid (og_outW HOG9.out HR9.out (by decide) #[.int .u8 0, .int .u8 0, .int .u8 0, .int .u32 (n1 : Int), .int .u8 (n2 : Int), .int .u8 (n3 : Int), .bool b4, .slice aN lN cN, .slice aK lK cK, .slice aR lR cR, .slice aS lS cS, .slice aG lG cG])
                    have HLE := hid (loadW strM HRe.out rfl)
                    clear HI9 HT9 HY9 HR9 HLD HON9 HOK9 HOR9 HOS9 HOG9
                    go_wp2_with (first | (refine wpList_loadW (T := 29) rfl _ rfl Y rfl _ HLD2.out ?_) | (refine wpList_storeW (T := 29) rfl _ _ rfl B rfl _ rfl _ HST.out ?_))
                    refine bodyPost_ret (resW (T := 29) Tryz.results73 _ rfl HLE.out) rfl (.inl ⟨by rw [HG.out], .slice aN lN cN, .slice aK lK cK, .slice aR lR cR, .slice aS lS cS, .slice aG lG cG, ?_, ?_, by rw [HG.out]; exact HIe.out, HTe.out⟩)
                    · rw [HM.out]; rfl
                    · rw [HM.out]; exact ⟨HONe.out, HOKe.out, HORe.out, HOSe.out, HOGe.out⟩
                  · simp only at h0
                    have HTn := hid (HT8.out.trans hT)
                    clear hT C9
                    go_wp2_with fail
                    exact ⟨rfl, .inr ⟨by rw [HG.out]; exact h0, by rw [HG.out], HTn.out⟩⟩
                · simp only at h0
                  have e9 := list_stop h0 q9
                  subst e9
                  have HTn := hid (HT7.out.trans hT)
                  clear hT C8
                  go_wp2_with fail
                  exact ⟨rfl, .inr ⟨by rw [HG.out]; exact h0, by rw [HG.out], HTn.out⟩⟩
              · simp only at h0
                have e8 := list_stop h0 q8
                subst e8
                have e9 := list_stop h0 q9
                subst e9
                have HTn := hid (HT6.out.trans hT)
                clear hT C7
                go_wp2_with fail
                exact ⟨rfl, .inr ⟨by rw [HG.out]; exact h0, by rw [HG.out], HTn.out⟩⟩
            · simp only at h0
              have e7 := list_stop h0 q7
              subst e7
              have e8 := list_stop h0 q8
              subst e8
              have e9 := list_stop h0 q9
              subst e9
              have HTn := hid (HT5.out.trans hT)
              clear hT C6
              go_wp2_with fail
              exact ⟨rfl, .inr ⟨by rw [HG.out]; exact h0, by rw [HG.out], HTn.out⟩⟩
          · simp only at h0
            have e6 := list_stop h0 q6
            subst e6
            have e7 := list_stop h0 q7
            subst e7
            have e8 := list_stop h0 q8
            subst e8
            have e9 := list_stop h0 q9
            subst e9
            have HTn := hid (HT4.out.trans hT)
            clear hT C5
            go_wp2_with fail
            exact ⟨rfl, .inr ⟨by rw [HG.out]; exact h0, by rw [HG.out], HTn.out⟩⟩
        · simp only at h0
          have e5 := list_stop h0 q5
          subst e5
          have e6 := list_stop h0 q6
          subst e6
          have e7 := list_stop h0 q7
          subst e7
          have e8 := list_stop h0 q8
          subst e8
          have e9 := list_stop h0 q9
          subst e9
          have HTn := hid (HT3.out.trans hT)
          clear hT C4
          go_wp2_with fail
          exact ⟨rfl, .inr ⟨by rw [HG.out]; exact h0, by rw [HG.out], HTn.out⟩⟩
      · simp only at h0
        have e4 := num_stop h0 q4
        subst e4
        have e5 := list_stop h0 q5
        subst e5
        have e6 := list_stop h0 q6
        subst e6
        have e7 := list_stop h0 q7
        subst e7
        have e8 := list_stop h0 q8
        subst e8
        have e9 := list_stop h0 q9
        subst e9
        have HTn := hid (HT2.out.trans hT)
        clear hT C3
        go_wp2_with fail
        exact ⟨rfl, .inr ⟨by rw [HG.out]; exact h0, by rw [HG.out], HTn.out⟩⟩
    · simp only at h0
      have e3 := num_stop h0 q3
      subst e3
      have e4 := num_stop h0 q4
      subst e4
      have e5 := list_stop h0 q5
      subst e5
      have e6 := list_stop h0 q6
      subst e6
      have e7 := list_stop h0 q7
      subst e7
      have e8 := list_stop h0 q8
      subst e8
      have e9 := list_stop h0 q9
      subst e9
      have HTn := hid (HT1.out.trans hT)
      clear hT C2
      go_wp2_with fail
      exact ⟨rfl, .inr ⟨by rw [HG.out]; exact h0, by rw [HG.out], HTn.out⟩⟩
  · simp only at h0
    have e2 := num_stop h0 q2
    subst e2
    have e3 := num_stop h0 q3
    subst e3
    have e4 := num_stop h0 q4
    subst e4
    have e5 := list_stop h0 q5
    subst e5
    have e6 := list_stop h0 q6
    subst e6
    have e7 := list_stop h0 q7
    subst e7
    have e8 := list_stop h0 q8
    subst e8
    have e9 := list_stop h0 q9
    subst e9
    have HTn := hid (HT0.out.trans hT)
    clear hT C1
    go_wp2_with fail
    exact ⟨rfl, .inr ⟨by rw [HG.out]; exact h0, by rw [HG.out], HTn.out⟩⟩
end Go.Proofs.YtioeidhblbfgmaaGreat
