/- The law that any row of calls of any clock is answered as the reference answers it, walked: it answers true and turns nothing that was there. -/
import Derived.Test.YtlhceekjhhdbeaaRefSee
namespace Go.Proofs.Ytlhceekjhhdbeaa
open Go.ChangeShapes Go.WideShapes Go.ChangeAt Go.RowKit
set_option linter.unusedVariables false
set_option linter.unusedSimpArgs false

theorem at_set8 {w : World} {G T : Nat} {v0 v1 v2 v3 v4 v5 v6 v7 : Value} (h : At w G #[v0, v1, v2, v3, v4, v5, v6, v7] T) (a0 a1 a2 a3 a4 a5 a6 a7 : Value) : At ((((((((w.setCell ⟨G, 0, none⟩ a0).setCell ⟨G, 1, none⟩ a1).setCell ⟨G, 2, none⟩ a2).setCell ⟨G, 3, none⟩ a3).setCell ⟨G, 4, none⟩ a4).setCell ⟨G, 5, none⟩ a5).setCell ⟨G, 6, none⟩ a6).setCell ⟨G, 7, none⟩ a7) G #[a0, a1, a2, a3, a4, a5, a6, a7] T := by
  have h0 : At (w.setCell ⟨G, 0, none⟩ a0) G #[a0, v1, v2, v3, v4, v5, v6, v7] T := at_set h 0 a0
  have h1 : At ((w.setCell ⟨G, 0, none⟩ a0).setCell ⟨G, 1, none⟩ a1) G #[a0, a1, v2, v3, v4, v5, v6, v7] T := at_set h0 1 a1
  have h2 : At (((w.setCell ⟨G, 0, none⟩ a0).setCell ⟨G, 1, none⟩ a1).setCell ⟨G, 2, none⟩ a2) G #[a0, a1, a2, v3, v4, v5, v6, v7] T := at_set h1 2 a2
  have h3 : At ((((w.setCell ⟨G, 0, none⟩ a0).setCell ⟨G, 1, none⟩ a1).setCell ⟨G, 2, none⟩ a2).setCell ⟨G, 3, none⟩ a3) G #[a0, a1, a2, a3, v4, v5, v6, v7] T := at_set h2 3 a3
  have h4 : At (((((w.setCell ⟨G, 0, none⟩ a0).setCell ⟨G, 1, none⟩ a1).setCell ⟨G, 2, none⟩ a2).setCell ⟨G, 3, none⟩ a3).setCell ⟨G, 4, none⟩ a4) G #[a0, a1, a2, a3, a4, v5, v6, v7] T := at_set h3 4 a4
  have h5 : At ((((((w.setCell ⟨G, 0, none⟩ a0).setCell ⟨G, 1, none⟩ a1).setCell ⟨G, 2, none⟩ a2).setCell ⟨G, 3, none⟩ a3).setCell ⟨G, 4, none⟩ a4).setCell ⟨G, 5, none⟩ a5) G #[a0, a1, a2, a3, a4, a5, v6, v7] T := at_set h4 5 a5
  have h6 : At (((((((w.setCell ⟨G, 0, none⟩ a0).setCell ⟨G, 1, none⟩ a1).setCell ⟨G, 2, none⟩ a2).setCell ⟨G, 3, none⟩ a3).setCell ⟨G, 4, none⟩ a4).setCell ⟨G, 5, none⟩ a5).setCell ⟨G, 6, none⟩ a6) G #[a0, a1, a2, a3, a4, a5, a6, v7] T := at_set h5 6 a6
  have h7 : At ((((((((w.setCell ⟨G, 0, none⟩ a0).setCell ⟨G, 1, none⟩ a1).setCell ⟨G, 2, none⟩ a2).setCell ⟨G, 3, none⟩ a3).setCell ⟨G, 4, none⟩ a4).setCell ⟨G, 5, none⟩ a5).setCell ⟨G, 6, none⟩ a6).setCell ⟨G, 7, none⟩ a7) G #[a0, a1, a2, a3, a4, a5, a6, a7] T := at_set h6 7 a7
  exact h7
theorem at_other8 {w : World} {G X T : Nat} {cs : Array Value} (h : At w X cs T) (hn : X ≠ G) (a0 a1 a2 a3 a4 a5 a6 a7 : Value) : At ((((((((w.setCell ⟨G, 0, none⟩ a0).setCell ⟨G, 1, none⟩ a1).setCell ⟨G, 2, none⟩ a2).setCell ⟨G, 3, none⟩ a3).setCell ⟨G, 4, none⟩ a4).setCell ⟨G, 5, none⟩ a5).setCell ⟨G, 6, none⟩ a6).setCell ⟨G, 7, none⟩ a7) X cs T :=
  at_other (at_other (at_other (at_other (at_other (at_other (at_other (at_other h hn 0 a0) hn 1 a1) hn 2 a2) hn 3 a3) hn 4 a4) hn 5 a5) hn 6 a6) hn 7 a7
theorem kept_set8 {W w : World} (h : Kept W w) {G : Nat} (hG : W.heap.size ≤ G) (a0 a1 a2 a3 a4 a5 a6 a7 : Value) : Kept W ((((((((w.setCell ⟨G, 0, none⟩ a0).setCell ⟨G, 1, none⟩ a1).setCell ⟨G, 2, none⟩ a2).setCell ⟨G, 3, none⟩ a3).setCell ⟨G, 4, none⟩ a4).setCell ⟨G, 5, none⟩ a5).setCell ⟨G, 6, none⟩ a6).setCell ⟨G, 7, none⟩ a7) :=
  kept_set (kept_set (kept_set (kept_set (kept_set (kept_set (kept_set (kept_set h hG 0 a0) hG 1 a1) hG 2 a2) hG 3 a3) hG 4 a4) hG 5 a5) hG 6 a6) hG 7 a7
theorem rests_same {k k' : Clk} {rest : Bool} {g : Int} (h : Rests k rest g) (e : k'.wakes = k.wakes) : Rests k' rest g := ⟨e.trans h.1, h.2⟩
theorem plays_bad (node time drift : Int) (rest : Bool) (oa : Option Addr) (len cap : Nat) (w : World) (hm : ¬ mayNew node time drift) :
    Calls Try.prog 4 #[.int .u8 node, .int .u64 time, .int .i64 drift, .bool rest, .slice oa len cap] w fun e w' => e = .returned (.bool true) ∧ Kept w w' := by
  have hz35 := zero35
  go_enter Try.func4, Try.ntmps4
  go_wp2_with fail
  refine (new_bad node time drift rest hm _).mono ?_
  rintro e w1 ⟨rfl, rfl⟩
  go_wp2_with fail
  refine (refNew_bad node time drift rest hm _).mono ?_
  rintro e w2 ⟨rfl, k2⟩
  have K3 := kept_alloc k2 (.cells #[.int .u8 0, .int .u64 0, .int .u64 0, .bool false, .int .u64 0, .int .u64 0, .int .u32 0, .int .u8 0] 35)
  go_wp2_with fail
  refine (fixed_any _).mono ?_
  rintro e w3 ⟨rfl, k3⟩
  have K4 := kept_trans K3 k3
  go_wp2_with fail
  go_ret
  exact ⟨rfl, K4⟩
set_option maxHeartbeats 6400000 in
set_option maxRecDepth 100000 in
theorem plays_good (node time drift : Int) (rest : Bool) (oa : Option Addr) (len cap b o : Nat) (K M : Nat → Int) (S : Nat → Stp) (w : World)
    (hm : mayNew node time drift) (b1 : 0 ≤ node) (b2 : 0 ≤ time) (hr : Row w oa len cap b o K M S) :
    Calls Try.prog 4 #[.int .u8 node, .int .u64 time, .int .i64 drift, .bool rest, .slice oa len cap] w fun e w' => e = .returned (.bool true) ∧ Kept w w' := by
  have hz35 := zero35
  have hz := zero40
  have hz25 := zero25
  have HM : Hid (mayNew node time drift) := hm
  have HR : Hid (Row w oa len cap b o K M S) := hr
  clear hm hr
  go_enter Try.func4, Try.ntmps4
  go_wp2_with fail
  refine (new_good node time drift rest HM.out b1 b2 _).mono ?_
  rintro e w1 ⟨rfl, K1, C1⟩
  have HC : Hid (w.heap.size ≤ w.heap.size) := Nat.le_refl _
  generalize hc : w.heap.size = c at *
  have HC : Hid (w.heap.size ≤ c) := Nat.le_of_eq hc
  clear hc
  go_wp2_with fail
  refine (refNew_good node time drift rest HM.out b1 b2 _).mono ?_
  rintro e w2 ⟨rfl, k2⟩
  have K2 := kept_trans K1 k2
  have C2 := clock_kept C1 k2
  clear K1 C1 k2
  have N0 := new_ok rest HM.out b1 b2
  have R0 : Rests (newK node time drift rest) rest (time + drift) := ⟨rfl, by have := HM.out.2.2.1; omega⟩
  obtain ⟨g, hg⟩ : ∃ g, g = time + drift := ⟨_, rfl⟩
  rw [← hg] at R0 ⊢
  clear hg
  have A3 : At (w2.alloc (.cells #[.int .u8 node, .int .u64 time, .int .u64 drift, .bool rest, .int .u64 g, .int .u64 0, .int .u32 0, .int .u8 0] 35)) w2.heap.size #[.int .u8 (newK node time drift rest).node, .int .u64 (newK node time drift rest).time, .int .u64 (newK node time drift rest).drift, .bool rest, .int .u64 g, .int .u64 (newK node time drift rest).last.p, .int .u32 (newK node time drift rest).last.l, .int .u8 (newK node time drift rest).last.n] 35 := at_new w2 _ _
  have K3 := kept_alloc K2 (.cells #[.int .u8 node, .int .u64 time, .int .u64 drift, .bool rest, .int .u64 g, .int .u64 0, .int .u32 0, .int .u8 0] 35)
  have C3 : Clock c (newK node time drift rest) (w2.alloc (.cells #[.int .u8 node, .int .u64 time, .int .u64 drift, .bool rest, .int .u64 g, .int .u64 0, .int .u32 0, .int .u8 0] 35)) := at_alloc C2 _
  have HB : Hid (w.heap.size ≤ w2.heap.size) := K2.2
  have HN : Hid (w2.heap.size ≠ c) := Ne.symm (Nat.ne_of_lt (at_lt C2))
  clear K2 C2
  go_wp2_with fail
  generalize w2.alloc (.cells #[.int .u8 node, .int .u64 time, .int .u64 drift, .bool rest, .int .u64 g, .int .u64 0, .int .u32 0, .int .u8 0] 35) = w3 at *
  generalize w2.heap.size = B at *
  refine (fixed_any _).mono ?_
  rintro e w4 ⟨rfl, k4⟩
  have K4 := kept_trans K3 k4
  have C4 := clock_kept C3 k4
  have A4 := at_kept A3 k4
  clear K3 C3 A3 k4
  generalize newK node time drift rest = q0 at *
  go_wp2_with fail
  refine (cut_any oa len cap b o K M S _ (row_kept HR.out K4)).mono ?_
  rintro e w5 ⟨rfl, rfl⟩
  obtain ⟨L, hL⟩ : ∃ L, L = if len ≤ 300 then len else 300 := ⟨_, rfl⟩
  rw [← hL]
  have HL : Hid (Row w oa L cap b o K M S) := row_less HR.out (by rw [hL]; split <;> omega)
  have L3 : L ≤ 300 := by rw [hL]; split <;> omega
  clear hL HR
  go_wp2_with fail
  go_loopw [57] (fun i wr => ∃ (j : Nat) (k : Clk), j ≤ L ∧ i = .int .i64 j ∧ Hid (Kept w wr) ∧ Hid k.ok ∧ Hid (Rests k rest g) ∧ Hid (Clock c k wr) ∧ Hid (At wr B #[.int .u8 k.node, .int .u64 k.time, .int .u64 k.drift, .bool rest, .int .u64 g, .int .u64 k.last.p, .int .u32 k.last.l, .int .u8 k.last.n] 35)) (fun i _ => L - (intOf i).toNat)
  case atStart => exact ⟨0, _, Nat.zero_le _, rfl, K4, N0, R0, C4, A4⟩
  case round =>
    obtain ⟨j, k, hj, rfl, HK, HO, HRs, HCl, HBt⟩ := hrel
    clear K4 N0 R0 C4 A4
    by_cases hlt : j < L
    · obtain ⟨rfl, hb⟩ := HL.out.2.2.2.1 (by omega)
      obtain ⟨wk, wm, so, c0, c1, c2, c3, c4⟩ := (row_kept HL.out HK.out).2.2.2.2 j hlt
      have K4 := kept_alloc HK.out (.cells #[.int .i64 (K j), .int .i64 (M j), .int .u64 (S j).p, .int .u32 (S j).l, .int .u8 (S j).n] 40)
      have C4 : Clock c k (wr.alloc (.cells #[.int .i64 (K j), .int .i64 (M j), .int .u64 (S j).p, .int .u32 (S j).l, .int .u8 (S j).n] 40)) := at_alloc HCl.out _
      have B4 := at_alloc HBt.out (.cells #[.int .i64 (K j), .int .i64 (M j), .int .u64 (S j).p, .int .u32 (S j).l, .int .u8 (S j).n] 40)
      have O4 := at_new wr #[.int .i64 (K j), .int .i64 (M j), .int .u64 (S j).p, .int .u32 (S j).l, .int .u8 (S j).n] 40
      have HYB : Hid (wr.heap.size ≠ B) := Ne.symm (Nat.ne_of_lt (at_lt HBt.out))
      have HBr := HBt
      clear HK HCl HBt
      by_cases e0 : K j = 0
      · have f0 : (K j == 0) = true := by simpa using e0
        clear e0
        go_wp2_with fail
        generalize wr.alloc (.cells #[.int .i64 (K j), .int .i64 (M j), .int .u64 (S j).p, .int .u32 (S j).l, .int .u8 (S j).n] 40) = w4 at *
        generalize wr.heap.size = Y at *
        clear c0 c1 c2 c3 c4
        refine (now_any c k HO.out _ C4).mono ?_
        rintro e w7 ⟨rfl, T7, C7⟩
        have K7 : Kept w w7 := kept_turn K4 HC.out T7
        have B7 := at_turn B4 T7 HN.out
        clear K4 C4 B4 O4 T7
        have HO7 : Hid (nowK k).2.2.ok := (now_ok HO.out).1
        have HR7 : Hid (Rests (nowK k).2.2 rest g) := rests_same HRs.out (now_fields k).2.2.2
        have HRN : Hid (∀ w, Calls Try.prog 16 #[.agg #[.int .u8 k.node, .int .u64 k.time, .int .u64 k.drift, .bool rest, .int .u64 g, .int .u64 k.last.p, .int .u32 k.last.l, .int .u8 k.last.n]] w fun e w' => e = .returned (.tuple #[.agg #[.int .u64 (nowK k).1.p, .int .u32 (nowK k).1.l, .int .u8 (nowK k).1.n], .int .i64 (nowK k).2.1, .agg #[.int .u8 (nowK k).2.2.node, .int .u64 (nowK k).2.2.time, .int .u64 (nowK k).2.2.drift, .bool rest, .int .u64 g, .int .u64 (nowK k).2.2.last.p, .int .u32 (nowK k).2.2.last.l, .int .u8 (nowK k).2.2.last.n]]) ∧ Kept w w') := refNow_any k HO.out rest g HRs.out
        clear HO HRs
        generalize nowK k = A at *
        obtain ⟨s, er, k'⟩ := A
        simp only at C7 HO7 HR7 HRN ⊢
        have K8 := kept_alloc (kept_alloc K7 (.cells #[.int .u64 s.p, .int .u32 s.l, .int .u8 s.n] 25)) (.cells #[.int .u64 0, .int .u32 0, .int .u8 0] 25)
        have C8 : Clock c k' ((w7.alloc (.cells #[.int .u64 s.p, .int .u32 s.l, .int .u8 s.n] 25)).alloc (.cells #[.int .u64 0, .int .u32 0, .int .u8 0] 25)) := at_alloc (at_alloc C7 _) _
        have B8 := at_alloc (at_alloc B7 (.cells #[.int .u64 s.p, .int .u32 s.l, .int .u8 s.n] 25)) (.cells #[.int .u64 0, .int .u32 0, .int .u8 0] 25)
        have X8 := at_alloc (at_new w7 #[.int .u64 s.p, .int .u32 s.l, .int .u8 s.n] 25) (.cells #[.int .u64 0, .int .u32 0, .int .u8 0] 25)
        have Z8 := at_new (w7.alloc (.cells #[.int .u64 s.p, .int .u32 s.l, .int .u8 s.n] 25)) #[.int .u64 0, .int .u32 0, .int .u8 0] 25
        simp only [World.size_alloc] at Z8
        have HXZ : Hid (w7.heap.size ≠ w7.heap.size + 1) := show _ ≠ _ by omega
        have HWZ : Hid (w.heap.size ≤ w7.heap.size + 1) := show _ ≤ _ by have := K7.2; omega
        obtain ⟨q0, q1, q2, q3, q4, q5, q6, q7, -⟩ := at_cells8 B7
        have lq := at_lt B7
        clear K7 C7 B7
        go_wp2_with fail
        generalize (w7.alloc (.cells #[.int .u64 s.p, .int .u32 s.l, .int .u8 s.n] 25)).alloc (.cells #[.int .u64 0, .int .u32 0, .int .u8 0] 25) = w8 at *
        generalize hX : w7.heap.size = X at *
        generalize hZ : X + 1 = Z at *
        clear hX hZ q0 q1 q2 q3 q4 q5 q6 q7 lq
        refine (HRN.out _).mono ?_
        rintro e w9 ⟨rfl, k9⟩
        have K9 := kept_trans K8 k9
        have C9 := clock_kept C8 k9
        have B9 := at_kept B8 k9
        have X9 := at_kept X8 k9
        have Z9 := at_kept Z8 k9
        have hXB : X ≠ B := at_ne X9 B9 (by omega)
        have hZB : Z ≠ B := at_ne Z9 B9 (by omega)
        have hBZ : B ≠ Z := Ne.symm hZB
        have hBX : B ≠ X := Ne.symm hXB
        have hXZ : X ≠ Z := HXZ.out
        have hZX : Z ≠ X := Ne.symm hXZ
        have hcZ : c ≠ Z := at_ne C9 Z9 (by omega)
        obtain ⟨z0, z1, z2, zf⟩ := at_cells3 Z9
        obtain ⟨x0, x1, x2, xf⟩ := at_cells3 X9
        obtain ⟨m0, m1, m2, m3, m4, m5, m6, m7, mf⟩ := at_cells8 B9
        have hEs := eq_self s
        have HKb : Hid (Kept w (((((((((((w9.setCell ⟨Z, 0, none⟩ (.int .u64 s.p)).setCell ⟨Z, 1, none⟩ (.int .u32 s.l)).setCell ⟨Z, 2, none⟩ (.int .u8 s.n)).setCell ⟨B, 0, none⟩ (.int .u8 k'.node)).setCell ⟨B, 1, none⟩ (.int .u64 k'.time)).setCell ⟨B, 2, none⟩ (.int .u64 k'.drift)).setCell ⟨B, 3, none⟩ (.bool rest)).setCell ⟨B, 4, none⟩ (.int .u64 g)).setCell ⟨B, 5, none⟩ (.int .u64 k'.last.p)).setCell ⟨B, 6, none⟩ (.int .u32 k'.last.l)).setCell ⟨B, 7, none⟩ (.int .u8 k'.last.n))) := kept_set8 (kept_set3 K9 HWZ.out _ _ _) HB.out _ _ _ _ _ _ _ _
        have HCb : Hid (Clock c k' (((((((((((w9.setCell ⟨Z, 0, none⟩ (.int .u64 s.p)).setCell ⟨Z, 1, none⟩ (.int .u32 s.l)).setCell ⟨Z, 2, none⟩ (.int .u8 s.n)).setCell ⟨B, 0, none⟩ (.int .u8 k'.node)).setCell ⟨B, 1, none⟩ (.int .u64 k'.time)).setCell ⟨B, 2, none⟩ (.int .u64 k'.drift)).setCell ⟨B, 3, none⟩ (.bool rest)).setCell ⟨B, 4, none⟩ (.int .u64 g)).setCell ⟨B, 5, none⟩ (.int .u64 k'.last.p)).setCell ⟨B, 6, none⟩ (.int .u32 k'.last.l)).setCell ⟨B, 7, none⟩ (.int .u8 k'.last.n))) := at_other8 (at_other3 C9 hcZ _ _ _) (Ne.symm HN.out) _ _ _ _ _ _ _ _
        have HBb : Hid (At (((((((((((w9.setCell ⟨Z, 0, none⟩ (.int .u64 s.p)).setCell ⟨Z, 1, none⟩ (.int .u32 s.l)).setCell ⟨Z, 2, none⟩ (.int .u8 s.n)).setCell ⟨B, 0, none⟩ (.int .u8 k'.node)).setCell ⟨B, 1, none⟩ (.int .u64 k'.time)).setCell ⟨B, 2, none⟩ (.int .u64 k'.drift)).setCell ⟨B, 3, none⟩ (.bool rest)).setCell ⟨B, 4, none⟩ (.int .u64 g)).setCell ⟨B, 5, none⟩ (.int .u64 k'.last.p)).setCell ⟨B, 6, none⟩ (.int .u32 k'.last.l)).setCell ⟨B, 7, none⟩ (.int .u8 k'.last.n)) B #[.int .u8 k'.node, .int .u64 k'.time, .int .u64 k'.drift, .bool rest, .int .u64 g, .int .u64 k'.last.p, .int .u32 k'.last.l, .int .u8 k'.last.n] 35) := at_set8 (at_other3 B9 hBZ _ _ _) _ _ _ _ _ _ _ _
        clear K8 C8 B8 X8 Z8 k9 K9 C9 B9 X9 Z9 hcZ
        go_wp2_with fail
        clear z0 z1 z2 zf x0 x1 x2 xf m0 m1 m2 m3 m4 m5 m6 m7 mf hEs hXB hZB hBZ hBX hXZ hZX
        have Kb := HKb.out
        have Cb := HCb.out
        have Bb := HBb.out
        clear HKb HCb HBb
        generalize ((((((((((w9.setCell ⟨Z, 0, none⟩ (.int .u64 s.p)).setCell ⟨Z, 1, none⟩ (.int .u32 s.l)).setCell ⟨Z, 2, none⟩ (.int .u8 s.n)).setCell ⟨B, 0, none⟩ (.int .u8 k'.node)).setCell ⟨B, 1, none⟩ (.int .u64 k'.time)).setCell ⟨B, 2, none⟩ (.int .u64 k'.drift)).setCell ⟨B, 3, none⟩ (.bool rest)).setCell ⟨B, 4, none⟩ (.int .u64 g)).setCell ⟨B, 5, none⟩ (.int .u64 k'.last.p)).setCell ⟨B, 6, none⟩ (.int .u32 k'.last.l)).setCell ⟨B, 7, none⟩ (.int .u8 k'.last.n) = wb at *
        obtain ⟨-, m1, -, -, -, m5, m6, m7, -⟩ := at_cells8 Bb
        have hEq := eq_self k'.last
        have kk : Kept wb wb.drew := kept_refl wb
        go_region_held3 (fun w' => w'.cell? ⟨B, 1, none⟩ = some (.int .u64 k'.time) ∧ w'.cell? ⟨B, 5, none⟩ = some (.int .u64 k'.last.p) ∧ w'.cell? ⟨B, 6, none⟩ = some (.int .u32 k'.last.l) ∧ w'.cell? ⟨B, 7, none⟩ = some (.int .u8 k'.last.n)) (first | exact ⟨m1, m5, m6, m7⟩ | (obtain ⟨-, y1, -, -, -, y5, y6, y7, -⟩ := at_cells8 (at_kept Bb kk); exact ⟨y1, y5, y6, y7⟩)) (first
          | (go_at_call 21; refine (time_any c k' _ (clock_kept Cb kk)).mono ?_; rintro e w9 ⟨rfl, rfl⟩)
          | (go_at_call 22; refine (last_any c k' _ (clock_kept Cb kk)).mono ?_; rintro e w9 ⟨rfl, h9⟩; replace kk := kept_trans kk h9; clear h9))
        have K9 := kept_trans Kb kk
        have C9 := clock_kept Cb kk
        have B9 := at_kept Bb kk
        clear m1 m5 m6 m7 kk
        go_wp2_with fail
        go_roundw
        case rel => exact ⟨j + 1, k', by omega, by go_num, K9, HO7, HR7, C9, B9⟩
        case measure => simp [intOf]; omega
      · have f0 : (K j == 0) = false := by simpa using e0
        clear e0
        by_cases e1 : K j = 1
        · have f1 : (K j == 1) = true := by simpa using e1
          clear e1
          obtain ⟨m0, m1, m2, m3, m4, m5, m6, m7, mf⟩ := at_cells8 HBr.out
          have lb := at_lt HBr.out
          go_wp2_with fail
          generalize wr.alloc (.cells #[.int .i64 (K j), .int .i64 (M j), .int .u64 (S j).p, .int .u32 (S j).l, .int .u8 (S j).n] 40) = w4 at *
          generalize wr.heap.size = Y at *
          clear c0 c1 c2 c3 c4 m0 m1 m2 m3 m4 m5 m6 m7 mf lb
          refine (refSee_any k HO.out rest g (S j) _).mono ?_
          rintro e w5 ⟨rfl, k5⟩
          have K5 := kept_trans K4 k5
          have C5 := clock_kept C4 k5
          have B5 := at_kept B4 k5
          have O5 := at_kept O4 k5
          clear K4 C4 B4 O4 k5
          have HO7 : Hid (seeK k (S j)).2.ok := see_ok HO.out so
          have HR7 : Hid (Rests (seeK k (S j)).2 rest g) := rests_same HRs.out (see_fields k (S j)).2.2.2
          have HSe : Hid (∀ w, Clock c k w → Calls Try.prog 18 #[.pointer (some ⟨c, 0, none⟩), .agg #[.int .u64 (S j).p, .int .u32 (S j).l, .int .u8 (S j).n]] w fun e w' => e = .returned (.int .i64 (seeK k (S j)).1) ∧ Turn c w w' ∧ Clock c (seeK k (S j)).2 w') := fun w h => see_any c k HO.out (S j) w h
          clear HO HRs
          generalize seeK k (S j) = A at *
          obtain ⟨er, k'⟩ := A
          simp only at HO7 HR7 HSe ⊢
          have hYB : Y ≠ B := HYB.out
          have hBY : B ≠ Y := Ne.symm hYB
          obtain ⟨o0, o1, o2, o3, o4, -⟩ := at_cells5 O5
          obtain ⟨m0, m1, m2, m3, m4, m5, m6, m7, mf⟩ := at_cells8 B5
          have HKb : Hid (Kept w ((((((((w5.setCell ⟨B, 0, none⟩ (.int .u8 k'.node)).setCell ⟨B, 1, none⟩ (.int .u64 k'.time)).setCell ⟨B, 2, none⟩ (.int .u64 k'.drift)).setCell ⟨B, 3, none⟩ (.bool rest)).setCell ⟨B, 4, none⟩ (.int .u64 g)).setCell ⟨B, 5, none⟩ (.int .u64 k'.last.p)).setCell ⟨B, 6, none⟩ (.int .u32 k'.last.l)).setCell ⟨B, 7, none⟩ (.int .u8 k'.last.n))) := kept_set8 K5 HB.out _ _ _ _ _ _ _ _
          have HCb : Hid (Clock c k ((((((((w5.setCell ⟨B, 0, none⟩ (.int .u8 k'.node)).setCell ⟨B, 1, none⟩ (.int .u64 k'.time)).setCell ⟨B, 2, none⟩ (.int .u64 k'.drift)).setCell ⟨B, 3, none⟩ (.bool rest)).setCell ⟨B, 4, none⟩ (.int .u64 g)).setCell ⟨B, 5, none⟩ (.int .u64 k'.last.p)).setCell ⟨B, 6, none⟩ (.int .u32 k'.last.l)).setCell ⟨B, 7, none⟩ (.int .u8 k'.last.n))) := at_other8 C5 (Ne.symm HN.out) _ _ _ _ _ _ _ _
          have HBb : Hid (At ((((((((w5.setCell ⟨B, 0, none⟩ (.int .u8 k'.node)).setCell ⟨B, 1, none⟩ (.int .u64 k'.time)).setCell ⟨B, 2, none⟩ (.int .u64 k'.drift)).setCell ⟨B, 3, none⟩ (.bool rest)).setCell ⟨B, 4, none⟩ (.int .u64 g)).setCell ⟨B, 5, none⟩ (.int .u64 k'.last.p)).setCell ⟨B, 6, none⟩ (.int .u32 k'.last.l)).setCell ⟨B, 7, none⟩ (.int .u8 k'.last.n)) B #[.int .u8 k'.node, .int .u64 k'.time, .int .u64 k'.drift, .bool rest, .int .u64 g, .int .u64 k'.last.p, .int .u32 k'.last.l, .int .u8 k'.last.n] 35) := at_set8 B5 _ _ _ _ _ _ _ _
          clear K5 C5 B5 O5
          go_wp2_with fail
          clear o0 o1 o2 o3 o4 m0 m1 m2 m3 m4 m5 m6 m7 mf hYB hBY
          have Kb := HKb.out
          have Cb := HCb.out
          have Bb := HBb.out
          clear HKb HCb HBb
          generalize (((((((w5.setCell ⟨B, 0, none⟩ (.int .u8 k'.node)).setCell ⟨B, 1, none⟩ (.int .u64 k'.time)).setCell ⟨B, 2, none⟩ (.int .u64 k'.drift)).setCell ⟨B, 3, none⟩ (.bool rest)).setCell ⟨B, 4, none⟩ (.int .u64 g)).setCell ⟨B, 5, none⟩ (.int .u64 k'.last.p)).setCell ⟨B, 6, none⟩ (.int .u32 k'.last.l)).setCell ⟨B, 7, none⟩ (.int .u8 k'.last.n) = wb at *
          refine (HSe.out _ Cb).mono ?_
          rintro e w7 ⟨rfl, T7, C7⟩
          have K7 : Kept w w7 := kept_turn Kb HC.out T7
          have B7 := at_turn Bb T7 HN.out
          clear Kb Cb Bb T7 HSe
          go_wp2_with fail
          obtain ⟨-, m1, -, -, -, m5, m6, m7, -⟩ := at_cells8 B7
          have hEq := eq_self k'.last
          have kk : Kept w7 w7.drew := kept_refl w7
          go_region_held3 (fun w' => w'.cell? ⟨B, 1, none⟩ = some (.int .u64 k'.time) ∧ w'.cell? ⟨B, 5, none⟩ = some (.int .u64 k'.last.p) ∧ w'.cell? ⟨B, 6, none⟩ = some (.int .u32 k'.last.l) ∧ w'.cell? ⟨B, 7, none⟩ = some (.int .u8 k'.last.n)) (first | exact ⟨m1, m5, m6, m7⟩ | (obtain ⟨-, y1, -, -, -, y5, y6, y7, -⟩ := at_cells8 (at_kept B7 kk); exact ⟨y1, y5, y6, y7⟩)) (first
            | (go_at_call 21; refine (time_any c k' _ (clock_kept C7 kk)).mono ?_; rintro e w9 ⟨rfl, rfl⟩)
            | (go_at_call 22; refine (last_any c k' _ (clock_kept C7 kk)).mono ?_; rintro e w9 ⟨rfl, h9⟩; replace kk := kept_trans kk h9; clear h9))
          have K9 := kept_trans K7 kk
          have C9 := clock_kept C7 kk
          have B9 := at_kept B7 kk
          clear m1 m5 m6 m7 kk
          go_wp2_with fail
          go_roundw
          case rel => exact ⟨j + 1, k', by omega, by go_num, K9, HO7, HR7, C9, B9⟩
          case measure => simp [intOf]; omega
        · have f1 : (K j == 1) = false := by simpa using e1
          clear e1
          go_wp2_with fail
          generalize wr.alloc (.cells #[.int .i64 (K j), .int .i64 (M j), .int .u64 (S j).p, .int .u32 (S j).l, .int .u8 (S j).n] 40) = w4 at *
          generalize wr.heap.size = Y at *
          clear c0 c1 c2 c3 c4
          refine (pass_any c k HO.out (M j) wm _ C4).mono ?_
          rintro e w7 ⟨rfl, T7, C7⟩
          have K7 : Kept w w7 := kept_turn K4 HC.out T7
          have B7 := at_turn B4 T7 HN.out
          have O7 := at_turn_clock O4 T7 C4 (by omega)
          clear K4 C4 B4 O4 T7
          obtain ⟨o0, o1, o2, o3, o4, -⟩ := at_cells5 O7
          obtain ⟨m0, m1, m2, m3, m4, m5, m6, m7, mf⟩ := at_cells8 B7
          go_wp2_with fail
          clear o0 o1 o2 o3 o4 m0 m1 m2 m3 m4 m5 m6 m7 mf O7
          refine (refPass_any k HO.out rest g (M j) wm _).mono ?_
          rintro e w8 ⟨rfl, k8⟩
          have K8 := kept_trans K7 k8
          have C8 := clock_kept C7 k8
          have B8 := at_kept B7 k8
          clear K7 C7 B7 k8
          have HO7 : Hid (passK k (M j)).ok := pass_ok HO.out _
          have HR7 : Hid (Rests (passK k (M j)) rest g) := rests_same HRs.out (pass_fields k (M j)).2.2.1
          clear HO HRs
          generalize passK k (M j) = k' at *
          obtain ⟨m0, m1, m2, m3, m4, m5, m6, m7, mf⟩ := at_cells8 B8
          have HKb : Hid (Kept w ((((((((w8.setCell ⟨B, 0, none⟩ (.int .u8 k'.node)).setCell ⟨B, 1, none⟩ (.int .u64 k'.time)).setCell ⟨B, 2, none⟩ (.int .u64 k'.drift)).setCell ⟨B, 3, none⟩ (.bool rest)).setCell ⟨B, 4, none⟩ (.int .u64 g)).setCell ⟨B, 5, none⟩ (.int .u64 k'.last.p)).setCell ⟨B, 6, none⟩ (.int .u32 k'.last.l)).setCell ⟨B, 7, none⟩ (.int .u8 k'.last.n))) := kept_set8 K8 HB.out _ _ _ _ _ _ _ _
          have HCb : Hid (Clock c k' ((((((((w8.setCell ⟨B, 0, none⟩ (.int .u8 k'.node)).setCell ⟨B, 1, none⟩ (.int .u64 k'.time)).setCell ⟨B, 2, none⟩ (.int .u64 k'.drift)).setCell ⟨B, 3, none⟩ (.bool rest)).setCell ⟨B, 4, none⟩ (.int .u64 g)).setCell ⟨B, 5, none⟩ (.int .u64 k'.last.p)).setCell ⟨B, 6, none⟩ (.int .u32 k'.last.l)).setCell ⟨B, 7, none⟩ (.int .u8 k'.last.n))) := at_other8 C8 (Ne.symm HN.out) _ _ _ _ _ _ _ _
          have HBb : Hid (At ((((((((w8.setCell ⟨B, 0, none⟩ (.int .u8 k'.node)).setCell ⟨B, 1, none⟩ (.int .u64 k'.time)).setCell ⟨B, 2, none⟩ (.int .u64 k'.drift)).setCell ⟨B, 3, none⟩ (.bool rest)).setCell ⟨B, 4, none⟩ (.int .u64 g)).setCell ⟨B, 5, none⟩ (.int .u64 k'.last.p)).setCell ⟨B, 6, none⟩ (.int .u32 k'.last.l)).setCell ⟨B, 7, none⟩ (.int .u8 k'.last.n)) B #[.int .u8 k'.node, .int .u64 k'.time, .int .u64 k'.drift, .bool rest, .int .u64 g, .int .u64 k'.last.p, .int .u32 k'.last.l, .int .u8 k'.last.n] 35) := at_set8 B8 _ _ _ _ _ _ _ _
          clear K8 C8 B8
          go_wp2_with fail
          clear m0 m1 m2 m3 m4 m5 m6 m7 mf
          have Kb := HKb.out
          have Cb := HCb.out
          have Bb := HBb.out
          clear HKb HCb HBb
          generalize (((((((w8.setCell ⟨B, 0, none⟩ (.int .u8 k'.node)).setCell ⟨B, 1, none⟩ (.int .u64 k'.time)).setCell ⟨B, 2, none⟩ (.int .u64 k'.drift)).setCell ⟨B, 3, none⟩ (.bool rest)).setCell ⟨B, 4, none⟩ (.int .u64 g)).setCell ⟨B, 5, none⟩ (.int .u64 k'.last.p)).setCell ⟨B, 6, none⟩ (.int .u32 k'.last.l)).setCell ⟨B, 7, none⟩ (.int .u8 k'.last.n) = wb at *
          obtain ⟨-, m1, -, -, -, m5, m6, m7, -⟩ := at_cells8 Bb
          have hEq := eq_self k'.last
          have kk : Kept wb wb.drew := kept_refl wb
          go_region_held3 (fun w' => w'.cell? ⟨B, 1, none⟩ = some (.int .u64 k'.time) ∧ w'.cell? ⟨B, 5, none⟩ = some (.int .u64 k'.last.p) ∧ w'.cell? ⟨B, 6, none⟩ = some (.int .u32 k'.last.l) ∧ w'.cell? ⟨B, 7, none⟩ = some (.int .u8 k'.last.n)) (first | exact ⟨m1, m5, m6, m7⟩ | (obtain ⟨-, y1, -, -, -, y5, y6, y7, -⟩ := at_cells8 (at_kept Bb kk); exact ⟨y1, y5, y6, y7⟩)) (first
            | (go_at_call 21; refine (time_any c k' _ (clock_kept Cb kk)).mono ?_; rintro e w9 ⟨rfl, rfl⟩)
            | (go_at_call 22; refine (last_any c k' _ (clock_kept Cb kk)).mono ?_; rintro e w9 ⟨rfl, h9⟩; replace kk := kept_trans kk h9; clear h9))
          have K9 := kept_trans Kb kk
          have C9 := clock_kept Cb kk
          have B9 := at_kept Bb kk
          clear m1 m5 m6 m7 kk
          go_wp2_with fail
          go_roundw
          case rel => exact ⟨j + 1, k', by omega, by go_num, K9, HO7, HR7, C9, B9⟩
          case measure => simp [intOf]; omega
    · go_wp2_with fail
      go_ret
      exact ⟨rfl, HK.out⟩
theorem plays_walk (node time drift : Int) (rest : Bool) (oa : Option Addr) (len cap b o : Nat) (K M : Nat → Int) (S : Nat → Stp) (w : World)
    (wn : (Lit.int .u8 node).wf = true) (wt : (Lit.int .u64 time).wf = true) (wd : (Lit.int .i64 drift).wf = true) (hr : Row w oa len cap b o K M S) :
    Calls Try.prog 4 #[.int .u8 node, .int .u64 time, .int .i64 drift, .bool rest, .slice oa len cap] w fun e w' => e = .returned (.bool true) ∧ Kept w w' := by
  by_cases hm : mayNew node time drift
  · exact plays_good node time drift rest oa len cap b o K M S w hm (bounds_u8 wn).1 (bounds_u64 wt).1 hr
  · exact plays_bad node time drift rest oa len cap w hm
end Go.Proofs.Ytlhceekjhhdbeaa
