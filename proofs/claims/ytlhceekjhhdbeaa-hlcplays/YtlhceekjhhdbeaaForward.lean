/- The law that a clock's stamps go forward, walked: it answers true and turns nothing that was there. -/
import Derived.Test.YtlhceekjhhdbeaaLives
import Derived.Test.YtlhceekjhhdbeaaNil
namespace Go.Proofs.Ytlhceekjhhdbeaa
open Go.ChangeShapes Go.WideShapes Go.ChangeAt Go.RowKit
set_option linter.unusedVariables false
set_option linter.unusedSimpArgs false

theorem eq_self (a : Stp) (w : World) : (Op.equalIn 10000 25 (.agg #[.int .u64 a.p, .int .u32 a.l, .int .u8 a.n]) (.agg #[.int .u64 a.p, .int .u32 a.l, .int .u8 a.n])).run Try.prog w = .ok true w := by
  rw [eq_stamp, (same_iff a a).2 rfl]
theorem now_cases (k : Clk) : ((nowK k).2.1 = 0 ∧ (nowK k).2.2.last = (nowK k).1 ∧ Lt k.last (nowK k).1 ∧ (nowK k).1.n = k.node) ∨ ((nowK k).2.1 ≠ 0 ∧ (nowK k).2.2 = k) := by
  unfold nowK
  split
  · exact .inr ⟨by simp, rfl⟩
  split
  · rename_i h1 h2
    exact .inl ⟨rfl, rfl, .inl h2, rfl⟩
  split
  · exact .inr ⟨by simp, rfl⟩
  · exact .inl ⟨rfl, rfl, .inr ⟨rfl, .inl (by simp only; omega)⟩, rfl⟩
theorem see_cases (k : Clk) (s : Stp) : ((seeK k s).1 = 0 ∧ (seeK k s).2.last = if lt k.last s = true then s else k.last) ∨ ((seeK k s).1 ≠ 0 ∧ (seeK k s).2 = k) := by
  unfold seeK
  split
  · exact .inr ⟨by simp, rfl⟩
  · refine .inl ⟨rfl, ?_⟩
    simp only
    split <;> rfl
theorem held3 {X : Nat} {a : Stp} {w0 w1 : World} (A0 : At w0 X #[.int .u64 a.p, .int .u32 a.l, .int .u8 a.n] 25) (k : Kept w0 w1) :
    w1.cell? ⟨X, 0, none⟩ = some (.int .u64 a.p) ∧ w1.cell? ⟨X, 1, none⟩ = some (.int .u32 a.l) ∧ w1.cell? ⟨X, 2, none⟩ = some (.int .u8 a.n) := by
  obtain ⟨c0, c1, c2, -⟩ := at_cells3 (at_kept A0 k)
  exact ⟨c0, c1, c2⟩
theorem at_set3 {w : World} {G T : Nat} {v0 v1 v2 : Value} (h : At w G #[v0, v1, v2] T) (a0 a1 a2 : Value) : At (((w.setCell ⟨G, 0, none⟩ a0).setCell ⟨G, 1, none⟩ a1).setCell ⟨G, 2, none⟩ a2) G #[a0, a1, a2] T :=
  at_set (at_set (at_set h 0 a0) 1 a1) 2 a2
theorem at_other3 {w : World} {G X T : Nat} {cs : Array Value} (h : At w X cs T) (hn : X ≠ G) (a0 a1 a2 : Value) : At (((w.setCell ⟨G, 0, none⟩ a0).setCell ⟨G, 1, none⟩ a1).setCell ⟨G, 2, none⟩ a2) X cs T :=
  at_other (at_other (at_other h hn 0 a0) hn 1 a1) hn 2 a2
theorem kept_set3 {W w : World} (h : Kept W w) {G : Nat} (hG : W.heap.size ≤ G) (a0 a1 a2 : Value) : Kept W (((w.setCell ⟨G, 0, none⟩ a0).setCell ⟨G, 1, none⟩ a1).setCell ⟨G, 2, none⟩ a2) :=
  kept_set (kept_set (kept_set h hG 0 a0) hG 1 a1) hG 2 a2
theorem zero35 (w : World) : (zeroValue 35).run Try.prog w = .ok (.agg #[.int .u8 0, .int .u64 0, .int .u64 0, .bool false, .int .u64 0, .int .u64 0, .int .u32 0, .int .u8 0]) w := by kernel_rfl
theorem refNew_bad (node time drift : Int) (rest : Bool) (h : ¬ mayNew node time drift) (w : World) :
    Calls Try.prog 13 #[.int .u8 node, .int .u64 time, .int .i64 drift, .bool rest] w fun e w' => e = .returned (.tuple #[.agg #[.int .u8 0, .int .u64 0, .int .u64 0, .bool false, .int .u64 0, .int .u64 0, .int .u32 0, .int .u8 0], .int .i64 1]) ∧ Kept w w' := by
  have hz := zero35
  unfold mayNew at h
  by_cases h1 : 63 < node
  · clear h
    go_enter Try.func13, Try.ntmps13
    go_wp2_with fail
    exact bodyPost_ret (v := .tuple #[.agg #[.int .u8 0, .int .u64 0, .int .u64 0, .bool false, .int .u64 0, .int .u64 0, .int .u32 0, .int .u8 0], .int .i64 1]) (by simp [results, Try.results13, go_sem]) rfl ⟨rfl, kept_alloc (kept_refl w) _⟩
  by_cases h2 : 281474976710655 < time
  · clear h
    go_enter Try.func13, Try.ntmps13
    go_wp2_with fail
    exact bodyPost_ret (v := .tuple #[.agg #[.int .u8 0, .int .u64 0, .int .u64 0, .bool false, .int .u64 0, .int .u64 0, .int .u32 0, .int .u8 0], .int .i64 1]) (by simp [results, Try.results13, go_sem]) rfl ⟨rfl, kept_alloc (kept_refl w) _⟩
  by_cases h3 : drift < 0
  · clear h
    go_enter Try.func13, Try.ntmps13
    go_wp2_with fail
    exact bodyPost_ret (v := .tuple #[.agg #[.int .u8 0, .int .u64 0, .int .u64 0, .bool false, .int .u64 0, .int .u64 0, .int .u32 0, .int .u8 0], .int .i64 1]) (by simp [results, Try.results13, go_sem]) rfl ⟨rfl, kept_alloc (kept_refl w) _⟩
  · have h4 : 1000 < drift := by omega
    clear h
    go_enter Try.func13, Try.ntmps13
    go_wp2_with fail
    exact bodyPost_ret (v := .tuple #[.agg #[.int .u8 0, .int .u64 0, .int .u64 0, .bool false, .int .u64 0, .int .u64 0, .int .u32 0, .int .u8 0], .int .i64 1]) (by simp [results, Try.results13, go_sem]) rfl ⟨rfl, kept_alloc (kept_refl w) _⟩
set_option maxHeartbeats 3200000 in
set_option maxRecDepth 100000 in
theorem forward_walk (node time drift : Int) (oa : Option Addr) (len cap b o : Nat) (K M : Nat → Int) (S : Nat → Stp) (w : World)
    (wn : (Lit.int .u8 node).wf = true) (wt : (Lit.int .u64 time).wf = true) (wd : (Lit.int .i64 drift).wf = true) (hr : Row w oa len cap b o K M S) :
    Calls Try.prog 5 #[.int .u8 node, .int .u64 time, .int .i64 drift, .slice oa len cap] w fun e w' => e = .returned (.bool true) ∧ Kept w w' := by
  have hz := zero40
  have hz25 := zero25
  by_cases hm : mayNew node time drift
  · have b1 : 0 ≤ node := (bounds_u8 wn).1
    have b2 : 0 ≤ time := (bounds_u64 wt).1
    have HM : Hid (mayNew node time drift) := hm
    have HR : Hid (Row w oa len cap b o K M S) := hr
    clear hm hr wn wt wd
    go_enter Try.func5, Try.ntmps5
    go_wp2_with fail
    refine (new_good node time drift false HM.out b1 b2 _).mono ?_
    rintro e w1 ⟨rfl, K1, C1⟩
    have HC : Hid (w.heap.size ≤ w.heap.size) := Nat.le_refl _
    generalize hc : w.heap.size = c at *
    have HC : Hid (w.heap.size ≤ c) := Nat.le_of_eq hc
    clear hc
    have K2 := kept_alloc K1 (.cells #[.int .u64 0, .int .u32 0, .int .u8 0] 25)
    have C2 : Clock c (newK node time drift false) (w1.alloc (.cells #[.int .u64 0, .int .u32 0, .int .u8 0] 25)) := at_alloc C1 _
    have A2 := at_new w1 #[.int .u64 0, .int .u32 0, .int .u8 0] 25
    have HG : Hid (w.heap.size ≤ w1.heap.size) := K1.2
    have HN : Hid (w1.heap.size ≠ c) := Ne.symm (Nat.ne_of_lt (at_lt C1))
    clear K1 C1
    go_wp2_with fail
    generalize w1.alloc (.cells #[.int .u64 0, .int .u32 0, .int .u8 0] 25) = w2 at *
    generalize w1.heap.size = G at *
    refine (cut_any oa len cap b o K M S _ (row_kept HR.out K2)).mono ?_
    rintro e w3 ⟨rfl, rfl⟩
    obtain ⟨L, hL⟩ : ∃ L, L = if len ≤ 300 then len else 300 := ⟨_, rfl⟩
    rw [← hL]
    have HL : Hid (Row w oa L cap b o K M S) := row_less HR.out (by rw [hL]; split <;> omega)
    have L3 : L ≤ 300 := by rw [hL]; split <;> omega
    clear hL HR
    have N0 := new_ok false HM.out b1 b2
    go_wp2_with fail
    go_loopw [44] (fun i wr => ∃ (j : Nat) (k : Clk), j ≤ L ∧ i = .int .i64 j ∧ Hid (Kept w wr) ∧ Hid k.ok ∧ Hid (k.node = node) ∧ Hid (Clock c k wr) ∧ Hid (At wr G #[.int .u64 k.last.p, .int .u32 k.last.l, .int .u8 k.last.n] 25)) (fun i _ => L - (intOf i).toNat)
    case atStart => exact ⟨0, _, Nat.zero_le _, rfl, K2, N0, rfl, C2, A2⟩
    case round =>
      obtain ⟨j, k, hj, rfl, HK, HO, HNd, HCl, HGr⟩ := hrel
      clear K2 C2 N0 A2
      by_cases hlt : j < L
      · obtain ⟨rfl, hb⟩ := HL.out.2.2.2.1 (by omega)
        obtain ⟨wk, wm, so, c0, c1, c2, c3, c4⟩ := (row_kept HL.out HK.out).2.2.2.2 j hlt
        have K4 := kept_alloc HK.out (.cells #[.int .i64 (K j), .int .i64 (M j), .int .u64 (S j).p, .int .u32 (S j).l, .int .u8 (S j).n] 40)
        have C4 : Clock c k (wr.alloc (.cells #[.int .i64 (K j), .int .i64 (M j), .int .u64 (S j).p, .int .u32 (S j).l, .int .u8 (S j).n] 40)) := at_alloc HCl.out _
        have G4 := at_alloc HGr.out (.cells #[.int .i64 (K j), .int .i64 (M j), .int .u64 (S j).p, .int .u32 (S j).l, .int .u8 (S j).n] 40)
        have O4 := at_new wr #[.int .i64 (K j), .int .i64 (M j), .int .u64 (S j).p, .int .u32 (S j).l, .int .u8 (S j).n] 40
        clear HK HCl HGr
        go_wp2_with fail
        generalize wr.alloc (.cells #[.int .i64 (K j), .int .i64 (M j), .int .u64 (S j).p, .int .u32 (S j).l, .int .u8 (S j).n] 40) = w4 at *
        generalize wr.heap.size = Y at *
        clear c0 c1 c2 c3 c4
        refine (last_any c k _ C4).mono ?_
        rintro e w5 ⟨rfl, k5⟩
        have K5 := kept_trans K4 k5
        have C5 := clock_kept C4 k5
        have G5 := at_kept G4 k5
        have O5 := at_kept O4 k5
        clear K4 C4 G4 O4 k5
        have K6 := kept_alloc K5 (.cells #[.int .u64 k.last.p, .int .u32 k.last.l, .int .u8 k.last.n] 25)
        have C6 : Clock c k (w5.alloc (.cells #[.int .u64 k.last.p, .int .u32 k.last.l, .int .u8 k.last.n] 25)) := at_alloc C5 _
        have G6 := at_alloc G5 (.cells #[.int .u64 k.last.p, .int .u32 k.last.l, .int .u8 k.last.n] 25)
        have O6 := at_alloc O5 (.cells #[.int .u64 k.last.p, .int .u32 k.last.l, .int .u8 k.last.n] 25)
        have A6 := at_new w5 #[.int .u64 k.last.p, .int .u32 k.last.l, .int .u8 k.last.n] 25
        obtain ⟨o0, o1, o2, o3, o4, -⟩ := at_cells5 O5
        have lo := at_lt O5
        clear K5 C5 G5 O5
        by_cases e0 : K j = 0
        · have f0 : (K j == 0) = true := by simpa using e0
          clear e0
          go_wp2_with fail
          generalize w5.alloc (.cells #[.int .u64 k.last.p, .int .u32 k.last.l, .int .u8 k.last.n] 25) = w6 at *
          generalize w5.heap.size = X at *
          refine (now_any c k HO.out _ C6).mono ?_
          rintro e w7 ⟨rfl, T7, C7⟩
          have K7 : Kept w w7 := kept_turn K6 HC.out T7
          have G7 := at_turn G6 T7 HN.out
          have A7 := at_turn_clock A6 T7 C6 (by omega)
          clear o0 o1 o2 o3 o4 lo K6 C6 G6 O6 A6 T7
          have HO7 : Hid (nowK k).2.2.ok := (now_ok HO.out).1
          have HN7 : Hid ((nowK k).2.2.node = node) := (now_fields k).2.2.1.trans HNd.out
          have HX : Hid (((nowK k).2.1 = 0 ∧ (nowK k).2.2.last = (nowK k).1 ∧ Lt k.last (nowK k).1 ∧ (nowK k).1.n = k.node) ∨ ((nowK k).2.1 ≠ 0 ∧ (nowK k).2.2 = k)) := now_cases k
          clear HO
          generalize nowK k = A at *
          obtain ⟨s, er, k'⟩ := A
          simp only at C7 HO7 HN7 HX ⊢
          have K8 := kept_alloc K7 (.cells #[.int .u64 s.p, .int .u32 s.l, .int .u8 s.n] 25)
          have C8 : Clock c k' (w7.alloc (.cells #[.int .u64 s.p, .int .u32 s.l, .int .u8 s.n] 25)) := at_alloc C7 _
          have G8 := at_alloc G7 (.cells #[.int .u64 s.p, .int .u32 s.l, .int .u8 s.n] 25)
          have A8 := at_alloc A7 (.cells #[.int .u64 s.p, .int .u32 s.l, .int .u8 s.n] 25)
          have B8 := at_new w7 #[.int .u64 s.p, .int .u32 s.l, .int .u8 s.n] 25
          have HGB : Hid (w7.heap.size ≠ G) := Ne.symm (Nat.ne_of_lt (at_lt G7))
          clear K7 C7 G7 A7
          go_wp2_with fail
          generalize w7.alloc (.cells #[.int .u64 s.p, .int .u32 s.l, .int .u8 s.n] 25) = w8 at *
          generalize w7.heap.size = Z at *
          rcases HX.out with ⟨hE, hL', hLt, hNn⟩ | ⟨hE, hk⟩
          · subst hE
            have HLt : lt k.last s = true := (lt_iff _ _).2 hLt
            have HSn : Hid (s.n = node) := hNn.trans HNd.out
            have HLs : Hid (k'.last = s) := hL'
            clear hLt hNn hL' HX HNd
            have hsn : (s.n != node) = false := by have := HSn.out; simpa using this
            clear HSn
            obtain ⟨x0, x1, x2, -⟩ := at_cells3 B8
            obtain ⟨g0, g1, g2, -⟩ := at_cells3 G8
            have k8 : Kept w8 w8.drew := kept_refl w8
            refine wp_region_noPanic ?_
            refine wp_region_held_drew (S := (fun w' => w'.cell? ⟨Z, 0, none⟩ = some (.int .u64 s.p) ∧ w'.cell? ⟨Z, 1, none⟩ = some (.int .u32 s.l) ∧ w'.cell? ⟨Z, 2, none⟩ = some (.int .u8 s.n) ∧ w'.cell? ⟨G, 0, none⟩ = some (.int .u64 k.last.p) ∧ w'.cell? ⟨G, 1, none⟩ = some (.int .u32 k.last.l) ∧ w'.cell? ⟨G, 2, none⟩ = some (.int .u8 k.last.n))) (by kernel_rfl) (held6 B8 G8 (by assumption)) (fun hHeld => ?_)
            refine wpAnyH_take (i := 0) (v := .int .i64 0) rfl (by kernel_rfl) (by kernel_rfl) (by kernel_rfl) (fun _ _ _ h => h) (Or.inl ⟨by rfl, fun w hSw => by (try dsimp only at hSw); go_simp⟩) (by assumption) ?_
            try simp only [List.getElem_toArray, List.getElem_cons_zero, List.getElem_cons_succ, Act.put, List.setIfInBounds_toArray, List.set_cons_zero, List.set_cons_succ]
            refine wpAnyH_take (i := 1) (v := .bool true) rfl (by kernel_rfl) (by kernel_rfl) (by kernel_rfl) (fun _ _ _ h => h) (Or.inl ⟨by rfl, fun w hSw => by (try dsimp only at hSw); go_simp⟩) (by assumption) ?_
            try simp only [List.getElem_toArray, List.getElem_cons_zero, List.getElem_cons_succ, Act.put, List.setIfInBounds_toArray, List.set_cons_zero, List.set_cons_succ]
            refine wpAnyH_take (i := 2) (v := .bool true) rfl (by kernel_rfl) (by kernel_rfl) (by kernel_rfl) (fun _ _ _ h => h) (Or.inl ⟨by rfl, fun w hSw => by (try dsimp only at hSw); go_simp⟩) (by assumption) ?_
            try simp only [List.getElem_toArray, List.getElem_cons_zero, List.getElem_cons_succ, Act.put, List.setIfInBounds_toArray, List.set_cons_zero, List.set_cons_succ]
            refine wpAnyH_take (i := 3) (v := .agg #[.int .u64 k.last.p, .int .u32 k.last.l, .int .u8 k.last.n]) rfl (by kernel_rfl) (by kernel_rfl) (by kernel_rfl) (fun _ _ _ h => h) (Or.inl ⟨by rfl, fun w hSw => by (try dsimp only at hSw); go_simp⟩) (by assumption) ?_
            try simp only [List.getElem_toArray, List.getElem_cons_zero, List.getElem_cons_succ, Act.put, List.setIfInBounds_toArray, List.set_cons_zero, List.set_cons_succ]
            refine wpAnyH_take (i := 4) (v := .agg #[.int .u64 s.p, .int .u32 s.l, .int .u8 s.n]) rfl (by kernel_rfl) (by kernel_rfl) (by kernel_rfl) (fun _ _ _ h => h) (Or.inl ⟨by rfl, fun w hSw => by (try dsimp only at hSw); go_simp⟩) (by assumption) ?_
            try simp only [List.getElem_toArray, List.getElem_cons_zero, List.getElem_cons_succ, Act.put, List.setIfInBounds_toArray, List.set_cons_zero, List.set_cons_succ]
            refine wpAnyH_ready (rs := [5]) (by kernel_rfl) (by simp) ?_
            refine AllReadyH.cons (i := 5) rfl (fun K hK => ?_) AllReadyH.nil
            go_simp
            refine (less_any k.last s _).mono ?_
            rintro e w9 ⟨rfl, h9⟩
            replace k8 := kept_trans k8 h9
            clear h9
            rw [HLt]
            show K _ _
            refine hK.out _ _ (held6 B8 G8 (by assumption)) (fun hHeld => ?_)
            clear hK K
            try simp only [List.getElem_toArray, List.getElem_cons_zero, List.getElem_cons_succ, Act.put, List.setIfInBounds_toArray, List.set_cons_zero, List.set_cons_succ]
            refine wpAnyH_take (i := 6) (v := .bool false) rfl (by kernel_rfl) (by kernel_rfl) (by kernel_rfl) (fun _ _ _ h => h) (Or.inl ⟨by rfl, fun w hSw => by (try dsimp only at hSw); go_simp⟩) (by assumption) ?_
            try simp only [List.getElem_toArray, List.getElem_cons_zero, List.getElem_cons_succ, Act.put, List.setIfInBounds_toArray, List.set_cons_zero, List.set_cons_succ]
            refine wpAnyH_take (i := 7) (v := .bool false) rfl (by kernel_rfl) (by kernel_rfl) (by kernel_rfl) (fun _ _ _ h => h) (Or.inl ⟨by rfl, fun w hSw => by (try dsimp only at hSw); go_simp⟩) (by assumption) ?_
            try simp only [List.getElem_toArray, List.getElem_cons_zero, List.getElem_cons_succ, Act.put, List.setIfInBounds_toArray, List.set_cons_zero, List.set_cons_succ]
            refine wpAnyH_take (i := 8) (v := .bool false) rfl (by kernel_rfl) (by kernel_rfl) (by kernel_rfl) (fun _ _ _ h => h) (Or.inl ⟨by rfl, fun w hSw => by (try dsimp only at hSw); go_simp⟩) (by assumption) ?_
            try simp only [List.getElem_toArray, List.getElem_cons_zero, List.getElem_cons_succ, Act.put, List.setIfInBounds_toArray, List.set_cons_zero, List.set_cons_succ]
            refine wpAnyH_take (i := 9) (v := .int .i64 0) rfl (by kernel_rfl) (by kernel_rfl) (by kernel_rfl) (fun _ _ _ h => h) (Or.inl ⟨by rfl, fun w hSw => by (try dsimp only at hSw); go_simp⟩) (by assumption) ?_
            try simp only [List.getElem_toArray, List.getElem_cons_zero, List.getElem_cons_succ, Act.put, List.setIfInBounds_toArray, List.set_cons_zero, List.set_cons_succ]
            refine wpAnyH_take (i := 10) (v := .bool true) rfl (by kernel_rfl) (by kernel_rfl) (by kernel_rfl) (fun _ _ _ h => h) (Or.inl ⟨by rfl, fun w hSw => by (try dsimp only at hSw); go_simp⟩) (by assumption) ?_
            try simp only [List.getElem_toArray, List.getElem_cons_zero, List.getElem_cons_succ, Act.put, List.setIfInBounds_toArray, List.set_cons_zero, List.set_cons_succ]
            refine wpAnyH_take (i := 11) (v := .bool true) rfl (by kernel_rfl) (by kernel_rfl) (by kernel_rfl) (fun _ _ _ h => h) (Or.inl ⟨by rfl, fun w hSw => by (try dsimp only at hSw); go_simp⟩) (by assumption) ?_
            try simp only [List.getElem_toArray, List.getElem_cons_zero, List.getElem_cons_succ, Act.put, List.setIfInBounds_toArray, List.set_cons_zero, List.set_cons_succ]
            refine wpAnyH_take (i := 12) (v := .pointer (some ⟨Z, 2, none⟩)) rfl (by kernel_rfl) (by kernel_rfl) (by kernel_rfl) (fun _ _ _ h => h) (Or.inl ⟨by rfl, fun w hSw => by (try dsimp only at hSw); go_simp⟩) (by assumption) ?_
            try simp only [List.getElem_toArray, List.getElem_cons_zero, List.getElem_cons_succ, Act.put, List.setIfInBounds_toArray, List.set_cons_zero, List.set_cons_succ]
            refine wpAnyH_take (i := 13) (v := .int .u8 s.n) rfl (by kernel_rfl) (by kernel_rfl) (by kernel_rfl) (fun _ _ _ h => h) (Or.inl ⟨by rfl, fun w hSw => by (try dsimp only at hSw); go_simp⟩) (by assumption) ?_
            try simp only [List.getElem_toArray, List.getElem_cons_zero, List.getElem_cons_succ, Act.put, List.setIfInBounds_toArray, List.set_cons_zero, List.set_cons_succ]
            refine wpAnyH_take (i := 14) (v := .int .u8 node) rfl (by kernel_rfl) (by kernel_rfl) (by kernel_rfl) (fun _ _ _ h => h) (Or.inl ⟨by rfl, fun w hSw => by (try dsimp only at hSw); go_simp⟩) (by assumption) ?_
            try simp only [List.getElem_toArray, List.getElem_cons_zero, List.getElem_cons_succ, Act.put, List.setIfInBounds_toArray, List.set_cons_zero, List.set_cons_succ]
            refine wpAnyH_take (i := 15) (v := .bool false) rfl (by kernel_rfl) (by kernel_rfl) (by kernel_rfl) (fun _ _ _ h => h) (Or.inl ⟨by rfl, fun w hSw => by (try dsimp only at hSw); go_simp⟩) (by assumption) ?_
            try simp only [List.getElem_toArray, List.getElem_cons_zero, List.getElem_cons_succ, Act.put, List.setIfInBounds_toArray, List.set_cons_zero, List.set_cons_succ]
            refine wpAnyH_take (i := 16) (v := .bool false) rfl (by kernel_rfl) (by kernel_rfl) (by kernel_rfl) (fun _ _ _ h => h) (Or.inl ⟨by rfl, fun w hSw => by (try dsimp only at hSw); go_simp⟩) (by assumption) ?_
            try simp only [List.getElem_toArray, List.getElem_cons_zero, List.getElem_cons_succ, Act.put, List.setIfInBounds_toArray, List.set_cons_zero, List.set_cons_succ]
            refine wpAnyH_take (i := 17) (v := .bool false) rfl (by kernel_rfl) (by kernel_rfl) (by kernel_rfl) (fun _ _ _ h => h) (Or.inl ⟨by rfl, fun w hSw => by (try dsimp only at hSw); go_simp⟩) (by assumption) ?_
            try simp only [List.getElem_toArray, List.getElem_cons_zero, List.getElem_cons_succ, Act.put, List.setIfInBounds_toArray, List.set_cons_zero, List.set_cons_succ]
            refine wpAnyH_take (i := 18) (v := .bool false) rfl (by kernel_rfl) (by kernel_rfl) (by kernel_rfl) (fun _ _ _ h => h) (Or.inl ⟨by rfl, fun w hSw => by (try dsimp only at hSw); go_simp⟩) (by assumption) ?_
            try simp only [List.getElem_toArray, List.getElem_cons_zero, List.getElem_cons_succ, Act.put, List.setIfInBounds_toArray, List.set_cons_zero, List.set_cons_succ]
            refine wpAnyH_take (i := 19) (v := .int .i64 0) rfl (by kernel_rfl) (by kernel_rfl) (by kernel_rfl) (fun _ _ _ h => h) (Or.inl ⟨by rfl, fun w hSw => by (try dsimp only at hSw); go_simp⟩) (by assumption) ?_
            try simp only [List.getElem_toArray, List.getElem_cons_zero, List.getElem_cons_succ, Act.put, List.setIfInBounds_toArray, List.set_cons_zero, List.set_cons_succ]
            refine wpAnyH_take (i := 20) (v := .bool false) rfl (by kernel_rfl) (by kernel_rfl) (by kernel_rfl) (fun _ _ _ h => h) (Or.inl ⟨by rfl, fun w hSw => by (try dsimp only at hSw); go_simp⟩) (by assumption) ?_
            try simp only [List.getElem_toArray, List.getElem_cons_zero, List.getElem_cons_succ, Act.put, List.setIfInBounds_toArray, List.set_cons_zero, List.set_cons_succ]
            refine wpAnyH_take (i := 21) (v := .bool false) rfl (by kernel_rfl) (by kernel_rfl) (by kernel_rfl) (fun _ _ _ h => h) (Or.inl ⟨by rfl, fun w hSw => by (try dsimp only at hSw); go_simp⟩) (by assumption) ?_
            try simp only [List.getElem_toArray, List.getElem_cons_zero, List.getElem_cons_succ, Act.put, List.setIfInBounds_toArray, List.set_cons_zero, List.set_cons_succ]
            refine wpAnyH_take (i := 22) (v := undef) rfl (by kernel_rfl) (by kernel_rfl) (by kernel_rfl) (fun _ _ _ h => h) (Or.inr ⟨by rfl, rfl⟩) (by assumption) ?_
            try simp only [List.getElem_toArray, List.getElem_cons_zero, List.getElem_cons_succ, Act.put, List.setIfInBounds_toArray, List.set_cons_zero, List.set_cons_succ]
            refine wpAnyH_take (i := 23) (v := undef) rfl (by kernel_rfl) (by kernel_rfl) (by kernel_rfl) (fun _ _ _ h => h) (Or.inr ⟨by rfl, rfl⟩) (by assumption) ?_
            try simp only [List.getElem_toArray, List.getElem_cons_zero, List.getElem_cons_succ, Act.put, List.setIfInBounds_toArray, List.set_cons_zero, List.set_cons_succ]
            refine wpAnyH_take (i := 24) (v := undef) rfl (by kernel_rfl) (by kernel_rfl) (by kernel_rfl) (fun _ _ _ h => h) (Or.inr ⟨by rfl, rfl⟩) (by assumption) ?_
            try simp only [List.getElem_toArray, List.getElem_cons_zero, List.getElem_cons_succ, Act.put, List.setIfInBounds_toArray, List.set_cons_zero, List.set_cons_succ]
            refine wpAnyH_take (i := 25) (v := undef) rfl (by kernel_rfl) (by kernel_rfl) (by kernel_rfl) (fun _ _ _ h => h) (Or.inr ⟨by rfl, rfl⟩) (by assumption) ?_
            try simp only [List.getElem_toArray, List.getElem_cons_zero, List.getElem_cons_succ, Act.put, List.setIfInBounds_toArray, List.set_cons_zero, List.set_cons_succ]
            refine wpAnyH_take (i := 26) (v := .bool false) rfl (by kernel_rfl) (by kernel_rfl) (by kernel_rfl) (fun _ _ _ h => h) (Or.inl ⟨by rfl, fun w hSw => by (try dsimp only at hSw); go_simp⟩) (by assumption) ?_
            try simp only [List.getElem_toArray, List.getElem_cons_zero, List.getElem_cons_succ, Act.put, List.setIfInBounds_toArray, List.set_cons_zero, List.set_cons_succ]
            refine wpAnyH_take (i := 27) (v := .bool false) rfl (by kernel_rfl) (by kernel_rfl) (by kernel_rfl) (fun _ _ _ h => h) (Or.inl ⟨by rfl, fun w hSw => by (try dsimp only at hSw); go_simp⟩) (by assumption) ?_
            try simp only [List.getElem_toArray, List.getElem_cons_zero, List.getElem_cons_succ, Act.put, List.setIfInBounds_toArray, List.set_cons_zero, List.set_cons_succ]
            refine wpAnyH_done (by kernel_rfl) ?_ _
            refine NoPanic.normal ?_
            have Ka := kept_trans K8 k8
            have Ca := clock_kept C8 k8
            have Ga := at_kept G8 k8
            have Ba := at_kept B8 k8
            clear K8 C8 G8 B8 A8 k8 x0 x1 x2 g0 g1 g2
            obtain ⟨x0, x1, x2, -⟩ := at_cells3 Ba
            obtain ⟨g0, g1, g2, gf⟩ := at_cells3 Ga
            have Kb := kept_set3 Ka HG.out (.int .u64 s.p) (.int .u32 s.l) (.int .u8 s.n)
            have Cb : Clock c k' (((w9.setCell ⟨G, 0, none⟩ (.int .u64 s.p)).setCell ⟨G, 1, none⟩ (.int .u32 s.l)).setCell ⟨G, 2, none⟩ (.int .u8 s.n)) := at_other3 Ca (Ne.symm HN.out) _ _ _
            have Gb := at_set3 Ga (.int .u64 s.p) (.int .u32 s.l) (.int .u8 s.n)
            have HKb : Hid (Kept w (((w9.setCell ⟨G, 0, none⟩ (.int .u64 s.p)).setCell ⟨G, 1, none⟩ (.int .u32 s.l)).setCell ⟨G, 2, none⟩ (.int .u8 s.n))) := Kb
            clear Kb
            go_wp2_with fail
            have Kb := HKb.out
            clear HKb Ka Ca Ga Ba x0 x1 x2 g0 g1 g2 gf
            generalize ((w9.setCell ⟨G, 0, none⟩ (.int .u64 s.p)).setCell ⟨G, 1, none⟩ (.int .u32 s.l)).setCell ⟨G, 2, none⟩ (.int .u8 s.n) = wb at *
            rw [← HLs.out] at Gb
            clear HLs HLt hsn
            obtain ⟨g0, g1, g2, -⟩ := at_cells3 Gb
            have hEq := eq_self k'.last
            have kk : Kept wb wb.drew := kept_refl wb
            go_region_held3 (fun w' => w'.cell? ⟨G, 0, none⟩ = some (.int .u64 k'.last.p) ∧ w'.cell? ⟨G, 1, none⟩ = some (.int .u32 k'.last.l) ∧ w'.cell? ⟨G, 2, none⟩ = some (.int .u8 k'.last.n)) (first | exact ⟨g0, g1, g2⟩ | (obtain ⟨y0, y1, y2, -⟩ := at_cells3 (at_kept Gb kk); exact ⟨y0, y1, y2⟩)) (first
              | (go_at_call 22; refine (last_any c k' _ (clock_kept Cb kk)).mono ?_; rintro e w9 ⟨rfl, h9⟩; replace kk := kept_trans kk h9; clear h9))
            have K9 := kept_trans Kb kk
            have C9 := clock_kept Cb kk
            have G9 := at_kept Gb kk
            clear g0 g1 g2 kk
            go_wp2_with fail
            go_roundw
            case rel => exact ⟨j + 1, k', by omega, by go_num, K9, HO7, HN7, C9, G9⟩
            case measure => simp [intOf]; omega
          · subst hk
            have her : (er == 0) = false := by simpa using hE
            have her' : (er != 0) = true := by simpa using hE
            clear hE HX
            have hEq := eq_self k'.last
            obtain ⟨x0, x1, x2, -⟩ := at_cells3 A8
            have k8 : Kept w8 w8.drew := kept_refl w8
            refine wp_region_noPanic ?_
            refine wp_region_held_drew (S := (fun w' => w'.cell? ⟨X, 0, none⟩ = some (.int .u64 k'.last.p) ∧ w'.cell? ⟨X, 1, none⟩ = some (.int .u32 k'.last.l) ∧ w'.cell? ⟨X, 2, none⟩ = some (.int .u8 k'.last.n))) (by kernel_rfl) (held3 A8 (by assumption)) (fun hHeld => ?_)
            refine wpAnyH_take (i := 0) (v := .int .i64 er) rfl (by kernel_rfl) (by kernel_rfl) (by kernel_rfl) (fun _ _ _ h => h) (Or.inl ⟨by rfl, fun w hSw => by (try dsimp only at hSw); go_simp⟩) (by assumption) ?_
            try simp only [List.getElem_toArray, List.getElem_cons_zero, List.getElem_cons_succ, Act.put, List.setIfInBounds_toArray, List.set_cons_zero, List.set_cons_succ]
            refine wpAnyH_take (i := 1) (v := .bool false) rfl (by kernel_rfl) (by kernel_rfl) (by kernel_rfl) (fun _ _ _ h => h) (Or.inl ⟨by rfl, fun w hSw => by (try dsimp only at hSw); go_simp⟩) (by assumption) ?_
            try simp only [List.getElem_toArray, List.getElem_cons_zero, List.getElem_cons_succ, Act.put, List.setIfInBounds_toArray, List.set_cons_zero, List.set_cons_succ]
            refine wpAnyH_take (i := 2) (v := .bool false) rfl (by kernel_rfl) (by kernel_rfl) (by kernel_rfl) (fun _ _ _ h => h) (Or.inl ⟨by rfl, fun w hSw => by (try dsimp only at hSw); go_simp⟩) (by assumption) ?_
            try simp only [List.getElem_toArray, List.getElem_cons_zero, List.getElem_cons_succ, Act.put, List.setIfInBounds_toArray, List.set_cons_zero, List.set_cons_succ]
            refine wpAnyH_take (i := 3) (v := undef) rfl (by kernel_rfl) (by kernel_rfl) (by kernel_rfl) (fun _ _ _ h => h) (Or.inr ⟨by rfl, rfl⟩) (by assumption) ?_
            try simp only [List.getElem_toArray, List.getElem_cons_zero, List.getElem_cons_succ, Act.put, List.setIfInBounds_toArray, List.set_cons_zero, List.set_cons_succ]
            refine wpAnyH_take (i := 4) (v := undef) rfl (by kernel_rfl) (by kernel_rfl) (by kernel_rfl) (fun _ _ _ h => h) (Or.inr ⟨by rfl, rfl⟩) (by assumption) ?_
            try simp only [List.getElem_toArray, List.getElem_cons_zero, List.getElem_cons_succ, Act.put, List.setIfInBounds_toArray, List.set_cons_zero, List.set_cons_succ]
            refine wpAnyH_take (i := 5) (v := undef) rfl (by kernel_rfl) (by kernel_rfl) (by kernel_rfl) (fun _ _ _ h => h) (Or.inr ⟨by rfl, rfl⟩) (by assumption) ?_
            try simp only [List.getElem_toArray, List.getElem_cons_zero, List.getElem_cons_succ, Act.put, List.setIfInBounds_toArray, List.set_cons_zero, List.set_cons_succ]
            refine wpAnyH_take (i := 6) (v := undef) rfl (by kernel_rfl) (by kernel_rfl) (by kernel_rfl) (fun _ _ _ h => h) (Or.inr ⟨by rfl, rfl⟩) (by assumption) ?_
            try simp only [List.getElem_toArray, List.getElem_cons_zero, List.getElem_cons_succ, Act.put, List.setIfInBounds_toArray, List.set_cons_zero, List.set_cons_succ]
            refine wpAnyH_take (i := 7) (v := .bool false) rfl (by kernel_rfl) (by kernel_rfl) (by kernel_rfl) (fun _ _ _ h => h) (Or.inl ⟨by rfl, fun w hSw => by (try dsimp only at hSw); go_simp⟩) (by assumption) ?_
            try simp only [List.getElem_toArray, List.getElem_cons_zero, List.getElem_cons_succ, Act.put, List.setIfInBounds_toArray, List.set_cons_zero, List.set_cons_succ]
            refine wpAnyH_take (i := 8) (v := .bool false) rfl (by kernel_rfl) (by kernel_rfl) (by kernel_rfl) (fun _ _ _ h => h) (Or.inl ⟨by rfl, fun w hSw => by (try dsimp only at hSw); go_simp⟩) (by assumption) ?_
            try simp only [List.getElem_toArray, List.getElem_cons_zero, List.getElem_cons_succ, Act.put, List.setIfInBounds_toArray, List.set_cons_zero, List.set_cons_succ]
            refine wpAnyH_take (i := 9) (v := .int .i64 er) rfl (by kernel_rfl) (by kernel_rfl) (by kernel_rfl) (fun _ _ _ h => h) (Or.inl ⟨by rfl, fun w hSw => by (try dsimp only at hSw); go_simp⟩) (by assumption) ?_
            try simp only [List.getElem_toArray, List.getElem_cons_zero, List.getElem_cons_succ, Act.put, List.setIfInBounds_toArray, List.set_cons_zero, List.set_cons_succ]
            refine wpAnyH_take (i := 10) (v := .bool false) rfl (by kernel_rfl) (by kernel_rfl) (by kernel_rfl) (fun _ _ _ h => h) (Or.inl ⟨by rfl, fun w hSw => by (try dsimp only at hSw); go_simp⟩) (by assumption) ?_
            try simp only [List.getElem_toArray, List.getElem_cons_zero, List.getElem_cons_succ, Act.put, List.setIfInBounds_toArray, List.set_cons_zero, List.set_cons_succ]
            refine wpAnyH_take (i := 11) (v := .bool false) rfl (by kernel_rfl) (by kernel_rfl) (by kernel_rfl) (fun _ _ _ h => h) (Or.inl ⟨by rfl, fun w hSw => by (try dsimp only at hSw); go_simp⟩) (by assumption) ?_
            try simp only [List.getElem_toArray, List.getElem_cons_zero, List.getElem_cons_succ, Act.put, List.setIfInBounds_toArray, List.set_cons_zero, List.set_cons_succ]
            refine wpAnyH_take (i := 12) (v := undef) rfl (by kernel_rfl) (by kernel_rfl) (by kernel_rfl) (fun _ _ _ h => h) (Or.inr ⟨by rfl, rfl⟩) (by assumption) ?_
            try simp only [List.getElem_toArray, List.getElem_cons_zero, List.getElem_cons_succ, Act.put, List.setIfInBounds_toArray, List.set_cons_zero, List.set_cons_succ]
            refine wpAnyH_take (i := 13) (v := undef) rfl (by kernel_rfl) (by kernel_rfl) (by kernel_rfl) (fun _ _ _ h => h) (Or.inr ⟨by rfl, rfl⟩) (by assumption) ?_
            try simp only [List.getElem_toArray, List.getElem_cons_zero, List.getElem_cons_succ, Act.put, List.setIfInBounds_toArray, List.set_cons_zero, List.set_cons_succ]
            refine wpAnyH_take (i := 14) (v := undef) rfl (by kernel_rfl) (by kernel_rfl) (by kernel_rfl) (fun _ _ _ h => h) (Or.inr ⟨by rfl, rfl⟩) (by assumption) ?_
            try simp only [List.getElem_toArray, List.getElem_cons_zero, List.getElem_cons_succ, Act.put, List.setIfInBounds_toArray, List.set_cons_zero, List.set_cons_succ]
            refine wpAnyH_take (i := 15) (v := undef) rfl (by kernel_rfl) (by kernel_rfl) (by kernel_rfl) (fun _ _ _ h => h) (Or.inr ⟨by rfl, rfl⟩) (by assumption) ?_
            try simp only [List.getElem_toArray, List.getElem_cons_zero, List.getElem_cons_succ, Act.put, List.setIfInBounds_toArray, List.set_cons_zero, List.set_cons_succ]
            refine wpAnyH_take (i := 16) (v := .bool false) rfl (by kernel_rfl) (by kernel_rfl) (by kernel_rfl) (fun _ _ _ h => h) (Or.inl ⟨by rfl, fun w hSw => by (try dsimp only at hSw); go_simp⟩) (by assumption) ?_
            try simp only [List.getElem_toArray, List.getElem_cons_zero, List.getElem_cons_succ, Act.put, List.setIfInBounds_toArray, List.set_cons_zero, List.set_cons_succ]
            refine wpAnyH_take (i := 17) (v := .bool false) rfl (by kernel_rfl) (by kernel_rfl) (by kernel_rfl) (fun _ _ _ h => h) (Or.inl ⟨by rfl, fun w hSw => by (try dsimp only at hSw); go_simp⟩) (by assumption) ?_
            try simp only [List.getElem_toArray, List.getElem_cons_zero, List.getElem_cons_succ, Act.put, List.setIfInBounds_toArray, List.set_cons_zero, List.set_cons_succ]
            refine wpAnyH_take (i := 18) (v := .bool false) rfl (by kernel_rfl) (by kernel_rfl) (by kernel_rfl) (fun _ _ _ h => h) (Or.inl ⟨by rfl, fun w hSw => by (try dsimp only at hSw); go_simp⟩) (by assumption) ?_
            try simp only [List.getElem_toArray, List.getElem_cons_zero, List.getElem_cons_succ, Act.put, List.setIfInBounds_toArray, List.set_cons_zero, List.set_cons_succ]
            refine wpAnyH_take (i := 19) (v := .int .i64 er) rfl (by kernel_rfl) (by kernel_rfl) (by kernel_rfl) (fun _ _ _ h => h) (Or.inl ⟨by rfl, fun w hSw => by (try dsimp only at hSw); go_simp⟩) (by assumption) ?_
            try simp only [List.getElem_toArray, List.getElem_cons_zero, List.getElem_cons_succ, Act.put, List.setIfInBounds_toArray, List.set_cons_zero, List.set_cons_succ]
            refine wpAnyH_take (i := 20) (v := .bool true) rfl (by kernel_rfl) (by kernel_rfl) (by kernel_rfl) (fun _ _ _ h => h) (Or.inl ⟨by rfl, fun w hSw => by (try dsimp only at hSw); go_simp⟩) (by assumption) ?_
            try simp only [List.getElem_toArray, List.getElem_cons_zero, List.getElem_cons_succ, Act.put, List.setIfInBounds_toArray, List.set_cons_zero, List.set_cons_succ]
            refine wpAnyH_take (i := 21) (v := .bool true) rfl (by kernel_rfl) (by kernel_rfl) (by kernel_rfl) (fun _ _ _ h => h) (Or.inl ⟨by rfl, fun w hSw => by (try dsimp only at hSw); go_simp⟩) (by assumption) ?_
            try simp only [List.getElem_toArray, List.getElem_cons_zero, List.getElem_cons_succ, Act.put, List.setIfInBounds_toArray, List.set_cons_zero, List.set_cons_succ]
            refine wpAnyH_take (i := 22) (v := .pointer (some ⟨c, 0, none⟩)) rfl (by kernel_rfl) (by kernel_rfl) (by kernel_rfl) (fun _ _ _ h => h) (Or.inl ⟨by rfl, fun w hSw => by (try dsimp only at hSw); go_simp⟩) (by assumption) ?_
            try simp only [List.getElem_toArray, List.getElem_cons_zero, List.getElem_cons_succ, Act.put, List.setIfInBounds_toArray, List.set_cons_zero, List.set_cons_succ]
            refine wpAnyH_take (i := 24) (v := .agg #[.int .u64 k'.last.p, .int .u32 k'.last.l, .int .u8 k'.last.n]) rfl (by kernel_rfl) (by kernel_rfl) (by kernel_rfl) (fun _ _ _ h => h) (Or.inl ⟨by rfl, fun w hSw => by (try dsimp only at hSw); go_simp⟩) (by assumption) ?_
            try simp only [List.getElem_toArray, List.getElem_cons_zero, List.getElem_cons_succ, Act.put, List.setIfInBounds_toArray, List.set_cons_zero, List.set_cons_succ]
            refine wpAnyH_ready (rs := [23]) (by kernel_rfl) (by simp) ?_
            refine AllReadyH.cons (i := 23) rfl (fun K hK => ?_) AllReadyH.nil
            go_simp
            refine (last_any c k' _ (clock_kept C8 k8)).mono ?_
            rintro e wa ⟨rfl, h9⟩
            replace k8 := kept_trans k8 h9
            clear h9
            show K _ _
            refine hK.out _ _ (held3 A8 (by assumption)) (fun hHeld => ?_)
            clear hK K
            try simp only [List.getElem_toArray, List.getElem_cons_zero, List.getElem_cons_succ, Act.put, List.setIfInBounds_toArray, List.set_cons_zero, List.set_cons_succ]
            refine wpAnyH_take (i := 25) (v := .bool false) rfl (by kernel_rfl) (by kernel_rfl) (by kernel_rfl) (fun _ _ _ h => h) (Or.inl ⟨by rfl, fun w hSw => by (try dsimp only at hSw); go_simp⟩) (by assumption) ?_
            try simp only [List.getElem_toArray, List.getElem_cons_zero, List.getElem_cons_succ, Act.put, List.setIfInBounds_toArray, List.set_cons_zero, List.set_cons_succ]
            refine wpAnyH_take (i := 26) (v := .bool false) rfl (by kernel_rfl) (by kernel_rfl) (by kernel_rfl) (fun _ _ _ h => h) (Or.inl ⟨by rfl, fun w hSw => by (try dsimp only at hSw); go_simp⟩) (by assumption) ?_
            try simp only [List.getElem_toArray, List.getElem_cons_zero, List.getElem_cons_succ, Act.put, List.setIfInBounds_toArray, List.set_cons_zero, List.set_cons_succ]
            refine wpAnyH_take (i := 27) (v := .bool false) rfl (by kernel_rfl) (by kernel_rfl) (by kernel_rfl) (fun _ _ _ h => h) (Or.inl ⟨by rfl, fun w hSw => by (try dsimp only at hSw); go_simp⟩) (by assumption) ?_
            try simp only [List.getElem_toArray, List.getElem_cons_zero, List.getElem_cons_succ, Act.put, List.setIfInBounds_toArray, List.set_cons_zero, List.set_cons_succ]
            refine wpAnyH_done (by kernel_rfl) ?_ _
            refine NoPanic.normal ?_
            have Kb := kept_trans K8 k8
            have Cb := clock_kept C8 k8
            have Gb := at_kept G8 k8
            clear K8 C8 G8 B8 A8 k8 x0 x1 x2
            go_wp2_with fail
            clear her her' hEq
            obtain ⟨g0, g1, g2, -⟩ := at_cells3 Gb
            have hEq := eq_self k'.last
            have kk : Kept wa wa.drew := kept_refl wa
            go_region_held3 (fun w' => w'.cell? ⟨G, 0, none⟩ = some (.int .u64 k'.last.p) ∧ w'.cell? ⟨G, 1, none⟩ = some (.int .u32 k'.last.l) ∧ w'.cell? ⟨G, 2, none⟩ = some (.int .u8 k'.last.n)) (first | exact ⟨g0, g1, g2⟩ | (obtain ⟨y0, y1, y2, -⟩ := at_cells3 (at_kept Gb kk); exact ⟨y0, y1, y2⟩)) (first
              | (go_at_call 22; refine (last_any c k' _ (clock_kept Cb kk)).mono ?_; rintro e w9 ⟨rfl, h9⟩; replace kk := kept_trans kk h9; clear h9))
            have K9 := kept_trans Kb kk
            have C9 := clock_kept Cb kk
            have G9 := at_kept Gb kk
            clear g0 g1 g2 kk
            go_wp2_with fail
            go_roundw
            case rel => exact ⟨j + 1, k', by omega, by go_num, K9, HO7, HN7, C9, G9⟩
            case measure => simp [intOf]; omega
        · have f0 : (K j == 0) = false := by simpa using e0
          clear e0
          by_cases e1 : K j = 1
          · have f1 : (K j == 1) = true := by simpa using e1
            clear e1
            go_wp2_with fail
            generalize w5.alloc (.cells #[.int .u64 k.last.p, .int .u32 k.last.l, .int .u8 k.last.n] 25) = w6 at *
            generalize w5.heap.size = X at *
            refine (see_any c k HO.out (S j) _ C6).mono ?_
            rintro e w7 ⟨rfl, T7, C7⟩
            have K7 : Kept w w7 := kept_turn K6 HC.out T7
            have G7 := at_turn G6 T7 HN.out
            have A7 := at_turn_clock A6 T7 C6 (by omega)
            have O7 := at_turn_clock O6 T7 C6 (by omega)
            clear o0 o1 o2 o3 o4 lo K6 C6 G6 O6 A6 T7
            have HO7 : Hid (seeK k (S j)).2.ok := see_ok HO.out so
            have HN7 : Hid ((seeK k (S j)).2.node = node) := (see_fields k (S j)).2.2.1.trans HNd.out
            have HX : Hid (((seeK k (S j)).1 = 0 ∧ (seeK k (S j)).2.last = if lt k.last (S j) = true then (S j) else k.last) ∨ ((seeK k (S j)).1 ≠ 0 ∧ (seeK k (S j)).2 = k)) := see_cases k (S j)
            clear HO
            generalize seeK k (S j) = A at *
            obtain ⟨er, k'⟩ := A
            simp only at C7 HO7 HN7 HX ⊢
            rcases HX.out with ⟨hE, hk⟩ | ⟨hE, hk⟩
            · subst hE
              by_cases hl : lt k.last (S j) = true
              · have HLs : Hid (k'.last = S j) := by rw [if_pos hl] at hk; exact hk
                clear hk HX
                obtain ⟨o0, o1, o2, o3, o4, -⟩ := at_cells5 O7
                obtain ⟨g0, g1, g2, gf⟩ := at_cells3 G7
                go_wp2_with fail
                refine (less_any k.last (S j) _).mono ?_
                rintro e w8 ⟨rfl, k8⟩
                have Ka := kept_trans K7 k8
                have Ca := clock_kept C7 k8
                have Ga := at_kept G7 k8
                have Oa := at_kept O7 k8
                clear K7 C7 G7 A7 O7 k8 o0 o1 o2 o3 o4 g0 g1 g2 gf
                obtain ⟨o0, o1, o2, o3, o4, -⟩ := at_cells5 Oa
                obtain ⟨g0, g1, g2, gf⟩ := at_cells3 Ga
                have HKb : Hid (Kept w (((w8.setCell ⟨G, 0, none⟩ (.int .u64 (S j).p)).setCell ⟨G, 1, none⟩ (.int .u32 (S j).l)).setCell ⟨G, 2, none⟩ (.int .u8 (S j).n))) := kept_set3 Ka HG.out _ _ _
                have Cb : Clock c k' (((w8.setCell ⟨G, 0, none⟩ (.int .u64 (S j).p)).setCell ⟨G, 1, none⟩ (.int .u32 (S j).l)).setCell ⟨G, 2, none⟩ (.int .u8 (S j).n)) := at_other3 Ca (Ne.symm HN.out) _ _ _
                have Gb := at_set3 Ga (.int .u64 (S j).p) (.int .u32 (S j).l) (.int .u8 (S j).n)
                go_wp2_with fail
                have Kb := HKb.out
                clear HKb Ka Ca Ga Oa o0 o1 o2 o3 o4 g0 g1 g2 gf
                generalize ((w8.setCell ⟨G, 0, none⟩ (.int .u64 (S j).p)).setCell ⟨G, 1, none⟩ (.int .u32 (S j).l)).setCell ⟨G, 2, none⟩ (.int .u8 (S j).n) = wb at *
                rw [← HLs.out] at Gb
                clear HLs hl
                go_region
                have Kb' : Kept w wb.drew := Kb
                have Cb' : Clock c k' wb.drew := Cb
                have Gb' : At wb.drew G #[.int .u64 k'.last.p, .int .u32 k'.last.l, .int .u8 k'.last.n] 25 := Gb
                clear Kb Cb Gb
                go_wp2_with fail
                generalize wb.drew = wc at *
                obtain ⟨g0, g1, g2, -⟩ := at_cells3 Gb'
                have hEq := eq_self k'.last
                have kk : Kept wc wc.drew := kept_refl wc
                go_region_held3 (fun w' => w'.cell? ⟨G, 0, none⟩ = some (.int .u64 k'.last.p) ∧ w'.cell? ⟨G, 1, none⟩ = some (.int .u32 k'.last.l) ∧ w'.cell? ⟨G, 2, none⟩ = some (.int .u8 k'.last.n)) (first | exact ⟨g0, g1, g2⟩ | (obtain ⟨y0, y1, y2, -⟩ := at_cells3 (at_kept Gb' kk); exact ⟨y0, y1, y2⟩)) (first
                  | (go_at_call 22; refine (last_any c k' _ (clock_kept Cb' kk)).mono ?_; rintro e w9 ⟨rfl, h9⟩; replace kk := kept_trans kk h9; clear h9))
                have K9 := kept_trans Kb' kk
                have C9 := clock_kept Cb' kk
                have G9 := at_kept Gb' kk
                clear g0 g1 g2 kk
                go_wp2_with fail
                go_roundw
                case rel => exact ⟨j + 1, k', by omega, by go_num, K9, HO7, HN7, C9, G9⟩
                case measure => simp [intOf]; omega
              · have HLs : Hid (k'.last = k.last) := by rw [if_neg hl] at hk; exact hk
                have hl' : lt k.last (S j) = false := by simpa using hl
                clear hk HX hl
                obtain ⟨o0, o1, o2, o3, o4, -⟩ := at_cells5 O7
                obtain ⟨g0, g1, g2, gf⟩ := at_cells3 G7
                go_wp2_with fail
                refine (less_any k.last (S j) _).mono ?_
                rintro e w8 ⟨rfl, k8⟩
                have Kb := kept_trans K7 k8
                have Cb := clock_kept C7 k8
                have Gb := at_kept G7 k8
                clear K7 C7 G7 A7 O7 k8 o0 o1 o2 o3 o4 g0 g1 g2 gf
                rw [← HLs.out] at Gb
                go_wp2_with fail
                clear HLs hl'
                go_region
                have Kb' : Kept w w8.drew := Kb
                have Cb' : Clock c k' w8.drew := Cb
                have Gb' : At w8.drew G #[.int .u64 k'.last.p, .int .u32 k'.last.l, .int .u8 k'.last.n] 25 := Gb
                clear Kb Cb Gb
                go_wp2_with fail
                generalize w8.drew = wc at *
                obtain ⟨g0, g1, g2, -⟩ := at_cells3 Gb'
                have hEq := eq_self k'.last
                have kk : Kept wc wc.drew := kept_refl wc
                go_region_held3 (fun w' => w'.cell? ⟨G, 0, none⟩ = some (.int .u64 k'.last.p) ∧ w'.cell? ⟨G, 1, none⟩ = some (.int .u32 k'.last.l) ∧ w'.cell? ⟨G, 2, none⟩ = some (.int .u8 k'.last.n)) (first | exact ⟨g0, g1, g2⟩ | (obtain ⟨y0, y1, y2, -⟩ := at_cells3 (at_kept Gb' kk); exact ⟨y0, y1, y2⟩)) (first
                  | (go_at_call 22; refine (last_any c k' _ (clock_kept Cb' kk)).mono ?_; rintro e w9 ⟨rfl, h9⟩; replace kk := kept_trans kk h9; clear h9))
                have K9 := kept_trans Kb' kk
                have C9 := clock_kept Cb' kk
                have G9 := at_kept Gb' kk
                clear g0 g1 g2 kk
                go_wp2_with fail
                go_roundw
                case rel => exact ⟨j + 1, k', by omega, by go_num, K9, HO7, HN7, C9, G9⟩
                case measure => simp [intOf]; omega
            · subst hk
              have her : (er == 0) = false := by simpa using hE
              have her' : (er != 0) = true := by simpa using hE
              clear hE HX
              have hEq := eq_self k'.last
              go_wp2_with fail
              obtain ⟨x0, x1, x2, -⟩ := at_cells3 A7
              have k8 : Kept w7 w7.drew := kept_refl w7
              go_region_held3 (fun w' => w'.cell? ⟨X, 0, none⟩ = some (.int .u64 k'.last.p) ∧ w'.cell? ⟨X, 1, none⟩ = some (.int .u32 k'.last.l) ∧ w'.cell? ⟨X, 2, none⟩ = some (.int .u8 k'.last.n)) (first | exact ⟨x0, x1, x2⟩ | (obtain ⟨y0, y1, y2, -⟩ := at_cells3 (at_kept A7 k8); exact ⟨y0, y1, y2⟩)) (first
                | (go_at_call 22; refine (last_any c k' _ (clock_kept C7 k8)).mono ?_; rintro e wa ⟨rfl, h9⟩; replace k8 := kept_trans k8 h9; clear h9))
              have Kb := kept_trans K7 k8
              have Cb := clock_kept C7 k8
              have Gb := at_kept G7 k8
              clear K7 C7 G7 O7 A7 k8 x0 x1 x2
              go_wp2_with fail
              clear her her' hEq
              obtain ⟨g0, g1, g2, -⟩ := at_cells3 Gb
              have hEq := eq_self k'.last
              have kk : Kept wa wa.drew := kept_refl wa
              go_region_held3 (fun w' => w'.cell? ⟨G, 0, none⟩ = some (.int .u64 k'.last.p) ∧ w'.cell? ⟨G, 1, none⟩ = some (.int .u32 k'.last.l) ∧ w'.cell? ⟨G, 2, none⟩ = some (.int .u8 k'.last.n)) (first | exact ⟨g0, g1, g2⟩ | (obtain ⟨y0, y1, y2, -⟩ := at_cells3 (at_kept Gb kk); exact ⟨y0, y1, y2⟩)) (first
                | (go_at_call 22; refine (last_any c k' _ (clock_kept Cb kk)).mono ?_; rintro e w9 ⟨rfl, h9⟩; replace kk := kept_trans kk h9; clear h9))
              have K9 := kept_trans Kb kk
              have C9 := clock_kept Cb kk
              have G9 := at_kept Gb kk
              clear g0 g1 g2 kk
              go_wp2_with fail
              go_roundw
              case rel => exact ⟨j + 1, k', by omega, by go_num, K9, HO7, HN7, C9, G9⟩
              case measure => simp [intOf]; omega
          · have f1 : (K j == 1) = false := by simpa using e1
            clear e1
            go_wp2_with fail
            generalize w5.alloc (.cells #[.int .u64 k.last.p, .int .u32 k.last.l, .int .u8 k.last.n] 25) = w6 at *
            generalize w5.heap.size = X at *
            refine (pass_any c k HO.out (M j) wm _ C6).mono ?_
            rintro e w7 ⟨rfl, T7, Cb⟩
            have Kb : Kept w w7 := kept_turn K6 HC.out T7
            have Gb := at_turn G6 T7 HN.out
            clear o0 o1 o2 o3 o4 lo K6 C6 G6 O6 A6 T7
            rw [← (pass_fields k (M j)).2.2.2] at Gb
            have HO7 : Hid (passK k (M j)).ok := pass_ok HO.out _
            have HN7 : Hid ((passK k (M j)).node = node) := (pass_fields k (M j)).2.1.trans HNd.out
            clear HO HNd
            generalize passK k (M j) = k' at *
            go_wp2_with fail
            obtain ⟨g0, g1, g2, -⟩ := at_cells3 Gb
            have hEq := eq_self k'.last
            have kk : Kept w7 w7.drew := kept_refl w7
            go_region_held3 (fun w' => w'.cell? ⟨G, 0, none⟩ = some (.int .u64 k'.last.p) ∧ w'.cell? ⟨G, 1, none⟩ = some (.int .u32 k'.last.l) ∧ w'.cell? ⟨G, 2, none⟩ = some (.int .u8 k'.last.n)) (first | exact ⟨g0, g1, g2⟩ | (obtain ⟨y0, y1, y2, -⟩ := at_cells3 (at_kept Gb kk); exact ⟨y0, y1, y2⟩)) (first
              | (go_at_call 22; refine (last_any c k' _ (clock_kept Cb kk)).mono ?_; rintro e w9 ⟨rfl, h9⟩; replace kk := kept_trans kk h9; clear h9))
            have K9 := kept_trans Kb kk
            have C9 := clock_kept Cb kk
            have G9 := at_kept Gb kk
            clear g0 g1 g2 kk
            go_wp2_with fail
            go_roundw
            case rel => exact ⟨j + 1, k', by omega, by go_num, K9, HO7, HN7, C9, G9⟩
            case measure => simp [intOf]; omega
      · go_wp2_with fail
        refine (fixed_any _).mono ?_
        rintro e w6 ⟨rfl, k6⟩
        have K6 := kept_trans HK.out k6
        go_wp2_with fail
        go_ret
        exact ⟨rfl, K6⟩
  · clear hr
    go_enter Try.func5, Try.ntmps5
    go_wp2_with fail
    refine (new_bad node time drift false hm _).mono ?_
    rintro e w1 ⟨rfl, rfl⟩
    go_wp2_with fail
    refine (refNew_bad node time drift false hm _).mono ?_
    rintro e w2 ⟨rfl, k2⟩
    have K3 := kept_alloc k2 (.cells #[.int .u8 0, .int .u64 0, .int .u64 0, .bool false, .int .u64 0, .int .u64 0, .int .u32 0, .int .u8 0] 35)
    have hz35 := zero35
    go_wp2_with fail
    refine (fixed_any _).mono ?_
    rintro e w3 ⟨rfl, k3⟩
    have K4 := kept_trans K3 k3
    go_wp2_with fail
    go_ret
    exact ⟨rfl, K4⟩
end Go.Proofs.Ytlhceekjhhdbeaa
