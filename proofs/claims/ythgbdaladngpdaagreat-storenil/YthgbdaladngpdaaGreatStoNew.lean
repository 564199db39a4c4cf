/- The contract of New: a store without records, or none. No condition. -/
import Derived.Test.YthgbdaladngpdaaGreatStoRoom
namespace Go.Proofs.YthgbdaladngpdaaGreat
open Go.ChangeShapes Go.WideShapes Go.ChangeAt Go.RowKit
open Go.Proofs.YthgbdaladngpdaaGreat.Whl (Tn tn_kept tn_refl tn_trans tn_set tn_alloc at_tn kept_tn It)
set_option linter.unusedVariables false
set_option linter.unusedSimpArgs false
set_option maxRecDepth 100000

def zc (i : Nat) : Value := if i = 0 then .slice none 0 0 else if i < 4 then .pointer none else if i < 196 then (if (i - 4) % 3 = 0 then .int .u64 0 else if (i - 4) % 3 = 1 then .int .u32 0 else .int .u8 0) else if i < 260 then .int .u64 0 else if i = 262 then .int .u64 0 else .int .i64 0
def zs76 : Array Value := ((List.range 264).map zc).toArray
theorem zs_get {i : Nat} (h : i < 264) : zs76[i]? = some (zc i) := by
  unfold zs76
  rw [List.getElem?_toArray, List.getElem?_map, List.getElem?_range h]
  rfl
theorem zs_size : zs76.size = 264 := by unfold zs76; simp
theorem zero76 (w : World) : (zeroValue 76).run Tryz.prog w = .ok (.agg zs76) w := by kernel_rfl
theorem ob_zero (P n Xt Xl Xw : Nat) : Ob ((((zs76.setIfInBounds 0 (.slice (some ⟨P, 0, none⟩) n n)).setIfInBounds 1 (.pointer (some ⟨Xt, 0, none⟩))).setIfInBounds 2 (.pointer (some ⟨Xl, 0, none⟩))).setIfInBounds 3 (.pointer (some ⟨Xw, 0, none⟩))) P n Xt Xl Xw (fun _ => zero) (fun _ => 0) 0 0 0 0 := by
  have hs := zs_size
  refine ⟨by simpa using hs, ?_, ?_, ?_, ?_, fun k hk => ⟨?_, ?_, ?_⟩, fun k hk => ?_, ?_, ?_, ?_, ?_⟩
  · rw [set_get _ _ (by omega), set_get _ _ (by omega), set_get _ _ (by omega), set_got _ _ (by omega)]
  · rw [set_get _ _ (by omega), set_get _ _ (by omega), set_got _ _ (by simp; omega)]
  · rw [set_get _ _ (by omega), set_got _ _ (by simp; omega)]
  · rw [set_got _ _ (by simp; omega)]
  · rw [set_get _ _ (by omega), set_get _ _ (by omega), set_get _ _ (by omega), set_get _ _ (by omega), zs_get (by omega)]
    unfold zc
    rw [if_neg (by omega), if_neg (by omega), if_pos (by omega), if_pos (by omega)]; rfl
  · rw [set_get _ _ (by omega), set_get _ _ (by omega), set_get _ _ (by omega), set_get _ _ (by omega), zs_get (by omega)]
    unfold zc
    rw [if_neg (by omega), if_neg (by omega), if_pos (by omega), if_neg (by omega), if_pos (by omega)]; rfl
  · rw [set_get _ _ (by omega), set_get _ _ (by omega), set_get _ _ (by omega), set_get _ _ (by omega), zs_get (by omega)]
    unfold zc
    rw [if_neg (by omega), if_neg (by omega), if_pos (by omega), if_neg (by omega), if_neg (by omega)]; rfl
  · rw [set_get _ _ (by omega), set_get _ _ (by omega), set_get _ _ (by omega), set_get _ _ (by omega), zs_get (by omega)]
    unfold zc
    rw [if_neg (by omega), if_neg (by omega), if_neg (by omega), if_pos (by omega)]; rfl
  · rw [set_get _ _ (by omega), set_get _ _ (by omega), set_get _ _ (by omega), set_get _ _ (by omega), zs_get (by omega)]; rfl
  · rw [set_get _ _ (by omega), set_get _ _ (by omega), set_get _ _ (by omega), set_get _ _ (by omega), zs_get (by omega)]; rfl
  · rw [set_get _ _ (by omega), set_get _ _ (by omega), set_get _ _ (by omega), set_get _ _ (by omega), zs_get (by omega)]; rfl
  · rw [set_get _ _ (by omega), set_get _ _ (by omega), set_get _ _ (by omega), set_get _ _ (by omega), zs_get (by omega)]; rfl
theorem ob_conf {cs : Array Value} {P n Xt Xl Xw : Nat} {fl : Nat → Stp} {dg : Nat → Nat} {size ev : Nat} (h : Ob cs P n Xt Xl Xw fl dg 0 0 size ev) (B K : Nat) : Ob ((cs.setIfInBounds 260 (.int .i64 (B : Int))).setIfInBounds 262 (.int .u64 (K : Int))) P n Xt Xl Xw fl dg B K size ev := by
  have hs := h.sz
  refine ⟨by simpa using h.sz, ?_, ?_, ?_, ?_, fun j hj => ⟨?_, ?_, ?_⟩, fun j hj => ?_, ?_, ?_, ?_, ?_⟩
  · rw [set_get _ _ (by omega), set_get _ _ (by omega)]; exact h.c0
  · rw [set_get _ _ (by omega), set_get _ _ (by omega)]; exact h.c1
  · rw [set_get _ _ (by omega), set_get _ _ (by omega)]; exact h.c2
  · rw [set_get _ _ (by omega), set_get _ _ (by omega)]; exact h.c3
  · rw [set_get _ _ (by omega), set_get _ _ (by omega)]; exact (h.fl j hj).1
  · rw [set_get _ _ (by omega), set_get _ _ (by omega)]; exact (h.fl j hj).2.1
  · rw [set_get _ _ (by omega), set_get _ _ (by omega)]; exact (h.fl j hj).2.2
  · rw [set_get _ _ (by omega), set_get _ _ (by omega)]; exact h.dg j hj
  · rw [set_get _ _ (by omega), set_got _ _ (by omega)]
  · rw [set_get _ _ (by omega), set_get _ _ (by omega)]; exact h.si
  · rw [set_got _ _ (by simp; omega)]
  · rw [set_get _ _ (by omega), set_get _ _ (by omega)]; exact h.ev
theorem info42 : (Tryz.prog.info? 42).map (fun i => (i.zero, i.size, i.bytes)) = some (some (.agg #[.string ⟨#[]⟩, .int .u64 0, .int .u32 0, .int .u8 0, .int .u8 0, .int .u32 0, .int .u64 0, .string ⟨#[]⟩]), 8, 64) := by kernel_rfl
def z8 : Array Value := #[.string ⟨#[]⟩, .int .u64 0, .int .u32 0, .int .u8 0, .int .u8 0, .int .u32 0, .int .u64 0, .string ⟨#[]⟩]
theorem make_recs (w : World) (n : Nat) (hn : n ≤ 4096) :
    (Instr.makeSlice 29 (.int .i64 (n : Int)) (.int .i64 (n : Int))).run Tryz.prog w = .ok (.slice (some ⟨w.heap.size, 0, none⟩) n n) (w.alloc (.cells (madeCells z8 (n * 8)) 42)) := by
  obtain ⟨i0, hi, hz0, hz1, hz2⟩ := info_parts info42
  have := run_make (P := Tryz.prog) w 29 42 i0 _ Tryz.underlying29 hi hz0 .i64 .i64 (n : Int) (n : Int) (by omega) (by omega) (by rw [hz2]; omega) (by omega)
  rw [this, hz1]
  rfl
theorem made_get (n j : Nat) (h : j < n * 8) : (madeCells z8 (n * 8))[j]? = some (z8[j % 8]!) := by
  unfold madeCells
  rw [Array.getElem?_map, Array.getElem?_range, if_pos h]
  rfl
theorem row_made (w : World) (n : Nat) : RowR (w.alloc (.cells (madeCells z8 (n * 8)) 42)) w.heap.size n (fun _ => zeroR) := by
  refine ⟨_, at_new w _ 42, by unfold madeCells; simp, fun i hi => ?_⟩
  refine ⟨?_, ?_, ?_, ?_, ?_, ?_, ?_, ?_⟩
  · rw [made_get n _ (by omega), show (i * 8) % 8 = 0 by omega]; rfl
  · rw [made_get n _ (by omega), show (i * 8 + 1) % 8 = 1 by omega]; rfl
  · rw [made_get n _ (by omega), show (i * 8 + 2) % 8 = 2 by omega]; rfl
  · rw [made_get n _ (by omega), show (i * 8 + 3) % 8 = 3 by omega]; rfl
  · rw [made_get n _ (by omega), show (i * 8 + 4) % 8 = 4 by omega]; rfl
  · rw [made_get n _ (by omega), show (i * 8 + 5) % 8 = 5 by omega]; rfl
  · rw [made_get n _ (by omega), show (i * 8 + 6) % 8 = 6 by omega]; rfl
  · rw [made_get n _ (by omega), show (i * 8 + 7) % 8 = 7 by omega]; rfl
theorem cnt_no (m : Nat) : Slo.cnt (fun _ => Slo.no) m = 0 := Slo.cnt_new m
/- What withPlaces answers and leaves. -/
def PlC (n : Nat) (w : World) (e : Ending) (w' : World) : Prop := ∃ X F a, e = .returned (.pointer (some ⟨X, 0, none⟩)) ∧ Kept w w' ∧ (∀ k, F k → w.heap.size ≤ k) ∧ Sm w' F X ⟨n, 0, 0⟩ (fun _ => zeroR) [] (fun _ => none) [] (fun _ => zero) (fun _ => 0) 0 0 0 a
set_option maxHeartbeats 3200000 in
theorem places_any (n : Nat) (h1 : 1 ≤ n) (h2 : n ≤ 1024) (w : World) : Calls Tryz.prog 34 #[.int .i64 (n : Int)] w (PlC n w) := by
  have hn4 : n ≤ 4096 := by omega
  go_enter Tryz.func34, Tryz.ntmps34
  go_wp2_with fail
  refine (Slo.new_any n h1 h2 _).mono ?_
  rintro e w1 ⟨Xt, Rt, m, rfl, -, hX, hR, k1, g1⟩
  have HX := hid hX
  have HR := hid hR
  have HG1 := hid g1
  have HK1 := hid k1
  clear hX hR g1 k1
  go_wp2_with fail
  refine (Lru.new_any n h1 h2 _).mono ?_
  rintro e w2 ⟨Xl, Rl, rfl, hX2, hR2, k2, g2⟩
  obtain ⟨zs, hzs⟩ : ∃ zs, zs76 = zs := ⟨_, rfl⟩
  have hz := zero76
  have hzz := zs_size
  rw [hzs] at hz hzz
  have hz1 : ¬ zs = #[] := by rintro rfl; simp at hzz
  have hz2 : ¬ zs.size < 2 := by omega
  have hz3 : ¬ zs.size < 3 := by omega
  have hz4 : ¬ zs.size < 4 := by omega
  have HJ : Hid (∀ (u : World) (P Xw : Nat) (Fw : Nat → Prop), RowR u P n (fun _ => zeroR) → Kept w2.drew u → Whl.Good u Fw Xw [] → (∀ k, Fw k → w2.heap.size ≤ k) → w2.heap.size ≤ P → ¬ Fw P → PlC n w (.returned (.pointer (some ⟨u.heap.size, 0, none⟩))) (u.alloc (.cells ((((zs.setIfInBounds 0 (.slice (some ⟨P, 0, none⟩) n n)).setIfInBounds 1 (.pointer (some ⟨Xt, 0, none⟩))).setIfInBounds 2 (.pointer (some ⟨Xl, 0, none⟩))).setIfInBounds 3 (.pointer (some ⟨Xw, 0, none⟩))) 76))) := hid (fun u P Xw Fw hrow ku gw fw hP nP => by
    have hK : Kept w u := kept_trans (kept_trans HK1.out k2) ku
    have ka := kept_alloc (kept_refl u) (.cells ((((zs.setIfInBounds 0 (.slice (some ⟨P, 0, none⟩) n n)).setIfInBounds 1 (.pointer (some ⟨Xt, 0, none⟩))).setIfInBounds 2 (.pointer (some ⟨Xl, 0, none⟩))).setIfInBounds 3 (.pointer (some ⟨Xw, 0, none⟩))) 76)
    have aX := at_new u ((((zs.setIfInBounds 0 (.slice (some ⟨P, 0, none⟩) n n)).setIfInBounds 1 (.pointer (some ⟨Xt, 0, none⟩))).setIfInBounds 2 (.pointer (some ⟨Xl, 0, none⟩))).setIfInBounds 3 (.pointer (some ⟨Xw, 0, none⟩))) 76
    have hsz : (u.alloc (.cells ((((zs.setIfInBounds 0 (.slice (some ⟨P, 0, none⟩) n n)).setIfInBounds 1 (.pointer (some ⟨Xt, 0, none⟩))).setIfInBounds 2 (.pointer (some ⟨Xl, 0, none⟩))).setIfInBounds 3 (.pointer (some ⟨Xw, 0, none⟩))) 76)).heap.size = u.heap.size + 1 := by simp
    generalize hu' : u.alloc (.cells ((((zs.setIfInBounds 0 (.slice (some ⟨P, 0, none⟩) n n)).setIfInBounds 1 (.pointer (some ⟨Xt, 0, none⟩))).setIfInBounds 2 (.pointer (some ⟨Xl, 0, none⟩))).setIfInBounds 3 (.pointer (some ⟨Xw, 0, none⟩))) 76) = u' at *
    have s1 := HK1.out.2
    have s2 := k2.2
    have s3 : w2.heap.size ≤ u.heap.size := ku.2
    have x1 := HX.out
    have x2 := HR.out
    have gt := Slo.good_kept (Slo.good_kept HG1.out k2) ku
    have gl := Lru.good_kept g2 ku
    have lt1 : Xt < w1.heap.size := at_lt HG1.out.tab.1
    have lt2 : Rt < w1.heap.size := Slo.row_lt HG1.out.tab.2
    obtain ⟨_, _, A, B, ⟨h5, es2, h6, _⟩, _⟩ := g2
    have lt3 := at_lt h5
    have lt4 := at_lt h6
    have lt5 := rowR_lt hrow
    refine ⟨u.heap.size, fun k => k = u.heap.size ∨ k = P ∨ k = Xt ∨ k = Rt ∨ k = Xl ∨ k = Rl ∨ Fw k, ⟨P, Xt, Rt, m, Xl, Rl, Xw, Fw, fun _ => Slo.no⟩, rfl, kept_trans hK ka, fun k hk => ?_, ?_⟩
    · have := hK.2
      rcases hk with rfl | rfl | rfl | rfl | rfl | rfl | hk
      · exact this
      · omega
      · exact x1
      · exact x2
      · omega
      · omega
      · have := fw k hk; omega
    · refine ⟨⟨_, aX, by rw [← hzs]; exact ob_zero P n Xt Xl Xw⟩, rowR_block hrow (kept_block ka lt5), Slo.good_kept gt ka, fun k => Slo.mp_new gt.pos k, cnt_no m, Lru.good_kept gl ka, Whl.good_kept gw ka, .inl rfl, .inr (.inl rfl), .inr (.inr (.inl rfl)), .inr (.inr (.inr (.inl rfl))), .inr (.inr (.inr (.inr (.inl rfl)))), .inr (.inr (.inr (.inr (.inr (.inl rfl))))), fun k hk => .inr (.inr (.inr (.inr (.inr (.inr hk))))), fun hf => ?_, nP, fun hf => ?_, fun hf => ?_, fun hf => ?_, fun hf => ?_, fun k hk => ?_⟩
      · have := Whl.good_low gw _ hf; omega
      · have := fw _ hf; change w2.heap.size ≤ Xt at this; omega
      · have := fw _ hf; change w2.heap.size ≤ Rt at this; omega
      · have := fw _ hf; change w2.heap.size ≤ Xl at this; omega
      · have := fw _ hf; change w2.heap.size ≤ Rl at this; omega
      · rw [hsz]
        rcases hk with rfl | rfl | rfl | rfl | rfl | rfl | hk
        · omega
        · omega
        · omega
        · omega
        · omega
        · omega
        · have := Whl.good_low gw k hk; omega)
  clear hzs hzz HG1 HK1 HX HR hX2 hR2 k2 g2
  have hwq : w2.heap.size = w2.drew.heap.size := rfl
  rw [hwq] at HJ
  go_wp2_with fail
  refine wp_region_noPanic ?_
  refine wp_region_held_drew (S := (fun _ => True)) (by kernel_rfl) (trivial) (fun hHeld => ?_)
  generalize w2.drew = wq at *
  refine wpAnyH_take (i := 0) (v := .int .i64 (n : Int)) rfl (by kernel_rfl) (by kernel_rfl) (by kernel_rfl) (fun _ _ _ h => h) (Or.inl ⟨by rfl, fun w hSw => by (try dsimp only at hSw); go_simp⟩) (by assumption) ?_
  try simp only [List.getElem_toArray, List.getElem_cons_zero, List.getElem_cons_succ, Act.put, List.setIfInBounds_toArray, List.set_cons_zero, List.set_cons_succ]
  refine wpAnyH_take (i := 2) (v := .pointer (some ⟨Xt, 0, none⟩)) rfl (by kernel_rfl) (by kernel_rfl) (by kernel_rfl) (fun _ _ _ h => h) (Or.inl ⟨by rfl, fun w hSw => by (try dsimp only at hSw); go_simp⟩) (by assumption) ?_
  try simp only [List.getElem_toArray, List.getElem_cons_zero, List.getElem_cons_succ, Act.put, List.setIfInBounds_toArray, List.set_cons_zero, List.set_cons_succ]
  refine wpAnyH_take (i := 3) (v := .pointer (some ⟨Xl, 0, none⟩)) rfl (by kernel_rfl) (by kernel_rfl) (by kernel_rfl) (fun _ _ _ h => h) (Or.inl ⟨by rfl, fun w hSw => by (try dsimp only at hSw); go_simp⟩) (by assumption) ?_
  try simp only [List.getElem_toArray, List.getElem_cons_zero, List.getElem_cons_succ, Act.put, List.setIfInBounds_toArray, List.set_cons_zero, List.set_cons_succ]
  refine wpAnyH_ready (rs := [1, 4]) (by kernel_rfl) (by simp) ?_
  refine AllReadyH.cons (i := 1) rfl (fun K hK => ?_) ?_
  · have hmk := make_recs wq n hn4
    have hRow := row_made wq n
    have hKr := kept_alloc (kept_refl wq) (.cells (madeCells z8 (n * 8)) 42)
    have hSz : (wq.alloc (.cells (madeCells z8 (n * 8)) 42)).heap.size = wq.heap.size + 1 := by simp
    obtain ⟨wr, hwr⟩ : ∃ wr, wq.alloc (.cells (madeCells z8 (n * 8)) 42) = wr := ⟨_, rfl⟩
    obtain ⟨P, hP⟩ : ∃ P, wq.heap.size = P := ⟨_, rfl⟩
    rw [hwr, hP] at hmk
    rw [hwr, hP] at hRow hSz
    rw [hwr] at hKr
    go_simp
    clear hmk hwr
    clear hHeld
    show K _ _
    refine hK.out _ _ (trivial) (fun hHeld => ?_)
    clear hK K
    try simp only [List.getElem_toArray, List.getElem_cons_zero, List.getElem_cons_succ, Act.put, List.setIfInBounds_toArray, List.set_cons_zero, List.set_cons_succ]
    refine wpAnyH_ready (rs := [4]) (by kernel_rfl) (by simp) ?_
    refine AllReadyH.cons (i := 4) rfl (fun K hK => ?_) AllReadyH.nil
    go_simp
    refine (Whl.new_any _).mono ?_
    rintro e wz ⟨Xw, Fw, rfl, kz, gz, fz⟩
    have HB := hid (HJ.out wz P Xw Fw (rowR_block hRow (kept_block kz (rowR_lt hRow))) (kept_trans hKr kz) gz (fun k hk => by have := fz k hk; omega) (by omega) (fun hf => by have := fz P hf; omega))
    clear hRow hKr kz gz fz hP hSz
    clear hHeld
    show K _ _
    refine hK.out _ _ (trivial) (fun hHeld => ?_)
    clear hK K
    try simp only [List.getElem_toArray, List.getElem_cons_zero, List.getElem_cons_succ, Act.put, List.setIfInBounds_toArray, List.set_cons_zero, List.set_cons_succ]
    refine wpAnyH_take (i := 5) (v := .agg ((((zs.setIfInBounds 0 (.slice (some ⟨P, 0, none⟩) n n)).setIfInBounds 1 (.pointer (some ⟨Xt, 0, none⟩))).setIfInBounds 2 (.pointer (some ⟨Xl, 0, none⟩))).setIfInBounds 3 (.pointer (some ⟨Xw, 0, none⟩)))) rfl (by kernel_rfl) (by kernel_rfl) (by kernel_rfl) (fun _ _ _ h => h) (Or.inl ⟨by rfl, fun w hSw => by (try dsimp only at hSw); go_simp⟩) (by assumption) ?_
    try simp only [List.getElem_toArray, List.getElem_cons_zero, List.getElem_cons_succ, Act.put, List.setIfInBounds_toArray, List.set_cons_zero, List.set_cons_succ]
    refine wpAnyH_ready (rs := [6]) (by kernel_rfl) (by simp) ?_
    refine AllReadyH.cons (i := 6) rfl (fun K hK => ?_) AllReadyH.nil
    go_simp
    clear hHeld
    show K _ _
    refine hK.out _ _ (trivial) (fun hHeld => ?_)
    clear hK K
    try simp only [List.getElem_toArray, List.getElem_cons_zero, List.getElem_cons_succ, Act.put, List.setIfInBounds_toArray, List.set_cons_zero, List.set_cons_succ]
    refine wpAnyH_ready (rs := [7]) (by kernel_rfl) (by simp) ?_
    refine AllReadyH.cons (i := 7) rfl (fun K hK => ?_) AllReadyH.nil
    go_simp
    clear hHeld
    show K _ _
    refine hK.out _ _ (trivial) (fun hHeld => ?_)
    clear hK K
    try simp only [List.getElem_toArray, List.getElem_cons_zero, List.getElem_cons_succ, Act.put, List.setIfInBounds_toArray, List.set_cons_zero, List.set_cons_succ]
    refine wpAnyH_done (by kernel_rfl) ?_ _
    refine NoPanic.normal ?_
    clear hHeld
    have HB2 := HB.out
    clear HB
    go_wp2_with fail
    go_ret
    exact HB2
  refine AllReadyH.cons (i := 4) rfl (fun K hK => ?_) AllReadyH.nil
  go_simp
  refine (Whl.new_any _).mono ?_
  rintro e wz ⟨Xw, Fw, rfl, kz, gz, fz⟩
  clear hHeld
  show K _ _
  refine hK.out _ _ (trivial) (fun hHeld => ?_)
  clear hK K
  try simp only [List.getElem_toArray, List.getElem_cons_zero, List.getElem_cons_succ, Act.put, List.setIfInBounds_toArray, List.set_cons_zero, List.set_cons_succ]
  refine wpAnyH_ready (rs := [1]) (by kernel_rfl) (by simp) ?_
  refine AllReadyH.cons (i := 1) rfl (fun K hK => ?_) AllReadyH.nil
  have hmk := make_recs wz n hn4
  have hRow := row_made wz n
  have hKr := kept_alloc (kept_refl wz) (.cells (madeCells z8 (n * 8)) 42)
  have hSz : (wz.alloc (.cells (madeCells z8 (n * 8)) 42)).heap.size = wz.heap.size + 1 := by simp
  obtain ⟨wr, hwr⟩ : ∃ wr, wz.alloc (.cells (madeCells z8 (n * 8)) 42) = wr := ⟨_, rfl⟩
  obtain ⟨P, hP⟩ : ∃ P, wz.heap.size = P := ⟨_, rfl⟩
  rw [hwr, hP] at hmk
  rw [hwr, hP] at hRow hSz
  rw [hwr] at hKr
  go_simp
  have HB := hid (HJ.out wr P Xw Fw hRow (kept_trans kz hKr) (Whl.good_kept gz hKr) fz (by have := kz.2; omega) (fun hf => by have := Whl.good_low gz P hf; omega))
  clear hRow hKr kz gz fz hP hmk hwr hSz
  clear hHeld
  show K _ _
  refine hK.out _ _ (trivial) (fun hHeld => ?_)
  clear hK K
  try simp only [List.getElem_toArray, List.getElem_cons_zero, List.getElem_cons_succ, Act.put, List.setIfInBounds_toArray, List.set_cons_zero, List.set_cons_succ]
  refine wpAnyH_take (i := 5) (v := .agg ((((zs.setIfInBounds 0 (.slice (some ⟨P, 0, none⟩) n n)).setIfInBounds 1 (.pointer (some ⟨Xt, 0, none⟩))).setIfInBounds 2 (.pointer (some ⟨Xl, 0, none⟩))).setIfInBounds 3 (.pointer (some ⟨Xw, 0, none⟩)))) rfl (by kernel_rfl) (by kernel_rfl) (by kernel_rfl) (fun _ _ _ h => h) (Or.inl ⟨by rfl, fun w hSw => by (try dsimp only at hSw); go_simp⟩) (by assumption) ?_
  try simp only [List.getElem_toArray, List.getElem_cons_zero, List.getElem_cons_succ, Act.put, List.setIfInBounds_toArray, List.set_cons_zero, List.set_cons_succ]
  refine wpAnyH_ready (rs := [6]) (by kernel_rfl) (by simp) ?_
  refine AllReadyH.cons (i := 6) rfl (fun K hK => ?_) AllReadyH.nil
  go_simp
  clear hHeld
  show K _ _
  refine hK.out _ _ (trivial) (fun hHeld => ?_)
  clear hK K
  try simp only [List.getElem_toArray, List.getElem_cons_zero, List.getElem_cons_succ, Act.put, List.setIfInBounds_toArray, List.set_cons_zero, List.set_cons_succ]
  refine wpAnyH_ready (rs := [7]) (by kernel_rfl) (by simp) ?_
  refine AllReadyH.cons (i := 7) rfl (fun K hK => ?_) AllReadyH.nil
  go_simp
  clear hHeld
  show K _ _
  refine hK.out _ _ (trivial) (fun hHeld => ?_)
  clear hK K
  try simp only [List.getElem_toArray, List.getElem_cons_zero, List.getElem_cons_succ, Act.put, List.setIfInBounds_toArray, List.set_cons_zero, List.set_cons_succ]
  refine wpAnyH_done (by kernel_rfl) ?_ _
  refine NoPanic.normal ?_
  clear hHeld
  have HB2 := HB.out
  clear HB
  go_wp2_with fail
  go_ret
  exact HB2
def confMay (n b k : Int) : Prop := (1 ≤ n ∧ n ≤ 1024) ∧ (1 ≤ b ∧ b ≤ 1048576) ∧ (1 ≤ k ∧ k ≤ 1000)
set_option maxHeartbeats 1600000 in
theorem snew_bad (n b k : Int) (h : ¬ confMay n b k) (w : World) : Calls Tryz.prog 9 #[.int .i64 n, .int .i64 b, .int .i64 k] w fun e w' => e = .returned (.tuple #[.pointer none, .int .i64 1]) ∧ w' = w := by
  have U1 := upTo_any n 1024
  have U2 := upTo_any b 1048576
  have U3 := upTo_any k 1000
  by_cases h1 : 1 ≤ n ∧ n ≤ 1024
  · have e1 : (decide (1 ≤ n) && decide (n ≤ 1024)) = true := by simp [h1.1, h1.2]
    rw [e1] at U1
    by_cases h2 : 1 ≤ b ∧ b ≤ 1048576
    · have e2 : (decide (1 ≤ b) && decide (b ≤ 1048576)) = true := by simp [h2.1, h2.2]
      have e3 : (decide (1 ≤ k) && decide (k ≤ 1000)) = false := by
        by_cases h3 : 1 ≤ k
        · have : ¬ k ≤ 1000 := fun g => h ⟨h1, h2, h3, g⟩
          simp [this]
        · simp [h3]
      rw [e2] at U2
      rw [e3] at U3
      clear h h1 h2 e1 e2 e3
      go_enter Tryz.func9, Tryz.ntmps9
      go_wp2_with fail
      refine (U1 _).mono ?_
      rintro e w1 ⟨rfl, rfl⟩
      go_wp2_with fail
      refine (U2 _).mono ?_
      rintro e w1 ⟨rfl, rfl⟩
      go_wp2_with fail
      refine (U3 _).mono ?_
      rintro e w1 ⟨rfl, rfl⟩
      go_wp2_with fail
      go_ret2
      exact ⟨rfl, rfl⟩
    · have e2 : (decide (1 ≤ b) && decide (b ≤ 1048576)) = false := by
        by_cases h3 : 1 ≤ b
        · have : ¬ b ≤ 1048576 := fun g => h2 ⟨h3, g⟩
          simp [this]
        · simp [h3]
      rw [e2] at U2
      clear h h1 h2 e1 e2 U3
      go_enter Tryz.func9, Tryz.ntmps9
      go_wp2_with fail
      refine (U1 _).mono ?_
      rintro e w1 ⟨rfl, rfl⟩
      go_wp2_with fail
      refine (U2 _).mono ?_
      rintro e w1 ⟨rfl, rfl⟩
      go_wp2_with fail
      go_ret2
      exact ⟨rfl, rfl⟩
  · have e1 : (decide (1 ≤ n) && decide (n ≤ 1024)) = false := by
      by_cases h3 : 1 ≤ n
      · have : ¬ n ≤ 1024 := fun g => h1 ⟨h3, g⟩
        simp [this]
      · simp [h3]
    rw [e1] at U1
    clear h h1 e1 U2 U3
    go_enter Tryz.func9, Tryz.ntmps9
    go_wp2_with fail
    refine (U1 _).mono ?_
    rintro e w1 ⟨rfl, rfl⟩
    go_wp2_with fail
    go_ret2
    exact ⟨rfl, rfl⟩
/- What New answers and leaves. -/
def SNewC (c : Cf) (w : World) (e : Ending) (w' : World) : Prop := ∃ X F, e = .returned (.tuple #[.pointer (some ⟨X, 0, none⟩), .int .i64 0]) ∧ Kept w w' ∧ (∀ k, F k → w.heap.size ≤ k) ∧ St w' F X c MS0
set_option maxHeartbeats 1600000 in
theorem snew_any (c : Cf) (hc : c.may) (w : World) : Calls Tryz.prog 9 #[.int .i64 (c.n : Int), .int .i64 (c.B : Int), .int .i64 (c.K : Int)] w (SNewC c w) := by
  obtain ⟨n1, n2, b1, b2, k1, k2⟩ := hc
  have U1 := upTo_any (c.n : Int) 1024
  have U2 := upTo_any (c.B : Int) 1048576
  have U3 := upTo_any (c.K : Int) 1000
  have e1 : (decide (1 ≤ (c.n : Int)) && decide ((c.n : Int) ≤ 1024)) = true := by simp; omega
  have e2 : (decide (1 ≤ (c.B : Int)) && decide ((c.B : Int) ≤ 1048576)) = true := by simp; omega
  have e3 : (decide (1 ≤ (c.K : Int)) && decide ((c.K : Int) ≤ 1000)) = true := by simp; omega
  rw [e1] at U1
  rw [e2] at U2
  rw [e3] at U3
  clear e1 e2 e3
  obtain ⟨n, B, K⟩ := c
  simp only at *
  go_enter Tryz.func9, Tryz.ntmps9
  go_wp2_with fail
  refine (U1 _).mono ?_
  rintro e w1 ⟨rfl, rfl⟩
  go_wp2_with fail
  refine (U2 _).mono ?_
  rintro e w1 ⟨rfl, rfl⟩
  go_wp2_with fail
  refine (U3 _).mono ?_
  rintro e w1 ⟨rfl, rfl⟩
  go_wp2_with fail
  refine (places_any n n1 n2 _).mono ?_
  rintro e w2 ⟨X, F, a, rfl, kk, hF, hm⟩
  have c4 := (sm_cells hm).1.2.2.2.2.1
  have c6 := (sm_cells hm).1.2.2.2.2.2.2.1
  have fz := (sm_cells hm).2
  simp only at c4 c6
  have HE : Hid (SNewC ⟨n, B, K⟩ w1 (.returned (.tuple #[.pointer (some ⟨X, 0, none⟩), .int .i64 0])) ((w2.setCell ⟨X, 260, none⟩ (.int .i64 (B : Int))).setCell ⟨X, 262, none⟩ (.int .u64 (K : Int)))) := hid (by
    obtain ⟨cs, o1, o2⟩ := hm.obj
    have hs := sm_obj hm (w' := (w2.setCell ⟨X, 260, none⟩ (.int .i64 (B : Int))).setCell ⟨X, 262, none⟩ (.int .u64 (K : Int))) (fl' := fun _ => zero) (dg' := fun _ => 0) (size' := 0) (ev' := 0) (fun j hj => (Below.heap_setCell _ _ _ _ hj).trans (Below.heap_setCell _ _ _ _ hj)) (by simp [World.setCell])
    refine ⟨X, F, rfl, kept_set (kept_set kk (hF X hm.fX) _ _) (hF X hm.fX) _ _, hF, fun _ => zeroR, [], ⟨fun _ => none, [], a, ?_, coh_new⟩, rfl⟩
    have t := sm_ats hm
    have e : ∀ k, k ≠ X → ((w2.setCell ⟨X, 260, none⟩ (.int .i64 (B : Int))).setCell ⟨X, 262, none⟩ (.int .u64 (K : Int))).heap[k]? = w2.heap[k]? := fun j hj => (Below.heap_setCell _ _ _ _ hj).trans (Below.heap_setCell _ _ _ _ hj)
    have hsz : w2.heap.size ≤ ((w2.setCell ⟨X, 260, none⟩ (.int .i64 (B : Int))).setCell ⟨X, 262, none⟩ (.int .u64 (K : Int))).heap.size := by simp [World.setCell]
    exact ⟨⟨_, at_set (at_set o1 _ _) _ _, ob_conf o2 B K⟩, rowR_block hm.row (e _ (ne_of t.p t.x (by decide))), slo_block hm.tab (e _ (ne_of t.xt t.x (by decide))) (e _ (ne_of t.rt t.x (by decide))), hm.mp, hm.cnt, lru_block hm.lst (e _ (ne_of t.xl t.x (by decide))) (e _ (ne_of t.rl t.x (by decide))), whl_block hm.whl (fun k hk => e k (fun q => hm.nX (q ▸ hk))) hsz, hm.fX, hm.fP, hm.fXt, hm.fRt, hm.fXl, hm.fRl, hm.fw, hm.nX, hm.nP, hm.nXt, hm.nRt, hm.nXl, hm.nRl, fun k hk => Nat.lt_of_lt_of_le (hm.low k hk) hsz⟩)
  clear hm kk hF
  go_wp2_with fail
  go_ret2
  exact HE.out
end Go.Proofs.YthgbdaladngpdaaGreat
