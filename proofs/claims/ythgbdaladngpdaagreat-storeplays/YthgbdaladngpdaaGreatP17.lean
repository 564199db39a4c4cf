/- The contract of New: a store without records, or none. No condition. The contracts of Put, Peek and Get, of Len, Size, Evicted, Floor and Digest, over a store as a plain row of records; of all of these of a nil store. A key has at most 1000 bytes, a body at most 3000; the store has at most 500 records. The contracts of Get and Purge, of Len, Size, Evicted, Floor and Digest, over a store as a plain row of records; of all of these of a nil store. A key has at most 1000 bytes; the store has at most 500 records. -/
import Derived.Test.YthgbdaladngpdaaGreatP16
/- The contract of New: a store without records, or none. No condition. -/
namespace Go.Proofs.YthgbdaladngpdaaGreat
open Go.ChangeShapes Go.WideShapes Go.ChangeAt Go.RowKit
open Go.Proofs.YthgbdaladngpdaaGreat.Whl (Tn tn_kept tn_refl tn_trans tn_set tn_alloc at_tn kept_tn It)
set_option linter.unusedVariables false
set_option linter.unusedSimpArgs false
set_option maxRecDepth 100000

def zc (i : Nat) : Value := if i = 0 then .slice none 0 0 else if i < 4 then .pointer none else if i < 196 then (if (i - 4) % 3 = 0 then .int .u64 0 else if (i - 4) % 3 = 1 then .int .u32 0 else .int .u8 0) else if i < 260 then .int .u64 0 else if i = 262 then .int .u64 0 else .int .i64 0
def zs76 : Array Value := ((List.range 264).map zc).toArray
theorem zs_get {i : Nat} (h : i < 264) : zs76[i]? = some (zc i) := by
  unfold zs76
  rw [List.getElem?_toArray, List.getElem?_map, List.getElem?_range h]
  rfl
theorem zs_size : zs76.size = 264 := by unfold zs76; simp
theorem zero76 (w : World) : (zeroValue 76).run Tryz.prog w = .ok (.agg zs76) w := by kernel_rfl
theorem ob_zero (P n Xt Xl Xw : Nat) : Ob ((((zs76.setIfInBounds 0 (.slice (some ⟨P, 0, none⟩) n n)).setIfInBounds 1 (.pointer (some ⟨Xt, 0, none⟩))).setIfInBounds 2 (.pointer (some ⟨Xl, 0, none⟩))).setIfInBounds 3 (.pointer (some ⟨Xw, 0, none⟩))) P n Xt Xl Xw (fun _ => zero) (fun _ => 0) 0 0 0 0 := by
  have hs := zs_size
  refine ⟨by simpa using hs, ?_, ?_, ?_, ?_, fun k hk => ⟨?_, ?_, ?_⟩, fun k hk => ?_, ?_, ?_, ?_, ?_⟩
  · rw [set_get _ _ (by omega), set_get _ _ (by omega), set_get _ _ (by omega), set_got _ _ (by omega)]
  · rw [set_get _ _ (by omega), set_get _ _ (by omega), set_got _ _ (by simp; omega)]
  · rw [set_get _ _ (by omega), set_got _ _ (by simp; omega)]
  · rw [set_got _ _ (by simp; omega)]
  · rw [set_get _ _ (by omega), set_get _ _ (by omega), set_get _ _ (by omega), set_get _ _ (by omega), zs_get (by omega)]
    unfold zc
    rw [if_neg (by omega), if_neg (by omega), if_pos (by omega), if_pos (by omega)]; rfl
  · rw [set_get _ _ (by omega), set_get _ _ (by omega), set_get _ _ (by omega), set_get _ _ (by omega), zs_get (by omega)]
    unfold zc
    rw [if_neg (by omega), if_neg (by omega), if_pos (by omega), if_neg (by omega), if_pos (by omega)]; rfl
  · rw [set_get _ _ (by omega), set_get _ _ (by omega), set_get _ _ (by omega), set_get _ _ (by omega), zs_get (by omega)]
    unfold zc
    rw [if_neg (by omega), if_neg (by omega), if_pos (by omega), if_neg (by omega), if_neg (by omega)]; rfl
  · rw [set_get _ _ (by omega), set_get _ _ (by omega), set_get _ _ (by omega), set_get _ _ (by omega), zs_get (by omega)]
    unfold zc
    rw [if_neg (by omega), if_neg (by omega), if_neg (by omega), if_pos (by omega)]; rfl
  · rw [set_get _ _ (by omega), set_get _ _ (by omega), set_get _ _ (by omega), set_get _ _ (by omega), zs_get (by omega)]; rfl
  · rw [set_get _ _ (by omega), set_get _ _ (by omega), set_get _ _ (by omega), set_get _ _ (by omega), zs_get (by omega)]; rfl
  · rw [set_get _ _ (by omega), set_get _ _ (by omega), set_get _ _ (by omega), set_get _ _ (by omega), zs_get (by omega)]; rfl
  · rw [set_get _ _ (by omega), set_get _ _ (by omega), set_get _ _ (by omega), set_get _ _ (by omega), zs_get (by omega)]; rfl
theorem ob_conf {cs : Array Value} {P n Xt Xl Xw : Nat} {fl : Nat → Stp} {dg : Nat → Nat} {size ev : Nat} (h : Ob cs P n Xt Xl Xw fl dg 0 0 size ev) (B K : Nat) : Ob ((cs.setIfInBounds 260 (.int .i64 (B : Int))).setIfInBounds 262 (.int .u64 (K : Int))) P n Xt Xl Xw fl dg B K size ev := by
  have hs := h.sz
  refine ⟨by simpa using h.sz, ?_, ?_, ?_, ?_, fun j hj => ⟨?_, ?_, ?_⟩, fun j hj => ?_, ?_, ?_, ?_, ?_⟩
  · rw [set_get _ _ (by omega), set_get _ _ (by omega)]; exact h.c0
  · rw [set_get _ _ (by omega), set_get _ _ (by omega)]; exact h.c1
  · rw [set_get _ _ (by omega), set_get _ _ (by omega)]; exact h.c2
  · rw [set_get _ _ (by omega), set_get _ _ (by omega)]; exact h.c3
  · rw [set_get _ _ (by omega), set_get _ _ (by omega)]; exact (h.fl j hj).1
  · rw [set_get _ _ (by omega), set_get _ _ (by omega)]; exact (h.fl j hj).2.1
  · rw [set_get _ _ (by omega), set_get _ _ (by omega)]; exact (h.fl j hj).2.2
  · rw [set_get _ _ (by omega), set_get _ _ (by omega)]; exact h.dg j hj
  · rw [set_get _ _ (by omega), set_got _ _ (by omega)]
  · rw [set_get _ _ (by omega), set_get _ _ (by omega)]; exact h.si
  · rw [set_got _ _ (by simp; omega)]
  · rw [set_get _ _ (by omega), set_get _ _ (by omega)]; exact h.ev
theorem info42 : (Tryz.prog.info? 42).map (fun i => (i.zero, i.size, i.bytes)) = some (some (.agg #[.string ⟨#[]⟩, .int .u64 0, .int .u32 0, .int .u8 0, .int .u8 0, .int .u32 0, .int .u64 0, .string ⟨#[]⟩]), 8, 64) := by kernel_rfl
def z8 : Array Value := #[.string ⟨#[]⟩, .int .u64 0, .int .u32 0, .int .u8 0, .int .u8 0, .int .u32 0, .int .u64 0, .string ⟨#[]⟩]
theorem make_recs (w : World) (n : Nat) (hn : n ≤ 4096) :
    (Instr.makeSlice 29 (.int .i64 (n : Int)) (.int .i64 (n : Int))).run Tryz.prog w = .ok (.slice (some ⟨w.heap.size, 0, none⟩) n n) (w.alloc (.cells (madeCells z8 (n * 8)) 42)) := by
  obtain ⟨i0, hi, hz0, hz1, hz2⟩ := info_parts info42
  have := run_make (P := Tryz.prog) w 29 42 i0 _ Tryz.underlying29 hi hz0 .i64 .i64 (n : Int) (n : Int) (by omega) (by omega) (by rw [hz2]; omega) (by omega)
  rw [this, hz1]
  rfl
theorem made_get (n j : Nat) (h : j < n * 8) : (madeCells z8 (n * 8))[j]? = some (z8[j % 8]!) := by
  unfold madeCells
  rw [Array.getElem?_map, Array.getElem?_range, if_pos h]
  rfl
theorem row_made (w : World) (n : Nat) : RowR (w.alloc (.cells (madeCells z8 (n * 8)) 42)) w.heap.size n (fun _ => zeroR) := by
  refine ⟨_, at_new w _ 42, by unfold madeCells; simp, fun i hi => ?_⟩
  refine ⟨?_, ?_, ?_, ?_, ?_, ?_, ?_, ?_⟩
  · rw [made_get n _ (by omega), show (i * 8) % 8 = 0 by omega]; rfl
  · rw [made_get n _ (by omega), show (i * 8 + 1) % 8 = 1 by omega]; rfl
  · rw [made_get n _ (by omega), show (i * 8 + 2) % 8 = 2 by omega]; rfl
  · rw [made_get n _ (by omega), show (i * 8 + 3) % 8 = 3 by omega]; rfl
  · rw [made_get n _ (by omega), show (i * 8 + 4) % 8 = 4 by omega]; rfl
  · rw [made_get n _ (by omega), show (i * 8 + 5) % 8 = 5 by omega]; rfl
  · rw [made_get n _ (by omega), show (i * 8 + 6) % 8 = 6 by omega]; rfl
  · rw [made_get n _ (by omega), show (i * 8 + 7) % 8 = 7 by omega]; rfl
theorem cnt_no (m : Nat) : Slo.cnt (fun _ => Slo.no) m = 0 := Slo.cnt_new m
/- What withPlaces answers and leaves. -/
def PlC (n : Nat) (w : World) (e : Ending) (w' : World) : Prop := ∃ X F a, e = .returned (.pointer (some ⟨X, 0, none⟩)) ∧ Kept w w' ∧ (∀ k, F k → w.heap.size ≤ k) ∧ Sm w' F X ⟨n, 0, 0⟩ (fun _ => zeroR) [] (fun _ => none) [] (fun _ => zero) (fun _ => 0) 0 0 0 a
set_option maxHeartbeats 3200000 in
theorem places_any (n : Nat) (h1 : 1 ≤ n) (h2 : n ≤ 1024) (w : World) : Calls Tryz.prog 34 #[.int .i64 (n : Int)] w (PlC n w) := by
  have hn4 : n ≤ 4096 := by omega
  go_enter Tryz.func34, Tryz.ntmps34
  go_wp2_with fail
  refine (Slo.new_any n h1 h2 _).mono ?_
  rintro e w1 ⟨Xt, Rt, m, rfl, -, hX, hR, k1, g1⟩
  have HX := hid hX
  have HR := hid hR
  have HG1 := hid g1
  have HK1 := hid k1
  clear hX hR g1 k1
  go_wp2_with fail
  refine (Lru.new_any n h1 h2 _).mono ?_
  rintro e w2 ⟨Xl, Rl, rfl, hX2, hR2, k2, g2⟩
  obtain ⟨zs, hzs⟩ : ∃ zs, zs76 = zs := ⟨_, rfl⟩
  have hz := zero76
  have hzz := zs_size
  rw [hzs] at hz hzz
  have hz1 : ¬ zs = #[] := by rintro rfl; simp at hzz
  have hz2 : ¬ zs.size < 2 := by omega
  have hz3 : ¬ zs.size < 3 := by omega
  have hz4 : ¬ zs.size < 4 := by omega
  have HJ : Hid (∀ (u : World) (P Xw : Nat) (Fw : Nat → Prop), RowR u P n (fun _ => zeroR) → Kept w2.drew u → Whl.Good u Fw Xw [] → (∀ k, Fw k → w2.heap.size ≤ k) → w2.heap.size ≤ P → ¬ Fw P → PlC n w (.returned (.pointer (some ⟨u.heap.size, 0, none⟩))) (u.alloc (.cells ((((zs.setIfInBounds 0 (.slice (some ⟨P, 0, none⟩) n n)).setIfInBounds 1 (.pointer (some ⟨Xt, 0, none⟩))).setIfInBounds 2 (.pointer (some ⟨Xl, 0, none⟩))).setIfInBounds 3 (.pointer (some ⟨Xw, 0, none⟩))) 76))) := hid (fun u P Xw Fw hrow ku gw fw hP nP => by
    have hK : Kept w u := kept_trans (kept_trans HK1.out k2) ku
    have ka := kept_alloc (kept_refl u) (.cells ((((zs.setIfInBounds 0 (.slice (some ⟨P, 0, none⟩) n n)).setIfInBounds 1 (.pointer (some ⟨Xt, 0, none⟩))).setIfInBounds 2 (.pointer (some ⟨Xl, 0, none⟩))).setIfInBounds 3 (.pointer (some ⟨Xw, 0, none⟩))) 76)
    have aX := at_new u ((((zs.setIfInBounds 0 (.slice (some ⟨P, 0, none⟩) n n)).setIfInBounds 1 (.pointer (some ⟨Xt, 0, none⟩))).setIfInBounds 2 (.pointer (some ⟨Xl, 0, none⟩))).setIfInBounds 3 (.pointer (some ⟨Xw, 0, none⟩))) 76
    have hsz : (u.alloc (.cells ((((zs.setIfInBounds 0 (.slice (some ⟨P, 0, none⟩) n n)).setIfInBounds 1 (.pointer (some ⟨Xt, 0, none⟩))).setIfInBounds 2 (.pointer (some ⟨Xl, 0, none⟩))).setIfInBounds 3 (.pointer (some ⟨Xw, 0, none⟩))) 76)).heap.size = u.heap.size + 1 := by simp
    generalize hu' : u.alloc (.cells ((((zs.setIfInBounds 0 (.slice (some ⟨P, 0, none⟩) n n)).setIfInBounds 1 (.pointer (some ⟨Xt, 0, none⟩))).setIfInBounds 2 (.pointer (some ⟨Xl, 0, none⟩))).setIfInBounds 3 (.pointer (some ⟨Xw, 0, none⟩))) 76) = u' at *
    have s1 := HK1.out.2
    have s2 := k2.2
    have s3 : w2.heap.size ≤ u.heap.size := ku.2
    have x1 := HX.out
    have x2 := HR.out
    have gt := Slo.good_kept (Slo.good_kept HG1.out k2) ku
    have gl := Lru.good_kept g2 ku
    have lt1 : Xt < w1.heap.size := at_lt HG1.out.tab.1
    have lt2 : Rt < w1.heap.size := Slo.row_lt HG1.out.tab.2
    obtain ⟨_, _, A, B, ⟨h5, es2, h6, _⟩, _⟩ := g2
    have lt3 := at_lt h5
    have lt4 := at_lt h6
    have lt5 := rowR_lt hrow
    refine ⟨u.heap.size, fun k => k = u.heap.size ∨ k = P ∨ k = Xt ∨ k = Rt ∨ k = Xl ∨ k = Rl ∨ Fw k, ⟨P, Xt, Rt, m, Xl, Rl, Xw, Fw, fun _ => Slo.no⟩, rfl, kept_trans hK ka, fun k hk => ?_, ?_⟩
    · have := hK.2
      rcases hk with rfl | rfl | rfl | rfl | rfl | rfl | hk
      · exact this
      · omega
      · exact x1
      · exact x2
      · omega
      · omega
      · have := fw k hk; omega
    · refine ⟨⟨_, aX, by rw [← hzs]; exact ob_zero P n Xt Xl Xw⟩, rowR_block hrow (kept_block ka lt5), Slo.good_kept gt ka, fun k => Slo.mp_new gt.pos k, cnt_no m, Lru.good_kept gl ka, Whl.good_kept gw ka, .inl rfl, .inr (.inl rfl), .inr (.inr (.inl rfl)), .inr (.inr (.inr (.inl rfl))), .inr (.inr (.inr (.inr (.inl rfl)))), .inr (.inr (.inr (.inr (.inr (.inl rfl))))), fun k hk => .inr (.inr (.inr (.inr (.inr (.inr hk))))), fun hf => ?_, nP, fun hf => ?_, fun hf => ?_, fun hf => ?_, fun hf => ?_, fun k hk => ?_⟩
      · have := Whl.good_low gw _ hf; omega
      · have := fw _ hf; change w2.heap.size ≤ Xt at this; omega
      · have := fw _ hf; change w2.heap.size ≤ Rt at this; omega
      · have := fw _ hf; change w2.heap.size ≤ Xl at this; omega
      · have := fw _ hf; change w2.heap.size ≤ Rl at this; omega
      · rw [hsz]
        rcases hk with rfl | rfl | rfl | rfl | rfl | rfl | hk
        · omega
        · omega
        · omega
        · omega
        · omega
        · omega
        · have := Whl.good_low gw k hk; omega)
  clear hzs hzz HG1 HK1 HX HR hX2 hR2 k2 g2
  have hwq : w2.heap.size = w2.drew.heap.size := rfl
  rw [hwq] at HJ
  go_wp2_with fail
  refine wp_region_noPanic ?_
  refine wp_region_held_drew (S := (fun _ => True)) (by kernel_rfl) (trivial) (fun hHeld => ?_)
  generalize w2.drew = wq at *
  refine wpAnyH_take (i := 0) (v := .int .i64 (n : Int)) rfl (by kernel_rfl) (by kernel_rfl) (by kernel_rfl) (fun _ _ _ h => h) (Or.inl ⟨by rfl, fun w hSw => by (try dsimp only at hSw); go_simp⟩) (by assumption) ?_
  try simp only [List.getElem_toArray, List.getElem_cons_zero, List.getElem_cons_succ, Act.put, List.setIfInBounds_toArray, List.set_cons_zero, List.set_cons_succ]
  refine wpAnyH_take (i := 2) (v := .pointer (some ⟨Xt, 0, none⟩)) rfl (by kernel_rfl) (by kernel_rfl) (by kernel_rfl) (fun _ _ _ h => h) (Or.inl ⟨by rfl, fun w hSw => by (try dsimp only at hSw); go_simp⟩) (by assumption) ?_
  try simp only [List.getElem_toArray, List.getElem_cons_zero, List.getElem_cons_succ, Act.put, List.setIfInBounds_toArray, List.set_cons_zero, List.set_cons_succ]
  refine wpAnyH_take (i := 3) (v := .pointer (some ⟨Xl, 0, none⟩)) rfl (by kernel_rfl) (by kernel_rfl) (by kernel_rfl) (fun _ _ _ h => h) (Or.inl ⟨by rfl, fun w hSw => by (try dsimp only at hSw); go_simp⟩) (by assumption) ?_
  try simp only [List.getElem_toArray, List.getElem_cons_zero, List.getElem_cons_succ, Act.put, List.setIfInBounds_toArray, List.set_cons_zero, List.set_cons_succ]
  refine wpAnyH_ready (rs := [1, 4]) (by kernel_rfl) (by simp) ?_
  refine AllReadyH.cons (i := 1) rfl (fun K hK => ?_) ?_
  · have hmk := make_recs wq n hn4
    have hRow := row_made wq n
    have hKr := kept_alloc (kept_refl wq) (.cells (madeCells z8 (n * 8)) 42)
    have hSz : (wq.alloc (.cells (madeCells z8 (n * 8)) 42)).heap.size = wq.heap.size + 1 := by simp
    obtain ⟨wr, hwr⟩ : ∃ wr, wq.alloc (.cells (madeCells z8 (n * 8)) 42) = wr := ⟨_, rfl⟩
    obtain ⟨P, hP⟩ : ∃ P, wq.heap.size = P := ⟨_, rfl⟩
    rw [hwr, hP] at hmk
    rw [hwr, hP] at hRow hSz
    rw [hwr] at hKr
    go_simp
    clear hmk hwr
    clear hHeld
    show K _ _
    refine hK.out _ _ (trivial) (fun hHeld => ?_)
    clear hK K
    try simp only [List.getElem_toArray, List.getElem_cons_zero, List.getElem_cons_succ, Act.put, List.setIfInBounds_toArray, List.set_cons_zero, List.set_cons_succ]
    refine wpAnyH_ready (rs := [4]) (by kernel_rfl) (by simp) ?_
    refine AllReadyH.cons (i := 4) rfl (fun K hK => ?_) AllReadyH.nil
    go_simp
    refine (Whl.new_any _).mono ?_
    rintro e wz ⟨Xw, Fw, rfl, kz, gz, fz⟩
    have HB := hid (HJ.out wz P Xw Fw (rowR_block hRow (kept_block kz (rowR_lt hRow))) (kept_trans hKr kz) gz (fun k hk => by have := fz k hk; omega) (by omega) (fun hf => by have := fz P hf; omega))
    clear hRow hKr kz gz fz hP hSz
    clear hHeld
    show K _ _
    refine hK.out _ _ (trivial) (fun hHeld => ?_)
    clear hK K
    try simp only [List.getElem_toArray, List.getElem_cons_zero, List.getElem_cons_succ, Act.put, List.setIfInBounds_toArray, List.set_cons_zero, List.set_cons_succ]
    refine wpAnyH_take (i := 5) (v := .agg ((((zs.setIfInBounds 0 (.slice (some ⟨P, 0, none⟩) n n)).setIfInBounds 1 (.pointer (some ⟨Xt, 0, none⟩))).setIfInBounds 2 (.pointer (some ⟨Xl, 0, none⟩))).setIfInBounds 3 (.pointer (some ⟨Xw, 0, none⟩)))) rfl (by kernel_rfl) (by kernel_rfl) (by kernel_rfl) (fun _ _ _ h => h) (Or.inl ⟨by rfl, fun w hSw => by (try dsimp only at hSw); go_simp⟩) (by assumption) ?_
    try simp only [List.getElem_toArray, List.getElem_cons_zero, List.getElem_cons_succ, Act.put, List.setIfInBounds_toArray, List.set_cons_zero, List.set_cons_succ]
    refine wpAnyH_ready (rs := [6]) (by kernel_rfl) (by simp) ?_
    refine AllReadyH.cons (i := 6) rfl (fun K hK => ?_) AllReadyH.nil
    go_simp
    clear hHeld
    show K _ _
    refine hK.out _ _ (trivial) (fun hHeld => ?_)
    clear hK K
    try simp only [List.getElem_toArray, List.getElem_cons_zero, List.getElem_cons_succ, Act.put, List.setIfInBounds_toArray, List.set_cons_zero, List.set_cons_succ]
    refine wpAnyH_ready (rs := [7]) (by kernel_rfl) (by simp) ?_
    refine AllReadyH.cons (i := 7) rfl (fun K hK => ?_) AllReadyH.nil
    go_simp
    clear hHeld
    show K _ _
    refine hK.out _ _ (trivial) (fun hHeld => ?_)
    clear hK K
    try simp only [List.getElem_toArray, List.getElem_cons_zero, List.getElem_cons_succ, Act.put, List.setIfInBounds_toArray, List.set_cons_zero, List.set_cons_succ]
    refine wpAnyH_done (by kernel_rfl) ?_ _
    refine NoPanic.normal ?_
    clear hHeld
    have HB2 := HB.out
    clear HB
    go_wp2_with fail
    go_ret
    exact HB2
  refine AllReadyH.cons (i := 4) rfl (fun K hK => ?_) AllReadyH.nil
  go_simp
  refine (Whl.new_any _).mono ?_
  rintro e wz ⟨Xw, Fw, rfl, kz, gz, fz⟩
  clear hHeld
  show K _ _
  refine hK.out _ _ (trivial) (fun hHeld => ?_)
  clear hK K
  try simp only [List.getElem_toArray, List.getElem_cons_zero, List.getElem_cons_succ, Act.put, List.setIfInBounds_toArray, List.set_cons_zero, List.set_cons_succ]
  refine wpAnyH_ready (rs := [1]) (by kernel_rfl) (by simp) ?_
  refine AllReadyH.cons (i := 1) rfl (fun K hK => ?_) AllReadyH.nil
  have hmk := make_recs wz n hn4
  have hRow := row_made wz n
  have hKr := kept_alloc (kept_refl wz) (.cells (madeCells z8 (n * 8)) 42)
  have hSz : (wz.alloc (.cells (madeCells z8 (n * 8)) 42)).heap.size = wz.heap.size + 1 := by simp
  obtain ⟨wr, hwr⟩ : ∃ wr, wz.alloc (.cells (madeCells z8 (n * 8)) 42) = wr := ⟨_, rfl⟩
  obtain ⟨P, hP⟩ : ∃ P, wz.heap.size = P := ⟨_, rfl⟩
  rw [hwr, hP] at hmk
  rw [hwr, hP] at hRow hSz
  rw [hwr] at hKr
  go_simp
  have HB := hid (HJ.out wr P Xw Fw hRow (kept_trans kz hKr) (Whl.good_kept gz hKr) fz (by have := kz.2; omega) (fun hf => by have := Whl.good_low gz P hf; omega))
  clear hRow hKr kz gz fz hP hmk hwr hSz
  clear hHeld
  show K _ _
  refine hK.out _ _ (trivial) (fun hHeld => ?_)
  clear hK K
  try simp only [List.getElem_toArray, List.getElem_cons_zero, List.getElem_cons_succ, Act.put, List.setIfInBounds_toArray, List.set_cons_zero, List.set_cons_succ]
  refine wpAnyH_take (i := 5) (v := .agg ((((zs.setIfInBounds 0 (.slice (some ⟨P, 0, none⟩) n n)).setIfInBounds 1 (.pointer (some ⟨Xt, 0, none⟩))).setIfInBounds 2 (.pointer (some ⟨Xl, 0, none⟩))).setIfInBounds 3 (.pointer (some ⟨Xw, 0, none⟩)))) rfl (by kernel_rfl) (by kernel_rfl) (by kernel_rfl) (fun _ _ _ h => h) (Or.inl ⟨by rfl, fun w hSw => by (try dsimp only at hSw); go_simp⟩) (by assumption) ?_
  try simp only [List.getElem_toArray, List.getElem_cons_zero, List.getElem_cons_succ, Act.put, List.setIfInBounds_toArray, List.set_cons_zero, List.set_cons_succ]
  refine wpAnyH_ready (rs := [6]) (by kernel_rfl) (by simp) ?_
  refine AllReadyH.cons (i := 6) rfl (fun K hK => ?_) AllReadyH.nil
  go_simp
  clear hHeld
  show K _ _
  refine hK.out _ _ (trivial) (fun hHeld => ?_)
  clear hK K
  try simp only [List.getElem_toArray, List.getElem_cons_zero, List.getElem_cons_succ, Act.put, List.setIfInBounds_toArray, List.set_cons_zero, List.set_cons_succ]
  refine wpAnyH_ready (rs := [7]) (by kernel_rfl) (by simp) ?_
  refine AllReadyH.cons (i := 7) rfl (fun K hK => ?_) AllReadyH.nil
  go_simp
  clear hHeld
  show K _ _
  refine hK.out _ _ (trivial) (fun hHeld => ?_)
  clear hK K
  try simp only [List.getElem_toArray, List.getElem_cons_zero, List.getElem_cons_succ, Act.put, List.setIfInBounds_toArray, List.set_cons_zero, List.set_cons_succ]
  refine wpAnyH_done (by kernel_rfl) ?_ _
  refine NoPanic.normal ?_
  clear hHeld
  have HB2 := HB.out
  clear HB
  go_wp2_with fail
  go_ret
  exact HB2
def confMay (n b k : Int) : Prop := (1 ≤ n ∧ n ≤ 1024) ∧ (1 ≤ b ∧ b ≤ 1048576) ∧ (1 ≤ k ∧ k ≤ 1000)
set_option maxHeartbeats 1600000 in
theorem snew_bad (n b k : Int) (h : ¬ confMay n b k) (w : World) : Calls Tryz.prog 9 #[.int .i64 n, .int .i64 b, .int .i64 k] w fun e w' => e = .returned (.tuple #[.pointer none, .int .i64 1]) ∧ w' = w := by
  have U1 := upTo_any n 1024
  have U2 := upTo_any b 1048576
  have U3 := upTo_any k 1000
  by_cases h1 : 1 ≤ n ∧ n ≤ 1024
  · have e1 : (decide (1 ≤ n) && decide (n ≤ 1024)) = true := by simp [h1.1, h1.2]
    rw [e1] at U1
    by_cases h2 : 1 ≤ b ∧ b ≤ 1048576
    · have e2 : (decide (1 ≤ b) && decide (b ≤ 1048576)) = true := by simp [h2.1, h2.2]
      have e3 : (decide (1 ≤ k) && decide (k ≤ 1000)) = false := by
        by_cases h3 : 1 ≤ k
        · have : ¬ k ≤ 1000 := fun g => h ⟨h1, h2, h3, g⟩
          simp [this]
        · simp [h3]
      rw [e2] at U2
      rw [e3] at U3
      clear h h1 h2 e1 e2 e3
      go_enter Tryz.func9, Tryz.ntmps9
      go_wp2_with fail
      refine (U1 _).mono ?_
      rintro e w1 ⟨rfl, rfl⟩
      go_wp2_with fail
      refine (U2 _).mono ?_
      rintro e w1 ⟨rfl, rfl⟩
      go_wp2_with fail
      refine (U3 _).mono ?_
      rintro e w1 ⟨rfl, rfl⟩
      go_wp2_with fail
      go_ret2
      exact ⟨rfl, rfl⟩
    · have e2 : (decide (1 ≤ b) && decide (b ≤ 1048576)) = false := by
        by_cases h3 : 1 ≤ b
        · have : ¬ b ≤ 1048576 := fun g => h2 ⟨h3, g⟩
          simp [this]
        · simp [h3]
      rw [e2] at U2
      clear h h1 h2 e1 e2 U3
      go_enter Tryz.func9, Tryz.ntmps9
      go_wp2_with fail
      refine (U1 _).mono ?_
      rintro e w1 ⟨rfl, rfl⟩
      go_wp2_with fail
      refine (U2 _).mono ?_
      rintro e w1 ⟨rfl, rfl⟩
      go_wp2_with fail
      go_ret2
      exact ⟨rfl, rfl⟩
  · have e1 : (decide (1 ≤ n) && decide (n ≤ 1024)) = false := by
      by_cases h3 : 1 ≤ n
      · have : ¬ n ≤ 1024 := fun g => h1 ⟨h3, g⟩
        simp [this]
      · simp [h3]
    rw [e1] at U1
    clear h h1 e1 U2 U3
    go_enter Tryz.func9, Tryz.ntmps9
    go_wp2_with fail
    refine (U1 _).mono ?_
    rintro e w1 ⟨rfl, rfl⟩
    go_wp2_with fail
    go_ret2
    exact ⟨rfl, rfl⟩
/- What New answers and leaves. -/
def SNewC (c : Cf) (w : World) (e : Ending) (w' : World) : Prop := ∃ X F, e = .returned (.tuple #[.pointer (some ⟨X, 0, none⟩), .int .i64 0]) ∧ Kept w w' ∧ (∀ k, F k → w.heap.size ≤ k) ∧ St w' F X c MS0
set_option maxHeartbeats 1600000 in
theorem snew_any (c : Cf) (hc : c.may) (w : World) : Calls Tryz.prog 9 #[.int .i64 (c.n : Int), .int .i64 (c.B : Int), .int .i64 (c.K : Int)] w (SNewC c w) := by
  obtain ⟨n1, n2, b1, b2, k1, k2⟩ := hc
  have U1 := upTo_any (c.n : Int) 1024
  have U2 := upTo_any (c.B : Int) 1048576
  have U3 := upTo_any (c.K : Int) 1000
  have e1 : (decide (1 ≤ (c.n : Int)) && decide ((c.n : Int) ≤ 1024)) = true := by simp; omega
  have e2 : (decide (1 ≤ (c.B : Int)) && decide ((c.B : Int) ≤ 1048576)) = true := by simp; omega
  have e3 : (decide (1 ≤ (c.K : Int)) && decide ((c.K : Int) ≤ 1000)) = true := by simp; omega
  rw [e1] at U1
  rw [e2] at U2
  rw [e3] at U3
  clear e1 e2 e3
  obtain ⟨n, B, K⟩ := c
  simp only at *
  go_enter Tryz.func9, Tryz.ntmps9
  go_wp2_with fail
  refine (U1 _).mono ?_
  rintro e w1 ⟨rfl, rfl⟩
  go_wp2_with fail
  refine (U2 _).mono ?_
  rintro e w1 ⟨rfl, rfl⟩
  go_wp2_with fail
  refine (U3 _).mono ?_
  rintro e w1 ⟨rfl, rfl⟩
  go_wp2_with fail
  refine (places_any n n1 n2 _).mono ?_
  rintro e w2 ⟨X, F, a, rfl, kk, hF, hm⟩
  have c4 := (sm_cells hm).1.2.2.2.2.1
  have c6 := (sm_cells hm).1.2.2.2.2.2.2.1
  have fz := (sm_cells hm).2
  simp only at c4 c6
  have HE : Hid (SNewC ⟨n, B, K⟩ w1 (.returned (.tuple #[.pointer (some ⟨X, 0, none⟩), .int .i64 0])) ((w2.setCell ⟨X, 260, none⟩ (.int .i64 (B : Int))).setCell ⟨X, 262, none⟩ (.int .u64 (K : Int)))) := hid (by
    obtain ⟨cs, o1, o2⟩ := hm.obj
    have hs := sm_obj hm (w' := (w2.setCell ⟨X, 260, none⟩ (.int .i64 (B : Int))).setCell ⟨X, 262, none⟩ (.int .u64 (K : Int))) (fl' := fun _ => zero) (dg' := fun _ => 0) (size' := 0) (ev' := 0) (fun j hj => (Below.heap_setCell _ _ _ _ hj).trans (Below.heap_setCell _ _ _ _ hj)) (by simp [World.setCell])
    refine ⟨X, F, rfl, kept_set (kept_set kk (hF X hm.fX) _ _) (hF X hm.fX) _ _, hF, fun _ => zeroR, [], ⟨fun _ => none, [], a, ?_, coh_new⟩, rfl⟩
    have t := sm_ats hm
    have e : ∀ k, k ≠ X → ((w2.setCell ⟨X, 260, none⟩ (.int .i64 (B : Int))).setCell ⟨X, 262, none⟩ (.int .u64 (K : Int))).heap[k]? = w2.heap[k]? := fun j hj => (Below.heap_setCell _ _ _ _ hj).trans (Below.heap_setCell _ _ _ _ hj)
    have hsz : w2.heap.size ≤ ((w2.setCell ⟨X, 260, none⟩ (.int .i64 (B : Int))).setCell ⟨X, 262, none⟩ (.int .u64 (K : Int))).heap.size := by simp [World.setCell]
    exact ⟨⟨_, at_set (at_set o1 _ _) _ _, ob_conf o2 B K⟩, rowR_block hm.row (e _ (ne_of t.p t.x (by decide))), slo_block hm.tab (e _ (ne_of t.xt t.x (by decide))) (e _ (ne_of t.rt t.x (by decide))), hm.mp, hm.cnt, lru_block hm.lst (e _ (ne_of t.xl t.x (by decide))) (e _ (ne_of t.rl t.x (by decide))), whl_block hm.whl (fun k hk => e k (fun q => hm.nX (q ▸ hk))) hsz, hm.fX, hm.fP, hm.fXt, hm.fRt, hm.fXl, hm.fRl, hm.fw, hm.nX, hm.nP, hm.nXt, hm.nRt, hm.nXl, hm.nRl, fun k hk => Nat.lt_of_lt_of_le (hm.low k hk) hsz⟩)
  clear hm kk hF
  go_wp2_with fail
  go_ret2
  exact HE.out
end Go.Proofs.YthgbdaladngpdaaGreat

/- The contracts of Put, Peek and Get, of Len, Size, Evicted, Floor and Digest, over a store as a plain row of records; of all of these of a nil store. A key has at most 1000 bytes, a body at most 3000; the store has at most 500 records. -/
namespace Go.Proofs.YthgbdaladngpdaaGreat
open Go.ChangeShapes Go.WideShapes Go.ChangeAt Go.RowKit
open Go.Proofs.YthgbdaladngpdaaGreat.Whl (Tn tn_kept tn_refl tn_trans tn_set tn_alloc at_tn kept_tn It)
set_option linter.unusedVariables false
set_option linter.unusedSimpArgs false
set_option maxRecDepth 100000

section
variable {c : Cf} {s : MS} {r : R} {now : Int}
theorem put_of {k : Int} (hK : putK c s r now = k) (hk : k ≠ 100) : putB c s r now = false ∧ putE c s r now = k ∧ putS c s r now = s := by
  unfold putB putE putS
  rw [hK]
  exact ⟨decide_eq_false hk, if_neg hk, if_neg hk⟩
theorem put_100 (hK : putK c s r now = 100) : putB c s r now = true ∧ putE c s r now = 0 ∧ putS c s r now = newer c s r := by
  unfold putB putE putS
  rw [hK]
  exact ⟨decide_eq_true rfl, if_pos rfl, if_pos rfl⟩
end
def PutC (F : Nat → Prop) (X : Nat) (c : Cf) (s : MS) (r : R) (now : Int) (w : World) (e : Ending) (w' : World) : Prop :=
  e = .returned (.tuple #[.bool (putB c s r now), .int .i64 (putE c s r now)]) ∧ ∃ F', Whl.Stp F F' w w' ∧ St w' F' X c (putS c s r now)
theorem put_any {F : Nat → Prop} {X : Nat} {c : Cf} {s : MS} (hc : c.may) (r : R) (hk : r.key.size ≤ 1000) (hb : r.body.size ≤ 3000) (hok : r.ok) (now : Int) (hl : s.L.length ≤ 500) (hev : s.ev ≤ 900000000) (w : World) (h : St w F X c s) :
    Calls Tryz.prog 14 #[.pointer (some ⟨X, 0, none⟩), .agg #[.string r.key, .int .u64 r.s.p, .int .u32 r.s.l, .int .u8 r.s.n, .int .u8 r.kind, .int .u32 r.flags, .int .u64 r.exp, .string r.body], .int .u64 now] w (PutC F X c s r now w) := by
  obtain ⟨pl, l, hI, hL⟩ := h
  have hln : l.length ≤ 500 := by rw [hL] at hl; simpa using hl
  have kept : ∀ (k : Int), putK c s r now = k → k ≠ 100 → ∀ w', Kept w w' → PutC F X c s r now w (.returned (.tuple #[.bool false, .int .i64 k])) w' := fun k hK hk w' kw => by
    obtain ⟨h1, h2, h3⟩ := put_of hK hk
    unfold PutC
    rw [h1, h2, h3]
    exact ⟨rfl, F, Whl.stp_tn (tn_kept kw), pl, l, sti_kept hI kw, hL⟩
  have newr : putK c s r now = 100 → ∀ w', (∃ F', Whl.Stp F F' w w' ∧ St w' F' X c (newer c ⟨l.map pl, s.fl, s.ev⟩ r)) → PutC F X c s r now w (.returned (.tuple #[.bool true, .int .i64 0])) w' := fun hK w' hw => by
    obtain ⟨h1, h2, h3⟩ := put_100 hK
    unfold PutC
    rw [h1, h2, h3]
    have es : (⟨l.map pl, s.fl, s.ev⟩ : MS) = s := by rw [← hL]
    rw [es] at hw
    exact ⟨rfl, hw⟩
  cases hm : mayR r with
  | false =>
    have hK : putK c s r now = 1 := by unfold putK; rw [if_pos hm]
    refine (put_may hc r hk hb hok now w hI hm).mono ?_
    rintro e w' ⟨rfl, kw⟩
    exact kept 1 hK (by omega) w' kw
  | true =>
    by_cases ho : r.s.p + (c.K : Int) ≤ now
    · have hK : putK c s r now = 8 := by unfold putK; rw [if_neg (by simp [hm]), if_pos ho]
      refine (put_old hc r hk hb hok now w hI hm ho).mono ?_
      rintro e w' ⟨rfl, kw⟩
      exact kept 8 hK (by omega) w' kw
    · cases hf : findK s.L r.key with
      | some q =>
        have hco : Coh c pl l _ _ (fun _ => False) := hI.choose_spec.choose_spec.choose_spec.2
        obtain ⟨q1, q2⟩ := find_some hf
        rw [hL] at q1
        obtain ⟨i, hi, rfl⟩ := List.mem_map.1 q1
        have hK : putK c s r now = if cmpR r (pl i) = 0 then 0 else if cmpR r (pl i) < 0 then 8 else if c.B < lenR r then 6 else 100 := by
          unfold putK; rw [if_neg (by simp [hm]), if_neg ho, hf]
        by_cases h0 : cmpR r (pl i) = 0
        · rw [if_pos h0] at hK
          refine (put_same hc r hk hb hok now w hI hm ho i hi q2 h0).mono ?_
          rintro e w' ⟨rfl, kw⟩
          exact kept 0 hK (by omega) w' kw
        · rw [if_neg h0] at hK
          by_cases h1 : cmpR r (pl i) < 0
          · rw [if_pos h1] at hK
            refine (put_ahead hc r hk hb hok now w hI hm ho i hi q2 h1).mono ?_
            rintro e w' ⟨rfl, kw⟩
            exact kept 8 hK (by omega) w' kw
          · rw [if_neg h1] at hK
            by_cases h2 : c.B < lenR r
            · rw [if_pos h2] at hK
              refine (put_big1 hc r hk hb hok now w hI hm ho i hi q2 (by omega) h2).mono ?_
              rintro e w' ⟨rfl, kw⟩
              exact kept 6 hK (by omega) w' kw
            · rw [if_neg h2] at hK
              refine (put_over hc r hk hb hok now w hI hm ho i hi q2 (by omega) (by omega) hln hev).mono ?_
              rintro e w' ⟨rfl, kw⟩
              exact newr hK w' kw
      | none =>
        have hK : putK c s r now = if lt (s.fl (rg r.key)) r.s = true then (if c.B < lenR r then 6 else 100) else 8 := by
          unfold putK; rw [if_neg (by simp [hm]), if_neg ho, hf]
        rw [hL] at hf
        by_cases h0 : cmp (s.fl (rg r.key)) r.s < 0
        · rw [if_pos (lt_cmp.2 h0)] at hK
          by_cases h2 : c.B < lenR r
          · rw [if_pos h2] at hK
            refine (put_big2 hc r hk hb hok now w hI hm ho hf h0 h2).mono ?_
            rintro e w' ⟨rfl, kw⟩
            exact kept 6 hK (by omega) w' kw
          · rw [if_neg h2] at hK
            refine (put_new hc r hk hb hok now w hI hm ho hf h0 (by omega) hln hev).mono ?_
            rintro e w' ⟨rfl, kw⟩
            exact newr hK w' kw
        · rw [if_neg (fun g => h0 (lt_cmp.1 g))] at hK
          refine (put_floor hc r hk hb hok now w hI hm ho hf h0).mono ?_
          rintro e w' ⟨rfl, kw⟩
          exact kept 8 hK (by omega) w' kw
/- What there is of a key. -/
def pk (s : MS) (k : ByteArray) : R := (findK s.L k).getD zeroR
theorem res2r {fn : Func} {p u : Tmp} (h : fn.results = #[.cell p 42, .tmp u]) (tmps : Array Value) {w : World} {X T : Nat} {v0 v1 v2 v3 v4 v5 v6 v7 r : Value} (hp : tmps.getD p undef = .pointer (some ⟨X, 0, none⟩)) (hu : tmps.getD u undef = r) (hA : At w X #[v0, v1, v2, v3, v4, v5, v6, v7] T) :
    (results fn tmps).run Tryz.prog w = .ok (.tuple #[.agg #[v0, v1, v2, v3, v4, v5, v6, v7], r]) w := by
  obtain ⟨c0, c1, c2, c3, c4, c5, c6, c7, -⟩ := at_cells8 hA
  have hp' : tmps[p]?.getD undef = .pointer (some ⟨X, 0, none⟩) := by simpa using hp
  have hu' : tmps[u]?.getD undef = r := by simpa using hu
  simp [results, h, go_sem, hp', hu', c0, c1, c2, c3, c4, c5, c6, c7]
set_option maxHeartbeats 1600000 in
theorem peek_none {F : Nat → Prop} {X : Nat} {c : Cf} {s : MS} (k : ByteArray) (hk : k.size ≤ 1000) (hf : findK s.L k = none) (w : World) (h : St w F X c s) :
    Calls Tryz.prog 18 #[.pointer (some ⟨X, 0, none⟩), .string k] w fun e w' => e = .returned (.tuple #[.agg #[.string zeroR.key, .int .u64 zeroR.s.p, .int .u32 zeroR.s.l, .int .u8 zeroR.s.n, .int .u8 zeroR.kind, .int .u32 zeroR.flags, .int .u64 zeroR.exp, .string zeroR.body], .bool false]) ∧ Kept w w' := by
  obtain ⟨pl, l, ⟨f, M, a, hm, hco⟩, hL⟩ := h
  have hz := zero27
  have hkm : k.size ≤ maxLen := by unfold maxLen; omega
  rw [hL] at hf
  have hfk : f k = none := (coh_none hco).2 hf
  have A1 := at_new w #[.string zeroR.key, .int .u64 zeroR.s.p, .int .u32 zeroR.s.l, .int .u8 zeroR.s.n, .int .u8 zeroR.kind, .int .u32 zeroR.flags, .int .u64 zeroR.exp, .string zeroR.body] 42
  have K1 := kept_alloc (kept_refl w) (.cells #[.string zeroR.key, .int .u64 zeroR.s.p, .int .u32 zeroR.s.l, .int .u8 zeroR.s.n, .int .u8 zeroR.kind, .int .u32 zeroR.flags, .int .u64 zeroR.exp, .string zeroR.body] 42)
  simp only [zeroR, zero] at A1 K1
  obtain ⟨w1, hw1⟩ : ∃ w1, w.alloc (.cells #[.string ⟨#[]⟩, .int .u64 0, .int .u32 0, .int .u8 0, .int .u8 0, .int .u32 0, .int .u64 0, .string ⟨#[]⟩] 42) = w1 := ⟨_, rfl⟩
  obtain ⟨Y, hY⟩ : ∃ Y, w.heap.size = Y := ⟨_, rfl⟩
  rw [hw1] at A1 K1
  rw [hY] at A1
  have HA1 := hid A1
  have HK1 := hid K1
  have HYl := hid (Nat.le_of_eq hY)
  have hm1 := sm_kept hm K1
  have hGet := Slo.get_any k hkm w1 hm1.tab
  rw [Slo.valI_mp, Slo.taken_mp, hm.mp, hfk] at hGet
  obtain ⟨⟨_, c1, _⟩, _⟩ := sm_cells hm1
  clear hm hm1 hco hf hfk A1 K1 hL
  go_enter Tryz.func18, Tryz.ntmps18
  go_wp2_with fail
  refine hGet.mono ?_
  rintro e w2 ⟨rfl, k2⟩
  have HK2 := hid (kept_trans HK1.out k2)
  have HA2 := hid (at_kept HA1.out k2)
  clear k2 hGet c1 HA1 HK1 hw1
  obtain ⟨d0, d1, d2, d3, d4, d5, d6, d7, df⟩ := at_cells8 HA2.out
  have E1 := hid (at_set8 HA2.out (.string ⟨#[]⟩) (.int .u64 0) (.int .u32 0) (.int .u8 0) (.int .u8 0) (.int .u32 0) (.int .u64 0) (.string ⟨#[]⟩))
  have E2 := hid (kept_set8 HK2.out HYl.out (.string ⟨#[]⟩) (.int .u64 0) (.int .u32 0) (.int .u8 0) (.int .u8 0) (.int .u32 0) (.int .u64 0) (.string ⟨#[]⟩))
  simp only [set8] at E1 E2
  clear HA2 HK2
  go_wp2_with fail
  exact bodyPost_ret (res2r Tryz.results18 _ rfl rfl E1.out) rfl ⟨rfl, E2.out⟩
set_option maxHeartbeats 1600000 in
theorem peek_some {F : Nat → Prop} {X : Nat} {c : Cf} {s : MS} (hc : c.may) (k : ByteArray) (hk : k.size ≤ 1000) (q : R) (hf : findK s.L k = some q) (w : World) (h : St w F X c s) :
    Calls Tryz.prog 18 #[.pointer (some ⟨X, 0, none⟩), .string k] w fun e w' => e = .returned (.tuple #[.agg #[.string q.key, .int .u64 q.s.p, .int .u32 q.s.l, .int .u8 q.s.n, .int .u8 q.kind, .int .u32 q.flags, .int .u64 q.exp, .string q.body], .bool true]) ∧ Kept w w' := by
  obtain ⟨pl, l, ⟨f, M, a, hm, hco⟩, hL⟩ := h
  have hz := zero27
  have hkm : k.size ≤ maxLen := by unfold maxLen; omega
  rw [hL] at hf
  obtain ⟨i, hi, hfk⟩ : ∃ i ∈ l, f k = some (i : Int) ∧ pl i = q := by
    obtain ⟨q1, q2⟩ := find_some hf
    obtain ⟨i, hi, e⟩ := List.mem_map.1 q1
    exact ⟨i, hi, (hco.map k (i : Int)).2 ⟨i, hi, rfl, by rw [e]; exact q2⟩, e⟩
  obtain ⟨hfk, hpq⟩ := hfk
  have hin : i < c.n := hco.low i hi
  have hn4 : c.n ≤ 1024 := hc.2.1
  have hmay := hco.may i hi
  rw [hpq] at hmay
  have hqk : q.key.size ≤ 140737488355328 := by have := (may_len hmay).2; omega
  have hqb : q.body.size ≤ 140737488355328 := by have := (may_len hmay).1; unfold lenR at this; omega
  have A1 := at_new w #[.string zeroR.key, .int .u64 zeroR.s.p, .int .u32 zeroR.s.l, .int .u8 zeroR.s.n, .int .u8 zeroR.kind, .int .u32 zeroR.flags, .int .u64 zeroR.exp, .string zeroR.body] 42
  have K1 := kept_alloc (kept_refl w) (.cells #[.string zeroR.key, .int .u64 zeroR.s.p, .int .u32 zeroR.s.l, .int .u8 zeroR.s.n, .int .u8 zeroR.kind, .int .u32 zeroR.flags, .int .u64 zeroR.exp, .string zeroR.body] 42)
  simp only [zeroR, zero] at A1 K1
  obtain ⟨w1, hw1⟩ : ∃ w1, w.alloc (.cells #[.string ⟨#[]⟩, .int .u64 0, .int .u32 0, .int .u8 0, .int .u8 0, .int .u32 0, .int .u64 0, .string ⟨#[]⟩] 42) = w1 := ⟨_, rfl⟩
  obtain ⟨Y, hY⟩ : ∃ Y, w.heap.size = Y := ⟨_, rfl⟩
  rw [hw1] at A1 K1
  rw [hY] at A1
  have HA1 := hid A1
  have HK1 := hid K1
  have HYl := hid (Nat.le_of_eq hY)
  have hm1 := sm_kept hm K1
  have HM1 := hid hm1
  have hGet := Slo.get_any k hkm w1 hm1.tab
  rw [Slo.valI_mp, Slo.taken_mp, hm.mp, hfk] at hGet
  have hGet2 : Calls Tryz.prog 38 #[.pointer (some ⟨a.Xt, 0, none⟩), .string k] w1 fun e w' => e = .returned (.tuple #[.int .i64 (i : Int), .bool true]) ∧ Kept w1 w' := hGet
  obtain ⟨⟨_, c1, _⟩, _⟩ := sm_cells hm1
  have HPq := hid hpq
  clear hm hm1 hco hf hfk A1 K1 hL hi hGet hmay hpq
  go_enter Tryz.func18, Tryz.ntmps18
  go_wp2_with fail
  refine hGet2.mono ?_
  rintro e w2 ⟨rfl, k2⟩
  have HK2 := hid (kept_trans HK1.out k2)
  have HA2 := hid (at_kept HA1.out k2)
  have hm2 := sm_kept HM1.out k2
  obtain ⟨⟨e0, _⟩, _⟩ := sm_cells hm2
  have hr8 := (rowR_cells hm2.row hin).1
  rw [HPq.out] at hr8
  obtain ⟨r0, r1, r2, r3, r4, r5, r6, r7⟩ := hr8
  clear k2 hGet2 c1 HA1 HK1 hw1 hm2 HM1
  go_wp2_with fail
  refine (fresh_any q hqk hqb _).mono ?_
  rintro e w3 ⟨rfl, k3⟩
  have HK3 := hid (kept_trans HK2.out k3)
  have HA3 := hid (at_kept HA2.out k3)
  clear k3 HK2 HA2 e0 r0 r1 r2 r3 r4 r5 r6 r7
  obtain ⟨d0, d1, d2, d3, d4, d5, d6, d7, df⟩ := at_cells8 HA3.out
  have E1 := hid (at_set8 HA3.out (.string q.key) (.int .u64 q.s.p) (.int .u32 q.s.l) (.int .u8 q.s.n) (.int .u8 q.kind) (.int .u32 q.flags) (.int .u64 q.exp) (.string q.body))
  have E2 := hid (kept_set8 HK3.out HYl.out (.string q.key) (.int .u64 q.s.p) (.int .u32 q.s.l) (.int .u8 q.s.n) (.int .u8 q.kind) (.int .u32 q.flags) (.int .u64 q.exp) (.string q.body))
  simp only [set8] at E1 E2
  clear HA3 HK3
  go_wp2_with fail
  exact bodyPost_ret (res2r Tryz.results18 _ rfl rfl E1.out) rfl ⟨rfl, E2.out⟩
theorem peek_any {F : Nat → Prop} {X : Nat} {c : Cf} {s : MS} (hc : c.may) (k : ByteArray) (hk : k.size ≤ 1000) (w : World) (h : St w F X c s) :
    Calls Tryz.prog 18 #[.pointer (some ⟨X, 0, none⟩), .string k] w fun e w' => e = .returned (.tuple #[.agg #[.string (pk s k).key, .int .u64 (pk s k).s.p, .int .u32 (pk s k).s.l, .int .u8 (pk s k).s.n, .int .u8 (pk s k).kind, .int .u32 (pk s k).flags, .int .u64 (pk s k).exp, .string (pk s k).body], .bool (findK s.L k).isSome]) ∧ Kept w w' := by
  unfold pk
  cases hf : findK s.L k with
  | none => exact peek_none k hk hf w h
  | some q => exact peek_some hc k hk q hf w h
end Go.Proofs.YthgbdaladngpdaaGreat

/- The contracts of Get and Purge, of Len, Size, Evicted, Floor and Digest, over a store as a plain row of records; of all of these of a nil store. A key has at most 1000 bytes; the store has at most 500 records. -/
namespace Go.Proofs.YthgbdaladngpdaaGreat
open Go.ChangeShapes Go.WideShapes Go.ChangeAt Go.RowKit
open Go.Proofs.YthgbdaladngpdaaGreat.Whl (Tn tn_kept tn_refl tn_trans tn_set tn_alloc at_tn kept_tn It)
set_option linter.unusedVariables false
set_option linter.unusedSimpArgs false
set_option maxRecDepth 100000

section
variable {F : Nat → Prop} {X : Nat} {c : Cf} {s : MS}
theorem len_st (w : World) (h : St w F X c s) : Calls Tryz.prog 22 #[.pointer (some ⟨X, 0, none⟩)] w fun e w' => e = .returned (.int .i64 (s.L.length : Int)) ∧ w' = w := by
  obtain ⟨pl, l, ⟨f, M, a, hm, hco⟩, hL⟩ := h
  have := slen_any w hm
  rw [hL, List.length_map]
  exact this
theorem size_st (w : World) (h : St w F X c s) : Calls Tryz.prog 23 #[.pointer (some ⟨X, 0, none⟩)] w fun e w' => e = .returned (.int .i64 (sizeL s.L : Int)) ∧ w' = w := by
  obtain ⟨pl, l, ⟨f, M, a, hm, hco⟩, hL⟩ := h
  rw [hL]
  exact ssize_any w hm
theorem ev_st (w : World) (h : St w F X c s) : Calls Tryz.prog 25 #[.pointer (some ⟨X, 0, none⟩)] w fun e w' => e = .returned (.int .i64 (s.ev : Int)) ∧ w' = w := by
  obtain ⟨pl, l, ⟨f, M, a, hm, hco⟩, hL⟩ := h
  exact sev_any w hm
theorem floor_st (k : Nat) (hk : k < 64) (w : World) (h : St w F X c s) : Calls Tryz.prog 26 #[.pointer (some ⟨X, 0, none⟩), .int .i64 (k : Int)] w fun e w' => e = .returned (.agg #[.int .u64 (s.fl k).p, .int .u32 (s.fl k).l, .int .u8 (s.fl k).n]) ∧ Kept w w' := by
  obtain ⟨pl, l, ⟨f, M, a, hm, hco⟩, hL⟩ := h
  exact sfloor_any k hk w hm
theorem dig_st (k : Nat) (hk : k < 64) (w : World) (h : St w F X c s) : Calls Tryz.prog 27 #[.pointer (some ⟨X, 0, none⟩), .int .i64 (k : Int)] w fun e w' => e = .returned (.int .u64 (digL k s.L : Int)) ∧ w' = w := by
  obtain ⟨pl, l, ⟨f, M, a, hm, hco⟩, hL⟩ := h
  rw [hL]
  exact sdig_any k hk w hm
end
theorem tn_set8 {F : Nat → Prop} {u w : World} (h : Tn F u w) {X : Nat} (hX : F X ∨ u.heap.size ≤ X) (a0 a1 a2 a3 a4 a5 a6 a7 : Value) : Tn F u (set8 w X a0 a1 a2 a3 a4 a5 a6 a7) :=
  tn_set (tn_set (tn_set (tn_set (tn_set (tn_set (tn_set (tn_set h hX _ _) hX _ _) hX _ _) hX _ _) hX _ _) hX _ _) hX _ _) hX _ _
set_option maxHeartbeats 1600000 in
theorem get_none {F : Nat → Prop} {X : Nat} {c : Cf} {s : MS} (hc : c.may) (k : ByteArray) (hk : k.size ≤ 1000) (hf : findK s.L k = none) (w : World) (h : St w F X c s) :
    Calls Tryz.prog 16 #[.pointer (some ⟨X, 0, none⟩), .string k] w fun e w' => e = .returned (.tuple #[.agg #[.string zeroR.key, .int .u64 zeroR.s.p, .int .u32 zeroR.s.l, .int .u8 zeroR.s.n, .int .u8 zeroR.kind, .int .u32 zeroR.flags, .int .u64 zeroR.exp, .string zeroR.body], .bool false]) ∧ Kept w w' := by
  have hz := zero27
  have hP0 := fun u (hu : St u F X c s) => peek_none k hk hf u hu
  have A1 := at_new w #[.string zeroR.key, .int .u64 zeroR.s.p, .int .u32 zeroR.s.l, .int .u8 zeroR.s.n, .int .u8 zeroR.kind, .int .u32 zeroR.flags, .int .u64 zeroR.exp, .string zeroR.body] 42
  have K1 := kept_alloc (kept_refl w) (.cells #[.string zeroR.key, .int .u64 zeroR.s.p, .int .u32 zeroR.s.l, .int .u8 zeroR.s.n, .int .u8 zeroR.kind, .int .u32 zeroR.flags, .int .u64 zeroR.exp, .string zeroR.body] 42)
  obtain ⟨q, hq⟩ : ∃ q, zeroR = q := ⟨_, rfl⟩
  rw [hq] at hP0
  rw [hq]
  clear hq
  simp only [zeroR, zero] at A1 K1
  obtain ⟨w1, hw1⟩ : ∃ w1, w.alloc (.cells #[.string ⟨#[]⟩, .int .u64 0, .int .u32 0, .int .u8 0, .int .u8 0, .int .u32 0, .int .u64 0, .string ⟨#[]⟩] 42) = w1 := ⟨_, rfl⟩
  obtain ⟨Y, hY⟩ : ∃ Y, w.heap.size = Y := ⟨_, rfl⟩
  rw [hw1] at A1 K1
  rw [hY] at A1
  have hP := hP0 w1 (st_kept h K1)
  have HA1 := hid A1
  have HK1 := hid K1
  have HYl := hid (Nat.le_of_eq hY)
  clear h A1 K1 hf hP0
  go_enter Tryz.func16, Tryz.ntmps16
  go_wp2_with fail
  refine hP.mono ?_
  rintro e w2 ⟨rfl, k2⟩
  have HK2 := hid (kept_trans HK1.out k2)
  have HA2 := hid (at_kept HA1.out k2)
  clear k2 hP HA1 HK1 hw1
  have A3 := at_new w2 #[.string q.key, .int .u64 q.s.p, .int .u32 q.s.l, .int .u8 q.s.n, .int .u8 q.kind, .int .u32 q.flags, .int .u64 q.exp, .string q.body] 42
  have K3 := kept_alloc (kept_refl w2) (.cells #[.string q.key, .int .u64 q.s.p, .int .u32 q.s.l, .int .u8 q.s.n, .int .u8 q.kind, .int .u32 q.flags, .int .u64 q.exp, .string q.body] 42)
  obtain ⟨w3, hw3⟩ : ∃ w3, w2.alloc (.cells #[.string q.key, .int .u64 q.s.p, .int .u32 q.s.l, .int .u8 q.s.n, .int .u8 q.kind, .int .u32 q.flags, .int .u64 q.exp, .string q.body] 42) = w3 := ⟨_, rfl⟩
  obtain ⟨Z, hZ⟩ : ∃ Z, w2.heap.size = Z := ⟨_, rfl⟩
  rw [hw3] at A3 K3
  rw [hZ] at A3
  have HK3 := hid (kept_trans HK2.out K3)
  have HA3 := hid (at_kept HA2.out K3)
  obtain ⟨z0, z1, z2, z3, z4, z5, z6, z7, zf⟩ := at_cells8 A3
  obtain ⟨d0, d1, d2, d3, d4, d5, d6, d7, df⟩ := at_cells8 HA3.out
  have E1 := hid (at_set8 HA3.out (.string q.key) (.int .u64 q.s.p) (.int .u32 q.s.l) (.int .u8 q.s.n) (.int .u8 q.kind) (.int .u32 q.flags) (.int .u64 q.exp) (.string q.body))
  have E2 := hid (kept_set8 HK3.out HYl.out (.string q.key) (.int .u64 q.s.p) (.int .u32 q.s.l) (.int .u8 q.s.n) (.int .u8 q.kind) (.int .u32 q.flags) (.int .u64 q.exp) (.string q.body))
  simp only [set8] at E1 E2
  clear HA2 HK2 A3 K3 HA3 HK3
  go_wp2_with fail
  exact bodyPost_ret (res2r Tryz.results16 _ rfl rfl E1.out) rfl ⟨rfl, E2.out⟩
set_option maxHeartbeats 1600000 in
theorem get_some {F : Nat → Prop} {X : Nat} {c : Cf} {s : MS} (hc : c.may) (k : ByteArray) (hk : k.size ≤ 1000) (q : R) (hf : findK s.L k = some q) (w : World) (h : St w F X c s) :
    Calls Tryz.prog 16 #[.pointer (some ⟨X, 0, none⟩), .string k] w fun e w' => e = .returned (.tuple #[.agg #[.string q.key, .int .u64 q.s.p, .int .u32 q.s.l, .int .u8 q.s.n, .int .u8 q.kind, .int .u32 q.flags, .int .u64 q.exp, .string q.body], .bool true]) ∧ Tn F w w' ∧ St w' F X c (getS s k) := by
  have hz := zero27
  have HLow : Hid (¬ F w.heap.size) := hid (fun hf => by have := st_low h _ hf; omega)
  have A1 := at_new w #[.string zeroR.key, .int .u64 zeroR.s.p, .int .u32 zeroR.s.l, .int .u8 zeroR.s.n, .int .u8 zeroR.kind, .int .u32 zeroR.flags, .int .u64 zeroR.exp, .string zeroR.body] 42
  have K1 := kept_alloc (kept_refl w) (.cells #[.string zeroR.key, .int .u64 zeroR.s.p, .int .u32 zeroR.s.l, .int .u8 zeroR.s.n, .int .u8 zeroR.kind, .int .u32 zeroR.flags, .int .u64 zeroR.exp, .string zeroR.body] 42)
  simp only [zeroR, zero] at A1 K1
  obtain ⟨w1, hw1⟩ : ∃ w1, w.alloc (.cells #[.string ⟨#[]⟩, .int .u64 0, .int .u32 0, .int .u8 0, .int .u8 0, .int .u32 0, .int .u64 0, .string ⟨#[]⟩] 42) = w1 := ⟨_, rfl⟩
  obtain ⟨Y, hY⟩ : ∃ Y, w.heap.size = Y := ⟨_, rfl⟩
  rw [hw1] at A1 K1
  rw [hY] at A1 HLow
  have HS1 := hid (st_kept h K1)
  have hP := peek_some hc k hk q hf w1 HS1.out
  have HA1 := hid A1
  have HK1 := hid K1
  have HYl := hid (Nat.le_of_eq hY)
  have HF0 := hid hf
  clear h A1 K1 hf
  go_enter Tryz.func16, Tryz.ntmps16
  go_wp2_with fail
  refine hP.mono ?_
  rintro e w2 ⟨rfl, k2⟩
  have HK2 := hid (kept_trans HK1.out k2)
  have HA2 := hid (at_kept HA1.out k2)
  have HS2 := hid (st_kept HS1.out k2)
  clear k2 hP HA1 HK1 hw1 HS1
  have A3 := at_new w2 #[.string q.key, .int .u64 q.s.p, .int .u32 q.s.l, .int .u8 q.s.n, .int .u8 q.kind, .int .u32 q.flags, .int .u64 q.exp, .string q.body] 42
  have K3 := kept_alloc (kept_refl w2) (.cells #[.string q.key, .int .u64 q.s.p, .int .u32 q.s.l, .int .u8 q.s.n, .int .u8 q.kind, .int .u32 q.flags, .int .u64 q.exp, .string q.body] 42)
  obtain ⟨w3, hw3⟩ : ∃ w3, w2.alloc (.cells #[.string q.key, .int .u64 q.s.p, .int .u32 q.s.l, .int .u8 q.s.n, .int .u8 q.kind, .int .u32 q.flags, .int .u64 q.exp, .string q.body] 42) = w3 := ⟨_, rfl⟩
  obtain ⟨Z, hZ⟩ : ∃ Z, w2.heap.size = Z := ⟨_, rfl⟩
  have HLz : Hid (¬ F w2.heap.size) := hid (fun hf => by have := st_low HS2.out _ hf; omega)
  rw [hw3] at A3 K3
  rw [hZ] at A3 HLz
  have HK3 := hid (kept_trans HK2.out K3)
  have HA3 := hid (at_kept HA2.out K3)
  have HZ3 := hid A3
  obtain ⟨pl, l, ⟨f, M, a, hm0, hco⟩, hL⟩ := st_kept HS2.out K3
  have hm := hm0
  obtain ⟨i, hi, hfk, hpq, hki⟩ : ∃ i ∈ l, f k = some (i : Int) ∧ pl i = q ∧ q.key = k := by
    have hf := HF0.out
    rw [hL] at hf
    obtain ⟨q1, q2⟩ := find_some hf
    obtain ⟨i, hi, e⟩ := List.mem_map.1 q1
    exact ⟨i, hi, (hco.map k (i : Int)).2 ⟨i, hi, rfl, by rw [e]; exact q2⟩, e, q2⟩
  have hin : i < c.n := hco.low i hi
  have hkm : k.size ≤ maxLen := by unfold maxLen; omega
  have hGet := Slo.get_any k hkm w3 hm.tab
  rw [Slo.valI_mp, Slo.taken_mp, hm.mp, hfk] at hGet
  have hGet2 : Calls Tryz.prog 38 #[.pointer (some ⟨a.Xt, 0, none⟩), .string k] w3 fun e w' => e = .returned (.tuple #[.int .i64 (i : Int), .bool true]) ∧ Kept w3 w' := hGet
  obtain ⟨⟨_, c1, _⟩, _⟩ := sm_cells hm
  have HM := hid hm
  have HEnd : Hid (∀ u, Sm u F X c pl (i :: less l i) f M s.fl (fun j => digL j (l.map pl)) (sizeL (l.map pl)) s.ev l.length a → St u F X c (getS s k)) := hid (fun u hu => by
    have hpm := coh_perm hco hi
    have e1 : (i :: less l i).map pl = pl i :: (less l i).map pl := rfl
    have e2 : ∀ j, digL j (l.map pl) = digL j ((i :: less l i).map pl) := fun j => digL_perm j (by rw [e1]; exact hpm)
    have e3 : sizeL (l.map pl) = sizeL ((i :: less l i).map pl) := sizeL_perm (by rw [e1]; exact hpm)
    have e4 : l.length = (i :: less l i).length := by
      have := hpm.length_eq
      simpa using this
    have e5 : getS s k = ⟨q :: woK s.L k, s.fl, s.ev⟩ := by unfold getS; rw [HF0.out]
    have hu2 := hu
    rw [e3, e4, show (fun j => digL j (l.map pl)) = fun j => digL j ((i :: less l i).map pl) from funext e2] at hu2
    rw [e5]
    refine ⟨pl, i :: less l i, ⟨f, M, a, hu2, coh_use hco hi⟩, ?_⟩
    show q :: woK s.L k = _
    rw [e1, hpq, less_woK hco hi, ← hL, hpq, hki])
  clear hm hm0 hco hfk hL hi hGet A3 K3 HK2 HA2 HS2 hki hpq
  go_wp2_with fail
  refine hGet2.mono ?_
  rintro e w4 ⟨rfl, k4⟩
  have HK4 := hid (kept_trans HK3.out k4)
  have HA4 := hid (at_kept HA3.out k4)
  have HZ4 := hid (at_kept HZ3.out k4)
  have HM4 := hid (sm_kept HM.out k4)
  obtain ⟨⟨_, _, c2, _⟩, _⟩ := sm_cells HM4.out
  clear k4 hGet2 c1 HK3 HA3 HZ3 HM hw3
  go_wp2_with fail
  refine (Lru.use_any i hin _ HM4.out.lst).mono ?_
  rintro e w5 ⟨rfl, t5, g5⟩
  have HS5 := hid (HEnd.out _ (sm_lst HM4.out t5 g5))
  have HT5 := hid (tn_trans (tn_kept HK4.out) (tn_turn t5 HM4.out.fRl))
  have A5 := at_tn HA4.out (tn_turn (F := F) t5 HM4.out.fRl) HLow.out
  have Z5 := at_tn HZ4.out (tn_turn (F := F) t5 HM4.out.fRl) HLz.out
  obtain ⟨z0, z1, z2, z3, z4, z5, z6, z7, zf⟩ := at_cells8 Z5
  obtain ⟨d0, d1, d2, d3, d4, d5, d6, d7, df⟩ := at_cells8 A5
  have E1 := hid (at_set8 A5 (.string q.key) (.int .u64 q.s.p) (.int .u32 q.s.l) (.int .u8 q.s.n) (.int .u8 q.kind) (.int .u32 q.flags) (.int .u64 q.exp) (.string q.body))
  have TY : Tn (fun k => k = Y) w5 (set8 w5 Y (.string q.key) (.int .u64 q.s.p) (.int .u32 q.s.l) (.int .u8 q.s.n) (.int .u8 q.kind) (.int .u32 q.flags) (.int .u64 q.exp) (.string q.body)) := tn_set8 (F := fun k => k = Y) tn_refl (.inl rfl) _ _ _ _ _ _ _ _
  have E2 := hid (st_tn HS5.out TY (fun j hj e => HLow.out (by rw [← e]; exact hj)))
  have E3 : Hid (Tn F w (set8 w5 Y (.string q.key) (.int .u64 q.s.p) (.int .u32 q.s.l) (.int .u8 q.s.n) (.int .u8 q.kind) (.int .u32 q.flags) (.int .u64 q.exp) (.string q.body))) := hid (tn_set8 HT5.out (.inr HYl.out) _ _ _ _ _ _ _ _)
  simp only [set8] at E1 E2 E3
  clear HS5 HT5 A5 Z5 TY t5 g5 HM4 HEnd HZ4 HA4 HK4 c2
  go_wp2_with fail
  exact bodyPost_ret (res2r Tryz.results16 _ rfl rfl E1.out) rfl ⟨rfl, E3.out, E2.out⟩
theorem get_any {F : Nat → Prop} {X : Nat} {c : Cf} {s : MS} (hc : c.may) (k : ByteArray) (hk : k.size ≤ 1000) (w : World) (h : St w F X c s) :
    Calls Tryz.prog 16 #[.pointer (some ⟨X, 0, none⟩), .string k] w fun e w' => e = .returned (.tuple #[.agg #[.string (pk s k).key, .int .u64 (pk s k).s.p, .int .u32 (pk s k).s.l, .int .u8 (pk s k).s.n, .int .u8 (pk s k).kind, .int .u32 (pk s k).flags, .int .u64 (pk s k).exp, .string (pk s k).body], .bool (findK s.L k).isSome]) ∧ Tn F w w' ∧ St w' F X c (getS s k) := by
  unfold pk
  cases hf : findK s.L k with
  | none =>
    refine (get_none hc k hk hf w h).mono ?_
    rintro e w' ⟨rfl, kw⟩
    have e5 : getS s k = s := by unfold getS; rw [hf]
    rw [e5]
    exact ⟨rfl, tn_kept kw, st_kept h kw⟩
  | some q => exact get_some hc k hk q hf w h
end Go.Proofs.YthgbdaladngpdaaGreat
