/- The contract of the landed talk's Add. A talk has at most 64 pieces. -/
import Derived.Test.YtalcbahnhiibkaaTkCode4
import Derived.Deep.RegionHeld3
import Derived.Shelf.Abstract
namespace Go.Proofs.Ytalcbahnhiibkaa
open Go.ChangeShapes Go.WideShapes Go.ChangeAt Go.RowKit
set_option linter.unusedVariables false
set_option linter.unusedSimpArgs false
set_option maxRecDepth 100000

section
variable {F F2 : Nat → Prop} {w u u' : World}
theorem tn_kept (k : Kept u u') : Tn F u u' := ⟨kept_os k, kept_output k, k.2, fun b hb _ => kept_block k hb⟩
theorem tn_comp (h : Tn F w u) (g : Tn F2 u u') (hf : ∀ b, F2 b → F b ∨ w.heap.size ≤ b) : Tn F w u' :=
  ⟨g.1.trans h.1, g.2.1.trans h.2.1, Nat.le_trans h.2.2.1 g.2.2.1, fun b hb hn => (g.2.2.2 b (Nat.lt_of_lt_of_le hb h.2.2.1) (fun f => (hf b f).elim hn (fun q => by omega))).trans (h.2.2.2 b hb hn)⟩
theorem tn_turn {G : Nat} (t : Turn G u u') : Tn (fun b => b = G) u u' := ⟨t.1, t.2.1, t.2.2.1, fun b hb hn => t.2.2.2 b hb hn⟩
theorem tn_set (u : World) (X o : Nat) (v : Value) : Tn (fun b => b = X) u (u.setCell ⟨X, o, none⟩ v) := tn_turn (turn_set (Turn.refl X u) o v)
theorem at_tn {X T : Nat} {cs : Array Value} (h : At u X cs T) (g : Tn F u u') (hn : ¬ F X) : At u' X cs T := (g.2.2.2 X (at_lt h) hn).trans h
end
theorem own_pick (v : Value) (N : Nat) : ∃ G, (∀ b, v.ownBlock = some b → b = G) ∧ (v.ownBlock = some G ∨ (v.ownBlock = none ∧ N ≤ G)) := by
  cases e : v.ownBlock with
  | none => exact ⟨N, fun b hb => (by cases hb), .inr ⟨rfl, Nat.le_refl _⟩⟩
  | some g => exact ⟨g, fun b hb => by injection hb with hb; exact hb.symm, .inl rfl⟩
theorem own_type {w : World} {v : Value} {l : List Pc} {b : Nat} (h : Og encP 4 62 w 0 v l) (hb : v.ownBlock = some b) : ∃ cs, At w b cs 62 := by
  rcases h.2 with ⟨rfl, _⟩ | ⟨g, cap, cur, rfl, _, hg, _⟩
  · cases hb
  · injection hb with hb
    subst hb
    exact ⟨cur, hg⟩
theorem tk_store {w : World} {X n k : Nat} {v0 v : Value} {l : List Pc} (hX : At w X #[.int .i64 (n : Int), .int .i64 (k : Int), v0] 54) (hO : Og encP 4 62 w 0 v l) : TkT (w.setCell ⟨X, 2, none⟩ v) X n k l (fun b => b = X ∨ v.ownBlock = some b) := by
  refine ⟨v, at_set hX 2 v, og_block hO (fun g cur hg ha => ?_), fun b => Iff.rfl⟩
  exact Below.heap_setCell _ _ _ _ (by show g ≠ X; exact at_ne ha hX (by decide))
theorem enters19 : Enters 19 := enters_of Try.func19 (by kernel_rfl) rfl
theorem enters18 : Enters 18 := enters_of Try.func18 (by kernel_rfl) rfl
set_option maxHeartbeats 6400000 in
theorem add_is (X n k : Nat) (l : List Pc) (F : Nat → Prop) (x : Nw) (w : World) (h : TkT w X n k l F) (hl : l.length ≤ 64) (hx : NwOk x) (hx2 : x.node < 64) : Calls Try.prog 12 #[.pointer (some ⟨X, 0, none⟩), .agg #[.int .u8 x.node, .int .u8 x.st, .int .u32 x.inc]] w (AddC TkT X n k (addP l x) F w) := by
  obtain ⟨v, hX, hO, hF⟩ := h
  have HF : Hid (∀ b, F b ↔ (b = X ∨ v.ownBlock = some b)) := hid hF
  have hAZ := at_new w #[.int .u8 x.node, .int .u8 x.st, .int .u32 x.inc] 33
  have hK1 := kept_alloc (kept_refl w) (.cells #[.int .u8 x.node, .int .u8 x.st, .int .u32 x.inc] 33)
  obtain ⟨w1, hw1⟩ : ∃ w1, w.alloc (.cells #[.int .u8 x.node, .int .u8 x.st, .int .u32 x.inc] 33) = w1 := ⟨_, rfl⟩
  obtain ⟨Z, hZ⟩ : ∃ Z, w.heap.size = Z := ⟨_, rfl⟩
  rw [hw1, hZ] at hAZ
  rw [hw1] at hK1
  have hX1 := at_kept hX hK1
  have hO1 := og_stays hO hK1
  obtain ⟨c0, c1, c2⟩ := at_cells3' hAZ
  have d2 : w1.cell? ⟨X, 2, none⟩ = some v := at_cell hX1 2
  have df : ∀ j, w1.frozen? ⟨X, j, none⟩ = false := at_frozen hX1
  obtain ⟨G, hG1, hG2⟩ := own_pick v w1.heap.size
  have hZG : Z ≠ G := by
    rintro rfl
    rcases hG2 with e | ⟨_, e⟩
    · obtain ⟨cs, hc⟩ := own_type hO1 e
      exact at_ne hc hAZ (by decide) rfl
    · have := at_lt hAZ; omega
  have hXG : X ≠ G := by
    rintro rfl
    rcases hG2 with e | ⟨_, e⟩
    · obtain ⟨cs, hc⟩ := own_type hO1 e
      exact at_ne hc hX1 (by decide) rfl
    · have := at_lt hX1; omega
  have hXZ : X ≠ Z := at_ne hX1 hAZ (by decide)
  have hp : PredOk 19 (.pointer (some ⟨Z, 0, none⟩)) (fun q => q.x.node == x.node) G w1 := fun u q ht => adddel_any q u (at_turn hAZ ht hZG)
  have hD := del_any enters19 (by omega) v w1 hO1 hG1 hp
  have hmf : ∀ (fn : Fn) (first cap : Array Value) (w : World), (Instr.makeFunc fn first cap).run Try.prog w = .ok (.func fn first cap) w := fun _ _ _ _ => rfl
  have HX1 := hid hX1
  have HAZ := hid hAZ
  have HK1 := hid hK1
  have HG : Hid (Z ≠ G ∧ X ≠ G ∧ X ≠ Z ∧ (v.ownBlock = some G ∨ (v.ownBlock = none ∧ w1.heap.size ≤ G)) ∧ w.heap.size = Z) := hid ⟨hZG, hXG, hXZ, hG2, hZ⟩
  have HLL : Hid ((l.filter (fun q => !(q.x.node == x.node))).length ≤ 1000) := hid (by have := List.length_filter_le (fun q : Pc => !(q.x.node == x.node)) l; omega)
  obtain ⟨va, vc, rfl, -, -⟩ := og_is encP_ok hO
  have hxz : ¬ (64 : Int) ≤ x.node := by omega
  clear hX hO hF hAZ hK1 hX1 hO1 hZG hXG hXZ hp hG1 hG2 hl hx hx2
  go_enter Try.func12, Try.ntmps12
  go_wp2_with fail
  clear hw1 c0 c1 c2 d2 df
  refine hD.mono ?_
  rintro e w2 ⟨v2, rfl, o2, ob2, t2⟩
  have hX2 := at_turn HX1.out t2 HG.out.2.1
  have hZ2 := at_turn HAZ.out t2 HG.out.1
  have d2 : w2.cell? ⟨X, 2, none⟩ = some (.slice va l.length vc) := at_cell hX2 2
  have df : ∀ j, w2.frozen? ⟨X, j, none⟩ = false := at_frozen hX2
  have hX3 : At (w2.setCell ⟨X, 2, none⟩ v2) X #[.int .i64 (n : Int), .int .i64 (k : Int), v2] 54 := at_set hX2 2 v2
  have hZ3 := at_other hZ2 (Ne.symm HG.out.2.2.1) 2 v2
  have hO3 : Og encP 4 62 (w2.setCell ⟨X, 2, none⟩ v2) 0 v2 (l.filter (fun q => !(q.x.node == x.node))) := og_block o2 (fun g cur hg ha => Below.heap_setCell _ _ _ _ (by show g ≠ X; exact at_ne ha hX2 (by decide)))
  have hT3 : Tn F w (w2.setCell ⟨X, 2, none⟩ v2) := by
    refine tn_comp (tn_comp (tn_kept HK1.out) (tn_turn t2) (fun b hb => ?_)) (tn_set w2 X 2 v2) (fun b hb => .inl ((HF.out b).2 (.inl hb)))
    subst hb
    rcases HG.out.2.2.2.1 with e | ⟨_, e⟩
    · exact .inl ((HF.out b).2 (.inr e))
    · exact .inr (by have := HK1.out.2; omega)
  have hN3 : w.heap.size ≤ (w2.setCell ⟨X, 2, none⟩ v2).heap.size := hT3.2.2.1
  obtain ⟨a2, c2, e2, -, -⟩ := og_is encP_ok o2
  obtain ⟨w3, hw3⟩ : ∃ w3, w2.setCell ⟨X, 2, none⟩ v2 = w3 := ⟨_, rfl⟩
  rw [hw3] at hX3 hZ3 hO3 hT3 hN3
  have hob : ∀ b, v2.ownBlock = some b → F b := fun b hb => (HF.out b).2 (.inr (by rw [← ob2]; exact hb))
  -- the piece that is laid beside it
  have hXv := at_alloc (at_drew hX3) (.cells #[.int .u8 x.node, .int .u8 x.st, .int .u32 x.inc, .int .i64 0] 62)
  have hZv := at_alloc (at_drew hZ3) (.cells #[.int .u8 x.node, .int .u8 x.st, .int .u32 x.inc, .int .i64 0] 62)
  have hKv := kept_alloc (kept_drew (kept_refl w3)) (.cells #[.int .u8 x.node, .int .u8 x.st, .int .u32 x.inc, .int .i64 0] 62)
  have hOv := og_stays hO3 hKv
  have hVv : One4 (w3.drew.alloc (.cells #[.int .u8 x.node, .int .u8 x.st, .int .u32 x.inc, .int .i64 0] 62)) w3.drew.heap.size x := at_new w3.drew _ 62
  have hVne : v2.ownBlock ≠ some w3.drew.heap.size := fun e => by
    have h1 := (World.ownsRow.lt hO3 _ e).2
    have h2 : w3.drew.heap.size = w3.heap.size := rfl
    omega
  have hI := insert_any HLL.out v2 _ hOv hVv hVne
  have e1 : w3.drew.cell? ⟨X, 2, none⟩ = some v2 := at_cell (at_drew hX3) 2
  have e3 : (w3.drew.alloc (.cells #[.int .u8 x.node, .int .u8 x.st, .int .u32 x.inc, .int .i64 0] 62)).cell? ⟨X, 2, none⟩ = some v2 := at_cell hXv 2
  have HS0 := hid (at_cells3' hZ3)
  have HSd := hid (at_cells3' (at_drew hZ3))
  have HSv := hid (at_cells3' hZv)
  have HF5 : Hid (∀ v5 w5, Og encP 4 62 w5 0 v5 (⟨x, 0⟩ :: l.filter (fun q => !(q.x.node == x.node))) → (∀ b, v5.ownBlock = some b → v2.ownBlock = some b ∨ (w3.drew.alloc (.cells #[.int .u8 x.node, .int .u8 x.st, .int .u32 x.inc, .int .i64 0] 62)).heap.size ≤ b) → Tn (fun b => v2.ownBlock = some b) (w3.drew.alloc (.cells #[.int .u8 x.node, .int .u8 x.st, .int .u32 x.inc, .int .i64 0] 62)) w5 →
      AddC TkT X n k (addP l x) F w (.returned (.int .i64 0)) (w5.setCell ⟨X, 2, none⟩ v5) ∧ ((w5.setCell ⟨X, 2, none⟩ v5).cell? ⟨Z, 0, none⟩ = some (.int .u8 x.node) ∧ (w5.setCell ⟨X, 2, none⟩ v5).cell? ⟨Z, 1, none⟩ = some (.int .u8 x.st) ∧ (w5.setCell ⟨X, 2, none⟩ v5).cell? ⟨Z, 2, none⟩ = some (.int .u32 x.inc)) ∧ (w5.cell? ⟨Z, 0, none⟩ = some (.int .u8 x.node) ∧ w5.cell? ⟨Z, 1, none⟩ = some (.int .u8 x.st) ∧ w5.cell? ⟨Z, 2, none⟩ = some (.int .u32 x.inc)) ∧ (w5.cell? ⟨X, 2, none⟩ = some v2 ∧ w5.frozen? ⟨X, 2, none⟩ = false)) := hid (fun v5 w5 o5 b5 t5 => by
    have nX : ¬ v2.ownBlock = some X := fun e => by
      obtain ⟨cs, hc⟩ := own_type hOv e
      exact at_ne hc hXv (by decide) rfl
    have nZ : ¬ v2.ownBlock = some Z := fun e => by
      obtain ⟨cs, hc⟩ := own_type hOv e
      exact at_ne hc hZv (by decide) rfl
    have hX5 := at_tn hXv t5 nX
    have hZ5 := at_tn hZv t5 nZ
    refine ⟨⟨fun b => b = X ∨ v5.ownBlock = some b, rfl, tk_store hX5 o5, ?_, fun b hb => ?_⟩, at_cells3' (at_other hZ5 (Ne.symm HG.out.2.2.1) 2 v5), at_cells3' hZ5, at_cell hX5 2, at_frozen hX5 2⟩
    · refine tn_comp (tn_comp (tn_comp hT3 (tn_kept hKv) (fun b hb => hb)) t5 (fun b hb => .inl (hob b hb))) (tn_set w5 X 2 v5) (fun b hb => .inl ((HF.out b).2 (.inl hb)))
    · rcases hb with rfl | hb
      · exact .inl ((HF.out _).2 (.inl rfl))
      · rcases b5 b hb with q | q
        · exact .inl (hob b q)
        · exact .inr (by have := hKv.2; omega))
  clear o2 ob2 t2 hX2 hZ2 hX3 hZ3 hO3 hT3 hN3 hob hXv hZv hKv hOv hVv hVne hD HX1 HAZ HLL
  subst e2
  go_wp2_with fail
  clear hw3 d2 df
  have hS0 := HS0.out
  have hS := HSd.out
  refine wp_region_noPanic ?_
  refine wp_region_held_drew (S := (fun w' => (w'.cell? ⟨Z, 0, none⟩ = some (.int .u8 x.node)) ∧ (w'.cell? ⟨Z, 1, none⟩ = some (.int .u8 x.st)) ∧ (w'.cell? ⟨Z, 2, none⟩ = some (.int .u32 x.inc)))) (by kernel_rfl) (by assumption) (fun hHeld => ?_)
  generalize w3.drew = wd at *
  refine wpAnyH_take (i := 0) (v := .pointer (some ⟨X, 0, none⟩)) rfl (by kernel_rfl) (by kernel_rfl) (by kernel_rfl) (fun _ _ _ h => h) (Or.inl ⟨by rfl, fun w hSw => by (try dsimp only at hSw); go_simp⟩) (by assumption) ?_
  try simp only [List.getElem_toArray, List.getElem_cons_zero, List.getElem_cons_succ, Act.put, List.setIfInBounds_toArray, List.set_cons_zero, List.set_cons_succ]
  refine wpAnyH_take (i := 1) (v := .pointer (some ⟨X, 0, none⟩)) rfl (by kernel_rfl) (by kernel_rfl) (by kernel_rfl) (fun _ _ _ h => h) (Or.inl ⟨by rfl, fun w hSw => by (try dsimp only at hSw); go_simp⟩) (by assumption) ?_
  try simp only [List.getElem_toArray, List.getElem_cons_zero, List.getElem_cons_succ, Act.put, List.setIfInBounds_toArray, List.set_cons_zero, List.set_cons_succ]
  refine wpAnyH_take (i := 2) (v := .pointer (some ⟨X, 0, none⟩)) rfl (by kernel_rfl) (by kernel_rfl) (by kernel_rfl) (fun _ _ _ h => h) (Or.inl ⟨by rfl, fun w hSw => by (try dsimp only at hSw); go_simp⟩) (by assumption) ?_
  try simp only [List.getElem_toArray, List.getElem_cons_zero, List.getElem_cons_succ, Act.put, List.setIfInBounds_toArray, List.set_cons_zero, List.set_cons_succ]
  refine wpAnyH_take (i := 3) (v := .pointer (some ⟨X, 2, none⟩)) rfl (by kernel_rfl) (by kernel_rfl) (by kernel_rfl) (fun _ _ _ h => h) (Or.inl ⟨by rfl, fun w hSw => by (try dsimp only at hSw); go_simp⟩) (by assumption) ?_
  try simp only [List.getElem_toArray, List.getElem_cons_zero, List.getElem_cons_succ, Act.put, List.setIfInBounds_toArray, List.set_cons_zero, List.set_cons_succ]
  refine wpAnyH_take (i := 5) (v := .agg #[.int .u8 x.node, .int .u8 x.st, .int .u32 x.inc]) rfl (by kernel_rfl) (by kernel_rfl) (by kernel_rfl) (fun _ _ _ h => h) (Or.inl ⟨by rfl, fun w hSw => by (try dsimp only at hSw); go_simp⟩) (by assumption) ?_
  try simp only [List.getElem_toArray, List.getElem_cons_zero, List.getElem_cons_succ, Act.put, List.setIfInBounds_toArray, List.set_cons_zero, List.set_cons_succ]
  refine wpAnyH_take (i := 6) (v := .agg #[.int .u8 x.node, .int .u8 x.st, .int .u32 x.inc, .int .i64 0]) rfl (by kernel_rfl) (by kernel_rfl) (by kernel_rfl) (fun _ _ _ h => h) (Or.inl ⟨by rfl, fun w hSw => by (try dsimp only at hSw); go_simp⟩) (by assumption) ?_
  try simp only [List.getElem_toArray, List.getElem_cons_zero, List.getElem_cons_succ, Act.put, List.setIfInBounds_toArray, List.set_cons_zero, List.set_cons_succ]
  refine wpAnyH_ready (rs := [4, 7]) (by kernel_rfl) (by simp) ?_
  refine AllReadyH.cons (i := 4) rfl (fun K hK => ?_) ?_
  · go_simp
    have hS := HSd.out
    clear hHeld
    show K _ _
    refine hK.out _ _ (by assumption) (fun hHeld => ?_)
    clear hK K
    try simp only [List.getElem_toArray, List.getElem_cons_zero, List.getElem_cons_succ, Act.put, List.setIfInBounds_toArray, List.set_cons_zero, List.set_cons_succ]
    refine wpAnyH_ready (rs := [7]) (by kernel_rfl) (by simp) ?_
    refine AllReadyH.cons (i := 7) rfl (fun K hK => ?_) AllReadyH.nil
    go_simp
    have hS := HSv.out
    clear hHeld
    show K _ _
    refine hK.out _ _ (by assumption) (fun hHeld => ?_)
    clear hK K
    try simp only [List.getElem_toArray, List.getElem_cons_zero, List.getElem_cons_succ, Act.put, List.setIfInBounds_toArray, List.set_cons_zero, List.set_cons_succ]
    refine wpAnyH_ready (rs := [8]) (by kernel_rfl) (by simp) ?_
    refine AllReadyH.cons (i := 8) rfl (fun K hK => ?_) AllReadyH.nil
    go_simp
    refine (hI).mono ?_
    rintro e w5 ⟨v5, rfl, o5, b5, t5⟩
    obtain ⟨a5, k5, e5, -, -⟩ := og_is encP_ok o5
    subst e5
    obtain ⟨h5a, h5b, h5c, h5d⟩ := HF5.out _ w5 o5 b5 t5
    have H5a := hid h5a
    have H5b := hid h5b
    have hS := h5c
    clear o5 b5 t5 hI h5a h5b h5c
    clear hHeld
    show K _ _
    refine hK.out _ _ (by assumption) (fun hHeld => ?_)
    clear hK K
    try simp only [List.getElem_toArray, List.getElem_cons_zero, List.getElem_cons_succ, Act.put, List.setIfInBounds_toArray, List.set_cons_zero, List.set_cons_succ]
    refine wpAnyH_take (i := 9) (v := .pointer (some ⟨X, 0, none⟩)) rfl (by kernel_rfl) (by kernel_rfl) (by kernel_rfl) (fun _ _ _ h => h) (Or.inl ⟨by rfl, fun w hSw => by (try dsimp only at hSw); go_simp⟩) (by assumption) ?_
    try simp only [List.getElem_toArray, List.getElem_cons_zero, List.getElem_cons_succ, Act.put, List.setIfInBounds_toArray, List.set_cons_zero, List.set_cons_succ]
    refine wpAnyH_take (i := 10) (v := .pointer (some ⟨X, 2, none⟩)) rfl (by kernel_rfl) (by kernel_rfl) (by kernel_rfl) (fun _ _ _ h => h) (Or.inl ⟨by rfl, fun w hSw => by (try dsimp only at hSw); go_simp⟩) (by assumption) ?_
    try simp only [List.getElem_toArray, List.getElem_cons_zero, List.getElem_cons_succ, Act.put, List.setIfInBounds_toArray, List.set_cons_zero, List.set_cons_succ]
    refine wpAnyH_ready (rs := [11]) (by kernel_rfl) (by simp) ?_
    refine AllReadyH.cons (i := 11) rfl (fun K hK => ?_) AllReadyH.nil
    obtain ⟨q2, qf⟩ := h5d
    go_simp
    have hS := H5b.out
    clear hHeld
    show K _ _
    refine hK.out _ _ (by assumption) (fun hHeld => ?_)
    clear hK K
    try simp only [List.getElem_toArray, List.getElem_cons_zero, List.getElem_cons_succ, Act.put, List.setIfInBounds_toArray, List.set_cons_zero, List.set_cons_succ]
    refine wpAnyH_done (by kernel_rfl) ?_ _
    refine NoPanic.normal ?_
    clear hHeld hS
    go_wp2_with fail
    go_ret
    exact H5a.out
  refine AllReadyH.cons (i := 7) rfl (fun K hK => ?_) AllReadyH.nil
  go_simp
  have hS := HSv.out
  clear hHeld
  show K _ _
  refine hK.out _ _ (by assumption) (fun hHeld => ?_)
  clear hK K
  try simp only [List.getElem_toArray, List.getElem_cons_zero, List.getElem_cons_succ, Act.put, List.setIfInBounds_toArray, List.set_cons_zero, List.set_cons_succ]
  refine wpAnyH_ready (rs := [4]) (by kernel_rfl) (by simp) ?_
  refine AllReadyH.cons (i := 4) rfl (fun K hK => ?_) AllReadyH.nil
  go_simp
  have hS := HSv.out
  clear hHeld
  show K _ _
  refine hK.out _ _ (by assumption) (fun hHeld => ?_)
  clear hK K
  try simp only [List.getElem_toArray, List.getElem_cons_zero, List.getElem_cons_succ, Act.put, List.setIfInBounds_toArray, List.set_cons_zero, List.set_cons_succ]
  refine wpAnyH_ready (rs := [8]) (by kernel_rfl) (by simp) ?_
  refine AllReadyH.cons (i := 8) rfl (fun K hK => ?_) AllReadyH.nil
  go_simp
  refine (hI).mono ?_
  rintro e w5 ⟨v5, rfl, o5, b5, t5⟩
  obtain ⟨a5, k5, e5, -, -⟩ := og_is encP_ok o5
  subst e5
  obtain ⟨h5a, h5b, h5c, h5d⟩ := HF5.out _ w5 o5 b5 t5
  have H5a := hid h5a
  have H5b := hid h5b
  have hS := h5c
  clear o5 b5 t5 hI h5a h5b h5c
  clear hHeld
  show K _ _
  refine hK.out _ _ (by assumption) (fun hHeld => ?_)
  clear hK K
  try simp only [List.getElem_toArray, List.getElem_cons_zero, List.getElem_cons_succ, Act.put, List.setIfInBounds_toArray, List.set_cons_zero, List.set_cons_succ]
  refine wpAnyH_take (i := 9) (v := .pointer (some ⟨X, 0, none⟩)) rfl (by kernel_rfl) (by kernel_rfl) (by kernel_rfl) (fun _ _ _ h => h) (Or.inl ⟨by rfl, fun w hSw => by (try dsimp only at hSw); go_simp⟩) (by assumption) ?_
  try simp only [List.getElem_toArray, List.getElem_cons_zero, List.getElem_cons_succ, Act.put, List.setIfInBounds_toArray, List.set_cons_zero, List.set_cons_succ]
  refine wpAnyH_take (i := 10) (v := .pointer (some ⟨X, 2, none⟩)) rfl (by kernel_rfl) (by kernel_rfl) (by kernel_rfl) (fun _ _ _ h => h) (Or.inl ⟨by rfl, fun w hSw => by (try dsimp only at hSw); go_simp⟩) (by assumption) ?_
  try simp only [List.getElem_toArray, List.getElem_cons_zero, List.getElem_cons_succ, Act.put, List.setIfInBounds_toArray, List.set_cons_zero, List.set_cons_succ]
  refine wpAnyH_ready (rs := [11]) (by kernel_rfl) (by simp) ?_
  refine AllReadyH.cons (i := 11) rfl (fun K hK => ?_) AllReadyH.nil
  obtain ⟨q2, qf⟩ := h5d
  go_simp
  have hS := H5b.out
  clear hHeld
  show K _ _
  refine hK.out _ _ (by assumption) (fun hHeld => ?_)
  clear hK K
  try simp only [List.getElem_toArray, List.getElem_cons_zero, List.getElem_cons_succ, Act.put, List.setIfInBounds_toArray, List.set_cons_zero, List.set_cons_succ]
  refine wpAnyH_done (by kernel_rfl) ?_ _
  refine NoPanic.normal ?_
  clear hHeld hS
  go_wp2_with fail
  go_ret
  exact H5a.out
end Go.Proofs.Ytalcbahnhiibkaa
