/- The reference's Add. -/
import Derived.Test.YtahgplfkgijecaaHpAck
import Derived.Test.YtahgplfkgijecaaHtMay
import Derived.Test.YtahgplfkgijecaaHtLaw3
import Derived.Test.YtahgplfkgijecaaGCut
namespace Go.Proofs.Ytahgplfkgijecaa
open Go.ChangeShapes Go.WideShapes Go.ChangeAt Go.RowKit
set_option linter.unusedVariables false
set_option linter.unusedSimpArgs false
set_option maxRecDepth 100000

theorem insX_end {r : R} : ∀ {l : List Ht}, (∀ x ∈ l, ¬ cmpB r.key x.r.key < 0) → insH r l = l ++ [⟨r, nob⟩]
  | [], _ => rfl
  | h :: t, hl => by
    unfold insH
    rw [if_neg (hl h (by simp)), insX_end (fun x hx => hl x (List.mem_cons_of_mem _ hx))]
    rfl
theorem ins_hit {r : R} {y : Ht} (hy : cmpB r.key y.r.key < 0) : ∀ {l : List Ht}, (∀ x ∈ l, ¬ cmpB r.key x.r.key < 0) → insH r (l ++ [y]) = l ++ [⟨r, nob⟩] ++ [y]
  | [], _ => by show insH r [y] = _; unfold insH; rw [if_pos hy]; rfl
  | h :: t, hl => by
    show insH r (h :: (t ++ [y])) = _
    unfold insH
    rw [if_neg (hl h (by simp)), ins_hit hy (fun x hx => hl x (List.mem_cons_of_mem _ hx))]
    rfl
theorem ins_past {r : R} {y : Ht} : ∀ {l : List Ht}, (∃ x ∈ l, cmpB r.key x.r.key < 0) → insH r (l ++ [y]) = insH r l ++ [y]
  | [], h => by obtain ⟨x, hx, _⟩ := h; cases hx
  | h :: t, hl => by
    show insH r (h :: (t ++ [y])) = _
    unfold insH
    by_cases e : cmpB r.key h.r.key < 0
    · rw [if_pos e, if_pos e]; rfl
    · rw [if_neg e, if_neg e]
      obtain ⟨x, hx, hc⟩ := hl
      rcases List.mem_cons.1 hx with rfl | hx
      · exact absurd hc e
      · rw [ins_past ⟨x, hx, hc⟩]; rfl
theorem newer_less {l : List Ht} {i : Nat} {x : Ht} (hx : l[i]? = some x) (r : R) : newer l i r = lessR x.r r := by
  unfold newer lessR
  rw [hx]
  show decide (cmpR x.r r < 0) = decide (cmpR x.r r = -1)
  have := good_rec.one x.r r
  by_cases h : cmpR x.r r = -1
  · have h2 : cmpR x.r r < 0 := by omega
    simp [h, h2]
  · have h2 : ¬ cmpR x.r r < 0 := by omega
    simp [h, h2]
theorem key_gt (a b : ByteArray) (u : World) : (binOp .gtr 9 (.string a) (.string b)).run Try.prog u = .ok (.bool (decide (cmpB b a < 0))) u := by
  have hl : Op.bytesLess a.toList b.toList = decide (cmpB a b < 0) := by
    rw [less_cmp, Lib.toList_data, Lib.toList_data]
    rfl
  have he : (a.toList == b.toList) = decide (cmpB a b = 0) := by
    rw [Bool.eq_iff_iff, decide_eq_true_eq, cmpB_zero]
    exact sameT_iff a b
  have hf := cmpB_flip b a
  have h : (!(Op.bytesLess a.toList b.toList || (a.toList == b.toList))) = decide (cmpB b a < 0) := by
    rw [hl, he, hf]
    by_cases q : cmpB b a < 0
    · have q1 : ¬ -cmpB b a < 0 := by omega
      have q2 : ¬ -cmpB b a = 0 := by omega
      rw [decide_eq_true q, decide_eq_false q1, decide_eq_false q2]
      rfl
    · by_cases q0 : cmpB b a = 0
      · have q2 : -cmpB b a = 0 := by omega
        rw [decide_eq_false q, decide_eq_true q2, Bool.or_true]
        rfl
      · have q1 : -cmpB b a < 0 := by omega
        rw [decide_eq_false q, decide_eq_true q1, Bool.true_or]
        rfl
  show (Op.stringOp .gtr a b).run Try.prog u = _
  unfold Op.stringOp
  rw [← h]
  rfl
/- A whole hint is laid into a row. -/
theorem there_X {w : World} {G n cap B : Nat} {xs : List Ht} (h : Og encX 72 75 w B (.slice (some ⟨G, 0, none⟩) n cap) xs) {i : Nat} (hi : i < n) : w.there G (i * 72) 72 := by
  obtain ⟨cur, hg, hB, hl, hn, hm, hs, ht⟩ := og_whole h
  intro j hj
  refine ⟨?_, og_frozen h _⟩
  have h2 : i * 72 + j < cur.size := by
    rw [hs]
    omega
  rw [at_cell hg, Array.getElem?_eq_getElem h2]
  rfl
theorem cells_in {G o : Nat} {vs : List Value} {w : World} (h72 : vs.length = 72) (hT : w.there G o 72) {j : Nat} {u : Value} (hu : vs[j]? = some u) : (w.setCells G o vs).cell? ⟨G, o + j, none⟩ = some u := by
  have hj := (List.getElem?_eq_some_iff.1 hu).1
  rw [World.cell?_setCells_in G vs o w (fun k hk => (hT k (by omega)).1) j hj]
  exact congrArg some (List.getElem?_eq_some_iff.1 hu).2
theorem cells_out {G o p : Nat} {vs : List Value} {w : World} (h72 : vs.length = 72) (hp : p < o ∨ o + 72 ≤ p) : (w.setCells G o vs).cell? ⟨G, p, none⟩ = w.cell? ⟨G, p, none⟩ := World.cell?_setCells_out G vs o w ⟨G, p, none⟩ (fun _ _ => by rw [h72]; exact hp)
theorem rg_setG {enc : Ht → List Value} (he : Enc enc 72) {w : World} {G n cap : Nat} {xs : List Ht} (hR : Rg enc 72 w (.slice (some ⟨G, 0, none⟩) n cap) xs) (hl : xs.length = n) (hn : n ≤ cap) (hm : cap ≤ maxLen) {i : Nat} (hi : i < n) (hT : w.there G (i * 72) 72) (y : Ht) : Rg enc 72 (w.setCells G (i * 72) (enc y)) (.slice (some ⟨G, 0, none⟩) n cap) (xs.set i y) := by
  refine ⟨some ⟨G, 0, none⟩, cap, by rw [List.length_set, hl], by rw [List.length_set, hl]; exact hn, hm, fun e => (by cases e), fun _ => ⟨G, 0, rfl, fun q x j u hx hu => ?_⟩⟩
  have hj := (List.getElem?_eq_some_iff.1 hu).1
  rw [he.len] at hj
  rw [Nat.zero_add]
  by_cases e : q = i
  · subst e
    have hS : (xs.set q y)[q]? = some y := by rw [List.getElem?_set, if_pos rfl, if_pos (by omega)]
    rw [hS] at hx
    injection hx with hx
    rw [← hx] at hu
    exact cells_in (he.len y) hT hu
  · rw [List.getElem?_set, if_neg (fun h => e h.symm)] at hx
    rw [cells_out (he.len y) (by omega)]
    have h1 := rg_all hR hx j u hu
    rwa [Nat.zero_add] at h1
theorem rg_setX {w : World} {G n cap B : Nat} {xs : List Ht} (h : Og encX 72 75 w B (.slice (some ⟨G, 0, none⟩) n cap) xs) {i : Nat} (hi : i < n) (y : Ht) : Rg encX 72 (w.setCells G (i * 72) (encX y)) (.slice (some ⟨G, 0, none⟩) n cap) (xs.set i y) :=
  rg_setG encX_ok (rg_own encX_ok h) (og_len encX_ok h).1 (og_len encX_ok h).2.1 (og_len encX_ok h).2.2 hi (there_X h hi) y
theorem kept_setX {W w : World} (k : Kept W w) {G : Nat} (hG : W.heap.size ≤ G) (o : Nat) (vs : List Value) : Kept W (w.setCells G o vs) := by
  have hs : ∀ (vs : List Value) (o : Nat) (w : World), Kept W w → Kept W (w.setCells G o vs) := fun vs => by
    induction vs with
    | nil => exact fun o w k => k
    | cons v r ih =>
      intro o w k
      rw [World.setCells]
      exact ih _ _ (kept_set k hG o v)
  exact hs vs o w k
def AddC (n : Nat) (l : List Ht) (r : R) (u : Value) (w : World) (e : Ending) (w' : World) : Prop := ∃ v, e = .returned (.tuple #[.int .i64 (addE n l r), v]) ∧ Rg encX 72 w' v (addL n l r) ∧ Kept w w' ∧ Nw u v w
theorem says_num {x y : Int} (e : x = y) (v : Value) : Ending.returned (.tuple #[.int .i64 x, v]) = Ending.returned (.tuple #[.int .i64 y, v]) := congrArg (fun z => Ending.returned (.tuple #[.int .i64 z, v])) e
theorem addX_bad {n : Nat} {l : List Ht} {r : R} (h : badA r = true) : addE n l r = 1 ∧ addL n l r = l := by unfold addE addL; rw [if_pos h, if_pos h]; exact ⟨rfl, rfl⟩
theorem add_old {n i : Nat} {l : List Ht} {r : R} {x : Ht} (h : badA r = false) (hf : fnd r.key l = some i) (hx : l[i]? = some x) : addE n l r = 0 ∧ addL n l r = if lessR x.r r then l.set i ⟨r, nob⟩ else l := by
  unfold addE addL
  simp only [h, hf, newer_less hx, Bool.false_eq_true, if_false, and_self]
theorem add_new {n : Nat} {l : List Ht} {r : R} (h : badA r = false) (hf : fnd r.key l = none) : addE n l r = (if n ≤ l.length then 6 else 0) ∧ addL n l r = if n ≤ l.length then l else insH r l := by
  unfold addE addL
  simp only [h, hf, Bool.false_eq_true, if_false, and_self]
set_option maxHeartbeats 12800000 in
theorem radd_old (l : List Ht) (hn : l.length ≤ 64) (hok : ∀ x ∈ l, x.r.ok) (n : Nat) (r : R) (hr : r.ok) (v : Value) (w : World) (h : Rg encX 72 w v l) (hb : badA r = false) {i : Nat} {x : Ht} (hf : fnd r.key l = some i) (hx : l[i]? = some x) : Calls Try.prog 11 #[v, .int .i64 (n : Int), .agg #[.string r.key, .int .u64 r.s.p, .int .u32 r.s.l, .int .u8 r.s.n, .int .u8 r.kind, .int .u32 r.flags, .int .u64 r.exp, .string r.body]] w (AddC n l r v w) := by
  have HR := hid h
  have HNn := hid hn
  have hE := add_old (n := n) hb hf hx
  have kb := kept_alloc (kept_refl w) (.cells #[.string r.key, .int .u64 r.s.p, .int .u32 r.s.l, .int .u8 r.s.n, .int .u8 r.kind, .int .u32 r.flags, .int .u64 r.exp, .string r.body] 35)
  have aB := at_new w #[.string r.key, .int .u64 r.s.p, .int .u32 r.s.l, .int .u8 r.s.n, .int .u8 r.kind, .int .u32 r.flags, .int .u64 r.exp, .string r.body] 35
  obtain ⟨w0, hw0⟩ : ∃ u, w.alloc (.cells #[.string r.key, .int .u64 r.s.p, .int .u32 r.s.l, .int .u8 r.s.n, .int .u8 r.kind, .int .u32 r.flags, .int .u64 r.exp, .string r.body] 35) = u := ⟨_, rfl⟩
  obtain ⟨Z, hZ⟩ : ∃ u, w.heap.size = u := ⟨_, rfl⟩
  rw [hw0] at kb aB
  rw [hZ] at aB
  have HZ := hid aB
  have HK0 := hid kb
  obtain ⟨bm, bk⟩ := bad_not hb
  have C1 := refMay_any r hr w0
  rw [bm] at C1
  have hkd : (r.kind == 3) = false := by simpa using bk
  have HF := hid (fun u (ku : Kept w u) => rfind_any r.key l (by omega) v u (rg_kept encX_ok h ku))
  rw [hf] at HF
  have e5 : fcode (some i) = (i : Int) := rfl
  rw [e5] at HF
  have hil := fnd_lt hf
  obtain ⟨g, o, cap, rfl⟩ := rg_pos h (by omega)
  have HX := hid hx
  have HLs : Hid (∀ u, Calls Try.prog 23 #[.agg #[.string x.r.key, .int .u64 x.r.s.p, .int .u32 x.r.s.l, .int .u8 x.r.s.n, .int .u8 x.r.kind, .int .u32 x.r.flags, .int .u64 x.r.exp, .string x.r.body], .agg #[.string r.key, .int .u64 r.s.p, .int .u32 r.s.l, .int .u8 r.s.n, .int .u8 r.kind, .int .u32 r.flags, .int .u64 r.exp, .string r.body]] u fun e w' => e = .returned (.bool (lessR x.r r)) ∧ Kept u w') := hid (fun u => refLess_any x.r r (hok x (List.mem_of_getElem? hx)).2.2.2.2.2 hr.2.2.2.2.2 u)
  have HS : Hid (∀ u, Kept w0 u → (u.cell? ⟨Z, 0, none⟩ = some (.string r.key) ∧ u.cell? ⟨Z, 1, none⟩ = some (.int .u64 r.s.p) ∧ u.cell? ⟨Z, 2, none⟩ = some (.int .u32 r.s.l) ∧ u.cell? ⟨Z, 3, none⟩ = some (.int .u8 r.s.n) ∧ u.cell? ⟨Z, 4, none⟩ = some (.int .u8 r.kind) ∧ u.cell? ⟨Z, 5, none⟩ = some (.int .u32 r.flags) ∧ u.cell? ⟨Z, 6, none⟩ = some (.int .u64 r.exp) ∧ u.cell? ⟨Z, 7, none⟩ = some (.string r.body)) ∧ (u.cell? ⟨g, o + i * 72, none⟩ = some (.string x.r.key) ∧ u.cell? ⟨g, o + i * 72 + 1, none⟩ = some (.int .u64 x.r.s.p) ∧ u.cell? ⟨g, o + i * 72 + 2, none⟩ = some (.int .u32 x.r.s.l) ∧ u.cell? ⟨g, o + i * 72 + 3, none⟩ = some (.int .u8 x.r.s.n) ∧ u.cell? ⟨g, o + i * 72 + 4, none⟩ = some (.int .u8 x.r.kind) ∧ u.cell? ⟨g, o + i * 72 + 5, none⟩ = some (.int .u32 x.r.flags) ∧ u.cell? ⟨g, o + i * 72 + 6, none⟩ = some (.int .u64 x.r.exp) ∧ u.cell? ⟨g, o + i * 72 + 7, none⟩ = some (.string x.r.body))) := hid (fun u ku => by
    have a := at_kept HZ.out ku
    exact ⟨⟨at_cell a 0, at_cell a 1, at_cell a 2, at_cell a 3, at_cell a 4, at_cell a 5, at_cell a 6, at_cell a 7⟩, rg_X (rg_kept encX_ok HR.out (kept_trans HK0.out ku)) HX.out⟩)
  have hi0 : decide ((0 : Int) ≤ (i : Int)) = true := by simp
  have hiz : (i : Int) < (l.length : Int) := by omega
  have HE := hid hE
  generalize hm : l.length = m at *
  have HLm := hid hm
  have hS00 := HS.out w0 (kept_refl w0)
  obtain ⟨⟨z0, z1, z2, z3, z4, z5, z6, z7⟩, -⟩ := hS00
  clear kb aB hb hf e5 hx hm hr hok bm bk hE
  go_enter Try.func11, Try.ntmps11
  go_wp2_with fail
  refine C1.mono ?_
  rintro e w1 ⟨rfl, k1⟩
  have HK1 := hid k1
  obtain ⟨⟨y0, y1, y2, y3, y4, y5, y6, y7⟩, -⟩ := HS.out w1 k1
  have C2 := HF.out w1 (kept_trans HK0.out k1)
  clear C1 k1 z0 z1 z2 z3 z4 z5 z6 z7
  go_wp2_with fail
  refine C2.mono ?_
  rintro e u2 ⟨rfl, e2⟩
  have e3 := e2.symm
  subst e3
  clear C2 e2
  have HKw := hid (kept_trans HK0.out HK1.out)
  have HKj : Hid (Kept w0 w1.drew) := hid (kept_drewN HK1.out 1)
  have hS0 := HS.out w1 HK1.out
  have hSj := HS.out w1.drew HKj.out
  cases hls : lessR x.r r with
  | false =>
    rw [hls] at HLs
    have HF2 : Hid (addE n l r = 0 ∧ addL n l r = l) := hid ⟨HE.out.1, by rw [HE.out.2, hls]; rfl⟩
    clear hls
    go_wp2_with fail
    refine wp_region_noPanic ?_
    refine wp_region_held_drew (S := (fun w' => (w'.cell? ⟨Z, 0, none⟩ = some (.string r.key) ∧ w'.cell? ⟨Z, 1, none⟩ = some (.int .u64 r.s.p) ∧ w'.cell? ⟨Z, 2, none⟩ = some (.int .u32 r.s.l) ∧ w'.cell? ⟨Z, 3, none⟩ = some (.int .u8 r.s.n) ∧ w'.cell? ⟨Z, 4, none⟩ = some (.int .u8 r.kind) ∧ w'.cell? ⟨Z, 5, none⟩ = some (.int .u32 r.flags) ∧ w'.cell? ⟨Z, 6, none⟩ = some (.int .u64 r.exp) ∧ w'.cell? ⟨Z, 7, none⟩ = some (.string r.body)) ∧ (w'.cell? ⟨g, o + i * 72, none⟩ = some (.string x.r.key) ∧ w'.cell? ⟨g, o + i * 72 + 1, none⟩ = some (.int .u64 x.r.s.p) ∧ w'.cell? ⟨g, o + i * 72 + 2, none⟩ = some (.int .u32 x.r.s.l) ∧ w'.cell? ⟨g, o + i * 72 + 3, none⟩ = some (.int .u8 x.r.s.n) ∧ w'.cell? ⟨g, o + i * 72 + 4, none⟩ = some (.int .u8 x.r.kind) ∧ w'.cell? ⟨g, o + i * 72 + 5, none⟩ = some (.int .u32 x.r.flags) ∧ w'.cell? ⟨g, o + i * 72 + 6, none⟩ = some (.int .u64 x.r.exp) ∧ w'.cell? ⟨g, o + i * 72 + 7, none⟩ = some (.string x.r.body)))) (by kernel_rfl) (by assumption) (fun hHeld => ?_)
    generalize w1.drew = wj at *
    refine wpAnyH_take (i := 0) (v := .slice (some ⟨g, o, none⟩) m cap) rfl (by kernel_rfl) (by kernel_rfl) (by kernel_rfl) (fun _ _ _ h => h) (Or.inl ⟨by rfl, fun w hSw => by (try dsimp only at hSw); go_simp⟩) (by assumption) ?_
    try simp only [List.getElem_toArray, List.getElem_cons_zero, List.getElem_cons_succ, Act.put, List.setIfInBounds_toArray, List.set_cons_zero, List.set_cons_succ]
    refine wpAnyH_take (i := 1) (v := .int .i64 (i : Int)) rfl (by kernel_rfl) (by kernel_rfl) (by kernel_rfl) (fun _ _ _ h => h) (Or.inl ⟨by rfl, fun w hSw => by (try dsimp only at hSw); go_simp⟩) (by assumption) ?_
    try simp only [List.getElem_toArray, List.getElem_cons_zero, List.getElem_cons_succ, Act.put, List.setIfInBounds_toArray, List.set_cons_zero, List.set_cons_succ]
    refine wpAnyH_take (i := 2) (v := .pointer (some ⟨g, o + i * 72, none⟩)) rfl (by kernel_rfl) (by kernel_rfl) (by kernel_rfl) (fun _ _ _ h => h) (Or.inl ⟨by rfl, fun w hSw => by (try dsimp only at hSw); go_simp⟩) (by assumption) ?_
    try simp only [List.getElem_toArray, List.getElem_cons_zero, List.getElem_cons_succ, Act.put, List.setIfInBounds_toArray, List.set_cons_zero, List.set_cons_succ]
    refine wpAnyH_take (i := 3) (v := .pointer (some ⟨g, o + i * 72, none⟩)) rfl (by kernel_rfl) (by kernel_rfl) (by kernel_rfl) (fun _ _ _ h => h) (Or.inl ⟨by rfl, fun w hSw => by (try dsimp only at hSw); go_simp⟩) (by assumption) ?_
    try simp only [List.getElem_toArray, List.getElem_cons_zero, List.getElem_cons_succ, Act.put, List.setIfInBounds_toArray, List.set_cons_zero, List.set_cons_succ]
    refine wpAnyH_take (i := 4) (v := .agg #[.string x.r.key, .int .u64 x.r.s.p, .int .u32 x.r.s.l, .int .u8 x.r.s.n, .int .u8 x.r.kind, .int .u32 x.r.flags, .int .u64 x.r.exp, .string x.r.body]) rfl (by kernel_rfl) (by kernel_rfl) (by kernel_rfl) (fun _ _ _ h => h) (Or.inl ⟨by rfl, fun w hSw => by (try dsimp only at hSw); go_simp⟩) (by assumption) ?_
    try simp only [List.getElem_toArray, List.getElem_cons_zero, List.getElem_cons_succ, Act.put, List.setIfInBounds_toArray, List.set_cons_zero, List.set_cons_succ]
    refine wpAnyH_take (i := 5) (v := .agg #[.string r.key, .int .u64 r.s.p, .int .u32 r.s.l, .int .u8 r.s.n, .int .u8 r.kind, .int .u32 r.flags, .int .u64 r.exp, .string r.body]) rfl (by kernel_rfl) (by kernel_rfl) (by kernel_rfl) (fun _ _ _ h => h) (Or.inl ⟨by rfl, fun w hSw => by (try dsimp only at hSw); go_simp⟩) (by assumption) ?_
    try simp only [List.getElem_toArray, List.getElem_cons_zero, List.getElem_cons_succ, Act.put, List.setIfInBounds_toArray, List.set_cons_zero, List.set_cons_succ]
    refine wpAnyH_ready (rs := [6]) (by kernel_rfl) (by simp) ?_
    refine AllReadyH.cons (i := 6) rfl (fun K hK => ?_) AllReadyH.nil
    go_simp
    refine (HLs.out wj).mono ?_
    rintro e w5 ⟨rfl, k5⟩
    have HK5 := hid (kept_trans HKj.out k5)
    have hS := HS.out w5 HK5.out
    clear k5
    clear hHeld
    show K _ _
    refine hK.out _ _ (by assumption) (fun hHeld => ?_)
    clear hK K
    try simp only [List.getElem_toArray, List.getElem_cons_zero, List.getElem_cons_succ, Act.put, List.setIfInBounds_toArray, List.set_cons_zero, List.set_cons_succ]
    refine wpAnyH_done (by kernel_rfl) ?_ _
    refine NoPanic.normal ?_
    clear hSj hS0 hS hHeld
    go_wp2_with fail
    go_ret2
    exact ⟨_, says_num HF2.out.1.symm _, by rw [HF2.out.2]; exact rg_kept encX_ok HR.out (kept_trans HK0.out HK5.out), kept_trans HK0.out HK5.out, .inl rfl⟩
  | true =>
    rw [hls] at HLs
    have HF2 : Hid (addE n l r = 0 ∧ addL n l r = l.set i ⟨r, nob⟩) := hid ⟨HE.out.1, by rw [HE.out.2, hls]; rfl⟩
    clear hls
    go_wp2_with fail
    refine wp_region_noPanic ?_
    refine wp_region_held_drew (S := (fun w' => (w'.cell? ⟨Z, 0, none⟩ = some (.string r.key) ∧ w'.cell? ⟨Z, 1, none⟩ = some (.int .u64 r.s.p) ∧ w'.cell? ⟨Z, 2, none⟩ = some (.int .u32 r.s.l) ∧ w'.cell? ⟨Z, 3, none⟩ = some (.int .u8 r.s.n) ∧ w'.cell? ⟨Z, 4, none⟩ = some (.int .u8 r.kind) ∧ w'.cell? ⟨Z, 5, none⟩ = some (.int .u32 r.flags) ∧ w'.cell? ⟨Z, 6, none⟩ = some (.int .u64 r.exp) ∧ w'.cell? ⟨Z, 7, none⟩ = some (.string r.body)) ∧ (w'.cell? ⟨g, o + i * 72, none⟩ = some (.string x.r.key) ∧ w'.cell? ⟨g, o + i * 72 + 1, none⟩ = some (.int .u64 x.r.s.p) ∧ w'.cell? ⟨g, o + i * 72 + 2, none⟩ = some (.int .u32 x.r.s.l) ∧ w'.cell? ⟨g, o + i * 72 + 3, none⟩ = some (.int .u8 x.r.s.n) ∧ w'.cell? ⟨g, o + i * 72 + 4, none⟩ = some (.int .u8 x.r.kind) ∧ w'.cell? ⟨g, o + i * 72 + 5, none⟩ = some (.int .u32 x.r.flags) ∧ w'.cell? ⟨g, o + i * 72 + 6, none⟩ = some (.int .u64 x.r.exp) ∧ w'.cell? ⟨g, o + i * 72 + 7, none⟩ = some (.string x.r.body)))) (by kernel_rfl) (by assumption) (fun hHeld => ?_)
    generalize w1.drew = wj at *
    refine wpAnyH_take (i := 0) (v := .slice (some ⟨g, o, none⟩) m cap) rfl (by kernel_rfl) (by kernel_rfl) (by kernel_rfl) (fun _ _ _ h => h) (Or.inl ⟨by rfl, fun w hSw => by (try dsimp only at hSw); go_simp⟩) (by assumption) ?_
    try simp only [List.getElem_toArray, List.getElem_cons_zero, List.getElem_cons_succ, Act.put, List.setIfInBounds_toArray, List.set_cons_zero, List.set_cons_succ]
    refine wpAnyH_take (i := 1) (v := .int .i64 (i : Int)) rfl (by kernel_rfl) (by kernel_rfl) (by kernel_rfl) (fun _ _ _ h => h) (Or.inl ⟨by rfl, fun w hSw => by (try dsimp only at hSw); go_simp⟩) (by assumption) ?_
    try simp only [List.getElem_toArray, List.getElem_cons_zero, List.getElem_cons_succ, Act.put, List.setIfInBounds_toArray, List.set_cons_zero, List.set_cons_succ]
    refine wpAnyH_take (i := 2) (v := .pointer (some ⟨g, o + i * 72, none⟩)) rfl (by kernel_rfl) (by kernel_rfl) (by kernel_rfl) (fun _ _ _ h => h) (Or.inl ⟨by rfl, fun w hSw => by (try dsimp only at hSw); go_simp⟩) (by assumption) ?_
    try simp only [List.getElem_toArray, List.getElem_cons_zero, List.getElem_cons_succ, Act.put, List.setIfInBounds_toArray, List.set_cons_zero, List.set_cons_succ]
    refine wpAnyH_take (i := 3) (v := .pointer (some ⟨g, o + i * 72, none⟩)) rfl (by kernel_rfl) (by kernel_rfl) (by kernel_rfl) (fun _ _ _ h => h) (Or.inl ⟨by rfl, fun w hSw => by (try dsimp only at hSw); go_simp⟩) (by assumption) ?_
    try simp only [List.getElem_toArray, List.getElem_cons_zero, List.getElem_cons_succ, Act.put, List.setIfInBounds_toArray, List.set_cons_zero, List.set_cons_succ]
    refine wpAnyH_take (i := 4) (v := .agg #[.string x.r.key, .int .u64 x.r.s.p, .int .u32 x.r.s.l, .int .u8 x.r.s.n, .int .u8 x.r.kind, .int .u32 x.r.flags, .int .u64 x.r.exp, .string x.r.body]) rfl (by kernel_rfl) (by kernel_rfl) (by kernel_rfl) (fun _ _ _ h => h) (Or.inl ⟨by rfl, fun w hSw => by (try dsimp only at hSw); go_simp⟩) (by assumption) ?_
    try simp only [List.getElem_toArray, List.getElem_cons_zero, List.getElem_cons_succ, Act.put, List.setIfInBounds_toArray, List.set_cons_zero, List.set_cons_succ]
    refine wpAnyH_take (i := 5) (v := .agg #[.string r.key, .int .u64 r.s.p, .int .u32 r.s.l, .int .u8 r.s.n, .int .u8 r.kind, .int .u32 r.flags, .int .u64 r.exp, .string r.body]) rfl (by kernel_rfl) (by kernel_rfl) (by kernel_rfl) (fun _ _ _ h => h) (Or.inl ⟨by rfl, fun w hSw => by (try dsimp only at hSw); go_simp⟩) (by assumption) ?_
    try simp only [List.getElem_toArray, List.getElem_cons_zero, List.getElem_cons_succ, Act.put, List.setIfInBounds_toArray, List.set_cons_zero, List.set_cons_succ]
    refine wpAnyH_ready (rs := [6]) (by kernel_rfl) (by simp) ?_
    refine AllReadyH.cons (i := 6) rfl (fun K hK => ?_) AllReadyH.nil
    go_simp
    refine (HLs.out wj).mono ?_
    rintro e w5 ⟨rfl, k5⟩
    have HK5 := hid (kept_trans HKj.out k5)
    have hS := HS.out w5 HK5.out
    clear k5
    clear hHeld
    show K _ _
    refine hK.out _ _ (by assumption) (fun hHeld => ?_)
    clear hK K
    try simp only [List.getElem_toArray, List.getElem_cons_zero, List.getElem_cons_succ, Act.put, List.setIfInBounds_toArray, List.set_cons_zero, List.set_cons_succ]
    refine wpAnyH_done (by kernel_rfl) ?_ _
    refine NoPanic.normal ?_
    clear hSj hS0 hS hHeld
    have C3 := rcopied_any l (by rw [HLm.out]; have := HNn.out; omega) (.slice (some ⟨g, o, none⟩) m cap) w5 (rg_kept encX_ok HR.out (kept_trans HK0.out HK5.out))
    go_wp2_with fail
    refine C3.mono ?_
    rintro e w6 ⟨v6, rfl, o6, n6, k6⟩
    obtain ⟨g6, c6, e6⟩ := og_some o6 n6
    rw [HLm.out] at e6
    subst e6
    have HO6 := hid o6
    have HK6 := hid (kept_trans (kept_trans HK0.out HK5.out) k6)
    have HG6 : Hid (w.heap.size ≤ g6) := hid (by
      have := og_lt o6 (g := g6) rfl
      have := (kept_trans HK0.out HK5.out).2
      omega)
    obtain ⟨⟨x0, x1, x2, x3, x4, x5, x6, x7⟩, -⟩ := HS.out w6 (kept_trans HK5.out k6)
    have hth := there_X o6 (by omega : i < m)
    clear C3 o6 n6 k6
    go_wp2_with (first
      | (refine wpList_buildX rfl _ rfl r rfl ?_)
      | (refine wpList_store_mid rfl 75 _ _ rfl g6 (i * 72) (encX ⟨r, nob⟩).toArray rfl rfl (by rw [List.size_toArray, encX_ok.len]; exact hth) (by rw [sizeX, List.size_toArray, encX_ok.len]) (all_oneCell_toArray (encX_ok.one _)) ?_))
    go_ret2
    exact ⟨_, says_num HF2.out.1.symm _, by rw [HF2.out.2]; exact rg_setX HO6.out (by omega) _, kept_setX HK6.out HG6.out _ _, .inr (fun q hq => by injection hq with hq; subst hq; exact HG6.out)⟩
set_option maxHeartbeats 6400000 in
theorem radd_bad (l : List Ht) (n : Nat) (r : R) (hr : r.ok) (v : Value) (w : World) (h : Rg encX 72 w v l) (hb : badA r = true) : Calls Try.prog 11 #[v, .int .i64 (n : Int), .agg #[.string r.key, .int .u64 r.s.p, .int .u32 r.s.l, .int .u8 r.s.n, .int .u8 r.kind, .int .u32 r.flags, .int .u64 r.exp, .string r.body]] w (AddC n l r v w) := by
  have HR := hid h
  have HE := hid (addX_bad (n := n) (l := l) hb)
  have kb := kept_alloc (kept_refl w) (.cells #[.string r.key, .int .u64 r.s.p, .int .u32 r.s.l, .int .u8 r.s.n, .int .u8 r.kind, .int .u32 r.flags, .int .u64 r.exp, .string r.body] 35)
  have aB := at_new w #[.string r.key, .int .u64 r.s.p, .int .u32 r.s.l, .int .u8 r.s.n, .int .u8 r.kind, .int .u32 r.flags, .int .u64 r.exp, .string r.body] 35
  obtain ⟨w0, hw0⟩ : ∃ u, w.alloc (.cells #[.string r.key, .int .u64 r.s.p, .int .u32 r.s.l, .int .u8 r.s.n, .int .u8 r.kind, .int .u32 r.flags, .int .u64 r.exp, .string r.body] 35) = u := ⟨_, rfl⟩
  obtain ⟨Z, hZ⟩ : ∃ u, w.heap.size = u := ⟨_, rfl⟩
  rw [hw0] at kb aB
  rw [hZ] at aB
  have HZ := hid aB
  have HK0 := hid kb
  have C1 := refMay_any r hr w0
  have HS : Hid (∀ u, Kept w0 u → (u.cell? ⟨Z, 0, none⟩ = some (.string r.key) ∧ u.cell? ⟨Z, 1, none⟩ = some (.int .u64 r.s.p) ∧ u.cell? ⟨Z, 2, none⟩ = some (.int .u32 r.s.l) ∧ u.cell? ⟨Z, 3, none⟩ = some (.int .u8 r.s.n) ∧ u.cell? ⟨Z, 4, none⟩ = some (.int .u8 r.kind) ∧ u.cell? ⟨Z, 5, none⟩ = some (.int .u32 r.flags) ∧ u.cell? ⟨Z, 6, none⟩ = some (.int .u64 r.exp) ∧ u.cell? ⟨Z, 7, none⟩ = some (.string r.body))) := hid (fun u ku => by
    have a := at_kept HZ.out ku
    exact ⟨at_cell a 0, at_cell a 1, at_cell a 2, at_cell a 3, at_cell a 4, at_cell a 5, at_cell a 6, at_cell a 7⟩)
  obtain ⟨z0, z1, z2, z3, z4, z5, z6, z7⟩ := HS.out w0 (kept_refl w0)
  have hb2 : (mayR r = true ∧ r.kind = 3) ∨ mayR r = false := by
    unfold badA at hb
    cases q : mayR r with
    | true => rw [q] at hb; simp at hb; exact .inl ⟨rfl, hb⟩
    | false => exact .inr rfl
  rcases hb2 with ⟨bm, bk⟩ | bm
  · rw [bm] at C1
    have hkd : (r.kind == 3) = true := by simpa using bk
    clear kb aB hb bm bk hr
    go_enter Try.func11, Try.ntmps11
    go_wp2_with fail
    refine C1.mono ?_
    rintro e w1 ⟨rfl, k1⟩
    have HK1 := hid k1
    obtain ⟨y0, y1, y2, y3, y4, y5, y6, y7⟩ := HS.out w1 k1
    clear C1 k1 z0 z1 z2 z3 z4 z5 z6 z7
    go_wp2_with fail
    go_ret2
    exact ⟨_, says_num HE.out.1.symm _, by rw [HE.out.2]; exact rg_kept encX_ok HR.out (kept_trans HK0.out HK1.out), kept_trans HK0.out HK1.out, .inl rfl⟩
  · rw [bm] at C1
    clear kb aB hb bm hr
    go_enter Try.func11, Try.ntmps11
    go_wp2_with fail
    refine C1.mono ?_
    rintro e w1 ⟨rfl, k1⟩
    have HK1 := hid k1
    clear C1 k1 z0 z1 z2 z3 z4 z5 z6 z7
    go_wp2_with fail
    go_ret2
    exact ⟨_, says_num HE.out.1.symm _, by rw [HE.out.2]; exact rg_kept encX_ok HR.out (kept_trans HK0.out HK1.out), kept_trans HK0.out HK1.out, .inl rfl⟩
end Go.Proofs.Ytahgplfkgijecaa
