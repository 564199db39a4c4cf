/- The contract of the reference's Tick. -/
import Derived.Test.YtgmcjnhijgnadaaPrRef5
import Derived.Test.YtgmcjnhijgnadaaMixWalks
import Derived.Test.YtgmcjnhijgnadaaFailMath
import Derived.Deep.CutBlock
import Derived.Deep.DeepCutAuto
namespace Go.Proofs.Ytgmcjnhijgnadaa
open Go.ChangeShapes Go.WideShapes Go.ChangeAt Go.RowKit
set_option linter.unusedVariables false
set_option linter.unusedSimpArgs false
set_option maxRecDepth 100000

def RTickC (A : Value → Prop) (p : Pb) (x : Int) (hs : List Int) (w : World) (e : Ending) (w' : World) : Prop := ∃ pv av fv rv wv, e = .returned (.tuple #[.agg #[pv, av, fv], .agg (cellsP (tickP p x) rv wv)]) ∧ Og encU 1 5 w' w.heap.size pv (tickR p x hs).pings ∧ Og encA 2 80 w' w.heap.size av (tickR p x hs).asks ∧ Og encU 1 5 w' w.heap.size fv (tickR p x hs).failed ∧ Rg encU 1 w' rv (tickP p x).row ∧ (A rv ∨ Og encU 1 5 w' w.heap.size rv (tickP p x).row) ∧ Og encW 2 82 w' w.heap.size wv (tickP p x).waits ∧ Kept w w'
theorem flat_two {α β : Type} (f : α → List β) (h : ∀ y, (f y).length ≤ 2) : ∀ l : List α, (l.flatMap f).length ≤ 2 * l.length
  | [] => by simp
  | a :: l => by
    have ih := flat_two f h l
    have := h a
    rw [List.flatMap_cons, List.length_append, List.length_cons]
    omega
theorem asks_len (self : Int) (n : Nat) (x : Int) (hs : List Int) (t : Nat) (ws : List Wt) : (asksW self n x hs t ws).length ≤ 2 * ws.length := by
  have h1 := flat_two (asksOf self n x hs) (fun y => by unfold asksOf; rw [List.length_map]; exact two_len _ _ _ _ _) (leftW t ws)
  have h2 : (leftW t ws).length ≤ ws.length := by unfold leftW; exact List.length_filter_le _ _
  unfold asksW
  omega
theorem og_other {α : Type} {enc : α → List Value} {c T U B : Nat} {w : World} {v : Value} {xs : List α} (h : Og enc c T w B v xs) {q : Nat} {cs : Array Value} (hq : At w q cs U) (hTU : T ≠ U) (o : Nat) (x : Value) : Og enc c T (w.setCell ⟨q, o, none⟩ x) B v xs :=
  og_block h (fun g cur _ ha => Below.heap_setCell _ _ _ _ (at_ne ha hq hTU))
def set3 (w : World) (Z : Nat) (a0 a1 a2 : Value) : World := ((w.setCell ⟨Z, 0, none⟩ a0).setCell ⟨Z, 1, none⟩ a1).setCell ⟨Z, 2, none⟩ a2
theorem loadR {w : World} {Z : Nat} {a0 a1 a2 : Value} (h : At w Z #[a0, a1, a2] 39) : (loadVar 39 ⟨Z, 0, none⟩).run Try.prog w = .ok (.agg #[a0, a1, a2]) w :=
  run_loadVar_row _ _ 39 39 _ (0, 0) _ h Try.underlying39 rfl infoR
theorem resRP {fn : Func} {p q : Tmp} (h : fn.results = #[.cell q 39, .cell p 30]) (tmps : Array Value) {w : World} {Y Z : Nat} {cs ds : Array Value} (hq : tmps.getD q undef = .pointer (some ⟨Y, 0, none⟩)) (hp : tmps.getD p undef = .pointer (some ⟨Z, 0, none⟩)) (hle : (loadVar 39 ⟨Y, 0, none⟩).run Try.prog w = .ok (.agg ds) w) (hld : (loadVar 30 ⟨Z, 0, none⟩).run Try.prog w = .ok (.agg cs) w) :
    (results fn tmps).run Try.prog w = .ok (.tuple #[.agg ds, .agg cs]) w := by
  have hp' : tmps[p]?.getD undef = .pointer (some ⟨Z, 0, none⟩) := by simpa using hp
  have hq' : tmps[q]?.getD undef = .pointer (some ⟨Y, 0, none⟩) := by simpa using hq
  simp [results, h, asAddr, Sem.run_bind, Sem.run_pure, Result.andThen, hp', hq', hld, hle]
/- The boxes of the answer, filled. -/
structure Rz (w : World) (R1 R2 B : Nat) (pv av fv : Value) (zc : Array Value) (pings fail : List Int) (asks : List Ask) (lv : Value) (left : List Wt) (u : World) : Prop where
  r1 : At u R1 #[pv, av, fv] 39
  r2 : At u R2 zc 30
  p : Og encU 1 5 u B pv pings
  a : Og encA 2 80 u B av asks
  f : Og encU 1 5 u B fv fail
  l : Og encW 2 82 u B lv left
  k : Kept w u
theorem rz_of {w u : World} {Z Q R1 R2 B : Nat} {c0 c1 c2 c3 c4 c5 pv lv av fv : Value} {left : List Wt} {asks : List Ask} {fail pings : List Int} (x : Bx w Z Q R1 R2 B) (h : RK w Z Q R1 R2 B #[c0, c1, c2, c3, c4, c5] pv lv av fv left asks fail u) (hp : Og encU 1 5 u B pv pings) : Rz w R1 R2 B pv av fv #[c0, c1, c2, c3, c4, c5] pings fail asks lv left (set6 (set3 u R1 pv av fv) R2 c0 c1 c2 c3 c4 c5) := by
  obtain ⟨o1, o2, o3, o4, o5⟩ := x
  have hR1 : R1 < B := by omega
  have hR2 : R2 < B := by omega
  have s3 : ∀ {α : Type} {enc : α → List Value} {c U : Nat} {v : Value} {xs : List α}, Og enc c U u B v xs → Og enc c U (set3 u R1 pv av fv) B v xs := fun h => og_set (og_set (og_set h hR1 0 pv) hR1 1 av) hR1 2 fv
  exact ⟨at_other6 (at_set (at_set (at_set h.r1 0 pv) 1 av) 2 fv) (by omega) _ _ _ _ _ _, at_set6 (at_other (at_other (at_other h.r2 (by omega) 0 pv) (by omega) 1 av) (by omega) 2 fv) _ _ _ _ _ _, og_set6 (s3 hp) hR2 _ _ _ _ _ _, og_set6 (s3 h.a) hR2 _ _ _ _ _ _, og_set6 (s3 h.f) hR2 _ _ _ _ _ _, og_set6 (s3 h.l) hR2 _ _ _ _ _ _, kept_set6 (kept_set (kept_set (kept_set h.k (by omega) 0 pv) (by omega) 1 av) (by omega) 2 fv) (by omega) _ _ _ _ _ _⟩
theorem rz_drew {w u : World} {R1 R2 B : Nat} {zc : Array Value} {pv lv av fv : Value} {left : List Wt} {asks : List Ask} {fail pings : List Int} (h : Rz w R1 R2 B pv av fv zc pings fail asks lv left u) : Rz w R1 R2 B pv av fv zc pings fail asks lv left u.drew :=
  have kd : Kept u u.drew := kept_drew (kept_refl u)
  ⟨at_drew h.r1, at_drew h.r2, og_stays h.p kd, og_stays h.a kd, og_stays h.f kd, og_stays h.l kd, kept_trans h.k kd⟩
theorem rtickC_of {A : Value → Prop} {p q : Pb} {x : Int} {hs : List Int} {w u : World} {R1 R2 B : Nat} {pv rv lv av fv : Value} {asks : List Ask} {fail pings : List Int} (h : Rz w R1 R2 B pv av fv (cellsP q rv lv) pings fail asks lv q.waits u) (hb : w.heap.size ≤ B) (hq : tickP p x = q) (ht : tickR p x hs = ⟨pings, asks, fail⟩) (hr : Rg encU 1 u rv q.row) (ha : A rv ∨ Og encU 1 5 u w.heap.size rv q.row) : RTickC A p x hs w (.returned (.tuple #[.agg #[pv, av, fv], .agg (cellsP q rv lv)])) u := by
  unfold RTickC
  rw [hq, ht]
  exact ⟨_, _, _, rv, lv, rfl, og_low h.p hb, og_low h.a hb, og_low h.f hb, hr, ha, og_low h.l hb, h.k⟩
theorem rk_ping {w u : World} {Z Q R1 R2 B : Nat} {zc : Array Value} {pv lv av fv : Value} {left : List Wt} {asks : List Ask} {fail : List Int} (x : Bx w Z Q R1 R2 B) (h : RK w Z Q R1 R2 B zc pv lv av fv left asks fail u) (pv' : Value) : RK w Z Q R1 R2 B zc pv' lv av fv left asks fail (u.setCell ⟨Q, 0, none⟩ pv') := by
  obtain ⟨o1, o2, o3, o4, o5⟩ := x
  exact ⟨at_other h.z (by omega) 0 pv', at_set h.q 0 pv', at_other h.r1 (by omega) 0 pv', at_other h.r2 (by omega) 0 pv', og_set h.l o5 0 pv', og_set h.a o5 0 pv', og_set h.f o5 0 pv', kept_set h.k (by omega) 0 pv', by rw [World.size_setCell]; exact h.b⟩
/- The row to ask: the caller's, or one of one's own. -/
def RowIs (A : Value → Prop) (w : World) (B : Nat) (rv : Value) (rt : List Int) (u : World) : Prop := (Rg encU 1 w rv rt ∧ A rv) ∨ Og encU 1 5 u B rv rt
theorem rowis_rg {A : Value → Prop} {w u : World} {B : Nat} {rv : Value} {rt : List Int} (h : RowIs A w B rv rt u) (k : Kept w u) : Rg encU 1 u rv rt := by
  rcases h with h | h
  · exact rg_kept encU_ok h.1 k
  · exact rg_own encU_ok h
theorem rowis_set {A : Value → Prop} {w u : World} {B : Nat} {rv : Value} {rt : List Int} (h : RowIs A w B rv rt u) {X : Nat} (hx : X < B) (j : Nat) (v : Value) : RowIs A w B rv rt (u.setCell ⟨X, j, none⟩ v) := by
  rcases h with h | h
  · exact .inl h
  · exact .inr (og_set h hx j v)
theorem rowis_stays {A : Value → Prop} {w u u' : World} {B : Nat} {rv : Value} {rt : List Int} (h : RowIs A w B rv rt u) (k : Kept u u') : RowIs A w B rv rt u' := by
  rcases h with h | h
  · exact .inl h
  · exact .inr (og_stays h k)
theorem rowis_beside {A : Value → Prop} {w u u' : World} {B : Nat} {rv lv : Value} {rt : List Int} {left : List Wt} (h : RowIs A w B rv rt u) (l : Og encW 2 82 u B lv left) (g : u.grownBy u' lv.ownBlock) : RowIs A w B rv rt u' := by
  rcases h with h | h
  · exact .inl h
  · exact .inr (og_beside h l (by decide) g)
theorem rowis_end {A : Value → Prop} {w u : World} {B : Nat} {rv : Value} {rt : List Int} (h : RowIs A w B rv rt u) {R1 R2 : Nat} (h1 : R1 < B) (h2 : R2 < B) {b0 b1 b2 c0 c1 c2 c3 c4 c5 : Value} : RowIs A w B rv rt (set6 (set3 u R1 b0 b1 b2) R2 c0 c1 c2 c3 c4 c5).drew :=
  rowis_stays (rowis_set (rowis_set (rowis_set (rowis_set (rowis_set (rowis_set (rowis_set (rowis_set (rowis_set h h1 0 b0) h1 1 b1) h1 2 b2) h2 0 c0) h2 1 c1) h2 2 c2) h2 3 c3) h2 4 c4) h2 5 c5) (kept_drew (kept_refl _))
theorem rowis_ap {A : Value → Prop} {w u : World} {B : Nat} {rv : Value} {rt : List Int} (h : RowIs A w B rv rt u) (hb : w.heap.size ≤ B) : A rv ∨ Og encU 1 5 u w.heap.size rv rt := by
  rcases h with h | h
  · exact .inl h.2
  · exact .inr (og_low h hb)
theorem og_putU {w : World} {B q n cap : Nat} {r : List Int} (h : Og encU 1 5 w B (.slice (some ⟨q, 0, none⟩) n cap) r) {i : Nat} {a : Int} (hx : r[i]? = some a) (b : Int) : Og encU 1 5 (w.setCell ⟨q, i, none⟩ (.int .u8 b)) B (.slice (some ⟨q, 0, none⟩) n cap) (r.set i b) := by
  have h1 := og_put encU_ok h (j := 0) (x' := b) (u := .int .u8 b) hx (by decide) rfl
  rwa [Nat.mul_one, Nat.add_zero] at h1
theorem shuf_pred (x : Int) {i : Nat} (h : 1 ≤ i) (r : List Int) : shuf x i r = shuf x (i - 1) (swp r i (jx x i)) := by
  cases i with
  | zero => omega
  | succ m => rfl
theorem swp_at {r : List Int} {i j : Nat} {a b : Int} (h1 : r[i]? = some a) (h2 : r[j]? = some b) : (r.set i b).set j a = swp r i j := by
  unfold swp
  rw [nthI_at h1, nthI_at h2]
theorem set_at {r : List Int} {i j : Nat} {b : Int} (h1 : i < r.length) (h2 : r[j]? = some b) : (r.set i b)[j]? = some b := by
  by_cases e : i = j
  · subst e
    simp [h1]
  · rw [List.getElem?_set_ne e, h2]
theorem twoI_range {x y : Int} (hx : 0 ≤ x) (hx2 : x < 18446744073709551616) (hy : 0 ≤ y) (hy2 : y < 18446744073709551616) : 0 ≤ twoI x y := by
  have e1 : x = ((BitVec.ofNat 64 x.toNat).toNat : Int) := by rw [BitVec.toNat_ofNat, Nat.mod_eq_of_lt (by omega)]; omega
  have e2 : y = ((BitVec.ofNat 64 y.toNat).toNat : Int) := by rw [BitVec.toNat_ofNat, Nat.mod_eq_of_lt (by omega)]; omega
  rw [e1, e2, twoI_bv]
  exact Int.natCast_nonneg _
theorem u64_wf {x : Int} (h1 : 0 ≤ x) (h2 : x < 18446744073709551616) : (Lit.int .u64 x).wf = true := by
  simp [Lit.wf, IntKind.min, IntKind.max, IntKind.bits, IntKind.signed]
  omega
theorem jx_mod {x : Int} (hx : 0 ≤ x) (hx2 : x < 18446744073709551616) {i : Nat} (hi : i ≤ 64) : Int.tmod (twoI x (i : Int)) ((i : Int) + 1) = ((jx x i : Nat) : Int) := by
  rw [Int.tmod_eq_emod_of_nonneg (twoI_range hx hx2 (by omega) (by omega))]
  unfold jx
  rw [Int.toNat_of_nonneg (Int.emod_nonneg _ (by omega))]
set_option maxHeartbeats 51200000 in
theorem rtick_any {A : Value → Prop} (p : Pb) (gp : Gp p) (ht : p.ticks ≤ 1000) (rv wv : Value) (x : Int) (hx : 0 ≤ x) (hx2 : x < 18446744073709551616) (hs : List Int) (hu : U8 hs) (hl : hs.length ≤ 100) (hv : Value) (w : World) (h : Rp w p rv wv) (hA : A rv) (hr : Rg encU 1 w hv hs) : Calls Try.prog 11 #[.agg (cellsP p rv wv), .int .u64 x, hv] w (RTickC A p x hs w) := by
  unfold cellsP
  have HRr := hid h.r
  have HRw := hid h.w
  have HRh := hid hr
  have HGp := hid gp
  have HAp := hid hA
  clear hA
  have HWl : Hid (p.waits.length ≤ 256) := hid (by
    have h1 := wl_dom gp.once (gp_ok gp)
    have h2 := dom_le (wl p.waits)
    omega)
  obtain ⟨ra, rc, rfl, -, -, -, -⟩ := h.r
  obtain ⟨a, cap, rfl, hb1, hb2, -, -⟩ := h.w
  unfold maxLen at hb2
  have hz := zeroP
  have hz2 := zeroR
  have hz3 := zeroW
  have k0 := kept_alloc (kept_refl w) (.cells #[.int .u8 p.self, .int .i64 (p.n : Int), .slice ra p.row.length rc, .int .i64 (p.place : Int), .slice a p.waits.length cap, .int .i64 (p.ticks : Int)] 30)
  have a0 := at_new w #[.int .u8 p.self, .int .i64 (p.n : Int), .slice ra p.row.length rc, .int .i64 (p.place : Int), .slice a p.waits.length cap, .int .i64 (p.ticks : Int)] 30
  obtain ⟨w0, hw0⟩ : ∃ u, w.alloc (.cells #[.int .u8 p.self, .int .i64 (p.n : Int), .slice ra p.row.length rc, .int .i64 (p.place : Int), .slice a p.waits.length cap, .int .i64 (p.ticks : Int)] 30) = u := ⟨_, rfl⟩
  obtain ⟨Z, hZ⟩ : ∃ u, w.heap.size = u := ⟨_, rfl⟩
  rw [hw0] at k0 a0
  rw [hZ] at a0
  have k1 := kept_alloc (kept_refl w0) (.cells #[.slice none 0 0, .slice none 0 0, .slice none 0 0] 39)
  have b1 := at_new w0 #[.slice none 0 0, .slice none 0 0, .slice none 0 0] 39
  obtain ⟨w1, hw1⟩ : ∃ u, w0.alloc (.cells #[.slice none 0 0, .slice none 0 0, .slice none 0 0] 39) = u := ⟨_, rfl⟩
  obtain ⟨R1, hR1⟩ : ∃ u, w0.heap.size = u := ⟨_, rfl⟩
  rw [hw1] at k1 b1
  rw [hR1] at b1
  have k2 := kept_alloc (kept_refl w1) (.cells #[.int .u8 0, .int .i64 0, .slice none 0 0, .int .i64 0, .slice none 0 0, .int .i64 0] 30)
  have c2 := at_new w1 #[.int .u8 0, .int .i64 0, .slice none 0 0, .int .i64 0, .slice none 0 0, .int .i64 0] 30
  obtain ⟨w2, hw2⟩ : ∃ u, w1.alloc (.cells #[.int .u8 0, .int .i64 0, .slice none 0 0, .int .i64 0, .slice none 0 0, .int .i64 0] 30) = u := ⟨_, rfl⟩
  obtain ⟨R2, hR2⟩ : ∃ u, w1.heap.size = u := ⟨_, rfl⟩
  rw [hw2] at k2 c2
  rw [hR2] at c2
  have k3 := kept_alloc (kept_refl w2) (.cells #[.slice none 0 0, .slice none 0 0, .slice none 0 0] 39)
  have d3 := at_new w2 #[.slice none 0 0, .slice none 0 0, .slice none 0 0] 39
  obtain ⟨Q, hQ⟩ : ∃ u, w2.heap.size = u := ⟨_, rfl⟩
  rw [hQ] at d3
  have a3 := at_kept a0 (kept_trans k1 (kept_trans k2 k3))
  have b3 := at_kept b1 (kept_trans k2 k3)
  have c3 := at_kept c2 k3
  have kw3 : Kept w (w2.alloc (.cells #[.slice none 0 0, .slice none 0 0, .slice none 0 0] 39)) := kept_trans k0 (kept_trans k1 (kept_trans k2 k3))
  obtain ⟨tk, htk⟩ : ∃ tk, p.ticks + 1 = tk := ⟨_, rfl⟩
  have hwt : IntKind.i64.wrap ((p.ticks : Int) + 1) = (tk : Int) := by rw [IntWalk.i64_in _ (by omega)]; omega
  have HBx : Hid (Bx w Z Q R1 R2 (Q + 1)) := hid ⟨by omega, by have := at_lt a0; omega, by have := at_lt b1; omega, by have := at_lt c2; omega, by omega⟩
  obtain ⟨q0, q1, q2, q3, q4, q5⟩ := at_cells6 a3
  have qf := at_frozen a3
  have s3 : (w2.alloc (.cells #[.slice none 0 0, .slice none 0 0, .slice none 0 0] 39)).heap.size = Q + 1 := by rw [World.size_alloc, hQ]
  have HRK3 : Hid (RK w Z Q R1 R2 (Q + 1) #[.int .u8 p.self, .int .i64 (p.n : Int), .slice ra p.row.length rc, .int .i64 (p.place : Int), .slice a p.waits.length cap, .int .i64 (p.ticks : Int)] (.slice none 0 0) (.slice none 0 0) (.slice none 0 0) (.slice none 0 0) [] [] [] (w2.alloc (.cells #[.slice none 0 0, .slice none 0 0, .slice none 0 0] 39))) := hid ⟨a3, d3, b3, c3, og_nil _ _ _ _ _, og_nil _ _ _ _ _, og_nil _ _ _ _ _, kw3, by omega⟩
  have HRK4 : Hid (RK w Z Q R1 R2 (Q + 1) #[.int .u8 p.self, .int .i64 (p.n : Int), .slice ra p.row.length rc, .int .i64 (p.place : Int), .slice a p.waits.length cap, .int .i64 (tk : Int)] (.slice none 0 0) (.slice none 0 0) (.slice none 0 0) (.slice none 0 0) [] [] [] ((w2.alloc (.cells #[.slice none 0 0, .slice none 0 0, .slice none 0 0] 39)).setCell ⟨Z, 5, none⟩ (.int .i64 (tk : Int)))) := hid (rk_set HBx.out HRK3.out 5 (.int .i64 (tk : Int)))
  have HRK5 : Hid (RK w Z Q R1 R2 (Q + 1) #[.int .u8 p.self, .int .i64 (p.n : Int), .slice ra p.row.length rc, .int .i64 (p.place : Int), .slice a p.waits.length cap, .int .i64 (tk : Int)] (.slice none 0 0) (.slice (some ⟨Q + 1, 0, none⟩) 0 0) (.slice none 0 0) (.slice none 0 0) [] [] [] (((w2.alloc (.cells #[.slice none 0 0, .slice none 0 0, .slice none 0 0] 39)).setCell ⟨Z, 5, none⟩ (.int .i64 (tk : Int))).alloc (.cells #[] 82))) := hid (by
    have h7 := rk_kept HRK4.out (kept_alloc (kept_refl _) (.cells #[] 82))
    have h8 := builtW ((w2.alloc (.cells #[.slice none 0 0, .slice none 0 0, .slice none 0 0] 39)).setCell ⟨Z, 5, none⟩ (.int .i64 (tk : Int)))
    rw [World.size_setCell, s3] at h8
    exact ⟨h7.z, h7.q, h7.r1, h7.r2, h8, h7.a, h7.f, h7.k, h7.b⟩)
  obtain ⟨z0, z1, z2, z3, z4, z5⟩ := at_cells6 HRK5.out.z
  have HG : Hid (∀ k, k < p.waits.length → ∃ y, p.waits[k]? = some y) := hid (fun k hk => ⟨p.waits[k], List.getElem?_eq_getElem hk⟩)
  have HPp : Hid (0 < p.waits.length → ∃ g o, a = some ⟨g, o, none⟩) := hid (fun hp => by
    obtain ⟨g, o, c, e⟩ := rg_pos HRw.out hp
    injection e with e1
    exact ⟨g, o, e1⟩)
  have HT : Hid (p.waits.take p.waits.length = p.waits) := hid List.take_length
  have hmw : p.waits.length ≤ 9223372036854775807 := by
    have : p.waits.length ≤ cap := hb1
    omega
  clear k0 a0 k1 b1 k2 c2 k3 d3 a3 b3 c3 kw3 HRK3 HRK4 h hr gp hb1 hb2
  go_enter Try.func11, Try.ntmps11
  go_wp2_with fail
  clear hw0 hw1 hw2 hZ hR1 hR2 hQ q0 q1 q2 q3 q4 q5 qf z0 z1 z2 z3 z4 z5 s3 hwt
  generalize ((w2.alloc (.cells #[.slice none 0 0, .slice none 0 0, .slice none 0 0] 39)).setCell ⟨Z, 5, none⟩ (.int .i64 (tk : Int))).alloc (.cells #[] 82) = w5 at *
  have HTk := hid htk
  generalize Q + 1 = B at *
  generalize hm : p.waits.length = m at *
  go_loopw [9, 29] (fun lv iv wr => ∃ (k : Nat) (av fv : Value), k ≤ m ∧ iv = .int .i64 (k : Int) ∧ Hid (RK w Z Q R1 R2 B #[.int .u8 p.self, .int .i64 (p.n : Int), .slice ra p.row.length rc, .int .i64 (p.place : Int), .slice a m cap, .int .i64 (tk : Int)] (.slice none 0 0) lv av fv (leftW tk (p.waits.take k)) (asksW p.self p.n x hs tk (p.waits.take k)) (failW tk (p.waits.take k)) wr)) (fun _ iv _ => m - (intOf iv).toNat)
  case atStart => exact ⟨0, _, _, Nat.zero_le _, rfl, HRK5⟩
  case round =>
    obtain ⟨k, av, fv, hk, rfl, HRK⟩ := hrel
    clear HRK5
    by_cases hlt : k < m
    · obtain ⟨y, hy⟩ := HG.out k hlt
      obtain ⟨g, o, rfl⟩ := HPp.out (by omega)
      obtain ⟨c0, c1⟩ := rg_W (rg_kept encW_ok HRw.out HRK.out.k) hy
      have HYw := hid (HGp.out.wait y (List.mem_of_getElem? hy))
      have HNf := hid (fail_next hy tk)
      have HNl := hid (left_next hy tk)
      have HNa := hid (asks_next hy p.self p.n x hs tk)
      clear hy
      have ka := kept_alloc (kept_refl wr) (.cells #[.int .u8 y.node, .int .i64 (y.since : Int)] 82)
      have HW := hid (at_new wr #[.int .u8 y.node, .int .i64 (y.since : Int)] 82)
      have HRa := hid (rk_kept HRK.out ka)
      have HZw : Hid (B ≤ wr.heap.size) := hid HRK.out.b
      obtain ⟨q0, q1, q2, q3, q4, q5⟩ := at_cells6 HRK.out.z
      obtain ⟨wa, hwa⟩ : ∃ u, wr.alloc (.cells #[.int .u8 y.node, .int .i64 (y.since : Int)] 82) = u := ⟨_, rfl⟩
      obtain ⟨Zw, hZw⟩ : ∃ u, wr.heap.size = u := ⟨_, rfl⟩
      rw [hwa] at HRa
      rw [hwa, hZw] at HW
      obtain ⟨r0, r1, r2, r3, r4, r5⟩ := at_cells6 HRa.out.z
      have p0 : wa.cell? ⟨Zw, 0, none⟩ = some (.int .u8 y.node) := at_cell HW.out 0
      have p1 : wa.cell? ⟨Zw, 1, none⟩ = some (.int .i64 (y.since : Int)) := at_cell HW.out 1
      have hsb : IntKind.i64.wrap ((tk : Int) - (y.since : Int)) = (tk : Int) - (y.since : Int) := IntWalk.i64_in _ (by have := HYw.out; have := HTk.out; omega)
      clear ka HRK
      cases hlate : late tk y with
      | true =>
        have hd : decide ((2 : Int) ≤ (tk : Int) - (y.since : Int)) = true := by
          have : y.since + 2 ≤ tk := by simpa [late] using hlate
          simp
          omega
        rw [hlate, if_pos rfl] at HNf HNl HNa
        rw [List.append_nil] at HNl HNa
        obtain ⟨u0, u1, u2⟩ := at_cells3' HRa.out.q
        have kb := kept_alloc (kept_refl wa) (.cells #[.int .u8 y.node] 5)
        have HRb := hid (rk_kept HRa.out kb)
        have HAl := hid (rg_alone encU_ok (y := y.node) (at_new wa #[.int .u8 y.node] 5))
        have HLf : Hid ((failW tk (p.waits.take k)).length ≤ 256) := hid (by
          have h1 : (failW tk (p.waits.take k)).length ≤ (p.waits.take k).length := by unfold failW; rw [List.length_map]; exact List.length_filter_le _ _
          rw [List.length_take] at h1
          have := HWl.out
          omega)
        clear kb hlate
        go_wp2_with (at_builtin; go_must (refine wpList_gapp rfl (.tmp 44) (.tmp 47) rfl encU_ok tyU (by decide) B _ _ _ _ rfl HRb.out.f rfl HAl.out (by have := HLf.out; simp; omega) HRb.out.b ?_; intro v3 w4 hown3 hgrow3 hnil3; have hq3 := at_beside HRb.out.q HRb.out.f (by decide) hgrow3; obtain ⟨y0, y1, y2⟩ := at_cells3' hq3; have yf := at_frozen hq3; obtain ⟨va, vc, hv3, -, -⟩ := og_is encU_ok hown3; subst hv3))
        have hown4 : Og encU 1 5 w4 B (.slice va ((failW tk (p.waits.take k)).length + 1) vc) (failW tk (p.waits.take k) ++ [y.node]) := by
          have h7 := hown3
          rw [List.length_append] at h7
          exact h7
        have HR5 := hid (rk_fail HBx.out HRb.out hown4 hgrow3)
        go_roundw
        case rel => exact ⟨k + 1, av, _, by omega, by go_num, hid (by rw [HNf.out, HNl.out, HNa.out]; exact HR5.out)⟩
        case measure => simp [intOf]; omega
      | false =>
        have hd : decide ((2 : Int) ≤ (tk : Int) - (y.since : Int)) = false := by
          have : ¬ y.since + 2 ≤ tk := by simpa [late] using hlate
          simp
          omega
        rw [hlate, if_neg (by simp)] at HNf HNl HNa
        rw [List.append_nil] at HNf
        have HLd := hid (loadP HRa.out.z)
        have hTw := rtwo_any' ⟨p.self, p.n, p.row, p.place, p.waits, tk⟩ (.slice ra p.row.length rc) (.slice (some ⟨g, o, none⟩) m cap) x hx hx2 hs hu hl y.node hv wa ⟨rg_kept encU_ok HRr.out HRa.out.k, rg_kept encW_ok HRw.out HRa.out.k⟩ (rg_kept encU_ok HRh.out HRa.out.k)
        unfold cellsP at hTw
        have HAo : Hid (asksOf p.self p.n x hs y = (twoH p.self p.n x hs y.node).map (fun h => (⟨h, y.node⟩ : Ask))) := hid rfl
        have HTl := hid (two_len p.self p.n x hs y.node)
        clear hlate
        go_wp2_with (refine wpList_loadP rfl _ rfl Z rfl _ HLd.out ?_)
        refine hTw.mono ?_
        rintro e w6 ⟨tv, rfl, o6, k6⟩
        have HR6 := hid (rk_kept HRa.out k6)
        have HW6 := hid (at_kept HW.out k6)
        have HT6 := hid (og_low o6 (Nat.zero_le _))
        have HT6r := hid (rg_own encU_ok o6)
        clear hTw o6 k6 q0 q1 q2 q3 q4 q5 r0 r1 r2 r3 r4 r5 p0 p1 c0 c1 hwa hZw HLd HRa HW
        have HLa : Hid ((asksW p.self p.n x hs tk (p.waits.take k)).length ≤ 512) := hid (by
          have h1 := asks_len p.self p.n x hs tk (p.waits.take k)
          rw [List.length_take] at h1
          have := HWl.out
          omega)
        have HLl : Hid ((leftW tk (p.waits.take k)).length ≤ 256) := hid (by
          have h1 : (leftW tk (p.waits.take k)).length ≤ (p.waits.take k).length := by unfold leftW; exact List.length_filter_le _ _
          rw [List.length_take] at h1
          have := HWl.out
          omega)
        have HMo : Hid (∀ j h, (twoH p.self p.n x hs y.node)[j]? = some h → ((twoH p.self p.n x hs y.node).take (j + 1)).map (fun h => (⟨h, y.node⟩ : Ask)) = ((twoH p.self p.n x hs y.node).take j).map (fun h => (⟨h, y.node⟩ : Ask)) ++ [⟨h, y.node⟩]) := hid (fun j h e => ask_more e)
        generalize twoH p.self p.n x hs y.node = tw at *
        generalize asksW p.self p.n x hs tk (p.waits.take k) = as0 at *
        obtain ⟨ta, tc, rfl, -, -, -, -⟩ := HT6r.out
        have HGt : Hid (∀ j, j < tw.length → ∃ h, tw[j]? = some h) := hid (fun j hj => ⟨tw[j], List.getElem?_eq_getElem hj⟩)
        have HPt : Hid (0 < tw.length → ∃ g o, ta = some ⟨g, o, none⟩) := hid (fun hp => by
          obtain ⟨g, o, c, e⟩ := rg_pos HT6r.out hp
          injection e with e1
          exact ⟨g, o, e1⟩)
        have HTT : Hid (tw.take tw.length = tw) := hid List.take_length
        have ht2 : tw.length ≤ 2 := HTl.out
        generalize htw : tw.length = t2 at *
        clear htw
        go_wp2_with fail
        go_loopw [58] (fun jv wq => ∃ (j : Nat) (av' : Value), j ≤ t2 ∧ jv = .int .i64 (j : Int) ∧ Hid (RK w Z Q R1 R2 B #[.int .u8 p.self, .int .i64 (p.n : Int), .slice ra p.row.length rc, .int .i64 (p.place : Int), .slice (some ⟨g, o, none⟩) m cap, .int .i64 (tk : Int)] (.slice none 0 0) u9 av' fv (leftW tk (p.waits.take k)) (as0 ++ (tw.take j).map (fun h => (⟨h, y.node⟩ : Ask))) (failW tk (p.waits.take k)) wq) ∧ Hid (Og encU 1 5 wq 0 (.slice ta t2 tc) tw) ∧ Hid (At wq Zw #[.int .u8 y.node, .int .i64 (y.since : Int)] 82)) (fun jv _ => t2 - (intOf jv).toNat)
        case atStart => exact ⟨0, av, Nat.zero_le _, rfl, hid (by rw [List.take_zero, List.map_nil, List.append_nil]; exact HR6.out), HT6, HW6⟩
        case round =>
          obtain ⟨j, av', hj, rfl, HRq, HTq, HWq⟩ := hrel
          clear HR6 HT6 HW6 HT6r
          by_cases hjt : j < t2
          · obtain ⟨h, hh⟩ := HGt.out j hjt
            obtain ⟨g5, o5, rfl⟩ := HPt.out (by omega)
            have HMx := hid (HMo.out j h hh)
            obtain ⟨aa, ac, hav, -, -⟩ := og_is encA_ok HRq.out.a
            subst hav
            have HLb : Hid ((as0 ++ (tw.take j).map (fun h => (⟨h, y.node⟩ : Ask))).length ≤ 600) := hid (by have := HLa.out; rw [List.length_append, List.length_map, List.length_take]; omega)
            have HOas := hid HRq.out.a
            generalize hal : (as0 ++ (tw.take j).map (fun h => (⟨h, y.node⟩ : Ask))).length = al at *
            have kd : Kept wr wr.drew := kept_drew (kept_refl wr)
            have HRd := hid (rk_kept HRq.out kd)
            have HTd := hid (og_stays HTq.out kd)
            have HWd := hid (at_kept HWq.out kd)
            have ke := kept_alloc (kept_refl wr.drew) (.cells #[.int .u8 h, .int .u8 y.node] 80)
            have HRe := hid (rk_kept HRd.out ke)
            have HTe := hid (og_stays HTd.out ke)
            have HWe := hid (at_kept HWd.out ke)
            have HAl := hid (rg_alone encA_ok (y := ⟨h, y.node⟩) (at_new wr.drew #[.int .u8 h, .int .u8 y.node] 80))
            obtain ⟨v3, w7, hrun, hown3, hgrow3, hnil3⟩ := grun_app encA_ok tyA (by decide) HRe.out.a HAl.out (by have := HLb.out; rw [hal]; simp; omega) HRe.out.b 37
            have HR7 := hid (rk_ask HBx.out HRe.out hown3 hgrow3)
            have hq7 := at_beside HRe.out.q HRe.out.a (by decide) hgrow3
            have hT7 := og_beside HTe.out HRe.out.a (by decide) hgrow3
            have hW7 := (at_beside HWe.out HRe.out.a (by decide) hgrow3)
            have HTx := hid (og_other hT7 hq7 (by decide) 1 v3)
            have HWx := hid (at_other hW7 (show Zw ≠ Q by exact at_ne hW7 hq7 (by decide)) 1 v3)
            have cell2 : ∀ u, Og encU 1 5 u 0 (.slice (some ⟨g5, o5, none⟩) t2 tc) tw → At u Zw #[.int .u8 y.node, .int .i64 (y.since : Int)] 82 → u.cell? ⟨g5, o5 + j, none⟩ = some (.int .u8 h) ∧ u.cell? ⟨Zw, 0, none⟩ = some (.int .u8 y.node) := fun u h1 h2 => ⟨rg_U (rg_own encU_ok h1) hh, at_cell h2 0⟩
            have hS0 := cell2 _ HTq.out HWq.out
            have hSd := cell2 _ HTd.out HWd.out
            have hSa := cell2 _ HTe.out HWe.out
            have hSb := cell2 _ hT7 hW7
            have hSc := cell2 _ HTx.out HWx.out
            obtain ⟨-, d1, -⟩ := at_cells3' HRd.out.q
            obtain ⟨-, f1, -⟩ := at_cells3' HRe.out.q
            obtain ⟨-, m1, -⟩ := at_cells3' hq7
            have mf := at_frozen hq7
            have HRx : Hid (RK w Z Q R1 R2 B #[.int .u8 p.self, .int .i64 (p.n : Int), .slice ra p.row.length rc, .int .i64 (p.place : Int), .slice (some ⟨g, o, none⟩) m cap, .int .i64 (tk : Int)] (.slice none 0 0) u9 v3 fv (leftW tk (p.waits.take k)) (as0 ++ (tw.take (j + 1)).map (fun h => (⟨h, y.node⟩ : Ask))) (failW tk (p.waits.take k)) (w7.setCell ⟨Q, 1, none⟩ v3)) := hid (by rw [HMx.out, ← List.append_assoc]; exact HR7.out)
            obtain ⟨va, vc, hv3, -, -⟩ := og_is encA_ok hown3
            obtain ⟨ln, hln⟩ : ∃ ln, ((as0 ++ (tw.take j).map (fun h => (⟨h, y.node⟩ : Ask))) ++ [(⟨h, y.node⟩ : Ask)]).length = ln := ⟨_, rfl⟩
            rw [hln] at hv3
            clear hln
            clear cell2 kd ke HRd HTd HWd HRe HTe HWe HR7 hT7 hW7 hq7 hown3 hgrow3 hnil3 HRq HTq HWq hh HAl HOas
            go_wp2_with fail
            subst hv3
            refine wp_region_noPanic ?_
            refine wp_region_held_drew (S := (fun w' => (w'.cell? ⟨g5, o5 + j, none⟩ = some (.int .u8 h)) ∧ (w'.cell? ⟨Zw, 0, none⟩ = some (.int .u8 y.node)))) (by kernel_rfl) (by assumption) (fun hHeld => ?_)
            generalize wr.drew = wd at *
            refine wpAnyH_take (i := 0) (v := .pointer (some ⟨Q, 1, none⟩)) rfl (by kernel_rfl) (by kernel_rfl) (by kernel_rfl) (fun _ _ _ h => h) (Or.inl ⟨by rfl, fun w hSw => by (try dsimp only at hSw); go_simp⟩) (by assumption) ?_
            try simp only [List.getElem_toArray, List.getElem_cons_zero, List.getElem_cons_succ, Act.put, List.setIfInBounds_toArray, List.set_cons_zero, List.set_cons_succ]
            refine wpAnyH_take (i := 2) (v := .slice (some ⟨g5, o5, none⟩) t2 tc) rfl (by kernel_rfl) (by kernel_rfl) (by kernel_rfl) (fun _ _ _ h => h) (Or.inl ⟨by rfl, fun w hSw => by (try dsimp only at hSw); go_simp⟩) (by assumption) ?_
            try simp only [List.getElem_toArray, List.getElem_cons_zero, List.getElem_cons_succ, Act.put, List.setIfInBounds_toArray, List.set_cons_zero, List.set_cons_succ]
            refine wpAnyH_take (i := 3) (v := .int .i64 (j : Int)) rfl (by kernel_rfl) (by kernel_rfl) (by kernel_rfl) (fun _ _ _ h => h) (Or.inl ⟨by rfl, fun w hSw => by (try dsimp only at hSw); go_simp⟩) (by assumption) ?_
            try simp only [List.getElem_toArray, List.getElem_cons_zero, List.getElem_cons_succ, Act.put, List.setIfInBounds_toArray, List.set_cons_zero, List.set_cons_succ]
            refine wpAnyH_take (i := 4) (v := .pointer (some ⟨g5, o5 + j, none⟩)) rfl (by kernel_rfl) (by kernel_rfl) (by kernel_rfl) (fun _ _ _ h => h) (Or.inl ⟨by rfl, fun w hSw => by (try dsimp only at hSw); go_simp⟩) (by assumption) ?_
            try simp only [List.getElem_toArray, List.getElem_cons_zero, List.getElem_cons_succ, Act.put, List.setIfInBounds_toArray, List.set_cons_zero, List.set_cons_succ]
            refine wpAnyH_take (i := 5) (v := .int .u8 h) rfl (by kernel_rfl) (by kernel_rfl) (by kernel_rfl) (fun _ _ _ h => h) (Or.inl ⟨by rfl, fun w hSw => by (try dsimp only at hSw); go_simp⟩) (by assumption) ?_
            try simp only [List.getElem_toArray, List.getElem_cons_zero, List.getElem_cons_succ, Act.put, List.setIfInBounds_toArray, List.set_cons_zero, List.set_cons_succ]
            refine wpAnyH_take (i := 6) (v := .pointer (some ⟨Zw, 0, none⟩)) rfl (by kernel_rfl) (by kernel_rfl) (by kernel_rfl) (fun _ _ _ h => h) (Or.inl ⟨by rfl, fun w hSw => by (try dsimp only at hSw); go_simp⟩) (by assumption) ?_
            try simp only [List.getElem_toArray, List.getElem_cons_zero, List.getElem_cons_succ, Act.put, List.setIfInBounds_toArray, List.set_cons_zero, List.set_cons_succ]
            refine wpAnyH_take (i := 7) (v := .int .u8 y.node) rfl (by kernel_rfl) (by kernel_rfl) (by kernel_rfl) (fun _ _ _ h => h) (Or.inl ⟨by rfl, fun w hSw => by (try dsimp only at hSw); go_simp⟩) (by assumption) ?_
            try simp only [List.getElem_toArray, List.getElem_cons_zero, List.getElem_cons_succ, Act.put, List.setIfInBounds_toArray, List.set_cons_zero, List.set_cons_succ]
            refine wpAnyH_take (i := 8) (v := .agg #[.int .u8 h, .int .u8 y.node]) rfl (by kernel_rfl) (by kernel_rfl) (by kernel_rfl) (fun _ _ _ h => h) (Or.inl ⟨by rfl, fun w hSw => by (try dsimp only at hSw); go_simp⟩) (by assumption) ?_
            try simp only [List.getElem_toArray, List.getElem_cons_zero, List.getElem_cons_succ, Act.put, List.setIfInBounds_toArray, List.set_cons_zero, List.set_cons_succ]
            refine wpAnyH_ready (rs := [1, 9]) (by kernel_rfl) (by simp) ?_
            refine AllReadyH.cons (i := 1) rfl (fun K hK => ?_) ?_
            · go_simp
              have hS := hSd
              clear hHeld
              show K _ _
              refine hK.out _ _ (by assumption) (fun hHeld => ?_)
              clear hK K
              try simp only [List.getElem_toArray, List.getElem_cons_zero, List.getElem_cons_succ, Act.put, List.setIfInBounds_toArray, List.set_cons_zero, List.set_cons_succ]
              refine wpAnyH_ready (rs := [9]) (by kernel_rfl) (by simp) ?_
              refine AllReadyH.cons (i := 9) rfl (fun K hK => ?_) AllReadyH.nil
              go_simp
              have hS := hSa
              clear hHeld
              show K _ _
              refine hK.out _ _ (by assumption) (fun hHeld => ?_)
              clear hK K
              try simp only [List.getElem_toArray, List.getElem_cons_zero, List.getElem_cons_succ, Act.put, List.setIfInBounds_toArray, List.set_cons_zero, List.set_cons_succ]
              refine wpAnyH_ready (rs := [10]) (by kernel_rfl) (by simp) ?_
              refine AllReadyH.cons (i := 10) rfl (fun K hK => ?_) AllReadyH.nil
              refine op_run (.tmp 62) (.tmp 70) 37 rfl _ _ _ rfl rfl hrun ?_
              have hS := hSb
              clear hHeld
              show K _ _
              refine hK.out _ _ (by assumption) (fun hHeld => ?_)
              clear hK K
              try simp only [List.getElem_toArray, List.getElem_cons_zero, List.getElem_cons_succ, Act.put, List.setIfInBounds_toArray, List.set_cons_zero, List.set_cons_succ]
              refine wpAnyH_take (i := 11) (v := .pointer (some ⟨Q, 1, none⟩)) rfl (by kernel_rfl) (by kernel_rfl) (by kernel_rfl) (fun _ _ _ h => h) (Or.inl ⟨by rfl, fun w hSw => by (try dsimp only at hSw); go_simp⟩) (by assumption) ?_
              try simp only [List.getElem_toArray, List.getElem_cons_zero, List.getElem_cons_succ, Act.put, List.setIfInBounds_toArray, List.set_cons_zero, List.set_cons_succ]
              refine wpAnyH_ready (rs := [12]) (by kernel_rfl) (by simp) ?_
              refine AllReadyH.cons (i := 12) rfl (fun K hK => ?_) AllReadyH.nil
              go_simp
              have hS := hSc
              clear hHeld
              show K _ _
              refine hK.out _ _ (by assumption) (fun hHeld => ?_)
              clear hK K
              try simp only [List.getElem_toArray, List.getElem_cons_zero, List.getElem_cons_succ, Act.put, List.setIfInBounds_toArray, List.set_cons_zero, List.set_cons_succ]
              refine wpAnyH_done (by kernel_rfl) ?_ _
              refine NoPanic.normal ?_
              go_wp2_with fail
              go_roundw
              case rel => exact ⟨j + 1, _, by omega, by go_num, HRx, HTx, HWx⟩
              case measure => simp [intOf]; omega
            refine AllReadyH.cons (i := 9) rfl (fun K hK => ?_) AllReadyH.nil
            go_simp
            have hS := hSa
            clear hHeld
            show K _ _
            refine hK.out _ _ (by assumption) (fun hHeld => ?_)
            clear hK K
            try simp only [List.getElem_toArray, List.getElem_cons_zero, List.getElem_cons_succ, Act.put, List.setIfInBounds_toArray, List.set_cons_zero, List.set_cons_succ]
            refine wpAnyH_ready (rs := [1]) (by kernel_rfl) (by simp) ?_
            refine AllReadyH.cons (i := 1) rfl (fun K hK => ?_) AllReadyH.nil
            go_simp
            have hS := hSa
            clear hHeld
            show K _ _
            refine hK.out _ _ (by assumption) (fun hHeld => ?_)
            clear hK K
            try simp only [List.getElem_toArray, List.getElem_cons_zero, List.getElem_cons_succ, Act.put, List.setIfInBounds_toArray, List.set_cons_zero, List.set_cons_succ]
            refine wpAnyH_ready (rs := [10]) (by kernel_rfl) (by simp) ?_
            refine AllReadyH.cons (i := 10) rfl (fun K hK => ?_) AllReadyH.nil
            refine op_run (.tmp 62) (.tmp 70) 37 rfl _ _ _ rfl rfl hrun ?_
            have hS := hSb
            clear hHeld
            show K _ _
            refine hK.out _ _ (by assumption) (fun hHeld => ?_)
            clear hK K
            try simp only [List.getElem_toArray, List.getElem_cons_zero, List.getElem_cons_succ, Act.put, List.setIfInBounds_toArray, List.set_cons_zero, List.set_cons_succ]
            refine wpAnyH_take (i := 11) (v := .pointer (some ⟨Q, 1, none⟩)) rfl (by kernel_rfl) (by kernel_rfl) (by kernel_rfl) (fun _ _ _ h => h) (Or.inl ⟨by rfl, fun w hSw => by (try dsimp only at hSw); go_simp⟩) (by assumption) ?_
            try simp only [List.getElem_toArray, List.getElem_cons_zero, List.getElem_cons_succ, Act.put, List.setIfInBounds_toArray, List.set_cons_zero, List.set_cons_succ]
            refine wpAnyH_ready (rs := [12]) (by kernel_rfl) (by simp) ?_
            refine AllReadyH.cons (i := 12) rfl (fun K hK => ?_) AllReadyH.nil
            go_simp
            have hS := hSc
            clear hHeld
            show K _ _
            refine hK.out _ _ (by assumption) (fun hHeld => ?_)
            clear hK K
            try simp only [List.getElem_toArray, List.getElem_cons_zero, List.getElem_cons_succ, Act.put, List.setIfInBounds_toArray, List.set_cons_zero, List.set_cons_succ]
            refine wpAnyH_done (by kernel_rfl) ?_ _
            refine NoPanic.normal ?_
            go_wp2_with fail
            go_roundw
            case rel => exact ⟨j + 1, _, by omega, by go_num, HRx, HTx, HWx⟩
            case measure => simp [intOf]; omega
          · have he : j = t2 := by omega
            subst he
            rw [HTT.out, ← HAo.out, ← HNa.out] at HRq
            have p0 : wr.cell? ⟨Zw, 0, none⟩ = some (.int .u8 y.node) := at_cell HWq.out 0
            have p1 : wr.cell? ⟨Zw, 1, none⟩ = some (.int .i64 (y.since : Int)) := at_cell HWq.out 1
            have kb := kept_alloc (kept_refl wr) (.cells #[.int .u8 y.node, .int .i64 (y.since : Int)] 82)
            have HRb := hid (rk_kept HRq.out kb)
            have HAl := hid (rg_alone encW_ok (y := y) (at_new wr #[.int .u8 y.node, .int .i64 (y.since : Int)] 82))
            clear kb
            go_wp2_with (at_builtin; go_must (refine wpList_gapp rfl (.tmp 74) (.tmp 76) rfl encW_ok tyW (by decide) B _ _ _ _ rfl HRb.out.l rfl HAl.out (by have := HLl.out; simp; omega) HRb.out.b ?_; intro v3 w7 hown3 hgrow3 hnil3))
            have HR7 := hid (rk_left HBx.out HRb.out hown3 hgrow3)
            go_roundw
            case rel => exact ⟨k + 1, av', fv, by omega, by go_num, hid (by rw [HNf.out, HNl.out]; exact HR7.out)⟩
            case measure => simp [intOf]; omega
    · have he : k = m := by omega
      subst he
      rw [HT.out] at HRK
      obtain ⟨la, lc, hlv, -, -⟩ := og_is encW_ok HRK.out.l
      subst hlv
      obtain ⟨fa, fc, hfv, -, -⟩ := og_is encU_ok HRK.out.f
      subst hfv
      obtain ⟨aa, ac, hav, -, -⟩ := og_is encA_ok HRK.out.a
      subst hav
      have HLl : Hid ((leftW tk p.waits).length ≤ 256) := hid (by
        have h1 : (leftW tk p.waits).length ≤ p.waits.length := by unfold leftW; exact List.length_filter_le _ _
        have := HWl.out
        omega)
      have HLw : Hid (∀ z ∈ leftW tk p.waits, (0 ≤ z.node ∧ z.node < 64)) := hid (fun z hz => (HGp.out.wait z (left_mem.1 hz).1).1)
      have HTR : Hid (tickR p x hs = ⟨if p.n = 1 then [] else [pingT p x], asksW p.self p.n x hs tk p.waits, failW tk p.waits⟩) := hid (by rw [← HTk.out]; rfl)
      have HTP1 : Hid (p.n = 1 → tickP p x = ⟨p.self, p.n, p.row, p.place, leftW tk p.waits, tk⟩) := hid (fun h1 => by unfold tickP; rw [if_pos h1, HTk.out])
      have HTP2 : Hid (p.n ≠ 1 → tickP p x = ⟨p.self, p.n, rowT p x, placeT p + 1, waitT (leftW tk p.waits) (pingT p x) tk, tk⟩) := hid (fun h1 => by unfold tickP; rw [if_neg h1, HTk.out])
      generalize leftW tk p.waits = lf at *
      generalize asksW p.self p.n x hs tk p.waits = aq at *
      generalize failW tk p.waits = fl at *
      generalize hll : lf.length = ll at *
      generalize hal : aq.length = al at *
      generalize hfl : fl.length = fll at *
      clear hll hal hfl
      have HR1 : Hid (RK w Z Q R1 R2 B #[.int .u8 p.self, .int .i64 (p.n : Int), .slice ra p.row.length rc, .int .i64 (p.place : Int), .slice la ll lc, .int .i64 (tk : Int)] (.slice none 0 0) (.slice la ll lc) (.slice aa al ac) (.slice fa fll fc) lf aq fl (wr.setCell ⟨Z, 4, none⟩ (.slice la ll lc))) := hid (rk_set HBx.out HRK.out 4 (.slice la ll lc))
      obtain ⟨q0, q1, q2, q3, q4, q5⟩ := at_cells6 HRK.out.z
      have qf := at_frozen HRK.out.z
      obtain ⟨w6, hw6⟩ : ∃ u, wr.setCell ⟨Z, 4, none⟩ (.slice la ll lc) = u := ⟨_, rfl⟩
      rw [hw6] at HR1
      obtain ⟨r0, r1, r2, r3, r4, r5⟩ := at_cells6 HR1.out.z
      clear HRK
      by_cases hn1 : p.n = 1
      · have hb1 : ((p.n : Int) == 1) = true := by rw [beq_iff_eq]; omega
        have HRz := hid (rz_of HBx.out HR1.out (pings := []) (og_nil _ _ _ _ _))
        have HE := hid (HTP1.out hn1)
        have HTR1 : Hid (tickR p x hs = ⟨[], aq, fl⟩) := hid (by rw [HTR.out, if_pos hn1])
        clear hn1
        go_wp2_with fail
        clear hw6 q0 q1 q2 q3 q4 q5 qf
        obtain ⟨e0, e1, e2⟩ := at_cells3' HR1.out.q
        obtain ⟨s0, s1, s2⟩ := at_cells3' HR1.out.r1
        have sf := at_frozen HR1.out.r1
        obtain ⟨t0, t1, t2, t3, t4, t5⟩ := at_cells6 HR1.out.r2
        have tf := at_frozen HR1.out.r2
        obtain ⟨b1, b2, b3, b4, b5⟩ := HBx.out
        have n1 : R1 ≠ R2 := by omega
        have n2 : R2 ≠ R1 := by omega
        have n3 : Z ≠ R1 := by omega
        have n4 : Z ≠ R2 := by omega
        have n5 : Q ≠ R1 := by omega
        have n6 : Q ≠ R2 := by omega
        have n7 : R1 ≠ Z := by omega
        have n8 : R2 ≠ Z := by omega
        have n9 : R1 ≠ Q := by omega
        have n10 : R2 ≠ Q := by omega
        go_region
        clear s0 s1 s2 sf t0 t1 t2 t3 t4 t5 tf e0 e1 e2 r0 r1 r2 r3 r4 r5
        go_wp2_with fail
        have HRd := hid (rz_drew HRz.out)
        have HZ9 := hid (rtickC_of (q := ⟨p.self, p.n, p.row, p.place, lf, tk⟩) (rv := .slice ra p.row.length rc) HRd.out (by omega) HE.out HTR1.out (rg_kept encU_ok HRr.out HRd.out.k) (.inl HAp.out))
        have HL1 := hid (loadR HRd.out.r1)
        have HL2 := hid (loadP HRd.out.r2)
        unfold cellsP at HZ9
        simp only [set6, set3] at HZ9 HL1 HL2
        clear HRz HRd HR1 HTR1 HE HTR HTP1 HTP2 HLw HLl n1 n2 n3 n4 n5 n6 n7 n8 n9 n10
        refine bodyPost_ret (resRP Try.results11 _ rfl rfl HL1.out HL2.out) rfl ?_
        exact HZ9.out
      · have hb1 : ((p.n : Int) == 1) = false := by rw [beq_eq_false_iff_ne]; omega
        have HE := hid (HTP2.out hn1)
        have HTR2 : Hid (tickR p x hs = ⟨[pingT p x], aq, fl⟩) := hid (by rw [HTR.out, if_neg hn1])
        have HPt := hid (pingT_at HGp.out x hn1)
        have HPl := hid (placeT_lt HGp.out hn1)
        have HN : Hid (2 ≤ p.n ∧ p.n ≤ 64) := hid ⟨by have := HGp.out.n1; omega, HGp.out.n2⟩
        have hw1 : IntKind.i64.wrap ((p.n : Int) - 1) = (p.n : Int) - 1 := IntWalk.i64_in _ (by have := HN.out; omega)
        clear HTP1 HTP2 HTR hn1
        go_upto_if 91 with fail
        clear hw6 q0 q1 q2 q3 q4 q5 qf hb1
        go_cut [14, 15, 16, 17, 18] (fun s14 s15 s16 s17 s18 wx => ∃ rv', Hid (RK w Z Q R1 R2 B #[.int .u8 p.self, .int .i64 (p.n : Int), rv', .int .i64 ((placeT p : Nat) : Int), .slice la ll lc, .int .i64 (tk : Int)] (.slice none 0 0) (.slice la ll lc) (.slice aa al ac) (.slice fa fll fc) lf aq fl wx) ∧ Hid (RowIs A w B rv' (rowT p x) wx))
        case first =>
          by_cases hp : p.place = p.n - 1
          · have hd : ((p.place : Int) == (p.n : Int) - 1) = true := by rw [beq_iff_eq]; have := HN.out; omega
            have HRL : Hid (p.row.length = p.n - 1) := hid (by rw [HGp.out.row.length_eq, others_one HGp.out.s1 HGp.out.s2])
            have hpt : placeT p = 0 := by unfold placeT; rw [if_pos hp]
            have HRt : Hid (rowT p x = shuf x (p.n - 2) p.row) := hid (by unfold rowT; rw [if_pos hp])
            have HO6 := hid (builtU w6)
            have ka := kept_alloc (kept_refl w6) (.cells #[] 5)
            have HRa := hid (rg_kept encU_ok HRr.out (kept_trans HR1.out.k ka))
            obtain ⟨C, hC⟩ : ∃ u, w6.heap.size = u := ⟨_, rfl⟩
            obtain ⟨w7, hw7⟩ : ∃ u, w6.alloc (.cells #[] 5) = u := ⟨_, rfl⟩
            rw [hw7] at ka HRa HO6
            rw [hC] at HO6
            have HR7 := hid (rk_kept HR1.out ka)
            have HC7 : Hid (C ≤ w7.heap.size) := hid (by have := ka.2; omega)
            obtain ⟨g0, g1, g2, g3, g4, g5⟩ := at_cells6 HR7.out.z
            have gf := at_frozen HR7.out.z
            have HKa := hid ka
            have hw2 : IntKind.i64.wrap ((p.n : Int) - 2) = (p.n : Int) - 2 := IntWalk.i64_in _ (by have := HN.out; omega)
            clear hp ka
            go_upto_region 23 with fail
            go_wp2_with (at_builtin; go_must (refine wpList_gapp rfl (.tmp 93) (.tmp 95) rfl encU_ok tyU (by decide) C _ _ _ _ rfl HO6.out rfl HRa.out (by have := HRL.out; have := HN.out; simp; omega) HC7.out ?_; intro v3 w8 hown3 hgrow3 hnil3; have HK8 : Hid (Kept w6 w8) := hid (kept_gr HKa.out hgrow3 (fun j hj => by have := og_lt HO6.out hj; omega)); have HR8 := hid (rk_kept HR1.out HK8.out); obtain ⟨k0, k1, k2, k3, k4, k5⟩ := at_cells6 HR8.out.z))
            obtain ⟨qg, qc, hv3⟩ : ∃ q cap, v3 = .slice (some ⟨q, 0, none⟩) p.row.length cap := by
              rcases hown3.2 with ⟨h1, _⟩ | ⟨g', c', cur', h1, _⟩
              · exact absurd h1 (hnil3 (show Value.slice (some ⟨C, 0, none⟩) 0 0 ≠ .slice none 0 0 from by simp))
              · exact ⟨g', c', h1⟩
            subst hv3
            have HOw : Hid (Og encU 1 5 w8 C (.slice (some ⟨qg, 0, none⟩) p.row.length qc) p.row) := hid hown3
            have hCB : Hid (B ≤ C) := hid (by have := HR1.out.b; omega)
            have hqC : Hid (C ≤ qg) := hid (by have := og_lt HOw.out (show (Value.slice (some ⟨qg, 0, none⟩) p.row.length qc).ownBlock = some qg from rfl); omega)
            have HX : Hid (0 ≤ x ∧ x < 18446744073709551616) := hid ⟨hx, hx2⟩
            clear hown3 hgrow3 hnil3 HO6 HRa HR7 HC7 HKa HR8 g0 g1 g2 g3 g4 g5 gf k0 k1 k2 k3 k4 k5 hw7 hd r0 r1 r2 r3 r4 r5 hw1 hw2 hx hx2
            go_loopw [15] (fun iv wr => ∃ (i : Nat) (r : List Int), i ≤ p.n - 2 ∧ iv = .int .i64 (i : Int) ∧ Hid (shuf x i r = rowT p x) ∧ Hid (r.length = p.n - 1) ∧ Hid (Og encU 1 5 wr C (.slice (some ⟨qg, 0, none⟩) p.row.length qc) r) ∧ Hid (Kept w6 wr)) (fun iv _ => (intOf iv).toNat)
            case atStart => exact ⟨p.n - 2, p.row, Nat.le_refl _, by congr 1; have := HN.out; omega, hid HRt.out.symm, HRL, HOw, HK8⟩
            case round =>
              obtain ⟨i, r, hi, rfl, HS, HLr, HOr, HKr⟩ := hrel
              clear HOw HK8
              by_cases hi1 : 1 ≤ i
              · have HJ := hid (jx_le x i)
                have HI : Hid (i ≤ 62 ∧ i < p.n - 1) := hid (by have := HN.out; omega)
                obtain ⟨a, hra⟩ : ∃ a, r[i]? = some a := ⟨_, List.getElem?_eq_getElem (by have := HLr.out; have := HI.out; omega)⟩
                obtain ⟨b, hrb⟩ : ∃ b, r[jx x i]? = some b := ⟨_, List.getElem?_eq_getElem (by have := HLr.out; have := HJ.out; have := HI.out; omega)⟩
                have e1 : IntKind.u64.wrap (i : Int) = (i : Int) := by rw [IntKind.wrap_u64]; have := HI.out; omega
                have e2 : IntKind.i64.wrap ((i : Int) + 1) = (i : Int) + 1 := IntWalk.i64_in _ (by have := HI.out; omega)
                have e3 : IntKind.u64.wrap ((i : Int) + 1) = (i : Int) + 1 := by rw [IntKind.wrap_u64]; have := HI.out; omega
                have HE4 := hid (jx_mod HX.out.1 HX.out.2 (show i ≤ 64 by have := HI.out; omega))
                have HSp : Hid (shuf x (i - 1) ((r.set i b).set (jx x i) a) = rowT p x) := hid (by rw [swp_at hra hrb, ← shuf_pred x hi1]; exact HS.out)
                have HC2 := hid (reftwo_any x (i : Int) (u64_wf HX.out.1 HX.out.2) wr)
                have hrb2 := set_at (show i < r.length by have := HLr.out; have := HI.out; omega) hrb
                obtain ⟨j, hjj⟩ : ∃ j, jx x i = j := ⟨_, rfl⟩
                rw [hjj] at HJ HE4 HSp hrb hrb2
                clear hjj
                have e6 : IntKind.i64.wrap (j : Int) = (j : Int) := IntWalk.i64_in _ (by have := HJ.out; have := HI.out; omega)
                have HE7 : Hid (IntKind.i64.wrap ((i : Int) - 1) = (i : Int) - 1) := hid (IntWalk.i64_in _ (by have := HI.out; omega))
                have e8 : ((i : Int) + 1 == 0) = false := by rw [beq_eq_false_iff_ne]; omega
                have e9 : (1 : Int) ≤ (i : Int) := by omega
                have hil : (i : Int) < (p.row.length : Int) := by have := HRL.out; have := HI.out; omega
                have hjl : (j : Int) < (p.row.length : Int) := by have := HRL.out; have := HI.out; have := HJ.out; omega
                have c1 := rg_U (rg_own encU_ok HOr.out) hra
                have c2 := rg_U (rg_own encU_ok HOr.out) hrb
                rw [Nat.zero_add] at c1 c2
                have cf := og_frozen HOr.out
                have HO9 := hid (og_putU HOr.out hra b)
                have c3 := rg_U (rg_own encU_ok HO9.out) hrb2
                rw [Nat.zero_add] at c3
                have cg := og_frozen HO9.out
                have HO10 := hid (og_putU HO9.out hrb2 a)
                have HK10 := hid (kept_set (kept_set HKr.out (show w6.heap.size ≤ qg by have := hqC.out; omega) i (.int .u8 b)) (show w6.heap.size ≤ qg by have := hqC.out; omega) j (.int .u8 a))
                have HL10 : Hid (((r.set i b).set j a).length = p.n - 1) := hid (by rw [List.length_set, List.length_set]; exact HLr.out)
                clear HO9 HOr HKr HS HLr hra hrb hrb2 hC
                have e4 := HE4.out
                go_upto_region 28 with (go_at_call 24; refine HC2.out.mono ?_; rintro e w' ⟨rfl, rfl⟩)
                clear e1 e2 e3 e4 e6 e8 HE4 HC2
                go_upto_region 30 with fail
                go_upto_region 31 with fail
                go_upto_region 26 with fail
                have e7 := HE7.out
                go_wp2_with fail
                go_roundw
                case rel => exact ⟨i - 1, _, by omega, by congr 1; omega, HSp, HL10, HO10, HK10⟩
                case measure => simp [intOf]; omega
              · have hi0 : i = 0 := by omega
                subst hi0
                have hZB : Z < B := by obtain ⟨b1, b2, b3, b4, b5⟩ := HBx.out; omega
                have HRs := hid (rk_kept HR1.out HKr.out)
                obtain ⟨q0, q1, q2, q3, q4, q5⟩ := at_cells6 HRs.out.z
                have qf := at_frozen HRs.out.z
                have HRt2 : Hid (RK w Z Q R1 R2 B #[.int .u8 p.self, .int .i64 (p.n : Int), .slice (some ⟨qg, 0, none⟩) p.row.length qc, .int .i64 (p.place : Int), .slice la ll lc, .int .i64 (tk : Int)] (.slice none 0 0) (.slice la ll lc) (.slice aa al ac) (.slice fa fll fc) lf aq fl (wr.setCell ⟨Z, 2, none⟩ (.slice (some ⟨qg, 0, none⟩) p.row.length qc))) := hid (rk_set HBx.out HRs.out 2 (.slice (some ⟨qg, 0, none⟩) p.row.length qc))
                obtain ⟨y0, y1, y2, y3, y4, y5⟩ := at_cells6 HRt2.out.z
                have yf := at_frozen HRt2.out.z
                have HR3 : Hid (RK w Z Q R1 R2 B #[.int .u8 p.self, .int .i64 (p.n : Int), .slice (some ⟨qg, 0, none⟩) p.row.length qc, .int .i64 ((placeT p : Nat) : Int), .slice la ll lc, .int .i64 (tk : Int)] (.slice none 0 0) (.slice la ll lc) (.slice aa al ac) (.slice fa fll fc) lf aq fl ((wr.setCell ⟨Z, 2, none⟩ (.slice (some ⟨qg, 0, none⟩) p.row.length qc)).setCell ⟨Z, 3, none⟩ (.int .i64 0))) := hid (by rw [hpt]; exact rk_set HBx.out HRt2.out 3 (.int .i64 0))
                have HO3 : Hid (RowIs A w B (.slice (some ⟨qg, 0, none⟩) p.row.length qc) (rowT p x) ((wr.setCell ⟨Z, 2, none⟩ (.slice (some ⟨qg, 0, none⟩) p.row.length qc)).setCell ⟨Z, 3, none⟩ (.int .i64 0))) := hid (by rw [← HS.out]; exact .inr (og_set (og_set (og_low HOr.out hCB.out) hZB 2 _) hZB 3 _))
                clear HRs HRt2 HOr HKr HS HLr
                go_wp2_with fail
                go_meet
                case rel => exact ⟨_, HR3, HO3⟩
          · have hd : ((p.place : Int) == (p.n : Int) - 1) = false := by rw [beq_eq_false_iff_ne]; have := HN.out; omega
            have HRg : Hid (RowIs A w B (.slice ra p.row.length rc) (rowT p x) w6) := hid (by unfold rowT; rw [if_neg hp]; exact .inl ⟨HRr.out, HAp.out⟩)
            have hpt : placeT p = p.place := by unfold placeT; rw [if_neg hp]
            have HR2 : Hid (RK w Z Q R1 R2 B #[.int .u8 p.self, .int .i64 (p.n : Int), .slice ra p.row.length rc, .int .i64 ((placeT p : Nat) : Int), .slice la ll lc, .int .i64 (tk : Int)] (.slice none 0 0) (.slice la ll lc) (.slice aa al ac) (.slice fa fll fc) lf aq fl w6) := hid (by rw [hpt]; exact HR1.out)
            clear hpt hp
            go_wp2_with fail
            go_meet
            case rel => exact ⟨_, HR2, HRg⟩
        case rest =>
          obtain ⟨rv', HRc, HRo⟩ := hcut
          clear HR1 r0 r1 r2 r3 r4 r5
          have hpl : placeT p < (rowT p x).length := (List.getElem?_eq_some_iff.1 HPt.out).1
          have HRgc := hid (rowis_rg HRo.out HRc.out.k)
          obtain ⟨g, o, c, e⟩ := rg_pos HRgc.out (by omega)
          subst e
          have cpl := rg_U HRgc.out HPt.out
          generalize (rowT p x).length = rl at *
          generalize placeT p = pl at *
          generalize pingT p x = pg at *
          generalize rowT p x = rt at *
          have hw2 : IntKind.i64.wrap ((pl : Int) + 1) = (pl : Int) + 1 := IntWalk.i64_in _ (by have := HN.out; have := HPl.out; omega)
          obtain ⟨q0, q1, q2, q3, q4, q5⟩ := at_cells6 HRc.out.z
          have qf := at_frozen HRc.out.z
          have HRd : Hid (RK w Z Q R1 R2 B #[.int .u8 p.self, .int .i64 (p.n : Int), .slice (some ⟨g, o, none⟩) rl c, .int .i64 ((pl : Int) + 1), .slice la ll lc, .int .i64 (tk : Int)] (.slice none 0 0) (.slice la ll lc) (.slice aa al ac) (.slice fa fll fc) lf aq fl (wc.setCell ⟨Z, 3, none⟩ (.int .i64 ((pl : Int) + 1)))) := hid (rk_set HBx.out HRc.out 3 (.int .i64 ((pl : Int) + 1)))
          have HOd := hid (rowis_set HRo.out (X := Z) (by have := HBx.out; obtain ⟨b1, b2, b3, b4, b5⟩ := this; omega) 3 (.int .i64 ((pl : Int) + 1)))
          obtain ⟨wd, hwd⟩ : ∃ u, wc.setCell ⟨Z, 3, none⟩ (.int .i64 ((pl : Int) + 1)) = u := ⟨_, rfl⟩
          rw [hwd] at HRd HOd
          have HPg : Hid (Og encU 1 5 (wd.alloc (.cells #[.int .u8 pg] 5)) B (.slice (some ⟨wd.heap.size, 0, none⟩) 1 1) [pg]) := hid (og_built encU_ok 5 wd B HRd.out.b [pg] (by simp))
          have kp := kept_alloc (kept_refl wd) (.cells #[.int .u8 pg] 5)
          obtain ⟨G, hG⟩ : ∃ u, wd.heap.size = u := ⟨_, rfl⟩
          obtain ⟨we, hwe⟩ : ∃ u, wd.alloc (.cells #[.int .u8 pg] 5) = u := ⟨_, rfl⟩
          rw [hG] at HPg
          rw [hwe] at HPg kp
          have HRe := hid (rk_kept HRd.out kp)
          have HOe := hid (rowis_stays HOd.out kp)
          have HRf := hid (rk_ping HBx.out HRe.out (.slice (some ⟨G, 0, none⟩) 1 1))
          have HOf := hid (rowis_set HOe.out (X := Q) HBx.out.o5 0 (.slice (some ⟨G, 0, none⟩) 1 1))
          have HPf := hid (og_set HPg.out HBx.out.o5 0 (.slice (some ⟨G, 0, none⟩) 1 1))
          obtain ⟨d0, d1, d2, d3, d4, d5⟩ := at_cells6 HRd.out.z
          obtain ⟨e0, e1, e2⟩ := at_cells3' HRe.out.q
          have ef := at_frozen HRe.out.q
          obtain ⟨wf, hwf⟩ : ∃ u, we.setCell ⟨Q, 0, none⟩ (.slice (some ⟨G, 0, none⟩) 1 1) = u := ⟨_, rfl⟩
          rw [hwf] at HRf HOf HPf
          obtain ⟨f0, f1, f2, f3, f4, f5⟩ := at_cells6 HRf.out.z
          have HC : Hid (Calls Try.prog 25 #[.agg #[.int .u8 p.self, .int .i64 (p.n : Int), .slice (some ⟨g, o, none⟩) rl c, .int .i64 ((pl : Int) + 1), .slice la ll lc, .int .i64 (tk : Int)], .int .u8 pg] wf fun e w' => e = .returned (.bool (isW lf pg)) ∧ Kept wf w') := hid (rwaiting_any ⟨p.self, p.n, rt, pl + 1, lf, tk⟩ (.slice (some ⟨g, o, none⟩) rl c) (.slice la ll lc) pg wf { r := rowis_rg HOf.out HRf.out.k, w := rg_own encW_ok HRf.out.l })
          clear kp HRc HRo HRgc HRd HOd HRe HOe HPg
          cases hi : isW lf pg with
          | true =>
            have HEy : Hid (tickP p x = ⟨p.self, p.n, rt, pl + 1, lf, tk⟩) := hid (by rw [HE.out]; unfold waitT; rw [hi]; rfl)
            go_wp2_with (go_at_call 25; refine HC.out.mono ?_; rw [hi]; rintro e wg ⟨rfl, kg⟩)
            clear hwd hwe hwf hG q0 q1 q2 q3 q4 q5 qf d0 d1 d2 d3 d4 d5 e0 e1 e2 ef f0 f1 f2 f3 f4 f5 cpl HC hi hw1 hw2
            have HRy := hid (rk_kept HRf.out kg)
            have HOy := hid (rowis_stays HOf.out kg)
            have HPy := hid (og_stays HPf.out kg)
            clear HRf HOf HPf kg
            obtain ⟨b1, b2, b3, b4, b5⟩ := HBx.out
            have n1 : R1 ≠ R2 := by omega
            have n2 : R2 ≠ R1 := by omega
            have n3 : Z ≠ R1 := by omega
            have n4 : Z ≠ R2 := by omega
            have n5 : Q ≠ R1 := by omega
            have n6 : Q ≠ R2 := by omega
            have n7 : R1 ≠ Z := by omega
            have n8 : R2 ≠ Z := by omega
            have n9 : R1 ≠ Q := by omega
            have n10 : R2 ≠ Q := by omega
            have HRz := hid (rz_drew (rz_of HBx.out HRy.out HPy.out))
            have HOz := hid HOy.out
            have HZ9 := hid (rtickC_of (q := ⟨p.self, p.n, rt, pl + 1, lf, tk⟩) (rv := .slice (some ⟨g, o, none⟩) rl c) HRz.out (by omega) HEy.out HTR2.out (rowis_rg (rowis_end HOy.out (by omega) (by omega)) HRz.out.k) (rowis_ap (rowis_end HOy.out (by omega) (by omega)) (by omega)))
            have HL1 := hid (loadR HRz.out.r1)
            have HL2 := hid (loadP HRz.out.r2)
            unfold cellsP at HZ9
            simp only [set6, set3] at HZ9 HL1 HL2
            obtain ⟨a0, a1, a2, a3, a4, a5⟩ := at_cells6 HRy.out.z
            obtain ⟨e0, e1, e2⟩ := at_cells3' HRy.out.q
            obtain ⟨s0, s1, s2⟩ := at_cells3' HRy.out.r1
            have sf := at_frozen HRy.out.r1
            obtain ⟨t0, t1, t2, t3, t4, t5⟩ := at_cells6 HRy.out.r2
            have tf := at_frozen HRy.out.r2
            clear HRz HOz HRy HOy HPy HEy HTR2 HE
            go_region
            clear s0 s1 s2 sf t0 t1 t2 t3 t4 t5 tf e0 e1 e2 a0 a1 a2 a3 a4 a5
            go_wp2_with fail
            clear n1 n2 n3 n4 n5 n6 n7 n8 n9 n10
            refine bodyPost_ret (resRP Try.results11 _ rfl rfl HL1.out HL2.out) rfl ?_
            exact HZ9.out
          | false =>
            have HEy : Hid (tickP p x = ⟨p.self, p.n, rt, pl + 1, lf ++ [⟨pg, tk⟩], tk⟩) := hid (by rw [HE.out]; unfold waitT; rw [hi]; rfl)
            have HLf : Hid (lf.length ≤ 256) := hid (by
              obtain ⟨_, _, hv, -, -⟩ := og_is encW_ok HRf.out.l
              injection hv with _ h2 _
              have := HLl.out
              omega)
            go_wp2_with (first
              | (go_at_call 25; refine HC.out.mono ?_; rw [hi]; rintro e wg ⟨rfl, kg⟩; have HRy0 := hid (rk_kept HRf.out kg); obtain ⟨g0, g1, g2, g3, g4, g5⟩ := at_cells6 HRy0.out.z; have ka := kept_alloc (kept_refl wg) (.cells #[.int .u8 pg, .int .i64 (tk : Int)] 82); have HRa := hid (rk_kept HRy0.out ka); have HAl := hid (rg_alone encW_ok (y := (⟨pg, tk⟩ : Wt)) (at_new wg #[.int .u8 pg, .int .i64 (tk : Int)] 82)))
              | (at_builtin; go_must (refine wpList_gapp rfl (.tmp 150) (.tmp 155) rfl encW_ok tyW (by decide) B _ _ _ _ rfl HRa.out.l rfl HAl.out (by have := HLf.out; simp; omega) HRa.out.b ?_; intro v3 w7 hown3 hgrow3 hnil3; have HR7 := hid (rk_left HBx.out HRa.out hown3 hgrow3); obtain ⟨m0, m1, m2, m3, m4, m5⟩ := at_cells6 HR7.out.z; have mf := at_frozen HR7.out.z; obtain ⟨va, vc, hv3, -, -⟩ := og_is encW_ok hown3; obtain ⟨ln, hln⟩ : ∃ ln, (lf ++ [(⟨pg, tk⟩ : Wt)]).length = ln := ⟨_, rfl⟩; rw [hln] at hv3; clear hln; subst hv3)))
            have HRy : Hid (RK w Z Q R1 R2 B #[.int .u8 p.self, .int .i64 (p.n : Int), .slice (some ⟨g, o, none⟩) rl c, .int .i64 ((pl : Int) + 1), .slice va ln vc, .int .i64 (tk : Int)] (.slice (some ⟨G, 0, none⟩) 1 1) (.slice va ln vc) (.slice aa al ac) (.slice fa fll fc) (lf ++ [⟨pg, tk⟩]) aq fl (w7.setCell ⟨Z, 4, none⟩ (.slice va ln vc))) := hid (rk_set HBx.out HR7.out 4 (.slice va ln vc))
            have hZB : Z < B := by obtain ⟨b1, b2, b3, b4, b5⟩ := HBx.out; omega
            have HOy := hid (rowis_set (rowis_beside (rowis_stays (rowis_stays HOf.out kg) ka) HRa.out.l hgrow3) hZB 4 (.slice va ln vc))
            have HPy := hid (og_set (og_beside (og_stays (og_stays HPf.out kg) ka) HRa.out.l (by decide) hgrow3) hZB 4 (.slice va ln vc))
            clear HRf HOf HPf HRy0 HRa HAl HR7 hown3 hgrow3 hnil3 ka kg g0 g1 g2 g3 g4 g5 m0 m1 m2 m3 m4 m5 mf
            clear hwd hwe hwf hG q0 q1 q2 q3 q4 q5 qf d0 d1 d2 d3 d4 d5 e0 e1 e2 ef f0 f1 f2 f3 f4 f5 cpl HC hi hw1 hw2
            generalize w7.setCell ⟨Z, 4, none⟩ (.slice va ln vc) = w8 at *
            obtain ⟨b1, b2, b3, b4, b5⟩ := HBx.out
            have n1 : R1 ≠ R2 := by omega
            have n2 : R2 ≠ R1 := by omega
            have n3 : Z ≠ R1 := by omega
            have n4 : Z ≠ R2 := by omega
            have n5 : Q ≠ R1 := by omega
            have n6 : Q ≠ R2 := by omega
            have n7 : R1 ≠ Z := by omega
            have n8 : R2 ≠ Z := by omega
            have n9 : R1 ≠ Q := by omega
            have n10 : R2 ≠ Q := by omega
            have HRz := hid (rz_drew (rz_of HBx.out HRy.out HPy.out))
            have HOz := hid HOy.out
            have HZ9 := hid (rtickC_of (q := ⟨p.self, p.n, rt, pl + 1, lf ++ [⟨pg, tk⟩], tk⟩) (rv := .slice (some ⟨g, o, none⟩) rl c) HRz.out (by omega) HEy.out HTR2.out (rowis_rg (rowis_end HOy.out (by omega) (by omega)) HRz.out.k) (rowis_ap (rowis_end HOy.out (by omega) (by omega)) (by omega)))
            have HL1 := hid (loadR HRz.out.r1)
            have HL2 := hid (loadP HRz.out.r2)
            unfold cellsP at HZ9
            simp only [set6, set3] at HZ9 HL1 HL2
            obtain ⟨a0, a1, a2, a3, a4, a5⟩ := at_cells6 HRy.out.z
            obtain ⟨e0, e1, e2⟩ := at_cells3' HRy.out.q
            obtain ⟨s0, s1, s2⟩ := at_cells3' HRy.out.r1
            have sf := at_frozen HRy.out.r1
            obtain ⟨t0, t1, t2, t3, t4, t5⟩ := at_cells6 HRy.out.r2
            have tf := at_frozen HRy.out.r2
            clear HRz HOz HRy HOy HPy HEy HTR2 HE
            go_region
            clear s0 s1 s2 sf t0 t1 t2 t3 t4 t5 tf e0 e1 e2 a0 a1 a2 a3 a4 a5
            go_wp2_with fail
            clear n1 n2 n3 n4 n5 n6 n7 n8 n9 n10
            refine bodyPost_ret (resRP Try.results11 _ rfl rfl HL1.out HL2.out) rfl ?_
            exact HZ9.out
end Go.Proofs.Ytgmcjnhijgnadaa
