/- A row of bytes in a block that may bear a mark behind its cells (what []byte of a text makes): appended to by a text, and by one byte; read as a text. It holds at most 2^47 bytes. The contract of the reference's Body. The contract of the reference's Pack; MsgPacks, walked over the landed code. -/
import Derived.Test.YtioeidhblbfgmaaGreatY19
import Derived.Test.YtioeidhblbfgmaaGreatY40
import Derived.Test.YtioeidhblbfgmaaGreatY30
import Derived.Test.YtioeidhblbfgmaaGreatY34
import Derived.Test.YtioeidhblbfgmaaGreatY46
import Derived.Test.YtioeidhblbfgmaaGreatY18
import Derived.Test.YtioeidhblbfgmaaGreatY50
import Derived.Deep.CutBlock
import Derived.Deep.DeepCutAuto

namespace Go.Proofs.YtioeidhblbfgmaaGreat
open Go.ChangeShapes Go.WideShapes Go.ChangeAt Go.RowKit
set_option linter.unusedVariables false
set_option linter.unusedSimpArgs false
set_option maxRecDepth 100000

/- No cell lies within the mark. -/
def Free (fz : Nat × Nat) (n : Nat) : Prop := ∀ k, k < n → (decide (fz.1 ≤ k) && decide (k < fz.2)) = false
structure MkAt (w : World) (B : Nat) (l : List UInt8) (g cap : Nat) (cur : Array Value) (fz : Nat × Nat) : Prop where
  b : B ≤ g
  h : w.heap[g]? = some (.cells cur 5 fz)
  f : Free fz cur.size
  c : l.length ≤ cap
  m : cap ≤ maxLen
  s : cur.size = cap
  t : cur.toList.take l.length = flatE encU l
def Mk (w : World) (B : Nat) (v : Value) (l : List UInt8) : Prop := ∃ g cap cur fz, v = .slice (some ⟨g, 0, none⟩) l.length cap ∧ MkAt w B l g cap cur fz
theorem mk_is {w : World} {B : Nat} {v : Value} {l : List UInt8} (h : Mk w B v l) : ∃ g cap, v = .slice (some ⟨g, 0, none⟩) l.length cap := by
  obtain ⟨g, cap, cur, fz, rfl, -⟩ := h
  exact ⟨g, cap, rfl⟩
theorem mk_kept {w w' : World} {B : Nat} {v : Value} {l : List UInt8} (h : Mk w B v l) (k : Kept w w') : Mk w' B v l := by
  obtain ⟨g, cap, cur, fz, rfl, a⟩ := h
  exact ⟨g, cap, cur, fz, rfl, a.b, (kept_block k (Array.getElem?_eq_some_iff.1 a.h).1).trans a.h, a.f, a.c, a.m, a.s, a.t⟩
theorem mk_ne {w : World} {B X T : Nat} {v : Value} {l : List UInt8} {cs : Array Value} (h : Mk w B v l) (hX : At w X cs T) (hT : T ≠ 5) : v.ownBlock ≠ some X := by
  obtain ⟨g, cap, cur, fz, rfl, a⟩ := h
  intro e
  injection e with e
  subst e
  have := hX.symm.trans a.h
  injection this with this
  injection this with h1 h2 h3
  exact hT h2
theorem mk_lt {w : World} {B : Nat} {v : Value} {l : List UInt8} (h : Mk w B v l) {g : Nat} (hg : v.ownBlock = some g) : B ≤ g := by
  obtain ⟨g', cap, cur, fz, rfl, a⟩ := h
  injection hg with hg
  subst hg
  exact a.b
theorem mk_cell {w : World} {B : Nat} {l : List UInt8} {g n cap : Nat} (h : Mk w B (.slice (some ⟨g, 0, none⟩) n cap) l) : ∀ j (hj : j < l.length), w.cell? ⟨g, j, none⟩ = some (.int .u8 (l[j].toNat : Int)) := by
  obtain ⟨g', cap', cur, fz, e, a⟩ := h
  injection e with e1 e2 e3
  injection e1 with e1
  injection e1 with e1
  subst e1
  intro j hj
  have h9 : (cur.toList.take l.length)[j]? = (flatE encU l)[j]? := by rw [a.t]
  rw [List.getElem?_take, if_pos hj, flatU, List.getElem?_map, List.getElem?_eq_getElem hj] at h9
  unfold World.cell?
  rw [a.h]
  simpa using h9
/- Cells stored one behind the other: what stands ahead of them and behind them stays. -/
theorem put_marked {P : Program} (g t : Nat) (fz : Nat × Nat) (o : Nat) (news : List Value) : (∀ x ∈ news, x.oneCell' = true) → ∀ (pre mid post : List Value) (i : Nat) (u : World), pre.length = o + i → mid.length = news.length →
    u.heap[g]? = some (.cells (pre ++ mid ++ post).toArray t fz) → Free fz (pre ++ mid ++ post).length → (storeCells ⟨g, o, none⟩ news i).run P u = .ok () (u.setRow g (pre ++ news ++ post).toArray) := by
  induction news with
  | nil =>
    intro _ pre mid post i u _ hm hu _
    obtain rfl : mid = [] := List.eq_nil_of_length_eq_zero hm
    exact congrArg (Result.ok ()) (setRow_self u g _ t fz hu).symm
  | cons x rest ih =>
    intro h1 pre mid post i u hp hm hu hf
    obtain ⟨y, mid', rfl⟩ : ∃ y m', mid = y :: m' := by
      cases mid with
      | nil => exact absurd hm (by simp)
      | cons y m' => exact ⟨y, m', rfl⟩
    have hlt : o + i < (pre ++ y :: mid' ++ post).length := by rw [← hp]; simp
    have hget : (pre ++ y :: mid' ++ post)[o + i]? = some y := by rw [← hp, List.append_assoc, List.getElem?_append_right (Nat.le_refl _)]; simp
    have hone : (store ((⟨g, o, none⟩ : Addr).add i) x).run P u = .ok () (u.setRow g ((pre ++ [x]) ++ mid' ++ post).toArray) := by
      have hcell : u.cell? ⟨g, o + i, none⟩ = some y := by unfold World.cell?; rw [hu]; simpa using hget
      have hfree : u.frozen? ⟨g, o + i, none⟩ = false := by unfold World.frozen?; rw [hu]; exact hf (o + i) hlt
      have hrow : (pre ++ y :: mid' ++ post).toArray.setIfInBounds (o + i) x = ((pre ++ [x]) ++ mid' ++ post).toArray := by
        rw [← hp]
        simp
      rw [addr_plus, run_store P u _ x _ (h1 x (by simp)), hcell, setCell_eq_setRow u g (o + i) _ t fz x hu, hrow]
      simp [hfree]
    have hnext := ih (fun z hz => h1 z (by simp [hz])) (pre ++ [x]) mid' post (i + 1) (u.setRow g ((pre ++ [x]) ++ mid' ++ post).toArray) (by simp; omega) (by simpa using hm) (setRow_heap u g _ _ t fz hu) (by
      have e : (pre ++ [x] ++ mid' ++ post).length = (pre ++ y :: mid' ++ post).length := by simp
      rw [e]; exact hf)
    simp only [storeCells, Sem.run_bind, hone, Result.andThen_ok, hnext, setRow_setRow]
    simp
theorem put_row {P : Program} {g t : Nat} {fz : Nat × Nat} {cur : Array Value} {u : World} (hu : u.heap[g]? = some (.cells cur t fz)) (hf : Free fz cur.size) (o : Nat) (news : List Value) (h1 : ∀ x ∈ news, x.oneCell' = true) (hl : o + news.length ≤ cur.size) :
    (storeCells ⟨g, o, none⟩ news 0).run P u = .ok () (u.setRow g (cur.toList.take o ++ news ++ cur.toList.drop (o + news.length)).toArray) := by
  have e : cur.toList.take o ++ (cur.toList.drop o).take news.length ++ cur.toList.drop (o + news.length) = cur.toList := by
    rw [List.append_assoc, ← List.drop_drop, List.take_append_drop, List.take_append_drop]
  exact put_marked g t fz o news h1 (cur.toList.take o) ((cur.toList.drop o).take news.length) (cur.toList.drop (o + news.length)) 0 u (by simp only [List.length_take, Array.length_toList]; omega) (by simp only [List.length_take, List.length_drop, Array.length_toList]; omega) (by rw [e]; exact hu) (by rw [e, Array.length_toList]; exact hf)
theorem mk_after {w : World} {B : Nat} {l x : List UInt8} {g cap : Nat} {cur : Array Value} {fz : Nat × Nat} (a : MkAt w B l g cap cur fz) (hr : l.length + x.length ≤ cap) :
    Mk (w.setRow g (cur.toList.take l.length ++ flatE encU x ++ cur.toList.drop (l.length + x.length)).toArray) B (.slice (some ⟨g, 0, none⟩) (l.length + x.length) cap) (l ++ x) := by
  have hx : (flatE encU x).length = x.length := by rw [flatU]; simp
  have hs : (cur.toList.take l.length ++ flatE encU x ++ cur.toList.drop (l.length + x.length)).toArray.size = cur.size := by
    have := a.s
    simp only [List.size_toArray, List.length_append, List.length_take, List.length_drop, Array.length_toList, hx]
    omega
  refine ⟨g, cap, _, fz, by rw [List.length_append], a.b, setRow_heap w g cur _ 5 fz a.h, by rw [hs]; exact a.f, by rw [List.length_append]; exact hr, a.m, by rw [hs]; exact a.s, ?_⟩
  rw [a.t, flatE_app]
  have hl : (flatE encU l).length = l.length := by rw [flatU]; simp
  have h2 : (l ++ x).length = (flatE encU l ++ flatE encU x).length := by rw [List.length_append, List.length_append, hl, hx]
  show (flatE encU l ++ flatE encU x ++ cur.toList.drop (l.length + x.length)).take (l ++ x).length = _
  rw [h2, List.take_left]
theorem mk_grown {w : World} {B : Nat} (hB : B ≤ w.heap.size) {l x : List UInt8} (hl : l.length + x.length ≤ maxLen) (old : Nat) (cs : Array Value) (hc : cs = (flatE encU l).toArray ++ (flatE encU x).toArray ++ Builtin.zeroCells (Value.int .u8 0).cells (grownCap w (l.length + x.length) old 5 - (l.length + x.length))) :
    Mk (w.drew.alloc (.cells cs 5)) B (.slice (some ⟨w.heap.size, 0, none⟩) (l.length + x.length) (grownCap w (l.length + x.length) old 5)) (l ++ x) := by
  have hx : (flatE encU x).length = x.length := by rw [flatU]; simp
  have hy : (flatE encU l).length = l.length := by rw [flatU]; simp
  have hge := grownCap_ge w (l.length + x.length) old 5
  have hz : (Value.int IntKind.u8 0).cells.size = 1 := rfl
  have hs : cs.size = grownCap w (l.length + x.length) old 5 := by
    rw [hc]
    simp only [Array.size_append, List.size_toArray, size_zeroCells, hz, hx, hy]
    omega
  refine ⟨w.heap.size, _, cs, (0, 0), by rw [List.length_append], hB, heap_alloc_new w.drew _, fun k _ => by simp, by rw [List.length_append]; exact hge, grownCap_le_maxLen w _ old 5 hl, hs, ?_⟩
  rw [hc, flatE_app]
  simp only [Array.toList_append]
  have h2 : (l ++ x).length = (flatE encU l ++ flatE encU x).length := by rw [List.length_append, List.length_append, hx, hy]
  rw [h2, List.take_left]
theorem mk_app_str (ty : TypeId) {w : World} {B : Nat} {v : Value} {l : List UInt8} (h : Mk w B v l) (s : ByteArray) (hB : B ≤ w.heap.size) (hl : l.length + s.size ≤ 140737488355328) :
    ∃ v' w', (Builtin.append_ #[51, 9] ty #[v, .string s]).run Tryz.prog w = .ok v' w' ∧ Mk w' B v' (l ++ s.data.toList) ∧ w.grownBy w' v.ownBlock := by
  obtain ⟨i0, hi, hz0, hz1, hz2⟩ := info_parts info5
  obtain ⟨g, cap, cur, fz, rfl, a⟩ := h
  have hss := sizeU s
  have hsc : Lib.strCells s = flatE encU s.data.toList := strU s
  by_cases hr : l.length + s.size ≤ cap
  · have hfc := Lib.run_firstCells_string (P := Tryz.prog) (w := w) 1 s
    have hst := put_row (P := Tryz.prog) a.h a.f l.length (Lib.strCells s) (Lib.strCells_oneCell s) (by rw [Lib.strCells_length]; have := a.s; omega)
    rw [Lib.strCells_length] at hst
    have hm := mk_after a (x := s.data.toList) (by rw [hss]; exact hr)
    rw [← hsc, hss] at hm
    refine ⟨_, _, ?_, hm, ⟨rfl, rfl, rfl, by rw [setRow_size]; exact Nat.le_refl _, fun k _ hk => setRow_other (fun e => hk (by rw [e]; rfl))⟩⟩
    simp [Builtin.append_, run_underlying Tryz.underlying51, run_underlying Tryz.underlying9, sizeOf, typeInfo, hi, hz1, Builtin.lenOf, hr, hfc, Addr.add_lit, hst]
  · have holds : ∀ j u, (flatE encU l)[j]? = some u → w.cell? ((⟨g, 0, none⟩ : Addr).add j) = some u := fun j u hj => by
      rw [flatU, List.getElem?_map] at hj
      obtain ⟨x, hx, rfl⟩ := Option.map_eq_some_iff.1 hj
      obtain ⟨hlt, e⟩ := List.getElem?_eq_some_iff.1 hx
      rw [addr_plus, Nat.zero_add, mk_cell (w := w) (B := B) (n := l.length) (cap := cap) ⟨g, cap, cur, fz, rfl, a⟩ j hlt, e]
    have hg := Lib.run_append_grow_string (P := Tryz.prog) (w := w) 51 9 ty 5 i0 (.int .u8 0) Tryz.underlying51 Tryz.underlying9 hi hz0 ⟨g, 0, none⟩ l.length cap (flatE encU l) (by rw [hz1, flatU]; simp) holds s (by omega) (by omega) (by rw [hz2]; exact growslice_fits (by omega) (by omega))
    have hm := mk_grown (w := w) hB (l := l) (x := s.data.toList) (by rw [hss]; unfold maxLen; omega) cap _ rfl
    rw [← hsc, hss] at hm
    exact ⟨_, _, hg, hm, ⟨rfl, rfl, rfl, by simp, fun k hk _ => heap_alloc_old w.drew _ hk⟩⟩
theorem mk_app_one (ty : TypeId) {w : World} {B : Nat} {v : Value} {l : List UInt8} (h : Mk w B v l) (c : UInt8) {q : Nat} (hq : At w q #[.int .u8 (c.toNat : Int)] 5) (hB : B ≤ w.heap.size) (hl : l.length + 1 ≤ 140737488355328) :
    ∃ v' w', (Builtin.append_ #[51, 51] ty #[v, .slice (some ⟨q, 0, none⟩) 1 1]).run Tryz.prog w = .ok v' w' ∧ Mk w' B v' (l ++ [c]) ∧ w.grownBy w' v.ownBlock := by
  obtain ⟨i0, hi, hz0, hz1, hz2⟩ := info_parts info5
  obtain ⟨g, cap, cur, fz, rfl, a⟩ := h
  have hn : ∀ j u, [Value.int .u8 (c.toNat : Int)][j]? = some u → w.cell? ((⟨q, 0, none⟩ : Addr).add j) = some u := fun j u hj => by
    rw [addr_plus, Nat.zero_add, at_cell hq]
    simpa using hj
  have hone : ∀ u ∈ [Value.int .u8 (c.toNat : Int)], u.oneCell' = true := fun u hu => by
    simp at hu
    subst hu
    rfl
  by_cases hr : l.length + 1 ≤ cap
  · have hfc := run_firstCells_some (P := Tryz.prog) (w := w) 1 1 ⟨q, 0, none⟩ 1 1 [Value.int .u8 (c.toNat : Int)] rfl hn
    have hst := put_row (P := Tryz.prog) a.h a.f l.length [Value.int .u8 (c.toNat : Int)] hone (by have := a.s; simp; omega)
    simp only [List.length_cons, List.length_nil, Nat.zero_add] at hst
    have hm := mk_after a (x := [c]) hr
    refine ⟨_, _, ?_, hm, ⟨rfl, rfl, rfl, by rw [setRow_size]; exact Nat.le_refl _, fun k _ hk => setRow_other (fun e => hk (by rw [e]; rfl))⟩⟩
    simp [Builtin.append_, run_underlying Tryz.underlying51, sizeOf, typeInfo, hi, hz1, Builtin.lenOf, hr, hfc, Addr.add_lit, hst, flatE, encU]
  · have holds : ∀ j u, (flatE encU l)[j]? = some u → w.cell? ((⟨g, 0, none⟩ : Addr).add j) = some u := fun j u hj => by
      rw [flatU, List.getElem?_map] at hj
      obtain ⟨x, hx, rfl⟩ := Option.map_eq_some_iff.1 hj
      obtain ⟨hlt, e⟩ := List.getElem?_eq_some_iff.1 hx
      rw [addr_plus, Nat.zero_add, mk_cell (w := w) (B := B) (n := l.length) (cap := cap) ⟨g, cap, cur, fz, rfl, a⟩ j hlt, e]
    have hg := run_append_grow (P := Tryz.prog) (w := w) 51 ty 5 i0 (.int .u8 0) Tryz.underlying51 hi hz0 ⟨g, 0, none⟩ l.length cap (flatE encU l) (by rw [hz1, flatU]; simp) holds ⟨q, 0, none⟩ 1 1 [Value.int .u8 (c.toNat : Int)] (by rw [hz1]; rfl) hn (by omega) (by omega) (by rw [hz2]; exact growslice_fits (by omega) (by omega))
    have hm := mk_grown (w := w) hB (l := l) (x := [c]) (by show l.length + 1 ≤ _; unfold maxLen; omega) cap _ rfl
    exact ⟨_, _, hg, hm, ⟨rfl, rfl, rfl, by simp, fun k hk _ => heap_alloc_old w.drew _ hk⟩⟩
theorem mk_bytes (w : World) (s : ByteArray) (hs : s.size ≤ 1000000) (cap : Nat) (hc : s.size ≤ cap) (hm : cap ≤ maxLen) : Mk (w.drew.alloc (.cells (bytesRow s cap) 5 ((bytesRow s cap).size, (bytesRow s cap).size + 1))) w.heap.size (.slice (some ⟨w.heap.size, 0, none⟩) s.size cap) s.data.toList := by
  have hz : (bytesRow s cap).size = cap := by
    unfold bytesRow
    simp
    omega
  refine ⟨w.heap.size, cap, bytesRow s cap, _, by rw [sizeU], Nat.le_refl _, heap_alloc_new w.drew _, fun k hk => by simp; omega, by rw [sizeU]; exact hc, hm, hz, ?_⟩
  rw [sizeU, flatU]
  unfold bytesRow
  simp
theorem mk_text {w : World} {B : Nat} {l : List UInt8} {g n cap : Nat} (h : Mk w B (.slice (some ⟨g, 0, none⟩) n cap) l) (hn : l.length = n) : (convert 51 9 (.slice (some ⟨g, 0, none⟩) n cap)).run Tryz.prog w = .ok (.string ⟨l.toArray⟩) w :=
  row_text (mk_cell h) hn cap
theorem wpList_mkstr {ops : Array Oper} {rest : List Oper} {o : Oper} {act : Act} {w : World} {Q : Exit → Act → World → Prop} (hgd : o.guard = none) (s q : Operand)
    (op : o.op = .call { callee := .builtin .append, args := #[s, q], argTypes := #[51, 9] }) {B : Nat} {v : Value} {l : List UInt8} {x : ByteArray} (hs : act.eval s = v) (h : Mk w B v l) (hq : act.eval q = .string x) (hB : B ≤ w.heap.size) (hl : l.length + x.size ≤ 140737488355328)
    (hk : ∀ v' w', Mk w' B v' (l ++ x.data.toList) → w.grownBy w' v.ownBlock → wpList Tryz.prog ops Q rest (act.put o.dst v') w') : wpList Tryz.prog ops Q (o :: rest) act w :=
  wpList_plain hgd fun _ hK => by
    obtain ⟨v', w', hr, h2, h3⟩ := mk_app_str o.type h x hB hl
    unfold Oper.wp execOp
    simp only [op, resolve, invoke, builtin, Sem.run_bind, Sem.run_pure, Result.andThen_ok, List.map_toArray, List.map_cons, List.map_nil, hs, hq, hr]
    exact hK _ _ (hk v' w' h2 h3)
theorem wpList_mkone {ops : Array Oper} {rest : List Oper} {o : Oper} {act : Act} {w : World} {Q : Exit → Act → World → Prop} (hgd : o.guard = none) (s q : Operand)
    (op : o.op = .call { callee := .builtin .append, args := #[s, q], argTypes := #[51, 51] }) {B : Nat} {v : Value} {l : List UInt8} (c : UInt8) {z : Nat} (hs : act.eval s = v) (h : Mk w B v l) (hq : act.eval q = .slice (some ⟨z, 0, none⟩) 1 1) (hz : At w z #[.int .u8 (c.toNat : Int)] 5) (hB : B ≤ w.heap.size) (hl : l.length + 1 ≤ 140737488355328)
    (hk : ∀ v' w', Mk w' B v' (l ++ [c]) → w.grownBy w' v.ownBlock → wpList Tryz.prog ops Q rest (act.put o.dst v') w') : wpList Tryz.prog ops Q (o :: rest) act w :=
  wpList_plain hgd fun _ hK => by
    obtain ⟨v', w', hr, h2, h3⟩ := mk_app_one o.type h c hz hB hl
    unfold Oper.wp execOp
    simp only [op, resolve, invoke, builtin, Sem.run_bind, Sem.run_pure, Result.andThen_ok, List.map_toArray, List.map_cons, List.map_nil, hs, hq, hr]
    exact hK _ _ (hk v' w' h2 h3)
end Go.Proofs.YtioeidhblbfgmaaGreat


namespace Go.Proofs.YtioeidhblbfgmaaGreat
open Go.ChangeShapes Go.WideShapes Go.ChangeAt Go.RowKit
set_option linter.unusedVariables false
set_option linter.unusedSimpArgs false
set_option maxRecDepth 100000

theorem toL_app (a b : ByteArray) : (a ++ b).data.toList = a.data.toList ++ b.data.toList := by simp
theorem mk_low {w : World} {B B' : Nat} {v : Value} {l : List UInt8} (h : Mk w B v l) (hb : B' ≤ B) : Mk w B' v l := by
  obtain ⟨g, cap, cur, fz, rfl, a⟩ := h
  exact ⟨g, cap, cur, fz, rfl, Nat.le_trans hb a.b, a.h, a.f, a.c, a.m, a.s, a.t⟩
theorem mk_len {w : World} {B g n cap : Nat} {l : List UInt8} (h : Mk w B (.slice (some ⟨g, 0, none⟩) n cap) l) : l.length = n := by
  obtain ⟨g', cap', e⟩ := mk_is h
  injection e with e1 e2 e3
  exact e2.symm
/- What is built so far, the message beside it. -/
structure Bs (W : World) (X : Nat) (mc : Array Value) (v : Value) (S : ByteArray) (w : World) : Prop where
  r : Mk w W.heap.size v S.data.toList
  x : At w X mc 29
  k : Kept W w
theorem bs_kept {W w w' : World} {X : Nat} {mc : Array Value} {v : Value} {S : ByteArray} (h : Bs W X mc v S w) (k : Kept w w') : Bs W X mc v S w' := ⟨mk_kept h.r k, at_kept h.x k, kept_trans h.k k⟩
theorem at_mk {w w' : World} {B P T : Nat} {v : Value} {l : List UInt8} {cs : Array Value} (h : At w P cs T) (r : Mk w B v l) (g : w.grownBy w' v.ownBlock) (hT : T ≠ 5) : At w' P cs T := (g.block P (at_lt h) (fun e => mk_ne r h hT e.symm)).trans h
theorem bs_app {W w w' : World} {X : Nat} {mc : Array Value} {v v' : Value} {S S' : ByteArray} (h : Bs W X mc v S w) (g : w.grownBy w' v.ownBlock) (r : Mk w' W.heap.size v' S'.data.toList) : Bs W X mc v' S' w' :=
  ⟨r, at_mk h.x h.r g (by decide), kept_gr h.k g (fun z hz => mk_lt h.r hz)⟩
theorem body3 {w : World} {X T : Nat} {a0 a1 a2 a3 a4 a5 a6 a7 a8 a9 aa ab : Value} (h : At w X #[a0, a1, a2, a3, a4, a5, a6, a7, a8, a9, aa, ab] T) : (w.cell? ⟨X, 3, none⟩ = some a3) ∧ (w.cell? ⟨X, 4, none⟩ = some a4) ∧ (w.cell? ⟨X, 5, none⟩ = some a5) := ⟨at_cell h 3, at_cell h 4, at_cell h 5⟩
theorem box3 {w : World} {P T : Nat} {a b c : Value} (h : At w P #[a, b, c] T) : (w.cell? ⟨P, 0, none⟩ = some a) ∧ (w.cell? ⟨P, 1, none⟩ = some b) ∧ (w.cell? ⟨P, 2, none⟩ = some c) := ⟨at_cell h 0, at_cell h 1, at_cell h 2⟩
theorem box5 {w : World} {P T : Nat} {a b c d e : Value} (h : At w P #[a, b, c, d, e] T) : (w.cell? ⟨P, 0, none⟩ = some a) ∧ (w.cell? ⟨P, 1, none⟩ = some b) ∧ (w.cell? ⟨P, 2, none⟩ = some c) ∧ (w.cell? ⟨P, 3, none⟩ = some d) ∧ (w.cell? ⟨P, 4, none⟩ = some e) := ⟨at_cell h 0, at_cell h 1, at_cell h 2, at_cell h 3, at_cell h 4⟩
set_option maxHeartbeats 25600000 in
theorem rfBody_any (m : Ms) (ok : MsOk m) (my : mayM m = true) (vn vk vr vs vd : Value) (w : World) (h : MsR w vn vk vr vs vd m) :
    Calls Tryz.prog 23 #[msgV m vn vk vr vs vd] w fun e w' => e = .returned (.string (bodyM m)) ∧ Kept w w' := by
  obtain ⟨l1, l2, l3, l4, l5⟩ := (small_may ok my).l
  have HF := hid (may_all ok my)
  have HM := hid h
  obtain ⟨i0, i1⟩ := ok.id
  obtain ⟨t0, t1⟩ := ok.tgt
  obtain ⟨r0, r1⟩ := ok.rng
  have q1 : IntKind.u64.wrap m.id = m.id := wrap64 (by omega)
  have q2 : IntKind.u64.wrap m.tgt = m.tgt := wrap64 (by omega)
  have q3 : IntKind.u64.wrap m.rng = m.rng := wrap64 (by omega)
  have hp1 := putS_any m.id (by omega)
  have hp2 := putS_any m.tgt (by omega)
  have hp3 := putS_any m.rng (by omega)
  have e1 := encI_size m.id
  have e2 := encI_size m.tgt
  have e3 := encI_size m.rng
  obtain ⟨a1, c1, rfl, hnN, hmN⟩ := rg_is HM.out.n
  have HGN : Hid (∀ i, i < m.news.length → ∃ y, m.news[i]? = some y) := hid (fun i hi => ⟨m.news[i]'hi, List.getElem?_eq_getElem hi⟩)
  have HPN : Hid (0 < m.news.length → ∃ g o, a1 = some ⟨g, o, none⟩) := hid (fun hp => by
    obtain ⟨g, o, c, e⟩ := rg_pos HM.out.n hp
    injection e with e1
    exact ⟨g, o, e1⟩)
  have hpN := putS_any (m.news.length : Int) (by omega)
  have qN : IntKind.u64.wrap (m.news.length : Int) = (m.news.length : Int) := wrap64 (by omega)
  have HEN : Hid (encI (m.news.length : Int) = encB m.news.length) := hid (encI_of _)
  have HZN := hid (encI_size (m.news.length : Int))
  have HTN : Hid (∀ (k : Nat) (y), m.news[k]? = some y → catB newsB (m.news.take (k + 1)) = catB newsB (m.news.take k) ++ newsB y) := hid (fun k y hy => by rw [List.take_add_one, hy]; exact catB_next _ _ _)
  have HQN : Hid (catB newsB (m.news.take m.news.length) = catB newsB m.news) := hid (by rw [List.take_length])
  clear hnN hmN
  obtain ⟨a2, c2, rfl, hnK, hmK⟩ := rg_is HM.out.k
  have HGK : Hid (∀ i, i < m.keys.length → ∃ y, m.keys[i]? = some y) := hid (fun i hi => ⟨m.keys[i]'hi, List.getElem?_eq_getElem hi⟩)
  have HPK : Hid (0 < m.keys.length → ∃ g o, a2 = some ⟨g, o, none⟩) := hid (fun hp => by
    obtain ⟨g, o, c, e⟩ := rg_pos HM.out.k hp
    injection e with e1
    exact ⟨g, o, e1⟩)
  have hpK := putS_any (m.keys.length : Int) (by omega)
  have qK : IntKind.u64.wrap (m.keys.length : Int) = (m.keys.length : Int) := wrap64 (by omega)
  have HEK : Hid (encI (m.keys.length : Int) = encB m.keys.length) := hid (encI_of _)
  have HZK := hid (encI_size (m.keys.length : Int))
  have HTK : Hid (∀ (k : Nat) (y), m.keys[k]? = some y → catB textE (m.keys.take (k + 1)) = catB textE (m.keys.take k) ++ textE y) := hid (fun k y hy => by rw [List.take_add_one, hy]; exact catB_next _ _ _)
  have HQK : Hid (catB textE (m.keys.take m.keys.length) = catB textE m.keys) := hid (by rw [List.take_length])
  clear hnK hmK
  obtain ⟨a3, c3, rfl, hnR, hmR⟩ := rg_is HM.out.r
  have HGR : Hid (∀ i, i < m.recs.length → ∃ y, m.recs[i]? = some y) := hid (fun i hi => ⟨m.recs[i]'hi, List.getElem?_eq_getElem hi⟩)
  have HPR : Hid (0 < m.recs.length → ∃ g o, a3 = some ⟨g, o, none⟩) := hid (fun hp => by
    obtain ⟨g, o, c, e⟩ := rg_pos HM.out.r hp
    injection e with e1
    exact ⟨g, o, e1⟩)
  have hpR := putS_any (m.recs.length : Int) (by omega)
  have qR : IntKind.u64.wrap (m.recs.length : Int) = (m.recs.length : Int) := wrap64 (by omega)
  have HER : Hid (encI (m.recs.length : Int) = encB m.recs.length) := hid (encI_of _)
  have HZR := hid (encI_size (m.recs.length : Int))
  have HTR : Hid (∀ (k : Nat) (y), m.recs[k]? = some y → catB putR (m.recs.take (k + 1)) = catB putR (m.recs.take k) ++ putR y) := hid (fun k y hy => by rw [List.take_add_one, hy]; exact catB_next _ _ _)
  have HQR : Hid (catB putR (m.recs.take m.recs.length) = catB putR m.recs) := hid (by rw [List.take_length])
  clear hnR hmR
  obtain ⟨a4, c4, rfl, hnS, hmS⟩ := rg_is HM.out.s
  have HGS : Hid (∀ i, i < m.seen.length → ∃ y, m.seen[i]? = some y) := hid (fun i hi => ⟨m.seen[i]'hi, List.getElem?_eq_getElem hi⟩)
  have HPS : Hid (0 < m.seen.length → ∃ g o, a4 = some ⟨g, o, none⟩) := hid (fun hp => by
    obtain ⟨g, o, c, e⟩ := rg_pos HM.out.s hp
    injection e with e1
    exact ⟨g, o, e1⟩)
  have hpS := putS_any (m.seen.length : Int) (by omega)
  have qS : IntKind.u64.wrap (m.seen.length : Int) = (m.seen.length : Int) := wrap64 (by omega)
  have HES : Hid (encI (m.seen.length : Int) = encB m.seen.length) := hid (encI_of _)
  have HZS := hid (encI_size (m.seen.length : Int))
  have HTS : Hid (∀ (k : Nat) (y), m.seen[k]? = some y → catB seenB (m.seen.take (k + 1)) = catB seenB (m.seen.take k) ++ seenB y) := hid (fun k y hy => by rw [List.take_add_one, hy]; exact catB_next _ _ _)
  have HQS : Hid (catB seenB (m.seen.take m.seen.length) = catB seenB m.seen) := hid (by rw [List.take_length])
  clear hnS hmS
  obtain ⟨a5, c5, rfl, hnG, hmG⟩ := rg_is HM.out.d
  have HGG : Hid (∀ i, i < m.digs.length → ∃ y, m.digs[i]? = some y) := hid (fun i hi => ⟨m.digs[i]'hi, List.getElem?_eq_getElem hi⟩)
  have HPG : Hid (0 < m.digs.length → ∃ g o, a5 = some ⟨g, o, none⟩) := hid (fun hp => by
    obtain ⟨g, o, c, e⟩ := rg_pos HM.out.d hp
    injection e with e1
    exact ⟨g, o, e1⟩)
  have hpG := putS_any (m.digs.length : Int) (by omega)
  have qG : IntKind.u64.wrap (m.digs.length : Int) = (m.digs.length : Int) := wrap64 (by omega)
  have HEG : Hid (encI (m.digs.length : Int) = encB m.digs.length) := hid (encI_of _)
  have HZG := hid (encI_size (m.digs.length : Int))
  have HTG : Hid (∀ (k : Nat) (y), m.digs[k]? = some y → catB digB (m.digs.take (k + 1)) = catB digB (m.digs.take k) ++ digB y) := hid (fun k y hy => by rw [List.take_add_one, hy]; exact catB_next _ _ _)
  have HQG : Hid (catB digB (m.digs.take m.digs.length) = catB digB m.digs) := hid (by rw [List.take_length])
  clear hnG hmG
  have HBd : Hid (headM m ++ (encI (m.news.length : Int) ++ catB newsB m.news) ++ (encI (m.keys.length : Int) ++ catB textE m.keys) ++ (encI (m.recs.length : Int) ++ catB putR m.recs) ++ (encI (m.seen.length : Int) ++ catB seenB m.seen) ++ (encI (m.digs.length : Int) ++ catB digB m.digs) = bodyM m) := hid (by
    rw [HEN.out, HEK.out, HER.out, HES.out, HEG.out]
    rfl)
  have HHd : Hid (encI m.id ++ encI m.tgt ++ encI m.rng ++ flagB m.flag = headM m) := hid rfl
  have HL : Hid (m.news.length ≤ 4096 ∧ m.keys.length ≤ 4096 ∧ m.recs.length ≤ 4096 ∧ m.seen.length ≤ 4096 ∧ m.digs.length ≤ 4096) := hid ⟨l1, l2, l3, l4, l5⟩
  have HPg := hid hpG
  generalize m.news.length = n1 at *
  generalize m.keys.length = n2 at *
  generalize m.recs.length = n3 at *
  generalize m.seen.length = n4 at *
  generalize m.digs.length = n5 at *
  generalize hE1 : encI m.id = E1 at *
  generalize hE2 : encI m.tgt = E2 at *
  generalize hE3 : encI m.rng = E3 at *
  generalize hF1 : encI (n1 : Int) = F1 at *
  generalize hF2 : encI (n2 : Int) = F2 at *
  generalize hF3 : encI (n3 : Int) = F3 at *
  generalize hF4 : encI (n4 : Int) = F4 at *
  generalize hF5 : encI (n5 : Int) = F5 at *
  clear hE1 hE2 hE3 hF1 hF2 hF3 hF4 hF5 HEN HEK HER HES HEG ok my HPg
  have k1 := kept_alloc (kept_refl w) (.cells #[.int .u8 m.kind, .int .u8 m.frm, .int .u8 m.dst, .int .u32 m.id, .int .u8 m.tgt, .int .u8 m.rng, .bool m.flag, .slice a1 n1 c1, .slice a2 n2 c2, .slice a3 n3 c3, .slice a4 n4 c4, .slice a5 n5 c5] 29)
  have AX := at_new w #[.int .u8 m.kind, .int .u8 m.frm, .int .u8 m.dst, .int .u32 m.id, .int .u8 m.tgt, .int .u8 m.rng, .bool m.flag, .slice a1 n1 c1, .slice a2 n2 c2, .slice a3 n3 c3, .slice a4 n4 c4, .slice a5 n5 c5] 29
  have HX1 := hid AX
  have HK1 := hid k1
  obtain ⟨⟨x0, x1, x2, x3, x4, x5, x6, x7, x8, x9, xa, xb⟩, -⟩ := cells12 AX
  have hz3 := zeroN3
  have hz5 := zeroN5
  clear k1 AX h
  unfold msgV
  go_enter Tryz.func23, Tryz.ntmps23
  go_wp2_with fail
  clear x0 x1 x2 x3 x4 x5 x6 x7 x8 x9 xa xb
  generalize hXX : w.heap.size = X at *
  refine wp_region_noPanic ?_
  refine wp_region_held_drew (S := (fun w' => (w'.cell? ⟨X, 3, none⟩ = some (.int .u32 m.id)) ∧ (w'.cell? ⟨X, 4, none⟩ = some (.int .u8 m.tgt)) ∧ (w'.cell? ⟨X, 5, none⟩ = some (.int .u8 m.rng)))) (by kernel_rfl) (body3 (show At (w.alloc (.cells #[.int .u8 m.kind, .int .u8 m.frm, .int .u8 m.dst, .int .u32 m.id, .int .u8 m.tgt, .int .u8 m.rng, .bool m.flag, .slice a1 n1 c1, .slice a2 n2 c2, .slice a3 n3 c3, .slice a4 n4 c4, .slice a5 n5 c5] 29)).drew X #[.int .u8 m.kind, .int .u8 m.frm, .int .u8 m.dst, .int .u32 m.id, .int .u8 m.tgt, .int .u8 m.rng, .bool m.flag, .slice a1 n1 c1, .slice a2 n2 c2, .slice a3 n3 c3, .slice a4 n4 c4, .slice a5 n5 c5] 29 from HX1.out)) (fun hHeld => ?_)
  generalize hwd : (w.alloc (.cells #[.int .u8 m.kind, .int .u8 m.frm, .int .u8 m.dst, .int .u32 m.id, .int .u8 m.tgt, .int .u8 m.rng, .bool m.flag, .slice a1 n1 c1, .slice a2 n2 c2, .slice a3 n3 c3, .slice a4 n4 c4, .slice a5 n5 c5] 29)).drew = wd at *
  have AX : At wd X #[.int .u8 m.kind, .int .u8 m.frm, .int .u8 m.dst, .int .u32 m.id, .int .u8 m.tgt, .int .u8 m.rng, .bool m.flag, .slice a1 n1 c1, .slice a2 n2 c2, .slice a3 n3 c3, .slice a4 n4 c4, .slice a5 n5 c5] 29 := by rw [← hwd]; exact HX1.out
  have k0 : Kept w wd := by rw [← hwd]; exact HK1.out
  clear hwd
  refine wpAnyH_take (i := 0) (v := .pointer (some ⟨X, 3, none⟩)) rfl (by kernel_rfl) (by kernel_rfl) (by kernel_rfl) (fun _ _ _ h => h) (Or.inl ⟨by rfl, fun w hSw => by (try dsimp only at hSw); go_simp⟩) (by assumption) ?_
  try simp only [List.getElem_toArray, List.getElem_cons_zero, List.getElem_cons_succ, Act.put, List.setIfInBounds_toArray, List.set_cons_zero, List.set_cons_succ]
  refine wpAnyH_take (i := 1) (v := .int .u32 m.id) rfl (by kernel_rfl) (by kernel_rfl) (by kernel_rfl) (fun _ _ _ h => h) (Or.inl ⟨by rfl, fun w hSw => by (try dsimp only at hSw); go_simp⟩) (by assumption) ?_
  try simp only [List.getElem_toArray, List.getElem_cons_zero, List.getElem_cons_succ, Act.put, List.setIfInBounds_toArray, List.set_cons_zero, List.set_cons_succ]
  refine wpAnyH_take (i := 2) (v := .int .u64 m.id) rfl (by kernel_rfl) (by kernel_rfl) (by kernel_rfl) (fun _ _ _ h => h) (Or.inl ⟨by rfl, fun w hSw => by (try dsimp only at hSw); go_simp⟩) (by assumption) ?_
  try simp only [List.getElem_toArray, List.getElem_cons_zero, List.getElem_cons_succ, Act.put, List.setIfInBounds_toArray, List.set_cons_zero, List.set_cons_succ]
  refine wpAnyH_take (i := 4) (v := .pointer (some ⟨X, 4, none⟩)) rfl (by kernel_rfl) (by kernel_rfl) (by kernel_rfl) (fun _ _ _ h => h) (Or.inl ⟨by rfl, fun w hSw => by (try dsimp only at hSw); go_simp⟩) (by assumption) ?_
  try simp only [List.getElem_toArray, List.getElem_cons_zero, List.getElem_cons_succ, Act.put, List.setIfInBounds_toArray, List.set_cons_zero, List.set_cons_succ]
  refine wpAnyH_take (i := 5) (v := .int .u8 m.tgt) rfl (by kernel_rfl) (by kernel_rfl) (by kernel_rfl) (fun _ _ _ h => h) (Or.inl ⟨by rfl, fun w hSw => by (try dsimp only at hSw); go_simp⟩) (by assumption) ?_
  try simp only [List.getElem_toArray, List.getElem_cons_zero, List.getElem_cons_succ, Act.put, List.setIfInBounds_toArray, List.set_cons_zero, List.set_cons_succ]
  refine wpAnyH_take (i := 6) (v := .int .u64 m.tgt) rfl (by kernel_rfl) (by kernel_rfl) (by kernel_rfl) (fun _ _ _ h => h) (Or.inl ⟨by rfl, fun w hSw => by (try dsimp only at hSw); go_simp⟩) (by assumption) ?_
  try simp only [List.getElem_toArray, List.getElem_cons_zero, List.getElem_cons_succ, Act.put, List.setIfInBounds_toArray, List.set_cons_zero, List.set_cons_succ]
  refine wpAnyH_take (i := 9) (v := .pointer (some ⟨X, 5, none⟩)) rfl (by kernel_rfl) (by kernel_rfl) (by kernel_rfl) (fun _ _ _ h => h) (Or.inl ⟨by rfl, fun w hSw => by (try dsimp only at hSw); go_simp⟩) (by assumption) ?_
  try simp only [List.getElem_toArray, List.getElem_cons_zero, List.getElem_cons_succ, Act.put, List.setIfInBounds_toArray, List.set_cons_zero, List.set_cons_succ]
  refine wpAnyH_take (i := 10) (v := .int .u8 m.rng) rfl (by kernel_rfl) (by kernel_rfl) (by kernel_rfl) (fun _ _ _ h => h) (Or.inl ⟨by rfl, fun w hSw => by (try dsimp only at hSw); go_simp⟩) (by assumption) ?_
  try simp only [List.getElem_toArray, List.getElem_cons_zero, List.getElem_cons_succ, Act.put, List.setIfInBounds_toArray, List.set_cons_zero, List.set_cons_succ]
  refine wpAnyH_take (i := 11) (v := .int .u64 m.rng) rfl (by kernel_rfl) (by kernel_rfl) (by kernel_rfl) (fun _ _ _ h => h) (Or.inl ⟨by rfl, fun w hSw => by (try dsimp only at hSw); go_simp⟩) (by assumption) ?_
  try simp only [List.getElem_toArray, List.getElem_cons_zero, List.getElem_cons_succ, Act.put, List.setIfInBounds_toArray, List.set_cons_zero, List.set_cons_succ]
  refine wpAnyH_ready (rs := [3]) (by kernel_rfl) (by simp) ?_
  refine AllReadyH.cons (i := 3) rfl (fun K hK => ?_) AllReadyH.nil
  go_simp
  refine (hp1 _).mono ?_
  rintro e w3 ⟨rfl, h3⟩
  replace AX := at_kept AX h3
  replace k0 := kept_trans k0 h3
  clear h3
  clear hHeld
  show K _ _
  refine hK.out _ _ (body3 AX) (fun hHeld => ?_)
  clear hK K
  try simp only [List.getElem_toArray, List.getElem_cons_zero, List.getElem_cons_succ, Act.put, List.setIfInBounds_toArray, List.set_cons_zero, List.set_cons_succ]
  refine wpAnyH_ready (rs := [7]) (by kernel_rfl) (by simp) ?_
  refine AllReadyH.cons (i := 7) rfl (fun K hK => ?_) AllReadyH.nil
  go_simp
  refine (hp2 _).mono ?_
  rintro e w3 ⟨rfl, h3⟩
  replace AX := at_kept AX h3
  replace k0 := kept_trans k0 h3
  clear h3
  clear hHeld
  show K _ _
  refine hK.out _ _ (body3 AX) (fun hHeld => ?_)
  clear hK K
  try simp only [List.getElem_toArray, List.getElem_cons_zero, List.getElem_cons_succ, Act.put, List.setIfInBounds_toArray, List.set_cons_zero, List.set_cons_succ]
  refine wpAnyH_take (i := 8) (v := .string (E1 ++ E2)) rfl (by kernel_rfl) (by kernel_rfl) (by kernel_rfl) (fun _ _ _ h => h) (Or.inl ⟨by rfl, fun w hSw => by (try dsimp only at hSw); go_simp; omega⟩) (by assumption) ?_
  try simp only [List.getElem_toArray, List.getElem_cons_zero, List.getElem_cons_succ, Act.put, List.setIfInBounds_toArray, List.set_cons_zero, List.set_cons_succ]
  refine wpAnyH_ready (rs := [12]) (by kernel_rfl) (by simp) ?_
  refine AllReadyH.cons (i := 12) rfl (fun K hK => ?_) AllReadyH.nil
  go_simp
  refine (hp3 _).mono ?_
  rintro e w3 ⟨rfl, h3⟩
  replace AX := at_kept AX h3
  replace k0 := kept_trans k0 h3
  clear h3
  clear hHeld
  show K _ _
  refine hK.out _ _ (body3 AX) (fun hHeld => ?_)
  clear hK K
  try simp only [List.getElem_toArray, List.getElem_cons_zero, List.getElem_cons_succ, Act.put, List.setIfInBounds_toArray, List.set_cons_zero, List.set_cons_succ]
  refine wpAnyH_take (i := 13) (v := .string (E1 ++ E2 ++ E3)) rfl (by kernel_rfl) (by kernel_rfl) (by kernel_rfl) (fun _ _ _ h => h) (Or.inl ⟨by rfl, fun w hSw => by (try dsimp only at hSw); go_simp; first | omega | (simp only [ByteArray.size_append]; omega)⟩) (by assumption) ?_
  try simp only [List.getElem_toArray, List.getElem_cons_zero, List.getElem_cons_succ, Act.put, List.setIfInBounds_toArray, List.set_cons_zero, List.set_cons_succ]
  have hH : (E1 ++ E2 ++ E3).size ≤ 24 := by simp only [ByteArray.size_append]; omega
  have HHd2 : Hid (E1 ++ E2 ++ E3 ++ flagB m.flag = headM m) := HHd
  generalize E1 ++ E2 ++ E3 = H0 at *
  refine wpAnyH_ready (rs := [14]) (by kernel_rfl) (by simp) ?_
  refine AllReadyH.cons (i := 14) rfl (fun K hK => ?_) AllReadyH.nil
  have hcv := run_bytes_of_string (P := Tryz.prog) w3 9 51 5 H0 Tryz.underlying9 Tryz.underlying51 Tryz.underlying5
  have hge := grownCap_ge w3 H0.size 0 5
  have hgm := grownCap_le_maxLen w3 H0.size 0 5 (by unfold maxLen; omega)
  generalize grownCap w3 H0.size 0 5 = cap0 at *
  have hmk := mk_bytes w3 H0 (by omega) cap0 hge hgm
  have hlow := k0.2
  have kn : Kept w3 (w3.drew.alloc (.cells (bytesRow H0 cap0) 5 ((bytesRow H0 cap0).size, (bytesRow H0 cap0).size + 1))) := kept_alloc (kept_drew (kept_refl _)) _
  have AX2 := at_kept AX kn
  have HBs := hid (show Bs w X #[.int .u8 m.kind, .int .u8 m.frm, .int .u8 m.dst, .int .u32 m.id, .int .u8 m.tgt, .int .u8 m.rng, .bool m.flag, .slice a1 n1 c1, .slice a2 n2 c2, .slice a3 n3 c3, .slice a4 n4 c4, .slice a5 n5 c5] (.slice (some ⟨w3.heap.size, 0, none⟩) H0.size cap0) H0 (w3.drew.alloc (.cells (bytesRow H0 cap0) 5 ((bytesRow H0 cap0).size, (bytesRow H0 cap0).size + 1))) from ⟨mk_low hmk hlow, AX2, kept_trans k0 kn⟩)
  clear kn hmk hge hgm hlow k0 AX
  go_simp
  show K _ (w3.drew.alloc (.cells (bytesRow H0 cap0) 5 ((bytesRow H0 cap0).size, (bytesRow H0 cap0).size + 1)))
  generalize hgg : w3.heap.size = g0 at *
  generalize w3.drew.alloc (.cells (bytesRow H0 cap0) 5 ((bytesRow H0 cap0).size, (bytesRow H0 cap0).size + 1)) = w5 at *
  clear hgg
  have AX := AX2
  clear AX2 hcv
  clear hHeld
  show K _ _
  refine hK.out _ _ (body3 AX) (fun hHeld => ?_)
  clear hK K
  try simp only [List.getElem_toArray, List.getElem_cons_zero, List.getElem_cons_succ, Act.put, List.setIfInBounds_toArray, List.set_cons_zero, List.set_cons_succ]
  refine wpAnyH_take (i := 15) (v := .slice (some ⟨g0, 0, none⟩) H0.size cap0) rfl (by kernel_rfl) (by kernel_rfl) (by kernel_rfl) (fun _ _ _ h => h) (Or.inl ⟨by rfl, fun w hSw => by (try dsimp only at hSw); go_simp⟩) (by assumption) ?_
  try simp only [List.getElem_toArray, List.getElem_cons_zero, List.getElem_cons_succ, Act.put, List.setIfInBounds_toArray, List.set_cons_zero, List.set_cons_succ]
  refine wpAnyH_done (by kernel_rfl) ?_ _
  refine NoPanic.normal ?_
  clear hHeld
  have hlenH : H0.data.toList.length = H0.size := sizeU H0
  have HSz : Hid (H0.size ≤ 24) := hid hH
  have x6 := at_cell AX 6
  have x6' : w5.cell? ⟨X, 6, none⟩ = some (.bool m.flag) := x6
  clear x6 AX hH hlenH hp1 hp2 hp3 q1 q2 q3 e1 e2 e3
  go_upto_if 29 with fail
  go_cut [0, 3, 29] (fun _ bv _ wx => ∃ (g cap n : Nat), bv = .slice (some ⟨g, 0, none⟩) n cap ∧ Hid (Bs w X #[.int .u8 m.kind, .int .u8 m.frm, .int .u8 m.dst, .int .u32 m.id, .int .u8 m.tgt, .int .u8 m.rng, .bool m.flag, .slice a1 n1 c1, .slice a2 n2 c2, .slice a3 n3 c3, .slice a4 n4 c4, .slice a5 n5 c5] bv (headM m) wx))
  case first =>
    cases hfl : m.flag with
    | false =>
      have HHf : Hid (H0 ++ ⟨#[0]⟩ = headM m) := hid (by rw [← HHd2.out, hfl]; rfl)
      clear hfl HHd2 x6'
      have kb := kept_alloc (kept_refl w5) (.cells #[.int .u8 0] 5)
      have HQ := hid (at_new w5 #[.int .u8 0] 5)
      have HB6 := hid (bs_kept HBs.out kb)
      clear kb
      go_wp2_with (at_builtin; go_must (refine wpList_mkone rfl (.tmp 33) (.tmp 34) rfl (c := 0) rfl HB6.out.r rfl HQ.out HB6.out.k.2 (by rw [sizeU]; have := HSz.out; omega) ?_; intro v' w' hm hg; have HB7 := hid (show Bs w X _ v' (headM m) w' from by rw [← HHf.out]; exact bs_app HB6.out hg (by rw [toL_app]; exact hm)); obtain ⟨g7, c7, e7⟩ := mk_is HB7.out.r; obtain ⟨n7, hn7⟩ : ∃ n, (headM m).data.toList.length = n := ⟨_, rfl⟩; rw [hn7] at e7; clear hm hg hn7; subst e7))
      go_meet
      exact ⟨g7, c7, n7, rfl, HB7⟩
    | true =>
      have HHf : Hid (H0 ++ ⟨#[1]⟩ = headM m) := hid (by rw [← HHd2.out, hfl]; rfl)
      clear hfl HHd2 x6'
      have kb := kept_alloc (kept_refl w5) (.cells #[.int .u8 1] 5)
      have HQ := hid (at_new w5 #[.int .u8 1] 5)
      have HB6 := hid (bs_kept HBs.out kb)
      clear kb
      go_wp2_with (at_builtin; go_must (refine wpList_mkone rfl (.tmp 30) (.tmp 31) rfl (c := 1) rfl HB6.out.r rfl HQ.out HB6.out.k.2 (by rw [sizeU]; have := HSz.out; omega) ?_; intro v' w' hm hg; have HB7 := hid (show Bs w X _ v' (headM m) w' from by rw [← HHf.out]; exact bs_app HB6.out hg (by rw [toL_app]; exact hm)); obtain ⟨g7, c7, e7⟩ := mk_is HB7.out.r; obtain ⟨n7, hn7⟩ : ∃ n, (headM m).data.toList.length = n := ⟨_, rfl⟩; rw [hn7] at e7; clear hm hg hn7; subst e7))
      go_meet
      exact ⟨g7, c7, n7, rfl, HB7⟩
  case rest =>
    obtain ⟨gA, cA, nA, rfl, HBA⟩ := hcut
    have hsA : (headM m).size ≤ 40 := by
      have := HSz.out
      rw [← HHd2.out, ByteArray.size_append]
      have h9 : (flagB m.flag).size = 1 := by cases m.flag <;> rfl
      omega
    generalize headM m = S0 at *
    clear HBs HHd HHd2 HSz x6'
    obtain ⟨⟨x0, x1, x2, x3, x4, x5, x6, x7, x8, x9, xa, xb⟩, -⟩ := cells12 HBA.out.x
    have hzN := HZN.out
    go_wp2_with fail
    refine (hpN _).mono ?_
    rintro e wN1 ⟨rfl, kN1⟩
    have HBN1 := hid (bs_kept HBA.out kN1)
    clear kN1 hpN qN x0 x1 x2 x3 x4 x5 x6 x7 x8 x9 xa xb
    obtain ⟨⟨x0, x1, x2, x3, x4, x5, x6, x7, x8, x9, xa, xb⟩, -⟩ := cells12 HBN1.out.x
    go_wp2_with (at_builtin; refine wpList_mkstr rfl (.tmp 36) (.tmp 41) rfl rfl HBN1.out.r rfl HBN1.out.k.2 (by rw [sizeU]; omega) ?_; intro v' w' hm hg; have HBN2 := hid (bs_app HBN1.out hg (by rw [toL_app]; exact hm) (S' := S0 ++ F1)); obtain ⟨gHBN2, cHBN2, eHBN2⟩ := mk_is HBN2.out.r; obtain ⟨nHBN2, hnHBN2⟩ : ∃ n, (S0 ++ F1).data.toList.length = n := ⟨_, rfl⟩; rw [hnHBN2] at eHBN2; clear hm hg hnHBN2; subst eHBN2; clear x0 x1 x2 x3 x4 x5 x6 x7 x8 x9 xa xb; obtain ⟨⟨x0, x1, x2, x3, x4, x5, x6, x7, x8, x9, xa, xb⟩, -⟩ := cells12 HBN2.out.x)
    clear x0 x1 x2 x3 x4 x5 x6 x7 x8 x9 xa xb
    have hsN : (S0 ++ F1).size ≤ 48 := by rw [ByteArray.size_append]; omega
    generalize hSN : S0 ++ F1 = SN at *
    go_loopw [3, 46] (fun bv iv wr => ∃ (j : Nat) (S : ByteArray) (g cap nn : Nat), j ≤ n1 ∧ iv = .int .i64 (j : Int) ∧ bv = .slice (some ⟨g, 0, none⟩) nn cap ∧ S.size ≤ 48 + 2000 * j ∧ Hid (S = SN ++ catB newsB (m.news.take j)) ∧ Hid (Bs w X #[.int .u8 m.kind, .int .u8 m.frm, .int .u8 m.dst, .int .u32 m.id, .int .u8 m.tgt, .int .u8 m.rng, .bool m.flag, .slice a1 n1 c1, .slice a2 n2 c2, .slice a3 n3 c3, .slice a4 n4 c4, .slice a5 n5 c5] (.slice (some ⟨g, 0, none⟩) nn cap) S wr)) (fun _ iv _ => n1 - (intOf iv).toNat)
    case atStart => exact ⟨0, SN, _, _, _, Nat.zero_le _, rfl, rfl, by omega, hid (by rw [List.take_zero, catB_nil, mapp_nil]), HBN2⟩
    case round =>
      obtain ⟨j, S, g, cap, nn, hj, rfl, rfl, hS, HS, HBj⟩ := hrel
      clear HBN2 hsN
      by_cases hlt : j < n1
      · have hltz : (j : Int) < (n1 : Int) := by omega
        obtain ⟨y, hy⟩ := HGN.out j hlt
        obtain ⟨g1, o1, rfl⟩ := HPN.out (by omega)
        have hyP := HF.out.n y (List.mem_of_getElem? hy)
        have HS2 : Hid (S ++ newsB y = SN ++ catB newsB (m.news.take (j + 1))) := hid (by rw [HTN.out j y hy, HS.out, ByteArray.append_assoc])
        obtain ⟨⟨x0, x1, x2, x3, x4, x5, x6, x7, x8, x9, xa, xb⟩, -⟩ := cells12 HBj.out.x
        obtain ⟨c0, c1, c2⟩ := rg_N (rg_kept encN_ok HM.out.n HBj.out.k) hy
        obtain ⟨o1a, o2a, o3a⟩ := hyP
        have q1 : IntKind.u64.wrap y.node = y.node := wrap64 (by omega)
        have q2 : IntKind.u64.wrap y.st = y.st := wrap64 (by omega)
        have q3 : IntKind.u64.wrap y.inc = y.inc := wrap64 (by omega)
        have hp1 := putS_any y.node (by omega)
        have hp2 := putS_any y.st (by omega)
        have hp3 := putS_any y.inc (by omega)
        have e1 := encI_size y.node
        have e2 := encI_size y.st
        have e3 := encI_size y.inc
        have HEq : Hid (encI y.node ++ encI y.st ++ encI y.inc = newsB y) := hid rfl
        generalize encI y.node = D1 at *
        generalize encI y.st = D2 at *
        generalize encI y.inc = D3 at *
        have kb := kept_alloc (kept_refl wr) (.cells #[.int .u8 y.node, .int .u8 y.st, .int .u32 y.inc] 79)
        have HBb := hid (bs_kept HBj.out kb)
        have HPb := hid (at_new wr #[.int .u8 y.node, .int .u8 y.st, .int .u32 y.inc] 79)
        clear kb hy
        go_wp2_with fail
        clear c0 c1 c2 x0 x1 x2 x3 x4 x5 x6 x7 x8 x9 xa xb
        generalize hPP : wr.heap.size = P at *
        refine wp_region_noPanic ?_
        refine wp_region_held_drew (S := (fun w' => (w'.cell? ⟨P, 0, none⟩ = some (.int .u8 y.node)) ∧ (w'.cell? ⟨P, 1, none⟩ = some (.int .u8 y.st)) ∧ (w'.cell? ⟨P, 2, none⟩ = some (.int .u32 y.inc)))) (by kernel_rfl) (box3 (show At (wr.alloc (.cells #[.int .u8 y.node, .int .u8 y.st, .int .u32 y.inc] 79)).drew P #[.int .u8 y.node, .int .u8 y.st, .int .u32 y.inc] 79 from HPb.out)) (fun hHeld => ?_)
        generalize hwd : (wr.alloc (.cells #[.int .u8 y.node, .int .u8 y.st, .int .u32 y.inc] 79)).drew = wd at *
        have AP : At wd P #[.int .u8 y.node, .int .u8 y.st, .int .u32 y.inc] 79 := by rw [← hwd]; exact HPb.out
        have HB4 := hid (show Bs w X _ (.slice (some ⟨g, 0, none⟩) nn cap) S wd from by rw [← hwd]; exact bs_kept HBb.out (kept_drew (kept_refl _)))
        clear hwd
        refine wpAnyH_take (i := 0) (v := .slice (some ⟨g, 0, none⟩) nn cap) rfl (by kernel_rfl) (by kernel_rfl) (by kernel_rfl) (fun _ _ _ h => h) (Or.inl ⟨by rfl, fun w hSw => by (try dsimp only at hSw); go_simp⟩) (by assumption) ?_
        try simp only [List.getElem_toArray, List.getElem_cons_zero, List.getElem_cons_succ, Act.put, List.setIfInBounds_toArray, List.set_cons_zero, List.set_cons_succ]
        refine wpAnyH_take (i := 1) (v := .pointer (some ⟨P, 0, none⟩)) rfl (by kernel_rfl) (by kernel_rfl) (by kernel_rfl) (fun _ _ _ h => h) (Or.inl ⟨by rfl, fun w hSw => by (try dsimp only at hSw); go_simp⟩) (by assumption) ?_
        try simp only [List.getElem_toArray, List.getElem_cons_zero, List.getElem_cons_succ, Act.put, List.setIfInBounds_toArray, List.set_cons_zero, List.set_cons_succ]
        refine wpAnyH_take (i := 2) (v := .int .u8 y.node) rfl (by kernel_rfl) (by kernel_rfl) (by kernel_rfl) (fun _ _ _ h => h) (Or.inl ⟨by rfl, fun w hSw => by (try dsimp only at hSw); go_simp⟩) (by assumption) ?_
        try simp only [List.getElem_toArray, List.getElem_cons_zero, List.getElem_cons_succ, Act.put, List.setIfInBounds_toArray, List.set_cons_zero, List.set_cons_succ]
        refine wpAnyH_take (i := 3) (v := .int .u64 y.node) rfl (by kernel_rfl) (by kernel_rfl) (by kernel_rfl) (fun _ _ _ h => h) (Or.inl ⟨by rfl, fun w hSw => by (try dsimp only at hSw); go_simp⟩) (by assumption) ?_
        try simp only [List.getElem_toArray, List.getElem_cons_zero, List.getElem_cons_succ, Act.put, List.setIfInBounds_toArray, List.set_cons_zero, List.set_cons_succ]
        refine wpAnyH_take (i := 5) (v := .pointer (some ⟨P, 1, none⟩)) rfl (by kernel_rfl) (by kernel_rfl) (by kernel_rfl) (fun _ _ _ h => h) (Or.inl ⟨by rfl, fun w hSw => by (try dsimp only at hSw); go_simp⟩) (by assumption) ?_
        try simp only [List.getElem_toArray, List.getElem_cons_zero, List.getElem_cons_succ, Act.put, List.setIfInBounds_toArray, List.set_cons_zero, List.set_cons_succ]
        refine wpAnyH_take (i := 6) (v := .pointer (some ⟨P, 1, none⟩)) rfl (by kernel_rfl) (by kernel_rfl) (by kernel_rfl) (fun _ _ _ h => h) (Or.inl ⟨by rfl, fun w hSw => by (try dsimp only at hSw); go_simp⟩) (by assumption) ?_
        try simp only [List.getElem_toArray, List.getElem_cons_zero, List.getElem_cons_succ, Act.put, List.setIfInBounds_toArray, List.set_cons_zero, List.set_cons_succ]
        refine wpAnyH_take (i := 7) (v := .int .u8 y.st) rfl (by kernel_rfl) (by kernel_rfl) (by kernel_rfl) (fun _ _ _ h => h) (Or.inl ⟨by rfl, fun w hSw => by (try dsimp only at hSw); go_simp⟩) (by assumption) ?_
        try simp only [List.getElem_toArray, List.getElem_cons_zero, List.getElem_cons_succ, Act.put, List.setIfInBounds_toArray, List.set_cons_zero, List.set_cons_succ]
        refine wpAnyH_take (i := 8) (v := .int .u64 y.st) rfl (by kernel_rfl) (by kernel_rfl) (by kernel_rfl) (fun _ _ _ h => h) (Or.inl ⟨by rfl, fun w hSw => by (try dsimp only at hSw); go_simp⟩) (by assumption) ?_
        try simp only [List.getElem_toArray, List.getElem_cons_zero, List.getElem_cons_succ, Act.put, List.setIfInBounds_toArray, List.set_cons_zero, List.set_cons_succ]
        refine wpAnyH_take (i := 11) (v := .pointer (some ⟨P, 1, none⟩)) rfl (by kernel_rfl) (by kernel_rfl) (by kernel_rfl) (fun _ _ _ h => h) (Or.inl ⟨by rfl, fun w hSw => by (try dsimp only at hSw); go_simp⟩) (by assumption) ?_
        try simp only [List.getElem_toArray, List.getElem_cons_zero, List.getElem_cons_succ, Act.put, List.setIfInBounds_toArray, List.set_cons_zero, List.set_cons_succ]
        refine wpAnyH_take (i := 12) (v := .pointer (some ⟨P, 2, none⟩)) rfl (by kernel_rfl) (by kernel_rfl) (by kernel_rfl) (fun _ _ _ h => h) (Or.inl ⟨by rfl, fun w hSw => by (try dsimp only at hSw); go_simp⟩) (by assumption) ?_
        try simp only [List.getElem_toArray, List.getElem_cons_zero, List.getElem_cons_succ, Act.put, List.setIfInBounds_toArray, List.set_cons_zero, List.set_cons_succ]
        refine wpAnyH_take (i := 13) (v := .int .u32 y.inc) rfl (by kernel_rfl) (by kernel_rfl) (by kernel_rfl) (fun _ _ _ h => h) (Or.inl ⟨by rfl, fun w hSw => by (try dsimp only at hSw); go_simp⟩) (by assumption) ?_
        try simp only [List.getElem_toArray, List.getElem_cons_zero, List.getElem_cons_succ, Act.put, List.setIfInBounds_toArray, List.set_cons_zero, List.set_cons_succ]
        refine wpAnyH_take (i := 14) (v := .int .u64 y.inc) rfl (by kernel_rfl) (by kernel_rfl) (by kernel_rfl) (fun _ _ _ h => h) (Or.inl ⟨by rfl, fun w hSw => by (try dsimp only at hSw); go_simp⟩) (by assumption) ?_
        try simp only [List.getElem_toArray, List.getElem_cons_zero, List.getElem_cons_succ, Act.put, List.setIfInBounds_toArray, List.set_cons_zero, List.set_cons_succ]
        refine wpAnyH_ready (rs := [4]) (by kernel_rfl) (by simp) ?_
        refine AllReadyH.cons (i := 4) rfl (fun K hK => ?_) AllReadyH.nil
        go_simp
        refine (hp1 _).mono ?_
        rintro e w3 ⟨rfl, h3⟩
        replace AP := at_kept AP h3
        replace HB4 := hid (bs_kept HB4.out h3)
        clear h3
        clear hHeld
        show K _ _
        refine hK.out _ _ (box3 AP) (fun hHeld => ?_)
        clear hK K
        try simp only [List.getElem_toArray, List.getElem_cons_zero, List.getElem_cons_succ, Act.put, List.setIfInBounds_toArray, List.set_cons_zero, List.set_cons_succ]
        refine wpAnyH_ready (rs := [9]) (by kernel_rfl) (by simp) ?_
        refine AllReadyH.cons (i := 9) rfl (fun K hK => ?_) AllReadyH.nil
        go_simp
        refine (hp2 _).mono ?_
        rintro e w3 ⟨rfl, h3⟩
        replace AP := at_kept AP h3
        replace HB4 := hid (bs_kept HB4.out h3)
        clear h3
        clear hHeld
        show K _ _
        refine hK.out _ _ (box3 AP) (fun hHeld => ?_)
        clear hK K
        try simp only [List.getElem_toArray, List.getElem_cons_zero, List.getElem_cons_succ, Act.put, List.setIfInBounds_toArray, List.set_cons_zero, List.set_cons_succ]
        refine wpAnyH_take (i := 10) (v := .string (D1 ++ D2)) rfl (by kernel_rfl) (by kernel_rfl) (by kernel_rfl) (fun _ _ _ h => h) (Or.inl ⟨by rfl, fun w hSw => by (try dsimp only at hSw); go_simp; first | omega | (simp only [ByteArray.size_append]; omega)⟩) (by assumption) ?_
        try simp only [List.getElem_toArray, List.getElem_cons_zero, List.getElem_cons_succ, Act.put, List.setIfInBounds_toArray, List.set_cons_zero, List.set_cons_succ]
        refine wpAnyH_ready (rs := [15]) (by kernel_rfl) (by simp) ?_
        refine AllReadyH.cons (i := 15) rfl (fun K hK => ?_) AllReadyH.nil
        go_simp
        refine (hp3 _).mono ?_
        rintro e w3 ⟨rfl, h3⟩
        replace AP := at_kept AP h3
        replace HB4 := hid (bs_kept HB4.out h3)
        clear h3
        clear hHeld
        show K _ _
        refine hK.out _ _ (box3 AP) (fun hHeld => ?_)
        clear hK K
        try simp only [List.getElem_toArray, List.getElem_cons_zero, List.getElem_cons_succ, Act.put, List.setIfInBounds_toArray, List.set_cons_zero, List.set_cons_succ]
        refine wpAnyH_take (i := 16) (v := .string (D1 ++ D2 ++ D3)) rfl (by kernel_rfl) (by kernel_rfl) (by kernel_rfl) (fun _ _ _ h => h) (Or.inl ⟨by rfl, fun w hSw => by (try dsimp only at hSw); go_simp; first | omega | (simp only [ByteArray.size_append]; omega)⟩) (by assumption) ?_
        try simp only [List.getElem_toArray, List.getElem_cons_zero, List.getElem_cons_succ, Act.put, List.setIfInBounds_toArray, List.set_cons_zero, List.set_cons_succ]
        have hbig : (D1 ++ D2 ++ D3).size ≤ 24 := by simp only [ByteArray.size_append]; omega
        have HEq2 : Hid (D1 ++ D2 ++ D3 = newsB y) := HEq
        generalize D1 ++ D2 ++ D3 = BG at *
        refine wpAnyH_ready (rs := [17]) (by kernel_rfl) (by simp) ?_
        refine AllReadyH.cons (i := 17) rfl (fun K hK => ?_) AllReadyH.nil
        obtain ⟨v', w', hr, hm, hg⟩ := mk_app_str 51 HB4.out.r BG HB4.out.k.2 (by rw [sizeU]; omega)
        refine op_run (.tmp 54) (.tmp 70) 9 rfl _ _ _ rfl rfl hr ?_
        have HBe0 := hid (bs_app HB4.out hg (by rw [toL_app]; exact hm) (S' := S ++ BG))
        have AP9 := at_mk AP HB4.out.r hg (by decide)
        clear hr hm hg AP
        have AP := AP9
        clear AP9
        obtain ⟨ge, ce, ee⟩ := mk_is HBe0.out.r
        obtain ⟨ne, hne⟩ : ∃ n, (S ++ BG).data.toList.length = n := ⟨_, rfl⟩
        rw [hne] at ee
        clear hne
        subst ee
        clear hHeld
        show K _ _
        refine hK.out _ _ (box3 AP) (fun hHeld => ?_)
        clear hK K
        try simp only [List.getElem_toArray, List.getElem_cons_zero, List.getElem_cons_succ, Act.put, List.setIfInBounds_toArray, List.set_cons_zero, List.set_cons_succ]
        refine wpAnyH_take (i := 18) (v := .slice (some ⟨ge, 0, none⟩) ne ce) rfl (by kernel_rfl) (by kernel_rfl) (by kernel_rfl) (fun _ _ _ h => h) (Or.inl ⟨by rfl, fun w hSw => by (try dsimp only at hSw); go_simp⟩) (by assumption) ?_
        try simp only [List.getElem_toArray, List.getElem_cons_zero, List.getElem_cons_succ, Act.put, List.setIfInBounds_toArray, List.set_cons_zero, List.set_cons_succ]
        refine wpAnyH_done (by kernel_rfl) ?_ _
        refine NoPanic.normal ?_
        clear hHeld AP
        rw [HEq2.out] at HBe0 hbig
        have HBe := HBe0
        have hsz : (newsB y).size ≤ 24 := hbig
        go_wp2_with fail
        go_roundw
        case rel => exact ⟨j + 1, S ++ newsB y, _, _, _, by omega, by go_num, rfl, by rw [ByteArray.size_append]; omega, HS2, HBe⟩
        case measure => simp [intOf]; omega
      · have hltz : ¬ (j : Int) < (n1 : Int) := by omega
        have hjn : j = n1 := by omega
        have HSe : Hid (S = S0 ++ (F1 ++ catB newsB m.news)) := hid (by rw [HS.out, hjn, HQN.out, ← hSN, ByteArray.append_assoc])
        have hsEN : S.size ≤ 8192048 := by have := HL.out; omega
        clear HS hS hj
        have HBN9 := HBj
        obtain ⟨TN, hTN⟩ : ∃ z, S = z := ⟨_, rfl⟩
        rw [hTN] at HBN9 HSe hsEN
        clear hTN HBj
        have HAllN := HSe
        clear HSe
        obtain ⟨⟨x0, x1, x2, x3, x4, x5, x6, x7, x8, x9, xa, xb⟩, -⟩ := cells12 HBN9.out.x
        have hzK := HZK.out
        go_wp2_with fail
        refine (hpK _).mono ?_
        rintro e wK1 ⟨rfl, kK1⟩
        have HBK1 := hid (bs_kept HBN9.out kK1)
        clear kK1 hpK qK x0 x1 x2 x3 x4 x5 x6 x7 x8 x9 xa xb
        obtain ⟨⟨x0, x1, x2, x3, x4, x5, x6, x7, x8, x9, xa, xb⟩, -⟩ := cells12 HBK1.out.x
        go_wp2_with (at_builtin; refine wpList_mkstr rfl (.tmp 73) (.tmp 78) rfl rfl HBK1.out.r rfl HBK1.out.k.2 (by rw [sizeU]; omega) ?_; intro v' w' hm hg; have HBK2 := hid (bs_app HBK1.out hg (by rw [toL_app]; exact hm) (S' := TN ++ F2)); obtain ⟨gHBK2, cHBK2, eHBK2⟩ := mk_is HBK2.out.r; obtain ⟨nHBK2, hnHBK2⟩ : ∃ n, (TN ++ F2).data.toList.length = n := ⟨_, rfl⟩; rw [hnHBK2] at eHBK2; clear hm hg hnHBK2; subst eHBK2; clear x0 x1 x2 x3 x4 x5 x6 x7 x8 x9 xa xb; obtain ⟨⟨x0, x1, x2, x3, x4, x5, x6, x7, x8, x9, xa, xb⟩, -⟩ := cells12 HBK2.out.x)
        clear x0 x1 x2 x3 x4 x5 x6 x7 x8 x9 xa xb
        have hsK : (TN ++ F2).size ≤ 8192056 := by rw [ByteArray.size_append]; omega
        generalize hSK : TN ++ F2 = SK at *
        go_loopw [3, 83] (fun bv iv wr => ∃ (j : Nat) (S : ByteArray) (g cap nn : Nat), j ≤ n2 ∧ iv = .int .i64 (j : Int) ∧ bv = .slice (some ⟨g, 0, none⟩) nn cap ∧ S.size ≤ 8192056 + 2000 * j ∧ Hid (S = SK ++ catB textE (m.keys.take j)) ∧ Hid (Bs w X #[.int .u8 m.kind, .int .u8 m.frm, .int .u8 m.dst, .int .u32 m.id, .int .u8 m.tgt, .int .u8 m.rng, .bool m.flag, .slice a1 n1 c1, .slice a2 n2 c2, .slice a3 n3 c3, .slice a4 n4 c4, .slice a5 n5 c5] (.slice (some ⟨g, 0, none⟩) nn cap) S wr)) (fun _ iv _ => n2 - (intOf iv).toNat)
        case atStart => exact ⟨0, SK, _, _, _, Nat.zero_le _, rfl, rfl, by omega, hid (by rw [List.take_zero, catB_nil, mapp_nil]), HBK2⟩
        case round =>
          obtain ⟨j, S, g, cap, nn, hj, rfl, rfl, hS, HS, HBj⟩ := hrel
          clear HBK2 hsK
          by_cases hlt : j < n2
          · have hltz : (j : Int) < (n2 : Int) := by omega
            obtain ⟨y, hy⟩ := HGK.out j hlt
            obtain ⟨g1, o1, rfl⟩ := HPK.out (by omega)
            have hyP := HF.out.k y (List.mem_of_getElem? hy)
            have HS2 : Hid (S ++ textE y = SK ++ catB textE (m.keys.take (j + 1))) := hid (by rw [HTK.out j y hy, HS.out, ByteArray.append_assoc])
            obtain ⟨⟨x0, x1, x2, x3, x4, x5, x6, x7, x8, x9, xa, xb⟩, -⟩ := cells12 HBj.out.x
            have c0 := rg_K (rg_kept encK_ok HM.out.k HBj.out.k) hy
            have hT := refText_kept y (by omega)
            have hsz : (textE y).size ≤ 300 := by have := textE_lim y; omega
            clear hy hyP
            go_wp2_with fail
            refine (hT _).mono ?_
            rintro e w2 ⟨rfl, k2⟩
            have HB2 := hid (bs_kept HBj.out k2)
            clear k2 hT c0 x0 x1 x2 x3 x4 x5 x6 x7 x8 x9 xa xb
            go_wp2_with (at_builtin; refine wpList_mkstr rfl (.tmp 86) (.tmp 92) rfl rfl HB2.out.r rfl HB2.out.k.2 (by rw [sizeU]; omega) ?_; intro v' w' hm hg; have HBe := hid (bs_app HB2.out hg (by rw [toL_app]; exact hm) (S' := S ++ textE y)); obtain ⟨gHBe, cHBe, eHBe⟩ := mk_is HBe.out.r; obtain ⟨nHBe, hnHBe⟩ : ∃ n, (S ++ textE y).data.toList.length = n := ⟨_, rfl⟩; rw [hnHBe] at eHBe; clear hm hg hnHBe; subst eHBe)
            go_roundw
            case rel => exact ⟨j + 1, S ++ textE y, _, _, _, by omega, by go_num, rfl, by rw [ByteArray.size_append]; omega, HS2, HBe⟩
            case measure => simp [intOf]; omega
          · have hltz : ¬ (j : Int) < (n2 : Int) := by omega
            have hjn : j = n2 := by omega
            have HSe : Hid (S = TN ++ (F2 ++ catB textE m.keys)) := hid (by rw [HS.out, hjn, HQK.out, ← hSK, ByteArray.append_assoc])
            have hsEK : S.size ≤ 16384056 := by have := HL.out; omega
            clear HS hS hj
            have HBK9 := HBj
            obtain ⟨TK, hTK⟩ : ∃ z, S = z := ⟨_, rfl⟩
            rw [hTK] at HBK9 HSe hsEK
            clear hTK HBj
            have HAllK := hid (show TK = _ from by rw [HSe.out, HAllN.out])
            clear HSe
            obtain ⟨⟨x0, x1, x2, x3, x4, x5, x6, x7, x8, x9, xa, xb⟩, -⟩ := cells12 HBK9.out.x
            have hzR := HZR.out
            go_wp2_with fail
            refine (hpR _).mono ?_
            rintro e wR1 ⟨rfl, kR1⟩
            have HBR1 := hid (bs_kept HBK9.out kR1)
            clear kR1 hpR qR x0 x1 x2 x3 x4 x5 x6 x7 x8 x9 xa xb
            obtain ⟨⟨x0, x1, x2, x3, x4, x5, x6, x7, x8, x9, xa, xb⟩, -⟩ := cells12 HBR1.out.x
            go_wp2_with (at_builtin; refine wpList_mkstr rfl (.tmp 95) (.tmp 100) rfl rfl HBR1.out.r rfl HBR1.out.k.2 (by rw [sizeU]; omega) ?_; intro v' w' hm hg; have HBR2 := hid (bs_app HBR1.out hg (by rw [toL_app]; exact hm) (S' := TK ++ F3)); obtain ⟨gHBR2, cHBR2, eHBR2⟩ := mk_is HBR2.out.r; obtain ⟨nHBR2, hnHBR2⟩ : ∃ n, (TK ++ F3).data.toList.length = n := ⟨_, rfl⟩; rw [hnHBR2] at eHBR2; clear hm hg hnHBR2; subst eHBR2; clear x0 x1 x2 x3 x4 x5 x6 x7 x8 x9 xa xb; obtain ⟨⟨x0, x1, x2, x3, x4, x5, x6, x7, x8, x9, xa, xb⟩, -⟩ := cells12 HBR2.out.x)
            clear x0 x1 x2 x3 x4 x5 x6 x7 x8 x9 xa xb
            have hsR : (TK ++ F3).size ≤ 16384064 := by rw [ByteArray.size_append]; omega
            generalize hSR : TK ++ F3 = SR at *
            go_loopw [3, 105] (fun bv iv wr => ∃ (j : Nat) (S : ByteArray) (g cap nn : Nat), j ≤ n3 ∧ iv = .int .i64 (j : Int) ∧ bv = .slice (some ⟨g, 0, none⟩) nn cap ∧ S.size ≤ 16384064 + 2000 * j ∧ Hid (S = SR ++ catB putR (m.recs.take j)) ∧ Hid (Bs w X #[.int .u8 m.kind, .int .u8 m.frm, .int .u8 m.dst, .int .u32 m.id, .int .u8 m.tgt, .int .u8 m.rng, .bool m.flag, .slice a1 n1 c1, .slice a2 n2 c2, .slice a3 n3 c3, .slice a4 n4 c4, .slice a5 n5 c5] (.slice (some ⟨g, 0, none⟩) nn cap) S wr)) (fun _ iv _ => n3 - (intOf iv).toNat)
            case atStart => exact ⟨0, SR, _, _, _, Nat.zero_le _, rfl, rfl, by omega, hid (by rw [List.take_zero, catB_nil, mapp_nil]), HBR2⟩
            case round =>
              obtain ⟨j, S, g, cap, nn, hj, rfl, rfl, hS, HS, HBj⟩ := hrel
              clear HBR2 hsR
              by_cases hlt : j < n3
              · have hltz : (j : Int) < (n3 : Int) := by omega
                obtain ⟨y, hy⟩ := HGR.out j hlt
                obtain ⟨g1, o1, rfl⟩ := HPR.out (by omega)
                have hyP := HF.out.r y (List.mem_of_getElem? hy)
                have HS2 : Hid (S ++ putR y = SR ++ catB putR (m.recs.take (j + 1))) := hid (by rw [HTR.out j y hy, HS.out, ByteArray.append_assoc])
                obtain ⟨⟨x0, x1, x2, x3, x4, x5, x6, x7, x8, x9, xa, xb⟩, -⟩ := cells12 HBj.out.x
                obtain ⟨c0, c1, c2, c3, c4, c5, c6, c7⟩ := rg_R (rg_kept encR_ok HM.out.r HBj.out.k) hy
                have hT := refPutR_any y hyP.1
                unfold putV at hT
                simp only [hyP.2, if_true] at hT
                have hsz := recB_lim hyP.1 hyP.2
                clear hy hyP
                go_wp2_with fail
                refine (hT _).mono ?_
                rintro e w2 ⟨rfl, k2⟩
                have HB2 := hid (bs_kept HBj.out k2)
                clear k2 hT c0 c1 c2 c3 c4 c5 c6 c7 x0 x1 x2 x3 x4 x5 x6 x7 x8 x9 xa xb
                go_wp2_with (at_builtin; refine wpList_mkstr rfl (.tmp 117) (.tmp 118) rfl rfl HB2.out.r rfl HB2.out.k.2 (by rw [sizeU]; omega) ?_; intro v' w' hm hg; have HBe := hid (bs_app HB2.out hg (by rw [toL_app]; exact hm) (S' := S ++ putR y)); obtain ⟨gHBe, cHBe, eHBe⟩ := mk_is HBe.out.r; obtain ⟨nHBe, hnHBe⟩ : ∃ n, (S ++ putR y).data.toList.length = n := ⟨_, rfl⟩; rw [hnHBe] at eHBe; clear hm hg hnHBe; subst eHBe)
                go_roundw
                case rel => exact ⟨j + 1, S ++ putR y, _, _, _, by omega, by go_num, rfl, by rw [ByteArray.size_append]; omega, HS2, HBe⟩
                case measure => simp [intOf]; omega
              · have hltz : ¬ (j : Int) < (n3 : Int) := by omega
                have hjn : j = n3 := by omega
                have HSe : Hid (S = TK ++ (F3 ++ catB putR m.recs)) := hid (by rw [HS.out, hjn, HQR.out, ← hSR, ByteArray.append_assoc])
                have hsER : S.size ≤ 24576064 := by have := HL.out; omega
                clear HS hS hj
                have HBR9 := HBj
                obtain ⟨TR, hTR⟩ : ∃ z, S = z := ⟨_, rfl⟩
                rw [hTR] at HBR9 HSe hsER
                clear hTR HBj
                have HAllR := hid (show TR = _ from by rw [HSe.out, HAllK.out])
                clear HSe
                obtain ⟨⟨x0, x1, x2, x3, x4, x5, x6, x7, x8, x9, xa, xb⟩, -⟩ := cells12 HBR9.out.x
                have hzS := HZS.out
                go_wp2_with fail
                refine (hpS _).mono ?_
                rintro e wS1 ⟨rfl, kS1⟩
                have HBS1 := hid (bs_kept HBR9.out kS1)
                clear kS1 hpS qS x0 x1 x2 x3 x4 x5 x6 x7 x8 x9 xa xb
                obtain ⟨⟨x0, x1, x2, x3, x4, x5, x6, x7, x8, x9, xa, xb⟩, -⟩ := cells12 HBS1.out.x
                go_wp2_with (at_builtin; refine wpList_mkstr rfl (.tmp 121) (.tmp 126) rfl rfl HBS1.out.r rfl HBS1.out.k.2 (by rw [sizeU]; omega) ?_; intro v' w' hm hg; have HBS2 := hid (bs_app HBS1.out hg (by rw [toL_app]; exact hm) (S' := TR ++ F4)); obtain ⟨gHBS2, cHBS2, eHBS2⟩ := mk_is HBS2.out.r; obtain ⟨nHBS2, hnHBS2⟩ : ∃ n, (TR ++ F4).data.toList.length = n := ⟨_, rfl⟩; rw [hnHBS2] at eHBS2; clear hm hg hnHBS2; subst eHBS2; clear x0 x1 x2 x3 x4 x5 x6 x7 x8 x9 xa xb; obtain ⟨⟨x0, x1, x2, x3, x4, x5, x6, x7, x8, x9, xa, xb⟩, -⟩ := cells12 HBS2.out.x)
                clear x0 x1 x2 x3 x4 x5 x6 x7 x8 x9 xa xb
                have hsS : (TR ++ F4).size ≤ 24576072 := by rw [ByteArray.size_append]; omega
                generalize hSS : TR ++ F4 = SS at *
                go_loopw [3, 131] (fun bv iv wr => ∃ (j : Nat) (S : ByteArray) (g cap nn : Nat), j ≤ n4 ∧ iv = .int .i64 (j : Int) ∧ bv = .slice (some ⟨g, 0, none⟩) nn cap ∧ S.size ≤ 24576072 + 2000 * j ∧ Hid (S = SS ++ catB seenB (m.seen.take j)) ∧ Hid (Bs w X #[.int .u8 m.kind, .int .u8 m.frm, .int .u8 m.dst, .int .u32 m.id, .int .u8 m.tgt, .int .u8 m.rng, .bool m.flag, .slice a1 n1 c1, .slice a2 n2 c2, .slice a3 n3 c3, .slice a4 n4 c4, .slice a5 n5 c5] (.slice (some ⟨g, 0, none⟩) nn cap) S wr)) (fun _ iv _ => n4 - (intOf iv).toNat)
                case atStart => exact ⟨0, SS, _, _, _, Nat.zero_le _, rfl, rfl, by omega, hid (by rw [List.take_zero, catB_nil, mapp_nil]), HBS2⟩
                case round =>
                  obtain ⟨j, S, g, cap, nn, hj, rfl, rfl, hS, HS, HBj⟩ := hrel
                  clear HBS2 hsS
                  by_cases hlt : j < n4
                  · have hltz : (j : Int) < (n4 : Int) := by omega
                    obtain ⟨y, hy⟩ := HGS.out j hlt
                    obtain ⟨g1, o1, rfl⟩ := HPS.out (by omega)
                    have hyP := HF.out.s y (List.mem_of_getElem? hy)
                    have HS2 : Hid (S ++ seenB y = SS ++ catB seenB (m.seen.take (j + 1))) := hid (by rw [HTS.out j y hy, HS.out, ByteArray.append_assoc])
                    obtain ⟨⟨x0, x1, x2, x3, x4, x5, x6, x7, x8, x9, xa, xb⟩, -⟩ := cells12 HBj.out.x
                    obtain ⟨c0, c1, c2, c3, c4⟩ := rg_S (rg_kept encS_ok HM.out.s HBj.out.k) hy
                    obtain ⟨⟨o1a, o2a, o5a⟩, hmS⟩ := hyP
                    obtain ⟨p1a, p2a, p3a, p4a, p5a, p6a⟩ := o2a
                    obtain ⟨f1a, f2a⟩ := mayS_facts hmS
                    have q3 : IntKind.u64.wrap y.s.l = y.s.l := wrap64 (by omega)
                    have q4 : IntKind.u64.wrap y.s.n = y.s.n := wrap64 (by omega)
                    have q5 : IntKind.u64.wrap y.kind = y.kind := wrap64 (by omega)
                    have hp1 := refText_kept y.key (by omega)
                    have hp2 := putS_any y.s.p (by omega)
                    have hp3 := putS_any y.s.l (by omega)
                    have hp4 := putS_any y.s.n (by omega)
                    have hp5 := putS_any y.kind (by omega)
                    have e1 := textE_lim y.key
                    replace e1 : (textE y.key).size ≤ 300 := by omega
                    have e2 := encI_size y.s.p
                    have e3 := encI_size y.s.l
                    have e4 := encI_size y.s.n
                    have e5 := encI_size y.kind
                    have HEq : Hid (textE y.key ++ encI y.s.p ++ encI y.s.l ++ encI y.s.n ++ encI y.kind = seenB y) := hid rfl
                    clear hmS
                    generalize textE y.key = D1 at *
                    generalize encI y.s.p = D2 at *
                    generalize encI y.s.l = D3 at *
                    generalize encI y.s.n = D4 at *
                    generalize encI y.kind = D5 at *
                    have kb := kept_alloc (kept_refl wr) (.cells #[.string y.key, .int .u64 y.s.p, .int .u32 y.s.l, .int .u8 y.s.n, .int .u8 y.kind] 59)
                    have HBb := hid (bs_kept HBj.out kb)
                    have HPb := hid (at_new wr #[.string y.key, .int .u64 y.s.p, .int .u32 y.s.l, .int .u8 y.s.n, .int .u8 y.kind] 59)
                    clear kb hy
                    go_wp2_with fail
                    clear c0 c1 c2 c3 c4 x0 x1 x2 x3 x4 x5 x6 x7 x8 x9 xa xb
                    generalize hPP : wr.heap.size = P at *
                    refine wp_region_noPanic ?_
                    refine wp_region_held_drew (S := (fun w' => (w'.cell? ⟨P, 0, none⟩ = some (.string y.key)) ∧ (w'.cell? ⟨P, 1, none⟩ = some (.int .u64 y.s.p)) ∧ (w'.cell? ⟨P, 2, none⟩ = some (.int .u32 y.s.l)) ∧ (w'.cell? ⟨P, 3, none⟩ = some (.int .u8 y.s.n)) ∧ (w'.cell? ⟨P, 4, none⟩ = some (.int .u8 y.kind)))) (by kernel_rfl) (box5 (show At (wr.alloc (.cells #[.string y.key, .int .u64 y.s.p, .int .u32 y.s.l, .int .u8 y.s.n, .int .u8 y.kind] 59)).drew P #[.string y.key, .int .u64 y.s.p, .int .u32 y.s.l, .int .u8 y.s.n, .int .u8 y.kind] 59 from HPb.out)) (fun hHeld => ?_)
                    generalize hwd : (wr.alloc (.cells #[.string y.key, .int .u64 y.s.p, .int .u32 y.s.l, .int .u8 y.s.n, .int .u8 y.kind] 59)).drew = wd at *
                    have AP : At wd P #[.string y.key, .int .u64 y.s.p, .int .u32 y.s.l, .int .u8 y.s.n, .int .u8 y.kind] 59 := by rw [← hwd]; exact HPb.out
                    have HB4 := hid (show Bs w X _ (.slice (some ⟨g, 0, none⟩) nn cap) S wd from by rw [← hwd]; exact bs_kept HBb.out (kept_drew (kept_refl _)))
                    clear hwd
                    refine wpAnyH_take (i := 0) (v := .slice (some ⟨g, 0, none⟩) nn cap) rfl (by kernel_rfl) (by kernel_rfl) (by kernel_rfl) (fun _ _ _ h => h) (Or.inl ⟨by rfl, fun w hSw => by (try dsimp only at hSw); go_simp⟩) (by assumption) ?_
                    try simp only [List.getElem_toArray, List.getElem_cons_zero, List.getElem_cons_succ, Act.put, List.setIfInBounds_toArray, List.set_cons_zero, List.set_cons_succ]
                    refine wpAnyH_take (i := 1) (v := .pointer (some ⟨P, 0, none⟩)) rfl (by kernel_rfl) (by kernel_rfl) (by kernel_rfl) (fun _ _ _ h => h) (Or.inl ⟨by rfl, fun w hSw => by (try dsimp only at hSw); go_simp⟩) (by assumption) ?_
                    try simp only [List.getElem_toArray, List.getElem_cons_zero, List.getElem_cons_succ, Act.put, List.setIfInBounds_toArray, List.set_cons_zero, List.set_cons_succ]
                    refine wpAnyH_take (i := 2) (v := .string y.key) rfl (by kernel_rfl) (by kernel_rfl) (by kernel_rfl) (fun _ _ _ h => h) (Or.inl ⟨by rfl, fun w hSw => by (try dsimp only at hSw); go_simp⟩) (by assumption) ?_
                    try simp only [List.getElem_toArray, List.getElem_cons_zero, List.getElem_cons_succ, Act.put, List.setIfInBounds_toArray, List.set_cons_zero, List.set_cons_succ]
                    refine wpAnyH_take (i := 4) (v := .pointer (some ⟨P, 1, none⟩)) rfl (by kernel_rfl) (by kernel_rfl) (by kernel_rfl) (fun _ _ _ h => h) (Or.inl ⟨by rfl, fun w hSw => by (try dsimp only at hSw); go_simp⟩) (by assumption) ?_
                    try simp only [List.getElem_toArray, List.getElem_cons_zero, List.getElem_cons_succ, Act.put, List.setIfInBounds_toArray, List.set_cons_zero, List.set_cons_succ]
                    refine wpAnyH_take (i := 5) (v := .pointer (some ⟨P, 1, none⟩)) rfl (by kernel_rfl) (by kernel_rfl) (by kernel_rfl) (fun _ _ _ h => h) (Or.inl ⟨by rfl, fun w hSw => by (try dsimp only at hSw); go_simp⟩) (by assumption) ?_
                    try simp only [List.getElem_toArray, List.getElem_cons_zero, List.getElem_cons_succ, Act.put, List.setIfInBounds_toArray, List.set_cons_zero, List.set_cons_succ]
                    refine wpAnyH_take (i := 6) (v := .int .u64 y.s.p) rfl (by kernel_rfl) (by kernel_rfl) (by kernel_rfl) (fun _ _ _ h => h) (Or.inl ⟨by rfl, fun w hSw => by (try dsimp only at hSw); go_simp⟩) (by assumption) ?_
                    try simp only [List.getElem_toArray, List.getElem_cons_zero, List.getElem_cons_succ, Act.put, List.setIfInBounds_toArray, List.set_cons_zero, List.set_cons_succ]
                    refine wpAnyH_take (i := 9) (v := .pointer (some ⟨P, 1, none⟩)) rfl (by kernel_rfl) (by kernel_rfl) (by kernel_rfl) (fun _ _ _ h => h) (Or.inl ⟨by rfl, fun w hSw => by (try dsimp only at hSw); go_simp⟩) (by assumption) ?_
                    try simp only [List.getElem_toArray, List.getElem_cons_zero, List.getElem_cons_succ, Act.put, List.setIfInBounds_toArray, List.set_cons_zero, List.set_cons_succ]
                    refine wpAnyH_take (i := 10) (v := .pointer (some ⟨P, 2, none⟩)) rfl (by kernel_rfl) (by kernel_rfl) (by kernel_rfl) (fun _ _ _ h => h) (Or.inl ⟨by rfl, fun w hSw => by (try dsimp only at hSw); go_simp⟩) (by assumption) ?_
                    try simp only [List.getElem_toArray, List.getElem_cons_zero, List.getElem_cons_succ, Act.put, List.setIfInBounds_toArray, List.set_cons_zero, List.set_cons_succ]
                    refine wpAnyH_take (i := 11) (v := .int .u32 y.s.l) rfl (by kernel_rfl) (by kernel_rfl) (by kernel_rfl) (fun _ _ _ h => h) (Or.inl ⟨by rfl, fun w hSw => by (try dsimp only at hSw); go_simp⟩) (by assumption) ?_
                    try simp only [List.getElem_toArray, List.getElem_cons_zero, List.getElem_cons_succ, Act.put, List.setIfInBounds_toArray, List.set_cons_zero, List.set_cons_succ]
                    refine wpAnyH_take (i := 12) (v := .int .u64 y.s.l) rfl (by kernel_rfl) (by kernel_rfl) (by kernel_rfl) (fun _ _ _ h => h) (Or.inl ⟨by rfl, fun w hSw => by (try dsimp only at hSw); go_simp⟩) (by assumption) ?_
                    try simp only [List.getElem_toArray, List.getElem_cons_zero, List.getElem_cons_succ, Act.put, List.setIfInBounds_toArray, List.set_cons_zero, List.set_cons_succ]
                    refine wpAnyH_take (i := 15) (v := .pointer (some ⟨P, 1, none⟩)) rfl (by kernel_rfl) (by kernel_rfl) (by kernel_rfl) (fun _ _ _ h => h) (Or.inl ⟨by rfl, fun w hSw => by (try dsimp only at hSw); go_simp⟩) (by assumption) ?_
                    try simp only [List.getElem_toArray, List.getElem_cons_zero, List.getElem_cons_succ, Act.put, List.setIfInBounds_toArray, List.set_cons_zero, List.set_cons_succ]
                    refine wpAnyH_take (i := 16) (v := .pointer (some ⟨P, 3, none⟩)) rfl (by kernel_rfl) (by kernel_rfl) (by kernel_rfl) (fun _ _ _ h => h) (Or.inl ⟨by rfl, fun w hSw => by (try dsimp only at hSw); go_simp⟩) (by assumption) ?_
                    try simp only [List.getElem_toArray, List.getElem_cons_zero, List.getElem_cons_succ, Act.put, List.setIfInBounds_toArray, List.set_cons_zero, List.set_cons_succ]
                    refine wpAnyH_take (i := 17) (v := .int .u8 y.s.n) rfl (by kernel_rfl) (by kernel_rfl) (by kernel_rfl) (fun _ _ _ h => h) (Or.inl ⟨by rfl, fun w hSw => by (try dsimp only at hSw); go_simp⟩) (by assumption) ?_
                    try simp only [List.getElem_toArray, List.getElem_cons_zero, List.getElem_cons_succ, Act.put, List.setIfInBounds_toArray, List.set_cons_zero, List.set_cons_succ]
                    refine wpAnyH_take (i := 18) (v := .int .u64 y.s.n) rfl (by kernel_rfl) (by kernel_rfl) (by kernel_rfl) (fun _ _ _ h => h) (Or.inl ⟨by rfl, fun w hSw => by (try dsimp only at hSw); go_simp⟩) (by assumption) ?_
                    try simp only [List.getElem_toArray, List.getElem_cons_zero, List.getElem_cons_succ, Act.put, List.setIfInBounds_toArray, List.set_cons_zero, List.set_cons_succ]
                    refine wpAnyH_take (i := 21) (v := .pointer (some ⟨P, 4, none⟩)) rfl (by kernel_rfl) (by kernel_rfl) (by kernel_rfl) (fun _ _ _ h => h) (Or.inl ⟨by rfl, fun w hSw => by (try dsimp only at hSw); go_simp⟩) (by assumption) ?_
                    try simp only [List.getElem_toArray, List.getElem_cons_zero, List.getElem_cons_succ, Act.put, List.setIfInBounds_toArray, List.set_cons_zero, List.set_cons_succ]
                    refine wpAnyH_take (i := 22) (v := .int .u8 y.kind) rfl (by kernel_rfl) (by kernel_rfl) (by kernel_rfl) (fun _ _ _ h => h) (Or.inl ⟨by rfl, fun w hSw => by (try dsimp only at hSw); go_simp⟩) (by assumption) ?_
                    try simp only [List.getElem_toArray, List.getElem_cons_zero, List.getElem_cons_succ, Act.put, List.setIfInBounds_toArray, List.set_cons_zero, List.set_cons_succ]
                    refine wpAnyH_take (i := 23) (v := .int .u64 y.kind) rfl (by kernel_rfl) (by kernel_rfl) (by kernel_rfl) (fun _ _ _ h => h) (Or.inl ⟨by rfl, fun w hSw => by (try dsimp only at hSw); go_simp⟩) (by assumption) ?_
                    try simp only [List.getElem_toArray, List.getElem_cons_zero, List.getElem_cons_succ, Act.put, List.setIfInBounds_toArray, List.set_cons_zero, List.set_cons_succ]
                    refine wpAnyH_ready (rs := [3]) (by kernel_rfl) (by simp) ?_
                    refine AllReadyH.cons (i := 3) rfl (fun K hK => ?_) AllReadyH.nil
                    go_simp
                    refine (hp1 _).mono ?_
                    rintro e w3 ⟨rfl, h3⟩
                    replace AP := at_kept AP h3
                    replace HB4 := hid (bs_kept HB4.out h3)
                    clear h3
                    clear hHeld
                    show K _ _
                    refine hK.out _ _ (box5 AP) (fun hHeld => ?_)
                    clear hK K
                    try simp only [List.getElem_toArray, List.getElem_cons_zero, List.getElem_cons_succ, Act.put, List.setIfInBounds_toArray, List.set_cons_zero, List.set_cons_succ]
                    refine wpAnyH_ready (rs := [7]) (by kernel_rfl) (by simp) ?_
                    refine AllReadyH.cons (i := 7) rfl (fun K hK => ?_) AllReadyH.nil
                    go_simp
                    refine (hp2 _).mono ?_
                    rintro e w3 ⟨rfl, h3⟩
                    replace AP := at_kept AP h3
                    replace HB4 := hid (bs_kept HB4.out h3)
                    clear h3
                    clear hHeld
                    show K _ _
                    refine hK.out _ _ (box5 AP) (fun hHeld => ?_)
                    clear hK K
                    try simp only [List.getElem_toArray, List.getElem_cons_zero, List.getElem_cons_succ, Act.put, List.setIfInBounds_toArray, List.set_cons_zero, List.set_cons_succ]
                    refine wpAnyH_take (i := 8) (v := .string (D1 ++ D2)) rfl (by kernel_rfl) (by kernel_rfl) (by kernel_rfl) (fun _ _ _ h => h) (Or.inl ⟨by rfl, fun w hSw => by (try dsimp only at hSw); go_simp; first | omega | (simp only [ByteArray.size_append]; omega)⟩) (by assumption) ?_
                    try simp only [List.getElem_toArray, List.getElem_cons_zero, List.getElem_cons_succ, Act.put, List.setIfInBounds_toArray, List.set_cons_zero, List.set_cons_succ]
                    refine wpAnyH_ready (rs := [13]) (by kernel_rfl) (by simp) ?_
                    refine AllReadyH.cons (i := 13) rfl (fun K hK => ?_) AllReadyH.nil
                    go_simp
                    refine (hp3 _).mono ?_
                    rintro e w3 ⟨rfl, h3⟩
                    replace AP := at_kept AP h3
                    replace HB4 := hid (bs_kept HB4.out h3)
                    clear h3
                    clear hHeld
                    show K _ _
                    refine hK.out _ _ (box5 AP) (fun hHeld => ?_)
                    clear hK K
                    try simp only [List.getElem_toArray, List.getElem_cons_zero, List.getElem_cons_succ, Act.put, List.setIfInBounds_toArray, List.set_cons_zero, List.set_cons_succ]
                    refine wpAnyH_take (i := 14) (v := .string (D1 ++ D2 ++ D3)) rfl (by kernel_rfl) (by kernel_rfl) (by kernel_rfl) (fun _ _ _ h => h) (Or.inl ⟨by rfl, fun w hSw => by (try dsimp only at hSw); go_simp; first | omega | (simp only [ByteArray.size_append]; omega)⟩) (by assumption) ?_
                    try simp only [List.getElem_toArray, List.getElem_cons_zero, List.getElem_cons_succ, Act.put, List.setIfInBounds_toArray, List.set_cons_zero, List.set_cons_succ]
                    refine wpAnyH_ready (rs := [19]) (by kernel_rfl) (by simp) ?_
                    refine AllReadyH.cons (i := 19) rfl (fun K hK => ?_) AllReadyH.nil
                    go_simp
                    refine (hp4 _).mono ?_
                    rintro e w3 ⟨rfl, h3⟩
                    replace AP := at_kept AP h3
                    replace HB4 := hid (bs_kept HB4.out h3)
                    clear h3
                    clear hHeld
                    show K _ _
                    refine hK.out _ _ (box5 AP) (fun hHeld => ?_)
                    clear hK K
                    try simp only [List.getElem_toArray, List.getElem_cons_zero, List.getElem_cons_succ, Act.put, List.setIfInBounds_toArray, List.set_cons_zero, List.set_cons_succ]
                    refine wpAnyH_take (i := 20) (v := .string (D1 ++ D2 ++ D3 ++ D4)) rfl (by kernel_rfl) (by kernel_rfl) (by kernel_rfl) (fun _ _ _ h => h) (Or.inl ⟨by rfl, fun w hSw => by (try dsimp only at hSw); go_simp; first | omega | (simp only [ByteArray.size_append]; omega)⟩) (by assumption) ?_
                    try simp only [List.getElem_toArray, List.getElem_cons_zero, List.getElem_cons_succ, Act.put, List.setIfInBounds_toArray, List.set_cons_zero, List.set_cons_succ]
                    refine wpAnyH_ready (rs := [24]) (by kernel_rfl) (by simp) ?_
                    refine AllReadyH.cons (i := 24) rfl (fun K hK => ?_) AllReadyH.nil
                    go_simp
                    refine (hp5 _).mono ?_
                    rintro e w3 ⟨rfl, h3⟩
                    replace AP := at_kept AP h3
                    replace HB4 := hid (bs_kept HB4.out h3)
                    clear h3
                    clear hHeld
                    show K _ _
                    refine hK.out _ _ (box5 AP) (fun hHeld => ?_)
                    clear hK K
                    try simp only [List.getElem_toArray, List.getElem_cons_zero, List.getElem_cons_succ, Act.put, List.setIfInBounds_toArray, List.set_cons_zero, List.set_cons_succ]
                    refine wpAnyH_take (i := 25) (v := .string (D1 ++ D2 ++ D3 ++ D4 ++ D5)) rfl (by kernel_rfl) (by kernel_rfl) (by kernel_rfl) (fun _ _ _ h => h) (Or.inl ⟨by rfl, fun w hSw => by (try dsimp only at hSw); go_simp; first | omega | (simp only [ByteArray.size_append]; omega)⟩) (by assumption) ?_
                    try simp only [List.getElem_toArray, List.getElem_cons_zero, List.getElem_cons_succ, Act.put, List.setIfInBounds_toArray, List.set_cons_zero, List.set_cons_succ]
                    have hbig : (D1 ++ D2 ++ D3 ++ D4 ++ D5).size ≤ 340 := by simp only [ByteArray.size_append]; omega
                    have HEq2 : Hid (D1 ++ D2 ++ D3 ++ D4 ++ D5 = seenB y) := HEq
                    generalize D1 ++ D2 ++ D3 ++ D4 ++ D5 = BG at *
                    refine wpAnyH_ready (rs := [26]) (by kernel_rfl) (by simp) ?_
                    refine AllReadyH.cons (i := 26) rfl (fun K hK => ?_) AllReadyH.nil
                    obtain ⟨v', w', hr, hm, hg⟩ := mk_app_str 51 HB4.out.r BG HB4.out.k.2 (by rw [sizeU]; omega)
                    refine op_run (.tmp 139) (.tmp 164) 9 rfl _ _ _ rfl rfl hr ?_
                    have HBe0 := hid (bs_app HB4.out hg (by rw [toL_app]; exact hm) (S' := S ++ BG))
                    have AP9 := at_mk AP HB4.out.r hg (by decide)
                    clear hr hm hg AP
                    have AP := AP9
                    clear AP9
                    obtain ⟨ge, ce, ee⟩ := mk_is HBe0.out.r
                    obtain ⟨ne, hne⟩ : ∃ n, (S ++ BG).data.toList.length = n := ⟨_, rfl⟩
                    rw [hne] at ee
                    clear hne
                    subst ee
                    clear hHeld
                    show K _ _
                    refine hK.out _ _ (box5 AP) (fun hHeld => ?_)
                    clear hK K
                    try simp only [List.getElem_toArray, List.getElem_cons_zero, List.getElem_cons_succ, Act.put, List.setIfInBounds_toArray, List.set_cons_zero, List.set_cons_succ]
                    refine wpAnyH_take (i := 27) (v := .slice (some ⟨ge, 0, none⟩) ne ce) rfl (by kernel_rfl) (by kernel_rfl) (by kernel_rfl) (fun _ _ _ h => h) (Or.inl ⟨by rfl, fun w hSw => by (try dsimp only at hSw); go_simp⟩) (by assumption) ?_
                    try simp only [List.getElem_toArray, List.getElem_cons_zero, List.getElem_cons_succ, Act.put, List.setIfInBounds_toArray, List.set_cons_zero, List.set_cons_succ]
                    refine wpAnyH_done (by kernel_rfl) ?_ _
                    refine NoPanic.normal ?_
                    clear hHeld AP
                    rw [HEq2.out] at HBe0 hbig
                    have HBe := HBe0
                    have hsz : (seenB y).size ≤ 340 := hbig
                    go_wp2_with fail
                    go_roundw
                    case rel => exact ⟨j + 1, S ++ seenB y, _, _, _, by omega, by go_num, rfl, by rw [ByteArray.size_append]; omega, HS2, HBe⟩
                    case measure => simp [intOf]; omega
                  · have hltz : ¬ (j : Int) < (n4 : Int) := by omega
                    have hjn : j = n4 := by omega
                    have HSe : Hid (S = TR ++ (F4 ++ catB seenB m.seen)) := hid (by rw [HS.out, hjn, HQS.out, ← hSS, ByteArray.append_assoc])
                    have hsES : S.size ≤ 32768072 := by have := HL.out; omega
                    clear HS hS hj
                    have HBS9 := HBj
                    obtain ⟨TS, hTS⟩ : ∃ z, S = z := ⟨_, rfl⟩
                    rw [hTS] at HBS9 HSe hsES
                    clear hTS HBj
                    have HAllS := hid (show TS = _ from by rw [HSe.out, HAllR.out])
                    clear HSe
                    obtain ⟨⟨x0, x1, x2, x3, x4, x5, x6, x7, x8, x9, xa, xb⟩, -⟩ := cells12 HBS9.out.x
                    have hzG := HZG.out
                    go_wp2_with fail
                    refine (hpG _).mono ?_
                    rintro e wG1 ⟨rfl, kG1⟩
                    have HBG1 := hid (bs_kept HBS9.out kG1)
                    clear kG1 hpG qG x0 x1 x2 x3 x4 x5 x6 x7 x8 x9 xa xb
                    obtain ⟨⟨x0, x1, x2, x3, x4, x5, x6, x7, x8, x9, xa, xb⟩, -⟩ := cells12 HBG1.out.x
                    go_wp2_with (at_builtin; refine wpList_mkstr rfl (.tmp 167) (.tmp 172) rfl rfl HBG1.out.r rfl HBG1.out.k.2 (by rw [sizeU]; omega) ?_; intro v' w' hm hg; have HBG2 := hid (bs_app HBG1.out hg (by rw [toL_app]; exact hm) (S' := TS ++ F5)); obtain ⟨gHBG2, cHBG2, eHBG2⟩ := mk_is HBG2.out.r; obtain ⟨nHBG2, hnHBG2⟩ : ∃ n, (TS ++ F5).data.toList.length = n := ⟨_, rfl⟩; rw [hnHBG2] at eHBG2; clear hm hg hnHBG2; subst eHBG2; clear x0 x1 x2 x3 x4 x5 x6 x7 x8 x9 xa xb; obtain ⟨⟨x0, x1, x2, x3, x4, x5, x6, x7, x8, x9, xa, xb⟩, -⟩ := cells12 HBG2.out.x)
                    clear x0 x1 x2 x3 x4 x5 x6 x7 x8 x9 xa xb
                    have hsG : (TS ++ F5).size ≤ 32768080 := by rw [ByteArray.size_append]; omega
                    generalize hSG : TS ++ F5 = SG at *
                    go_loopw [3, 177] (fun bv iv wr => ∃ (j : Nat) (S : ByteArray) (g cap nn : Nat), j ≤ n5 ∧ iv = .int .i64 (j : Int) ∧ bv = .slice (some ⟨g, 0, none⟩) nn cap ∧ S.size ≤ 32768080 + 2000 * j ∧ Hid (S = SG ++ catB digB (m.digs.take j)) ∧ Hid (Bs w X #[.int .u8 m.kind, .int .u8 m.frm, .int .u8 m.dst, .int .u32 m.id, .int .u8 m.tgt, .int .u8 m.rng, .bool m.flag, .slice a1 n1 c1, .slice a2 n2 c2, .slice a3 n3 c3, .slice a4 n4 c4, .slice a5 n5 c5] (.slice (some ⟨g, 0, none⟩) nn cap) S wr)) (fun _ iv _ => n5 - (intOf iv).toNat)
                    case atStart => exact ⟨0, SG, _, _, _, Nat.zero_le _, rfl, rfl, by omega, hid (by rw [List.take_zero, catB_nil, mapp_nil]), HBG2⟩
                    case round =>
                      obtain ⟨j, S, g, cap, nn, hj, rfl, rfl, hS, HS, HBj⟩ := hrel
                      clear HBG2 hsG
                      by_cases hlt : j < n5
                      · have hltz : (j : Int) < (n5 : Int) := by omega
                        obtain ⟨y, hy⟩ := HGG.out j hlt
                        obtain ⟨g1, o1, rfl⟩ := HPG.out (by omega)
                        have hyP := HF.out.d y (List.mem_of_getElem? hy)
                        have HS2 : Hid (S ++ digB y = SG ++ catB digB (m.digs.take (j + 1))) := hid (by rw [HTG.out j y hy, HS.out, ByteArray.append_assoc])
                        obtain ⟨⟨x0, x1, x2, x3, x4, x5, x6, x7, x8, x9, xa, xb⟩, -⟩ := cells12 HBj.out.x
                        have c0 := rg_G (rg_kept encG_ok HM.out.d HBj.out.k) hy
                        obtain ⟨y0a, y1a⟩ := hyP
                        have d1 : y.tdiv 4294967296 = y / 4294967296 := Int.tdiv_eq_ediv_of_nonneg y0a
                        have d2 : y.tmod 4294967296 = y % 4294967296 := Int.tmod_eq_emod_of_nonneg y0a
                        have d3 : IntKind.u64.wrap (y / 4294967296) = y / 4294967296 := wrap64 (by omega)
                        have d4 : IntKind.u64.wrap (y % 4294967296) = y % 4294967296 := wrap64 (by omega)
                        have hp1 := putS_any (y / 4294967296) (by omega)
                        have hp2 := putS_any (y % 4294967296) (by omega)
                        have e1 := encI_size (y / 4294967296)
                        have e2 := encI_size (y % 4294967296)
                        have HEq : Hid (encI (y / 4294967296) ++ encI (y % 4294967296) = digB y) := hid rfl
                        generalize encI (y / 4294967296) = D1 at *
                        generalize encI (y % 4294967296) = D2 at *
                        have HCg : Hid (∀ u, Kept w u → u.cell? ⟨g1, o1 + j, none⟩ = some (.int .u64 y)) := hid (fun u k => rg_G (rg_kept encG_ok HM.out.d k) hy)
                        clear hy
                        go_wp2_with fail
                        refine wp_region_noPanic ?_
                        refine wp_region_held_drew (S := (fun w' => (w'.cell? ⟨X, 11, none⟩ = some (.slice (some ⟨g1, o1, none⟩) n5 c5)) ∧ (w'.cell? ⟨g1, o1 + j, none⟩ = some (.int .u64 y)))) (by kernel_rfl) (⟨xb, c0⟩) (fun hHeld => ?_)
                        have HB4 := hid (bs_kept HBj.out (kept_drew (kept_refl _)))
                        clear x0 x1 x2 x3 x4 x5 x6 x7 x8 x9 xa xb c0
                        generalize wr.drew = wd at *
                        refine wpAnyH_take (i := 0) (v := .slice (some ⟨g, 0, none⟩) nn cap) rfl (by kernel_rfl) (by kernel_rfl) (by kernel_rfl) (fun _ _ _ h => h) (Or.inl ⟨by rfl, fun w hSw => by (try dsimp only at hSw); go_simp⟩) (by assumption) ?_
                        try simp only [List.getElem_toArray, List.getElem_cons_zero, List.getElem_cons_succ, Act.put, List.setIfInBounds_toArray, List.set_cons_zero, List.set_cons_succ]
                        refine wpAnyH_take (i := 1) (v := .pointer (some ⟨X, 11, none⟩)) rfl (by kernel_rfl) (by kernel_rfl) (by kernel_rfl) (fun _ _ _ h => h) (Or.inl ⟨by rfl, fun w hSw => by (try dsimp only at hSw); go_simp⟩) (by assumption) ?_
                        try simp only [List.getElem_toArray, List.getElem_cons_zero, List.getElem_cons_succ, Act.put, List.setIfInBounds_toArray, List.set_cons_zero, List.set_cons_succ]
                        refine wpAnyH_take (i := 2) (v := .slice (some ⟨g1, o1, none⟩) n5 c5) rfl (by kernel_rfl) (by kernel_rfl) (by kernel_rfl) (fun _ _ _ h => h) (Or.inl ⟨by rfl, fun w hSw => by (try dsimp only at hSw); go_simp⟩) (by assumption) ?_
                        try simp only [List.getElem_toArray, List.getElem_cons_zero, List.getElem_cons_succ, Act.put, List.setIfInBounds_toArray, List.set_cons_zero, List.set_cons_succ]
                        refine wpAnyH_take (i := 3) (v := .int .i64 (j : Int)) rfl (by kernel_rfl) (by kernel_rfl) (by kernel_rfl) (fun _ _ _ h => h) (Or.inl ⟨by rfl, fun w hSw => by (try dsimp only at hSw); go_simp⟩) (by assumption) ?_
                        try simp only [List.getElem_toArray, List.getElem_cons_zero, List.getElem_cons_succ, Act.put, List.setIfInBounds_toArray, List.set_cons_zero, List.set_cons_succ]
                        refine wpAnyH_take (i := 4) (v := .pointer (some ⟨g1, o1 + j, none⟩)) rfl (by kernel_rfl) (by kernel_rfl) (by kernel_rfl) (fun _ _ _ h => h) (Or.inl ⟨by rfl, fun w hSw => by (try dsimp only at hSw); go_simp⟩) (by assumption) ?_
                        try simp only [List.getElem_toArray, List.getElem_cons_zero, List.getElem_cons_succ, Act.put, List.setIfInBounds_toArray, List.set_cons_zero, List.set_cons_succ]
                        refine wpAnyH_take (i := 5) (v := .int .u64 y) rfl (by kernel_rfl) (by kernel_rfl) (by kernel_rfl) (fun _ _ _ h => h) (Or.inl ⟨by rfl, fun w hSw => by (try dsimp only at hSw); go_simp⟩) (by assumption) ?_
                        try simp only [List.getElem_toArray, List.getElem_cons_zero, List.getElem_cons_succ, Act.put, List.setIfInBounds_toArray, List.set_cons_zero, List.set_cons_succ]
                        refine wpAnyH_take (i := 6) (v := .int .u64 (y / 4294967296)) rfl (by kernel_rfl) (by kernel_rfl) (by kernel_rfl) (fun _ _ _ h => h) (Or.inl ⟨by rfl, fun w hSw => by (try dsimp only at hSw); go_simp⟩) (by assumption) ?_
                        try simp only [List.getElem_toArray, List.getElem_cons_zero, List.getElem_cons_succ, Act.put, List.setIfInBounds_toArray, List.set_cons_zero, List.set_cons_succ]
                        refine wpAnyH_take (i := 8) (v := .pointer (some ⟨X, 11, none⟩)) rfl (by kernel_rfl) (by kernel_rfl) (by kernel_rfl) (fun _ _ _ h => h) (Or.inl ⟨by rfl, fun w hSw => by (try dsimp only at hSw); go_simp⟩) (by assumption) ?_
                        try simp only [List.getElem_toArray, List.getElem_cons_zero, List.getElem_cons_succ, Act.put, List.setIfInBounds_toArray, List.set_cons_zero, List.set_cons_succ]
                        refine wpAnyH_take (i := 9) (v := .slice (some ⟨g1, o1, none⟩) n5 c5) rfl (by kernel_rfl) (by kernel_rfl) (by kernel_rfl) (fun _ _ _ h => h) (Or.inl ⟨by rfl, fun w hSw => by (try dsimp only at hSw); go_simp⟩) (by assumption) ?_
                        try simp only [List.getElem_toArray, List.getElem_cons_zero, List.getElem_cons_succ, Act.put, List.setIfInBounds_toArray, List.set_cons_zero, List.set_cons_succ]
                        refine wpAnyH_take (i := 10) (v := .int .i64 (j : Int)) rfl (by kernel_rfl) (by kernel_rfl) (by kernel_rfl) (fun _ _ _ h => h) (Or.inl ⟨by rfl, fun w hSw => by (try dsimp only at hSw); go_simp⟩) (by assumption) ?_
                        try simp only [List.getElem_toArray, List.getElem_cons_zero, List.getElem_cons_succ, Act.put, List.setIfInBounds_toArray, List.set_cons_zero, List.set_cons_succ]
                        refine wpAnyH_take (i := 11) (v := .pointer (some ⟨g1, o1 + j, none⟩)) rfl (by kernel_rfl) (by kernel_rfl) (by kernel_rfl) (fun _ _ _ h => h) (Or.inl ⟨by rfl, fun w hSw => by (try dsimp only at hSw); go_simp⟩) (by assumption) ?_
                        try simp only [List.getElem_toArray, List.getElem_cons_zero, List.getElem_cons_succ, Act.put, List.setIfInBounds_toArray, List.set_cons_zero, List.set_cons_succ]
                        refine wpAnyH_take (i := 12) (v := .int .u64 y) rfl (by kernel_rfl) (by kernel_rfl) (by kernel_rfl) (fun _ _ _ h => h) (Or.inl ⟨by rfl, fun w hSw => by (try dsimp only at hSw); go_simp⟩) (by assumption) ?_
                        try simp only [List.getElem_toArray, List.getElem_cons_zero, List.getElem_cons_succ, Act.put, List.setIfInBounds_toArray, List.set_cons_zero, List.set_cons_succ]
                        refine wpAnyH_take (i := 13) (v := .int .u64 (y % 4294967296)) rfl (by kernel_rfl) (by kernel_rfl) (by kernel_rfl) (fun _ _ _ h => h) (Or.inl ⟨by rfl, fun w hSw => by (try dsimp only at hSw); go_simp⟩) (by assumption) ?_
                        try simp only [List.getElem_toArray, List.getElem_cons_zero, List.getElem_cons_succ, Act.put, List.setIfInBounds_toArray, List.set_cons_zero, List.set_cons_succ]
                        refine wpAnyH_ready (rs := [7]) (by kernel_rfl) (by simp) ?_
                        refine AllReadyH.cons (i := 7) rfl (fun K hK => ?_) AllReadyH.nil
                        go_simp
                        refine (hp1 _).mono ?_
                        rintro e w3 ⟨rfl, h3⟩
                        replace HB4 := hid (bs_kept HB4.out h3)
                        clear h3
                        clear hHeld
                        show K _ _
                        refine hK.out _ _ (⟨at_cell HB4.out.x 11, HCg.out _ HB4.out.k⟩) (fun hHeld => ?_)
                        clear hK K
                        try simp only [List.getElem_toArray, List.getElem_cons_zero, List.getElem_cons_succ, Act.put, List.setIfInBounds_toArray, List.set_cons_zero, List.set_cons_succ]
                        refine wpAnyH_ready (rs := [14]) (by kernel_rfl) (by simp) ?_
                        refine AllReadyH.cons (i := 14) rfl (fun K hK => ?_) AllReadyH.nil
                        go_simp
                        refine (hp2 _).mono ?_
                        rintro e w3 ⟨rfl, h3⟩
                        replace HB4 := hid (bs_kept HB4.out h3)
                        clear h3
                        clear hHeld
                        show K _ _
                        refine hK.out _ _ (⟨at_cell HB4.out.x 11, HCg.out _ HB4.out.k⟩) (fun hHeld => ?_)
                        clear hK K
                        try simp only [List.getElem_toArray, List.getElem_cons_zero, List.getElem_cons_succ, Act.put, List.setIfInBounds_toArray, List.set_cons_zero, List.set_cons_succ]
                        refine wpAnyH_take (i := 15) (v := .string (D1 ++ D2)) rfl (by kernel_rfl) (by kernel_rfl) (by kernel_rfl) (fun _ _ _ h => h) (Or.inl ⟨by rfl, fun w hSw => by (try dsimp only at hSw); go_simp; first | omega | (simp only [ByteArray.size_append]; omega)⟩) (by assumption) ?_
                        try simp only [List.getElem_toArray, List.getElem_cons_zero, List.getElem_cons_succ, Act.put, List.setIfInBounds_toArray, List.set_cons_zero, List.set_cons_succ]
                        have hbig : (D1 ++ D2).size ≤ 16 := by simp only [ByteArray.size_append]; omega
                        have HEq2 : Hid (D1 ++ D2 = digB y) := HEq
                        generalize D1 ++ D2 = BG at *
                        refine wpAnyH_ready (rs := [16]) (by kernel_rfl) (by simp) ?_
                        refine AllReadyH.cons (i := 16) rfl (fun K hK => ?_) AllReadyH.nil
                        obtain ⟨v', w', hr, hm, hg⟩ := mk_app_str 51 HB4.out.r BG HB4.out.k.2 (by rw [sizeU]; omega)
                        refine op_run (.tmp 180) (.tmp 195) 9 rfl _ _ _ rfl rfl hr ?_
                        have HBe0 := hid (bs_app HB4.out hg (by rw [toL_app]; exact hm) (S' := S ++ BG))
                        have AP9 := HBe0
                        clear hr hm hg
                        have HB4 := AP9
                        clear AP9
                        obtain ⟨ge, ce, ee⟩ := mk_is HBe0.out.r
                        obtain ⟨ne, hne⟩ : ∃ n, (S ++ BG).data.toList.length = n := ⟨_, rfl⟩
                        rw [hne] at ee
                        clear hne
                        subst ee
                        clear hHeld
                        show K _ _
                        refine hK.out _ _ (⟨at_cell HB4.out.x 11, HCg.out _ HB4.out.k⟩) (fun hHeld => ?_)
                        clear hK K
                        try simp only [List.getElem_toArray, List.getElem_cons_zero, List.getElem_cons_succ, Act.put, List.setIfInBounds_toArray, List.set_cons_zero, List.set_cons_succ]
                        refine wpAnyH_take (i := 17) (v := .slice (some ⟨ge, 0, none⟩) ne ce) rfl (by kernel_rfl) (by kernel_rfl) (by kernel_rfl) (fun _ _ _ h => h) (Or.inl ⟨by rfl, fun w hSw => by (try dsimp only at hSw); go_simp⟩) (by assumption) ?_
                        try simp only [List.getElem_toArray, List.getElem_cons_zero, List.getElem_cons_succ, Act.put, List.setIfInBounds_toArray, List.set_cons_zero, List.set_cons_succ]
                        refine wpAnyH_done (by kernel_rfl) ?_ _
                        refine NoPanic.normal ?_
                        clear hHeld
                        rw [HEq2.out] at HBe0 hbig
                        have HBe := HBe0
                        have hsz : (digB y).size ≤ 16 := hbig
                        go_wp2_with fail
                        go_roundw
                        case rel => exact ⟨j + 1, S ++ digB y, _, _, _, by omega, by go_num, rfl, by rw [ByteArray.size_append]; omega, HS2, HBe⟩
                        case measure => simp [intOf]; omega
                      · have hltz : ¬ (j : Int) < (n5 : Int) := by omega
                        have hjn : j = n5 := by omega
                        have HSe : Hid (S = TS ++ (F5 ++ catB digB m.digs)) := hid (by rw [HS.out, hjn, HQG.out, ← hSG, ByteArray.append_assoc])
                        have hsEG : S.size ≤ 40960080 := by have := HL.out; omega
                        clear HS hS hj
                        have HBG9 := HBj
                        obtain ⟨TG, hTG⟩ : ∃ z, S = z := ⟨_, rfl⟩
                        rw [hTG] at HBG9 HSe hsEG
                        clear hTG HBj
                        have HAllG := hid (show TG = _ from by rw [HSe.out, HAllS.out])
                        clear HSe
                        have HEnd : Hid (TG = bodyM m) := hid (by rw [HAllG.out]; exact HBd.out)
                        have hcv := mk_text HBG9.out.r (mk_len HBG9.out.r)
                        have HMk : Hid ((⟨TG.data.toList.toArray⟩ : ByteArray) = bodyM m) := hid (by rw [HEnd.out])
                        go_wp2_with fail
                        go_ret
                        exact ⟨by first | (rw [← HMk.out]; done) | (rw [← HEnd.out]; rfl) | (rw [← HEnd.out]; simp), HBG9.out.k⟩
end Go.Proofs.YtioeidhblbfgmaaGreat


namespace Go.Proofs.YtioeidhblbfgmaaGreat
open Go.ChangeShapes Go.WideShapes Go.ChangeAt Go.RowKit
set_option linter.unusedVariables false
set_option linter.unusedSimpArgs false
set_option maxRecDepth 100000

theorem msgS {u : World} {M U : Nat} {a0 a1 a2 a3 a4 a5 a6 a7 a8 a9 aa ab : Value} (h : At u M #[a0, a1, a2, a3, a4, a5, a6, a7, a8, a9, aa, ab] U) : (u.cell? ⟨M, 0, none⟩ = some a0) ∧ (u.cell? ⟨M, 1, none⟩ = some a1) ∧ (u.cell? ⟨M, 2, none⟩ = some a2) ∧ (u.cell? ⟨M, 3, none⟩ = some a3) ∧ (u.cell? ⟨M, 4, none⟩ = some a4) ∧ (u.cell? ⟨M, 5, none⟩ = some a5) ∧ (u.cell? ⟨M, 6, none⟩ = some a6) ∧ (u.cell? ⟨M, 7, none⟩ = some a7) ∧ (u.cell? ⟨M, 8, none⟩ = some a8) ∧ (u.cell? ⟨M, 9, none⟩ = some a9) ∧ (u.cell? ⟨M, 10, none⟩ = some aa) ∧ (u.cell? ⟨M, 11, none⟩ = some ab) :=
  ⟨at_cell h 0, at_cell h 1, at_cell h 2, at_cell h 3, at_cell h 4, at_cell h 5, at_cell h 6, at_cell h 7, at_cell h 8, at_cell h 9, at_cell h 10, at_cell h 11⟩
set_option maxHeartbeats 12800000 in
theorem rfPack_any (m : Ms) (vn vk vr vs vd : Value) (w : World) (ok : MsOk m) (h : MsR w vn vk vr vs vd m) :
    Calls Tryz.prog 12 #[msgV m vn vk vr vs vd] w fun e w' => e = .returned (.tuple #[.string (packM m).1, .int .i64 ((packM m).2 : Int)]) ∧ Kept w w' := by
  obtain ⟨a1, n1, c1, a2, n2, c2, a3, n3, c3, a4, n4, c4, a5, n5, c5, rfl, rfl, rfl, rfl, rfl⟩ := msr_is h
  have HM := hid h
  have HMy := hid (fun (u : World) (k : Kept w u) => may_any m ok u _ _ _ _ _ (msr_kept HM.out k))
  have k1 := kept_alloc (kept_refl w) (.cells #[.int .u8 m.kind, .int .u8 m.frm, .int .u8 m.dst, .int .u32 m.id, .int .u8 m.tgt, .int .u8 m.rng, .bool m.flag, .slice a1 n1 c1, .slice a2 n2 c2, .slice a3 n3 c3, .slice a4 n4 c4, .slice a5 n5 c5] 29)
  have aM := at_new w #[.int .u8 m.kind, .int .u8 m.frm, .int .u8 m.dst, .int .u32 m.id, .int .u8 m.tgt, .int .u8 m.rng, .bool m.flag, .slice a1 n1 c1, .slice a2 n2 c2, .slice a3 n3 c3, .slice a4 n4 c4, .slice a5 n5 c5] 29
  have HK1 := hid k1
  have HAM := hid aM
  obtain ⟨⟨x0, x1, x2, x3, x4, x5, x6, x7, x8, x9, xa, xb⟩, -⟩ := cells12 aM
  clear k1 aM
  cases hm : mayM m with
  | false =>
    have HP : Hid (packM m = (⟨#[]⟩, 1)) := hid (packM_bad (by rw [hm]; simp))
    rw [hm] at HMy
    clear hm ok h
    rw [HP.out]
    unfold msgV at HMy ⊢
    go_enter Tryz.func12, Tryz.ntmps12
    go_wp2_with fail
    refine (HMy.out _ HK1.out).mono ?_
    rintro e w2 ⟨rfl, k2⟩
    have HK2 := hid (kept_trans HK1.out k2)
    clear k2 x0 x1 x2 x3 x4 x5 x6 x7 x8 x9 xa xb
    go_wp2_with fail
    go_ret2
    exact ⟨rfl, HK2.out⟩
  | true =>
    have hE := fun (u : World) => Frm.refEncode_any (byteI m.kind) (byteI m.frm) (byteI m.dst) (bodyM m) u
    rw [byteI_is ok.kind, byteI_is ok.frm, byteI_is ok.dst] at hE
    have hP : packM m = Frm.encS (byteI m.kind) (byteI m.frm) (byteI m.dst) (bodyM m) := by unfold packM; rw [if_pos hm]
    rw [← hP] at hE
    have HE := hid hE
    have hW := fun (u : World) (k : Kept w u) => rfBody_any m ok hm _ _ _ _ _ u (msr_kept HM.out k)
    unfold msgV at hW
    have HW := hid hW
    rw [hm] at HMy
    clear hE hP hW hm ok h
    generalize packM m = pm at *
    obtain ⟨ps, pf⟩ := pm
    simp only at HE ⊢
    unfold msgV at HMy ⊢
    go_enter Tryz.func12, Tryz.ntmps12
    go_wp2_with fail
    refine (HMy.out _ HK1.out).mono ?_
    rintro e w2 ⟨rfl, k2⟩
    have HK2 := hid (kept_trans HK1.out k2)
    have HAM2 := hid (at_kept HAM.out k2)
    clear k2 x0 x1 x2 x3 x4 x5 x6 x7 x8 x9 xa xb
    go_wp2_with fail
    generalize hMM : w.heap.size = M at *
    refine wp_region_noPanic ?_
    refine wp_region_held_drew (S := (fun w' => (w'.cell? ⟨M, 0, none⟩ = some (.int .u8 m.kind)) ∧ (w'.cell? ⟨M, 1, none⟩ = some (.int .u8 m.frm)) ∧ (w'.cell? ⟨M, 2, none⟩ = some (.int .u8 m.dst)) ∧ (w'.cell? ⟨M, 3, none⟩ = some (.int .u32 m.id)) ∧ (w'.cell? ⟨M, 4, none⟩ = some (.int .u8 m.tgt)) ∧ (w'.cell? ⟨M, 5, none⟩ = some (.int .u8 m.rng)) ∧ (w'.cell? ⟨M, 6, none⟩ = some (.bool m.flag)) ∧ (w'.cell? ⟨M, 7, none⟩ = some (.slice a1 n1 c1)) ∧ (w'.cell? ⟨M, 8, none⟩ = some (.slice a2 n2 c2)) ∧ (w'.cell? ⟨M, 9, none⟩ = some (.slice a3 n3 c3)) ∧ (w'.cell? ⟨M, 10, none⟩ = some (.slice a4 n4 c4)) ∧ (w'.cell? ⟨M, 11, none⟩ = some (.slice a5 n5 c5)))) (by kernel_rfl) (msgS (show At w2.drew M #[.int .u8 m.kind, .int .u8 m.frm, .int .u8 m.dst, .int .u32 m.id, .int .u8 m.tgt, .int .u8 m.rng, .bool m.flag, .slice a1 n1 c1, .slice a2 n2 c2, .slice a3 n3 c3, .slice a4 n4 c4, .slice a5 n5 c5] 29 from HAM2.out)) (fun hHeld => ?_)
    generalize hwd : w2.drew = wd at *
    have AC : At wd M #[.int .u8 m.kind, .int .u8 m.frm, .int .u8 m.dst, .int .u32 m.id, .int .u8 m.tgt, .int .u8 m.rng, .bool m.flag, .slice a1 n1 c1, .slice a2 n2 c2, .slice a3 n3 c3, .slice a4 n4 c4, .slice a5 n5 c5] 29 := by rw [← hwd]; exact HAM2.out
    have k0 : Kept w wd := by rw [← hwd]; exact HK2.out
    clear hwd
    refine wpAnyH_take (i := 0) (v := .pointer (some ⟨M, 0, none⟩)) rfl (by kernel_rfl) (by kernel_rfl) (by kernel_rfl) (fun _ _ _ h => h) (Or.inl ⟨by rfl, fun w hSw => by (try dsimp only at hSw); go_simp⟩) (by assumption) ?_
    try simp only [List.getElem_toArray, List.getElem_cons_zero, List.getElem_cons_succ, Act.put, List.setIfInBounds_toArray, List.set_cons_zero, List.set_cons_succ]
    refine wpAnyH_take (i := 1) (v := .int .u8 m.kind) rfl (by kernel_rfl) (by kernel_rfl) (by kernel_rfl) (fun _ _ _ h => h) (Or.inl ⟨by rfl, fun w hSw => by (try dsimp only at hSw); go_simp⟩) (by assumption) ?_
    try simp only [List.getElem_toArray, List.getElem_cons_zero, List.getElem_cons_succ, Act.put, List.setIfInBounds_toArray, List.set_cons_zero, List.set_cons_succ]
    refine wpAnyH_take (i := 2) (v := .pointer (some ⟨M, 1, none⟩)) rfl (by kernel_rfl) (by kernel_rfl) (by kernel_rfl) (fun _ _ _ h => h) (Or.inl ⟨by rfl, fun w hSw => by (try dsimp only at hSw); go_simp⟩) (by assumption) ?_
    try simp only [List.getElem_toArray, List.getElem_cons_zero, List.getElem_cons_succ, Act.put, List.setIfInBounds_toArray, List.set_cons_zero, List.set_cons_succ]
    refine wpAnyH_take (i := 3) (v := .int .u8 m.frm) rfl (by kernel_rfl) (by kernel_rfl) (by kernel_rfl) (fun _ _ _ h => h) (Or.inl ⟨by rfl, fun w hSw => by (try dsimp only at hSw); go_simp⟩) (by assumption) ?_
    try simp only [List.getElem_toArray, List.getElem_cons_zero, List.getElem_cons_succ, Act.put, List.setIfInBounds_toArray, List.set_cons_zero, List.set_cons_succ]
    refine wpAnyH_take (i := 4) (v := .pointer (some ⟨M, 2, none⟩)) rfl (by kernel_rfl) (by kernel_rfl) (by kernel_rfl) (fun _ _ _ h => h) (Or.inl ⟨by rfl, fun w hSw => by (try dsimp only at hSw); go_simp⟩) (by assumption) ?_
    try simp only [List.getElem_toArray, List.getElem_cons_zero, List.getElem_cons_succ, Act.put, List.setIfInBounds_toArray, List.set_cons_zero, List.set_cons_succ]
    refine wpAnyH_take (i := 5) (v := .int .u8 m.dst) rfl (by kernel_rfl) (by kernel_rfl) (by kernel_rfl) (fun _ _ _ h => h) (Or.inl ⟨by rfl, fun w hSw => by (try dsimp only at hSw); go_simp⟩) (by assumption) ?_
    try simp only [List.getElem_toArray, List.getElem_cons_zero, List.getElem_cons_succ, Act.put, List.setIfInBounds_toArray, List.set_cons_zero, List.set_cons_succ]
    refine wpAnyH_take (i := 6) (v := .agg #[.int .u8 m.kind, .int .u8 m.frm, .int .u8 m.dst, .int .u32 m.id, .int .u8 m.tgt, .int .u8 m.rng, .bool m.flag, .slice a1 n1 c1, .slice a2 n2 c2, .slice a3 n3 c3, .slice a4 n4 c4, .slice a5 n5 c5]) rfl (by kernel_rfl) (by kernel_rfl) (by kernel_rfl) (fun _ _ _ h => h) (Or.inl ⟨by rfl, fun w hSw => by (try dsimp only at hSw); go_simp⟩) (by assumption) ?_
    try simp only [List.getElem_toArray, List.getElem_cons_zero, List.getElem_cons_succ, Act.put, List.setIfInBounds_toArray, List.set_cons_zero, List.set_cons_succ]
    refine wpAnyH_ready (rs := [7]) (by kernel_rfl) (by simp) ?_
    refine AllReadyH.cons (i := 7) rfl (fun K hK => ?_) AllReadyH.nil
    go_simp
    refine (HW.out _ k0).mono ?_
    rintro e w3 ⟨rfl, h3⟩
    replace AC := at_kept AC h3
    replace k0 := kept_trans k0 h3
    clear h3
    clear hHeld
    show K _ _
    refine hK.out _ _ (msgS (by assumption)) (fun hHeld => ?_)
    clear hK K
    try simp only [List.getElem_toArray, List.getElem_cons_zero, List.getElem_cons_succ, Act.put, List.setIfInBounds_toArray, List.set_cons_zero, List.set_cons_succ]
    refine wpAnyH_take (i := 8) (v := .agg #[.int .u8 m.kind, .int .u8 m.frm, .int .u8 m.dst, .string (bodyM m)]) rfl (by kernel_rfl) (by kernel_rfl) (by kernel_rfl) (fun _ _ _ h => h) (Or.inl ⟨by rfl, fun w hSw => by (try dsimp only at hSw); go_simp⟩) (by assumption) ?_
    try simp only [List.getElem_toArray, List.getElem_cons_zero, List.getElem_cons_succ, Act.put, List.setIfInBounds_toArray, List.set_cons_zero, List.set_cons_succ]
    refine wpAnyH_ready (rs := [9]) (by kernel_rfl) (by simp) ?_
    refine AllReadyH.cons (i := 9) rfl (fun K hK => ?_) AllReadyH.nil
    go_simp
    refine (HE.out _).mono ?_
    rintro e w4 ⟨rfl, h3⟩
    replace AC := at_kept AC h3
    replace k0 := kept_trans k0 h3
    clear h3
    clear hHeld
    show K _ _
    refine hK.out _ _ (msgS (by assumption)) (fun hHeld => ?_)
    clear hK K
    try simp only [List.getElem_toArray, List.getElem_cons_zero, List.getElem_cons_succ, Act.put, List.setIfInBounds_toArray, List.set_cons_zero, List.set_cons_succ]
    refine wpAnyH_take (i := 10) (v := .string ps) rfl (by kernel_rfl) (by kernel_rfl) (by kernel_rfl) (fun _ _ _ h => h) (Or.inl ⟨by rfl, fun w hSw => by (try dsimp only at hSw); go_simp⟩) (by assumption) ?_
    try simp only [List.getElem_toArray, List.getElem_cons_zero, List.getElem_cons_succ, Act.put, List.setIfInBounds_toArray, List.set_cons_zero, List.set_cons_succ]
    refine wpAnyH_take (i := 11) (v := .int .i64 (pf : Int)) rfl (by kernel_rfl) (by kernel_rfl) (by kernel_rfl) (fun _ _ _ h => h) (Or.inl ⟨by rfl, fun w hSw => by (try dsimp only at hSw); go_simp⟩) (by assumption) ?_
    try simp only [List.getElem_toArray, List.getElem_cons_zero, List.getElem_cons_succ, Act.put, List.setIfInBounds_toArray, List.set_cons_zero, List.set_cons_succ]
    refine wpAnyH_take (i := 12) (v := .string ps) rfl (by kernel_rfl) (by kernel_rfl) (by kernel_rfl) (fun _ _ _ h => h) (Or.inl ⟨by rfl, fun w hSw => by (try dsimp only at hSw); go_simp⟩) (by assumption) ?_
    try simp only [List.getElem_toArray, List.getElem_cons_zero, List.getElem_cons_succ, Act.put, List.setIfInBounds_toArray, List.set_cons_zero, List.set_cons_succ]
    refine wpAnyH_take (i := 13) (v := .int .i64 (pf : Int)) rfl (by kernel_rfl) (by kernel_rfl) (by kernel_rfl) (fun _ _ _ h => h) (Or.inl ⟨by rfl, fun w hSw => by (try dsimp only at hSw); go_simp⟩) (by assumption) ?_
    try simp only [List.getElem_toArray, List.getElem_cons_zero, List.getElem_cons_succ, Act.put, List.setIfInBounds_toArray, List.set_cons_zero, List.set_cons_succ]
    refine wpAnyH_done (by kernel_rfl) ?_ _
    refine NoPanic.normal ?_
    clear hHeld
    go_wp2_with fail
    go_ret2
    exact ⟨rfl, k0⟩
set_option maxHeartbeats 12800000 in
theorem packs_walk {T : Shape Unit} (hT : MsIs T) (m : Ms) (ok : MsOk m) (vn vk vr vs vd : Value) (w : World) (h : MsR w vn vk vr vs vd m) :
    Calls Tryz.prog 3 #[msgV m vn vk vr vs vd] w fun e w' => e = .returned (.bool true) ∧ Kept w w' := by
  obtain ⟨a1, n1, c1, a2, n2, c2, a3, n3, c3, a4, n4, c4, a5, n5, c5, rfl, rfl, rfl, rfl, rfl⟩ := msr_is h
  have HM := hid h
  have HOk := hid ok
  have HGr := hid (fun (u : World) (ku : Kept w u) => great_any m ok u _ _ _ _ _ (msr_kept HM.out ku))
  have HPk := hid (fun (u : World) (ku : Kept w u) => rfPack_any m _ _ _ _ _ u ok (msr_kept HM.out ku))
  have HLd := hid (fun (u : World) (X : Nat) (F : Nat → Prop) (t : TT T w X () F u) => mk_pack hT t ok (msr_kept HM.out t.k))
  have k1 := kept_alloc (kept_refl w) (.cells #[.int .u8 m.kind, .int .u8 m.frm, .int .u8 m.dst, .int .u32 m.id, .int .u8 m.tgt, .int .u8 m.rng, .bool m.flag, .slice a1 n1 c1, .slice a2 n2 c2, .slice a3 n3 c3, .slice a4 n4 c4, .slice a5 n5 c5] 29)
  have aM := at_new w #[.int .u8 m.kind, .int .u8 m.frm, .int .u8 m.dst, .int .u32 m.id, .int .u8 m.tgt, .int .u8 m.rng, .bool m.flag, .slice a1 n1 c1, .slice a2 n2 c2, .slice a3 n3 c3, .slice a4 n4 c4, .slice a5 n5 c5] 29
  have HK1 := hid k1
  have HAM := hid aM
  obtain ⟨⟨x0, x1, x2, x3, x4, x5, x6, x7, x8, x9, xa, xb⟩, -⟩ := cells12 aM
  clear k1 aM ok h
  generalize greatM m = gr at *
  generalize packM m = pm at *
  obtain ⟨ps, pf⟩ := pm
  simp only at HPk HLd
  unfold msgV at HGr HPk HLd ⊢
  go_enter Tryz.func3, Tryz.ntmps3
  go_wp2_with fail
  refine (HGr.out _ HK1.out).mono ?_
  rintro e w2 ⟨bg, rfl, -, k2⟩
  have HK2 := hid (kept_trans HK1.out k2)
  have HA2 := hid (at_kept HAM.out k2)
  clear k2 HK1 HAM HGr x0 x1 x2 x3 x4 x5 x6 x7 x8 x9 xa xb
  cases bg with
  | true =>
    go_wp2_with fail
    refine (fixed_any hT _).mono ?_
    rintro e w3 ⟨rfl, k3⟩
    have HK3 := hid (kept_trans HK2.out k3)
    clear k3
    go_wp2_with fail
    go_ret
    exact ⟨rfl, HK3.out⟩
  | false =>
    have HML : Hid (w.heap.size < w2.heap.size) := hid (at_lt HA2.out)
    go_wp2_with fail
    generalize hMM : w.heap.size = M at *
    refine wp_region_noPanic ?_
    refine wp_region_held_drew (S := (fun w' => (w'.cell? ⟨M, 0, none⟩ = some (.int .u8 m.kind)) ∧ (w'.cell? ⟨M, 1, none⟩ = some (.int .u8 m.frm)) ∧ (w'.cell? ⟨M, 2, none⟩ = some (.int .u8 m.dst)) ∧ (w'.cell? ⟨M, 3, none⟩ = some (.int .u32 m.id)) ∧ (w'.cell? ⟨M, 4, none⟩ = some (.int .u8 m.tgt)) ∧ (w'.cell? ⟨M, 5, none⟩ = some (.int .u8 m.rng)) ∧ (w'.cell? ⟨M, 6, none⟩ = some (.bool m.flag)) ∧ (w'.cell? ⟨M, 7, none⟩ = some (.slice a1 n1 c1)) ∧ (w'.cell? ⟨M, 8, none⟩ = some (.slice a2 n2 c2)) ∧ (w'.cell? ⟨M, 9, none⟩ = some (.slice a3 n3 c3)) ∧ (w'.cell? ⟨M, 10, none⟩ = some (.slice a4 n4 c4)) ∧ (w'.cell? ⟨M, 11, none⟩ = some (.slice a5 n5 c5)))) (by kernel_rfl) (msgS (show At w2.drew M #[.int .u8 m.kind, .int .u8 m.frm, .int .u8 m.dst, .int .u32 m.id, .int .u8 m.tgt, .int .u8 m.rng, .bool m.flag, .slice a1 n1 c1, .slice a2 n2 c2, .slice a3 n3 c3, .slice a4 n4 c4, .slice a5 n5 c5] 29 from HA2.out)) (fun hHeld => ?_)
    generalize hwd : w2.drew = wd at *
    have AC : At wd M #[.int .u8 m.kind, .int .u8 m.frm, .int .u8 m.dst, .int .u32 m.id, .int .u8 m.tgt, .int .u8 m.rng, .bool m.flag, .slice a1 n1 c1, .slice a2 n2 c2, .slice a3 n3 c3, .slice a4 n4 c4, .slice a5 n5 c5] 29 := by rw [← hwd]; exact HA2.out
    have k0 : Kept w wd := by rw [← hwd]; exact HK2.out
    have HMw : Hid (M < wd.heap.size) := by rw [← hwd]; exact HML
    clear hwd
    refine wpAnyH_take (i := 1) (v := .agg #[.int .u8 m.kind, .int .u8 m.frm, .int .u8 m.dst, .int .u32 m.id, .int .u8 m.tgt, .int .u8 m.rng, .bool m.flag, .slice a1 n1 c1, .slice a2 n2 c2, .slice a3 n3 c3, .slice a4 n4 c4, .slice a5 n5 c5]) rfl (by kernel_rfl) (by kernel_rfl) (by kernel_rfl) (fun _ _ _ h => h) (Or.inl ⟨by rfl, fun w hSw => by (try dsimp only at hSw); go_simp⟩) (by assumption) ?_
    try simp only [List.getElem_toArray, List.getElem_cons_zero, List.getElem_cons_succ, Act.put, List.setIfInBounds_toArray, List.set_cons_zero, List.set_cons_succ]
    refine wpAnyH_ready (rs := [0]) (by kernel_rfl) (by simp) ?_
    refine AllReadyH.cons (i := 0) rfl (fun K hK => ?_) AllReadyH.nil
    go_simp
    refine (mk_new hT k0).mono ?_
    rintro e w3 ⟨X, F, rfl, t3, k3, f3⟩
    replace AC := at_kept AC k3
    have HT3 := hid t3
    have HF3 : Hid (∀ z, F z → M < z) := hid (fun z hz => by have := f3 z hz; have := HMw.out; omega)
    clear t3 k3 f3
    clear hHeld
    show K _ _
    refine hK.out _ _ (msgS AC) (fun hHeld => ?_)
    clear hK K
    try simp only [List.getElem_toArray, List.getElem_cons_zero, List.getElem_cons_succ, Act.put, List.setIfInBounds_toArray, List.set_cons_zero, List.set_cons_succ]
    refine wpAnyH_ready (rs := [2]) (by kernel_rfl) (by simp) ?_
    refine AllReadyH.cons (i := 2) rfl (fun K hK => ?_) AllReadyH.nil
    go_simp
    refine (HLd.out _ X F HT3.out).mono ?_
    rintro e w4 ⟨F4, rfl, t4, d4⟩
    replace AC := at_tn AC d4.1 (fun hc => Nat.lt_irrefl _ (HF3.out _ hc))
    have HT4 := hid t4
    clear t4 d4 HT3
    clear hHeld
    show K _ _
    refine hK.out _ _ (msgS AC) (fun hHeld => ?_)
    clear hK K
    try simp only [List.getElem_toArray, List.getElem_cons_zero, List.getElem_cons_succ, Act.put, List.setIfInBounds_toArray, List.set_cons_zero, List.set_cons_succ]
    refine wpAnyH_take (i := 3) (v := .tuple #[.string ps, .int .i64 (pf : Int)]) rfl (by kernel_rfl) (by kernel_rfl) (by kernel_rfl) (fun _ _ _ h => h) (Or.inl ⟨by rfl, fun w hSw => by (try dsimp only at hSw); go_simp⟩) (by assumption) ?_
    try simp only [List.getElem_toArray, List.getElem_cons_zero, List.getElem_cons_succ, Act.put, List.setIfInBounds_toArray, List.set_cons_zero, List.set_cons_succ]
    refine wpAnyH_take (i := 4) (v := .string ps) rfl (by kernel_rfl) (by kernel_rfl) (by kernel_rfl) (fun _ _ _ h => h) (Or.inl ⟨by rfl, fun w hSw => by (try dsimp only at hSw); go_simp⟩) (by assumption) ?_
    try simp only [List.getElem_toArray, List.getElem_cons_zero, List.getElem_cons_succ, Act.put, List.setIfInBounds_toArray, List.set_cons_zero, List.set_cons_succ]
    refine wpAnyH_take (i := 5) (v := .int .i64 (pf : Int)) rfl (by kernel_rfl) (by kernel_rfl) (by kernel_rfl) (fun _ _ _ h => h) (Or.inl ⟨by rfl, fun w hSw => by (try dsimp only at hSw); go_simp⟩) (by assumption) ?_
    try simp only [List.getElem_toArray, List.getElem_cons_zero, List.getElem_cons_succ, Act.put, List.setIfInBounds_toArray, List.set_cons_zero, List.set_cons_succ]
    refine wpAnyH_take (i := 6) (v := .string ps) rfl (by kernel_rfl) (by kernel_rfl) (by kernel_rfl) (fun _ _ _ h => h) (Or.inl ⟨by rfl, fun w hSw => by (try dsimp only at hSw); go_simp⟩) (by assumption) ?_
    try simp only [List.getElem_toArray, List.getElem_cons_zero, List.getElem_cons_succ, Act.put, List.setIfInBounds_toArray, List.set_cons_zero, List.set_cons_succ]
    refine wpAnyH_take (i := 7) (v := .int .i64 (pf : Int)) rfl (by kernel_rfl) (by kernel_rfl) (by kernel_rfl) (fun _ _ _ h => h) (Or.inl ⟨by rfl, fun w hSw => by (try dsimp only at hSw); go_simp⟩) (by assumption) ?_
    try simp only [List.getElem_toArray, List.getElem_cons_zero, List.getElem_cons_succ, Act.put, List.setIfInBounds_toArray, List.set_cons_zero, List.set_cons_succ]
    refine wpAnyH_done (by kernel_rfl) ?_ _
    refine NoPanic.normal ?_
    clear hHeld
    have HK4 := hid HT4.out.k
    obtain ⟨⟨x0, x1, x2, x3, x4, x5, x6, x7, x8, x9, xa, xb⟩, -⟩ := cells12 AC
    clear AC HT4 HA2 HK2
    go_wp2_with fail
    refine (HPk.out _ HK4.out).mono ?_
    rintro e w5 ⟨rfl, k5⟩
    have HK5 := hid (kept_trans HK4.out k5)
    clear k5 x0 x1 x2 x3 x4 x5 x6 x7 x8 x9 xa xb
    go_wp2_with fail
    refine (fixed_any hT _).mono ?_
    rintro e w6 ⟨rfl, k6⟩
    have HK6 := hid (kept_trans HK5.out k6)
    clear k6
    go_wp2_with fail
    go_ret
    exact ⟨rfl, HK6.out⟩
theorem packs_all (m : Ms) (vn vk vr vs vd : Value) (w : World) (ok : MsOk m) (h : MsR w vn vk vr vs vd m) : Calls Tryz.prog 3 #[msgV m vn vk vr vs vd] w fun e w' => e = .returned (.bool true) ∧ Kept w w' := packs_walk tms_is m ok vn vk vr vs vd w h
end Go.Proofs.YtioeidhblbfgmaaGreat
