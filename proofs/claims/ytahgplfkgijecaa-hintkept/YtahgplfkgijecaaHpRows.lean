/- The reference's hints as they lie in memory: a record and 64 truths each. -/
import Derived.Test.YtahgplfkgijecaaHtCut
import Derived.Test.YtahgplfkgijecaaHtCmp
import Derived.Deep.MidRow
import Derived.Great.BuildSlice
import Derived.BigQuiet
namespace Go.Proofs.Ytahgplfkgijecaa
open Go.ChangeShapes Go.WideShapes Go.ChangeAt Go.RowKit
set_option linter.unusedVariables false
set_option linter.unusedSimpArgs false
set_option maxRecDepth 100000

def hasV (f : Nat → Bool) : List Value := (List.range 64).map (fun k => .bool (f k))
theorem hasV_at (f : Nat → Bool) {k : Nat} (h : k < 64) : (hasV f)[k]? = some (.bool (f k)) := by
  unfold hasV
  rw [List.getElem?_map, List.getElem?_range h]
  rfl
def encX (h : Ht) : List Value := encR h.r ++ hasV h.has
theorem encX_ok : Enc encX 72 := ⟨by decide, fun x => by unfold encX hasV; rw [List.length_append, encR_ok.len, List.length_map, List.length_range], fun x v hv => by
  unfold encX at hv
  rcases List.mem_append.1 hv with h | h
  · exact encR_ok.one _ _ h
  · unfold hasV at h
    obtain ⟨k, _, rfl⟩ := List.mem_map.1 h
    rfl⟩
theorem encX_has (x : Ht) {k : Nat} (h : k < 64) : (encX x)[8 + k]? = some (.bool (x.has k)) := by
  unfold encX
  rw [List.getElem?_append_right (by rw [encR_ok.len]; omega), encR_ok.len]
  have : 8 + k - 8 = k := by omega
  rw [this, hasV_at _ h]
theorem rg_X {w : World} {g o n cap : Nat} {xs : List Ht} (h : Rg encX 72 w (.slice (some ⟨g, o, none⟩) n cap) xs) {i : Nat} {x : Ht} (hx : xs[i]? = some x) : w.cell? ⟨g, o + i * 72, none⟩ = some (.string x.r.key) ∧ w.cell? ⟨g, o + i * 72 + 1, none⟩ = some (.int .u64 x.r.s.p) ∧ w.cell? ⟨g, o + i * 72 + 2, none⟩ = some (.int .u32 x.r.s.l) ∧ w.cell? ⟨g, o + i * 72 + 3, none⟩ = some (.int .u8 x.r.s.n) ∧ w.cell? ⟨g, o + i * 72 + 4, none⟩ = some (.int .u8 x.r.kind) ∧ w.cell? ⟨g, o + i * 72 + 5, none⟩ = some (.int .u32 x.r.flags) ∧ w.cell? ⟨g, o + i * 72 + 6, none⟩ = some (.int .u64 x.r.exp) ∧ w.cell? ⟨g, o + i * 72 + 7, none⟩ = some (.string x.r.body) :=
  ⟨rg_all h hx 0 _ rfl, rg_all h hx 1 _ rfl, rg_all h hx 2 _ rfl, rg_all h hx 3 _ rfl, rg_all h hx 4 _ rfl, rg_all h hx 5 _ rfl, rg_all h hx 6 _ rfl, rg_all h hx 7 _ rfl⟩
theorem rg_Xh {w : World} {g o n cap : Nat} {xs : List Ht} (h : Rg encX 72 w (.slice (some ⟨g, o, none⟩) n cap) xs) {i k : Nat} {x : Ht} (hx : xs[i]? = some x) (hk : k < 64) : w.cell? ⟨g, o + i * 72 + 8 + k, none⟩ = some (.bool (x.has k)) := by
  have := rg_all h hx (8 + k) _ (encX_has x hk)
  rwa [← Nat.add_assoc] at this
theorem range_X {w : World} {g o n cap : Nat} {xs : List Ht} (h : Rg encX 72 w (.slice (some ⟨g, o, none⟩) n cap) xs) {i : Nat} {x : Ht} (hx : xs[i]? = some x) : w.rangeAt g (o + i * 72) (encX x) := fun j v hv => rg_all h hx j v hv
theorem sizeX : (Try.prog.info? 75).map (·.size) = some 72 := by kernel_rfl
def zeroRec : R := ⟨⟨#[]⟩, ⟨0, 0, 0⟩, 0, 0, 0, ⟨#[]⟩⟩
def zeroX : Ht := ⟨zeroRec, nob⟩
theorem infoX : (Try.prog.info? 75).map (fun i => (i.zero, i.size, i.bytes)) = some (some (.agg (encX zeroX).toArray), 72, 128) := by kernel_rfl
theorem tyX : TyG Try.prog 28 75 72 128 := by
  obtain ⟨i0, hi, hz0, hz1, hz2⟩ := info_parts infoX
  exact ⟨Try.underlying28, i0, _, hi, hz0, hz1, hz2, by show (encX zeroX).toArray.size = 72; rw [List.size_toArray, encX_ok.len]⟩
/- A whole hint out of a row; one made of a record; a row of one. -/
theorem wpList_loadX {ops : Array Oper} {rest : List Oper} {op : Oper} {a : Act} {w : World} {Q : Exit → Act → World → Prop} (hgd : op.guard = none) (x : Operand) (ho : op.op = .load 75 x)
    (b o : Nat) (hx : a.eval x = .pointer (some ⟨b, o, none⟩)) (h : Ht) (hc : w.rangeAt b o (encX h))
    (hQ : wpList Try.prog ops Q rest (a.put op.dst (.agg (encX h).toArray)) w) : wpList Try.prog ops Q (op :: rest) a w :=
  wpList_load_mid hgd 75 x ho b o hx (encX h) _ hc Try.underlying75 rfl (by rw [sizeX, encX_ok.len]) hQ
theorem builtX (r : R) : Try.prog.built 75 [(0, recV r)] = some (encX ⟨r, nob⟩).toArray := by kernel_rfl
theorem wpList_buildX {ops : Array Oper} {rest : List Oper} {op : Oper} {a : Act} {w : World} {Q : Exit → Act → World → Prop} (hgd : op.guard = none) (x : Operand) (ho : op.op = .build 75 #[(0, x)])
    (r : R) (hx : a.eval x = recV r) (hQ : wpList Try.prog ops Q rest (a.put op.dst (.agg (encX ⟨r, nob⟩).toArray)) w) : wpList Try.prog ops Q (op :: rest) a w :=
  wpList_plain hgd fun _ hK => by
    have hb := builtX r
    unfold Oper.wp execOp
    simp only [ho, Sem.run_bind, List.map_toArray, List.map_cons, List.map_nil, hx]
    rw [run_build w 75 #[(0, recV r)] _ hb]
    exact hK _ _ hQ
theorem wpList_oneX {ops : Array Oper} {rest : List Oper} {op : Oper} {a : Act} {w : World} {Q : Exit → Act → World → Prop} (hgd : op.guard = none) (x : Operand) (ho : op.op = .buildSlice 28 1 #[(0, x)])
    (h : Ht) (hx : a.eval x = .agg (encX h).toArray) (hQ : wpList Try.prog ops Q rest (a.put op.dst (.slice (some ⟨w.heap.size, 0, none⟩) 1 1)) (w.alloc (.cells (encX h).toArray 75))) : wpList Try.prog ops Q (op :: rest) a w := by
  obtain ⟨i0, hi, hz0, hz1, hz2⟩ := info_parts infoX
  refine wpList_buildSlice hgd 28 75 1 _ ho (encX h).toArray i0 _ Try.underlying28 hi hz0 (by rw [hz1]; decide) (by rw [hz1]; decide) ?_ hQ
  rw [hz1]
  have := Great.fill_whole (s := 72) (by decide) [.agg (encX h).toArray] ((Array.range (1 * 72)).map ((Value.agg (encX zeroX).toArray).cells[· % (Value.agg (encX zeroX).toArray).cells.size]!)) (by
    intro v hv
    simp only [List.mem_cons, List.not_mem_nil, or_false] at hv
    subst hv
    show (encX h).toArray.size = 72
    rw [List.size_toArray, encX_ok.len]) (by simp)
  simp only [List.map_toArray, List.map_cons, List.map_nil, hx]
  refine this.trans ?_
  simp [Value.cells]
theorem alone_X {w : World} {h : Ht} : Rg encX 72 (w.alloc (.cells (encX h).toArray 75)) (.slice (some ⟨w.heap.size, 0, none⟩) 1 1) [h] := rg_alone encX_ok (at_new w _ 75)
end Go.Proofs.Ytahgplfkgijecaa
