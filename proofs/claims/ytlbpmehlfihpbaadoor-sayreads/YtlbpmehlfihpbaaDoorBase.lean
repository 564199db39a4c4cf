/- What the library's own variables hold while a call runs (Base): it stays as long as nothing old has turned. No condition. -/
import Derived.Test.YtlbpmehlfihpbaaDoorShelf
namespace Go.Proofs.YtlbpmehlfihpbaaDoor
open Go.ChangeShapes Go.WideShapes Go.ChangeAt Go.RowKit
set_option linter.unusedVariables false
set_option linter.unusedSimpArgs false

theorem cell_lt {w : World} {b o : Nat} {v : Value} (h : w.cell? ⟨b, o, none⟩ = some v) : b < w.heap.size := by
  unfold World.cell? at h
  cases hb : w.heap[b]? with
  | none => simp [hb] at h
  | some x => exact (Array.getElem?_eq_some_iff.1 hb).1
theorem glob0 : Tryd.prog.globalNamed "internal/strconv.uint64pow10" = some 0 := by kernel_rfl
structure Base (w : World) : Prop where
  tab : Lib.TabIs Tryd.prog w "internal/strconv.uint64pow10" .u64 Lib.pow10Tab
  most : ∃ m, w.cell? ⟨1, 0, none⟩ = some (.int .i64 m)
  syn : ∃ ev, w.cell? ⟨4, 0, none⟩ = some ev ∧ (ev = .nilIface ∨ ∃ te pe, ev = .iface te pe)
  rng : ∃ ev, w.cell? ⟨5, 0, none⟩ = some ev ∧ (ev = .nilIface ∨ ∃ te pe, ev = .iface te pe)
theorem base_kept {w w' : World} (h : Base w) (k : Kept w w') : Base w' := by
  obtain ⟨h1, ⟨m, h2⟩, ⟨e, h3, g3⟩, ⟨f, h4, g4⟩⟩ := h
  refine ⟨?_, ⟨m, ?_⟩, ⟨e, ?_, g3⟩, ⟨f, ?_, g4⟩⟩
  · have hlt : 0 < w.heap.size := by have := cell_lt h2; omega
    unfold Lib.TabIs World.var? at h1 ⊢
    rw [glob0] at h1 ⊢
    simp only [Option.bind_some] at h1 ⊢
    rw [kept_block k hlt]
    exact h1
  · rw [kept_cell k (cell_lt h2)]; exact h2
  · rw [kept_cell k (cell_lt h3)]; exact h3
  · rw [kept_cell k (cell_lt h4)]; exact h4
theorem bytes_ext {s t : ByteArray} (h : s.data.toList = t.data.toList) : s = t := by
  cases s with | mk a => cases t with | mk b => congr 1; exact Array.toList_inj.1 h
theorem mk_list (l : List UInt8) : (⟨l.toArray⟩ : ByteArray).data.toList = l := by simp
theorem mk_size (l : List UInt8) : (⟨l.toArray⟩ : ByteArray).size = l.length := by simp [ByteArray.size]
theorem mk_eq (s : ByteArray) : (⟨s.data.toList.toArray⟩ : ByteArray) = s := bytes_ext (by simp)
theorem size_list (s : ByteArray) : s.data.toList.length = s.size := by simp
theorem ret_str {a b : ByteArray} (h : a = b) : Ending.returned (.string a) = .returned (.string b) := by rw [h]
end Go.Proofs.YtlbpmehlfihpbaaDoor
