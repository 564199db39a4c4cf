/- From what a row lists of the library's variables to what the contracts ask (Base); and the frame of a law's row, the world's shape handed on. -/
import Derived.Test.YtlbpmehlfihpbaaDoorRec
import Derived.Test.YtlbpmehlfihpbaaDoorTie
import Derived.Shelf.Vars
import Derived.Stop.LaidErr
import Derived.HandedShaped
import Derived.Lay
namespace Go.Proofs.YtlbpmehlfihpbaaDoor
open Go.ChangeShapes Go.WideShapes Go.ChangeAt Go.RowKit
set_option linter.unusedVariables false
set_option linter.unusedSimpArgs false

theorem g1Type : (Tryd.prog.globals[0]?).map (·.type) = some 98 := by kernel_rfl
theorem cells98 : Tryd.prog.cellsOf 98 = 20 := by kernel_rfl
theorem cells128 : Tryd.prog.cellsOf 128 = 1 := by kernel_rfl
theorem star : "*" ++ "errors.errorString" = "*errors.errorString" := by decide
theorem row126 (u : TypeId) (h : Tryd.prog.typeName? 3 u = some "*errors.errorString") : u = 126 :=
  typeName_ptr_named (nm := "errors.errorString") (by rw [star]; kernel_rfl) (by kernel_rfl) (by decide) u (by rw [star]; exact h)
abbrev laidAll7 : List (String × DataW Unit) := Rows.saySaysRow.laid
theorem base_of {W : World} (hL : laidMet Tryd.prog laidAll7 W) (hs : W.ShapedOpen Tryd.prog) : Base W := by
  have h3 := hL.tail.tail
  have h5 := h3.tail.tail
  have h6 := h5.tail
  obtain ⟨a5, s5, hv5, -, -, -⟩ := laid_sentinel (g := 5) (ti := 57) (tp := 126) (te := 128) (ts := 9) h5 (by kernel_rfl) (by kernel_rfl) Tryd.underlying57 row126 Tryd.underlying126 Tryd.underlying128 rfl rfl Tryd.underlying9 cells128 cells9
  obtain ⟨a6, s6, hv6, -, -, -⟩ := laid_sentinel (g := 4) (ti := 57) (tp := 126) (te := 128) (ts := 9) h6 (by kernel_rfl) (by kernel_rfl) Tryd.underlying57 row126 Tryd.underlying126 Tryd.underlying128 rfl rfl Tryd.underlying9 cells128 cells9
  refine ⟨?_, ?_, ⟨.iface 126 (.pointer (some a6)), ?_, .inr ⟨_, _, rfl⟩⟩, ⟨.iface 126 (.pointer (some a5)), ?_, .inr ⟨_, _, rfl⟩⟩⟩
  · exact Lib.tabIs_of_head (k := .u64) (zs := Lib.pow10Tab) glob0 g1Type Tryd.underlying98 Tryd.underlying28 cells28 cells98 h3
  · exact cell_of_shapedOpen_int (g := 1) (t := 3) (zero := #[.int .i64 0]) hs (of_decide_eq_true (by kernel_rfl)) (by kernel_rfl) rfl (by kernel_rfl) (by kernel_rfl) Tryd.underlying3
  · have h0 := World.var?_cell (g := 4) (show Tryd.prog.globalNamed "strconv.ErrSyntax" = some 4 by kernel_rfl) hv6 0
    simpa using h0
  · have h0 := World.var?_cell (g := 5) (show Tryd.prog.globalNamed "strconv.ErrRange" = some 5 by kernel_rfl) hv5 0
    simpa using h0
section
variable {H : Type} {enc : TypeId × Value → H}
theorem handed {C : Checked} {os : Os} {f : FuncId} {fn : Func} {s : ChangeSpec} {l : List (String × DataW Unit)} (own : ownKnob C.prog.godebug = none) (started : os.Started) (noInit : C.prog.inits.idxOf? f = none) (hfn : C.prog.funcs[f]? = some fn)
    (witness : ∃ (w : World) (tape : Tape) (i : Input), w.os = os ∧ (w.forCall tape i).Shaped C.prog ∧ i.vars = [] ∧ Input.okWide C.prog (w.forCall tape i) .any w.heap.size f i ∧
      ((s.pre enc C.prog fn [] false (w.forCall tape i).memory i.args ∧ laidMetH C.prog l (w.forCall tape i).memory) ∧ sizedMet enc C.prog fn (OpenSpec.ofChange s) false (w.forCall tape i).memory i.args) ∧ Assume.holds {} C.prog (lone (Frame.enter C.prog f i.args .normal) [] (w.forCall tape i)))
    (walk : ∀ (W : World) (base : Nat) (args : Array Value) (ds gs : List (DataW H)) (before : List MemPlace),
      (∀ (j : Nat) t v, fn.params[j]? = some t → args[j]? = some v → Value.okWide C.prog W .any base t v) →
      DataW.Whole enc C.prog fn.params.toList s.vars false W args.toList ds gs before → laidMetH C.prog l W → W.ShapedOpen C.prog →
      Calls C.prog f args W fun e W' => ∃ v, e = .returned v ∧ s.post enc C.prog fn false true false false W args v W') :
    ReturnsInHanded {} C os f .any (fun w args => (s.pre enc C.prog fn [] false w args ∧ laidMetH C.prog l w) ∧ sizedMet enc C.prog fn (OpenSpec.ofChange s) false w args) (s.post enc C.prog fn false true false false) :=
  returnsInHanded_of_calls own started noInit witness fun w tape i _ shape _ ok met _ => by
    have hval : ∀ (j : Nat) t v, fn.params[j]? = some t → i.args[j]? = some v → Value.okWide C.prog (w.forCall tape i) .any w.heap.size t v := by
      obtain ⟨_, _, _, fn', e1, _, _, _, _, h⟩ := ok
      cases Option.some.inj (e1.symm.trans hfn)
      exact h
    obtain ⟨⟨⟨ds, gs, before, whole, _⟩, laid⟩, _⟩ := met
    have c := walk (w.forCall tape i) w.heap.size i.args ds gs before hval (DataW.Whole.of_heap (w' := w.forCall tape i) (by rfl) whole) (laid.of_heap (by rfl)) shape
    exact c.mono fun e W' h => by
      obtain ⟨v, rfl, hp⟩ := h
      exact ChangeSpec.post_blind hp
end
end Go.Proofs.YtlbpmehlfihpbaaDoor
