/- The landed talk is as it must be; the four laws, of the landed code. -/
import Derived.Test.YtalcbahnhiibkaaTkOpen
import Derived.Test.YtalcbahnhiibkaaTkCode6
namespace Go.Proofs.Ytalcbahnhiibkaa
open Go.ChangeShapes Go.WideShapes Go.ChangeAt Go.RowKit Go.Joins Go.Deep
set_option linter.unusedVariables false

theorem talk_is : TalkIs TkT where
  lt := fun h hb => tk_lt h hb
  stay := fun h hs => tk_stay h hs
  new_ok := fun n k w h1 h2 h3 h4 => new_is n k w h1 h2 h3 h4
  new_bad := fun n k w h => new_no n k w h
  add_ok := fun X n k l F x w h g h1 h2 hx hx2 => add_is X n k l F x w h (gd_len g) hx hx2
  add_bad := fun X n k l F x w h g hx hx2 => add_no X x w hx2
  take := fun X n k l F w h g h1 h2 h3 h4 => take_is X n k l F w h g (gd_len g) h1 h2 h3 h4
  len := fun X n k l F w h g => len_is X n k l F w h
  add_nil := fun x w hx => add_none x w
  take_nil := fun w => take_none w
  len_nil := fun w => len_none w
theorem plays_all {v : Value} (n k : Int) (l : List Opn) (w : World) (wn : (Lit.int .i64 n).wf = true) (wk : (Lit.int .i64 k).wf = true) (h : Rg encO 4 w v l) (hl : ∀ o ∈ l, NwOk o.x) : Calls Try.prog 3 #[.int .i64 n, .int .i64 k, v] w fun e w' => e = .returned (.bool true) ∧ Kept w w' := plays_of talk_is n k l w wn wk h hl
theorem often_all {v : Value} (t m : Int) (l : List Nw) (w : World) (wt : (Lit.int .u8 t).wf = true) (wm : (Lit.int .u8 m).wf = true) (h : Rg encN 3 w v l) (hl : ∀ x ∈ l, NwOk x) : Calls Try.prog 4 #[.int .u8 t, .int .u8 m, v] w fun e w' => e = .returned (.bool true) ∧ Kept w w' := often_of talk_is t m l w wt wm h hl
theorem again_all (x y : Nw) (n : Int) (w : World) (hx : NwOk x) (hy : NwOk y) (wn : (Lit.int .u8 n).wf = true) : Calls Try.prog 5 #[.agg #[.int .u8 x.node, .int .u8 x.st, .int .u32 x.inc], .agg #[.int .u8 y.node, .int .u8 y.st, .int .u32 y.inc], .int .u8 n] w fun e w' => e = .returned (.bool true) ∧ Kept w w' := again_of talk_is x y n w hx hy wn
theorem most_all {v : Value} (t m : Int) (l : List Opn) (w : World) (wt : (Lit.int .u8 t).wf = true) (wm : (Lit.int .u8 m).wf = true) (h : Rg encO 4 w v l) (hl : ∀ o ∈ l, NwOk o.x) : Calls Try.prog 6 #[.int .u8 t, .int .u8 m, v] w fun e w' => e = .returned (.bool true) ∧ Kept w w' := most_of talk_is t m l w wt wm h hl
end Go.Proofs.Ytalcbahnhiibkaa
