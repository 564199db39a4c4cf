/-
  No cell of these rows narrows 'for every input' (looked for: loops, veiled, ifaces, maps, wideKeys, modest, calm, conditions, laid).
  DERIVED. THE GIVEN ROWS OF THIS SEAT. 4 by the template 'for every input the law returns true; each argument reads behind the call as it read before'; 0 by the template 'total and deterministic' (their statements: YtnpfjfolpfokoaaTotals.lean).
  GIVEN WITH THE SEED: the statements are not yours to turn. If you find one false, say at which input.
  Laid BY PROGRAM, IN A SANDBOX (cutbox-rows.mjs): the forced cells as the released guide's own fill.sh prints them over the translation 51d3bb943d899f5b… (all of the seat's roots in one cut). By AI agents, Wed Nov 11 2026. No macro, syntax, notation, axiom, sorry.
-/
import Derived.Test.YtnpfjfolpfokoaaChecked
import GoSem.Claim
import GoSem.ClaimJoined
import GoSem.ClaimMapViews
import Derived.JoinedTies
import Derived.KernelRfl
namespace Go.Proofs.Ytnpfjfolpfokoaa
/- THE CELL 'sum', in the pinned program and in every row, IS THE sha256 OF THE DUMP (.gsa) THAT YtnpfjfolpfokoaaProg.lean LOADS. Nothing in Lean hashes anything: it is a label: what it is worth is what the hold of that sum in a sandbox is worth. -/
noncomputable def Try.pinned : Pinned := { name := "ytnpfjfolpfokoaa", sum := "51d3bb943d899f5bed41db7090a470e6892f4f3f4aec1347b868dc3d8e9a3aed", checked := Try.checked }
namespace Rows
def none {H : Type} : Left H := { results := [], args := [] }

/-- 'tattlerlaw11.LruPlays': WHATEVER THE INPUT: true; the input reads as it did. -/
def lruPlaysSpec : ChangeSpec := { name := "lruPlays", fn := fun _ => fun
  | [d1, d2] => { results := [.lit (.bool true)], args := [d1, d2] }
  | _ => none }
def lruPlaysRow : OpenClaim := { program := "ytnpfjfolpfokoaa", sum := "51d3bb943d899f5bed41db7090a470e6892f4f3f4aec1347b868dc3d8e9a3aed", func := "tattler/tattlerlaw11.LruPlays", spec := "lruPlays", apart := false }
def LruPlaysSaid : Prop := lruPlaysRow.holds Try.pinned (OpenSpec.ofChange lruPlaysSpec)

/-- ITS FALSE NEIGHBOUR: 'it returns false'. Refute it at one input. -/
def lruPlaysWrong : ChangeSpec := { name := "lruPlays", fn := fun _ => fun
  | [d1, d2] => { results := [.lit (.bool false)], args := [d1, d2] }
  | _ => none }
def LruPlaysWrongFalsely : Prop := lruPlaysRow.holds Try.pinned (OpenSpec.ofChange lruPlaysWrong)

/-- 'tattlerlaw11.LruOnce': WHATEVER THE INPUT: true; the input reads as it did. -/
def lruOnceSpec : ChangeSpec := { name := "lruOnce", fn := fun _ => fun
  | [d1, d2, d3] => { results := [.lit (.bool true)], args := [d1, d2, d3] }
  | _ => none }
def lruOnceRow : OpenClaim := { program := "ytnpfjfolpfokoaa", sum := "51d3bb943d899f5bed41db7090a470e6892f4f3f4aec1347b868dc3d8e9a3aed", func := "tattler/tattlerlaw11.LruOnce", spec := "lruOnce", apart := false }
def LruOnceSaid : Prop := lruOnceRow.holds Try.pinned (OpenSpec.ofChange lruOnceSpec)

/-- ITS FALSE NEIGHBOUR: 'it returns false'. Refute it at one input. -/
def lruOnceWrong : ChangeSpec := { name := "lruOnce", fn := fun _ => fun
  | [d1, d2, d3] => { results := [.lit (.bool false)], args := [d1, d2, d3] }
  | _ => none }
def LruOnceWrongFalsely : Prop := lruOnceRow.holds Try.pinned (OpenSpec.ofChange lruOnceWrong)

/-- 'tattlerlaw11.LruOldest': WHATEVER THE INPUT: true; the input reads as it did. -/
def lruOldestSpec : ChangeSpec := { name := "lruOldest", fn := fun _ => fun
  | [d1, d2] => { results := [.lit (.bool true)], args := [d1, d2] }
  | _ => none }
def lruOldestRow : OpenClaim := { program := "ytnpfjfolpfokoaa", sum := "51d3bb943d899f5bed41db7090a470e6892f4f3f4aec1347b868dc3d8e9a3aed", func := "tattler/tattlerlaw11.LruOldest", spec := "lruOldest", apart := false }
def LruOldestSaid : Prop := lruOldestRow.holds Try.pinned (OpenSpec.ofChange lruOldestSpec)

/-- ITS FALSE NEIGHBOUR: 'it returns false'. Refute it at one input. -/
def lruOldestWrong : ChangeSpec := { name := "lruOldest", fn := fun _ => fun
  | [d1, d2] => { results := [.lit (.bool false)], args := [d1, d2] }
  | _ => none }
def LruOldestWrongFalsely : Prop := lruOldestRow.holds Try.pinned (OpenSpec.ofChange lruOldestWrong)

/-- 'tattlerlaw11.LruBehind': WHATEVER THE INPUT: true; the input reads as it did. -/
def lruBehindSpec : ChangeSpec := { name := "lruBehind", fn := fun _ => fun
  | [d1, d2] => { results := [.lit (.bool true)], args := [d1, d2] }
  | _ => none }
def lruBehindRow : OpenClaim := { program := "ytnpfjfolpfokoaa", sum := "51d3bb943d899f5bed41db7090a470e6892f4f3f4aec1347b868dc3d8e9a3aed", func := "tattler/tattlerlaw11.LruBehind", spec := "lruBehind", apart := false }
def LruBehindSaid : Prop := lruBehindRow.holds Try.pinned (OpenSpec.ofChange lruBehindSpec)

/-- ITS FALSE NEIGHBOUR: 'it returns false'. Refute it at one input. -/
def lruBehindWrong : ChangeSpec := { name := "lruBehind", fn := fun _ => fun
  | [d1, d2] => { results := [.lit (.bool false)], args := [d1, d2] }
  | _ => none }
def LruBehindWrongFalsely : Prop := lruBehindRow.holds Try.pinned (OpenSpec.ofChange lruBehindWrong)

/- THE SECOND FORM. 'bulk': how many values and letters a reading holds, each counted each time it is reached (what is shared counts as often as it is met; a slice's spare places count too). A statement '..UptoSaid' is the law's where the arguments, and the package variables that the reading takes, are together of bulk at most 1048576: NARROWER than '..Said'. Prove '..Said' where nothing that the law and all that it calls make is longer than what came in: it says more and counts as full. Else prove '..UptoSaid'. A law counts once. -/
mutual
def uptoBulk {H : Type} : DataW H → Nat
  | .lit (.string bytes) => bytes.length + 1
  | .lit _ => 1
  | .nil => 1
  | .ptr d => uptoBulk d + 1
  | .slice elems spare => uptoBulkAll elems + uptoBulkAll spare + 1
  | .agg parts => uptoBulkAll parts + 1
  | .iface _ d => uptoBulk d + 1
  | .map entries => uptoBulkEntries entries + 1
  | .held _ => 1
def uptoBulkAll {H : Type} : List (DataW H) → Nat
  | [] => 0
  | d :: r => uptoBulk d + uptoBulkAll r
def uptoBulkEntries {H : Type} : List (Lit × DataW H) → Nat
  | [] => 0
  | x :: r => uptoBulkEntry x + uptoBulkEntries r
def uptoBulkEntry {H : Type} : Lit × DataW H → Nat
  | (.string bytes, d) => bytes.length + uptoBulk d + 1
  | (_, d) => uptoBulk d + 1
 end
def uptoSmall : (H : Type) → List (DataW H) → Bool := fun _ ds => decide (uptoBulkAll ds ≤ 1048576)
def OpenSpec.upto (s : _root_.Go.ChangeSpec) : _root_.Go.OpenSpec := { _root_.Go.OpenSpec.ofChange s with cond := some uptoSmall }

/-- 'tattlerlaw11.LruPlays', WHERE WHAT IT READS IS OF BULK AT MOST 1048576: true; the input reads as it did. -/
def lruPlaysUptoRow : OpenClaim := { program := "ytnpfjfolpfokoaa", sum := "51d3bb943d899f5bed41db7090a470e6892f4f3f4aec1347b868dc3d8e9a3aed", func := "tattler/tattlerlaw11.LruPlays", spec := "lruPlays", apart := false, narrowed := true }
def LruPlaysUptoSaid : Prop := lruPlaysUptoRow.holds Try.pinned (OpenSpec.upto lruPlaysSpec)

/-- 'tattlerlaw11.LruOnce', WHERE WHAT IT READS IS OF BULK AT MOST 1048576: true; the input reads as it did. -/
def lruOnceUptoRow : OpenClaim := { program := "ytnpfjfolpfokoaa", sum := "51d3bb943d899f5bed41db7090a470e6892f4f3f4aec1347b868dc3d8e9a3aed", func := "tattler/tattlerlaw11.LruOnce", spec := "lruOnce", apart := false, narrowed := true }
def LruOnceUptoSaid : Prop := lruOnceUptoRow.holds Try.pinned (OpenSpec.upto lruOnceSpec)

/-- 'tattlerlaw11.LruOldest', WHERE WHAT IT READS IS OF BULK AT MOST 1048576: true; the input reads as it did. -/
def lruOldestUptoRow : OpenClaim := { program := "ytnpfjfolpfokoaa", sum := "51d3bb943d899f5bed41db7090a470e6892f4f3f4aec1347b868dc3d8e9a3aed", func := "tattler/tattlerlaw11.LruOldest", spec := "lruOldest", apart := false, narrowed := true }
def LruOldestUptoSaid : Prop := lruOldestUptoRow.holds Try.pinned (OpenSpec.upto lruOldestSpec)

/-- 'tattlerlaw11.LruBehind', WHERE WHAT IT READS IS OF BULK AT MOST 1048576: true; the input reads as it did. -/
def lruBehindUptoRow : OpenClaim := { program := "ytnpfjfolpfokoaa", sum := "51d3bb943d899f5bed41db7090a470e6892f4f3f4aec1347b868dc3d8e9a3aed", func := "tattler/tattlerlaw11.LruBehind", spec := "lruBehind", apart := false, narrowed := true }
def LruBehindUptoSaid : Prop := lruBehindUptoRow.holds Try.pinned (OpenSpec.upto lruBehindSpec)

end Rows
end Go.Proofs.Ytnpfjfolpfokoaa
