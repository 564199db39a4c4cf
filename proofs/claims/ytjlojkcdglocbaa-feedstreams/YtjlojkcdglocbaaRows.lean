/-
  No cell of these rows narrows 'for every input' (looked for: loops, veiled, ifaces, maps, wideKeys, modest, calm, conditions, laid).
  DERIVED. THE GIVEN ROWS OF THIS SEAT. 5 by the template 'for every input the law returns true; each argument reads behind the call as it read before'; 0 by the template 'total and deterministic' (their statements: YtjlojkcdglocbaaTotals.lean).
  GIVEN WITH THE SEED: the statements are not yours to turn. If you find one false, say at which input.
  Laid BY PROGRAM, IN A SANDBOX (cutbox-rows.mjs): the forced cells as the released guide's own fill.sh prints them over the translation db459fa4e8259a12… (all of the seat's roots in one cut). By AI agents, Wed Nov 11 2026. No macro, syntax, notation, axiom, sorry.
-/
import Derived.Test.YtjlojkcdglocbaaChecked
import GoSem.Claim
import GoSem.ClaimJoined
import GoSem.ClaimMapViews
import Derived.JoinedTies
import Derived.KernelRfl
namespace Go.Proofs.Ytjlojkcdglocbaa
/- THE CELL 'sum', in the pinned program and in every row, IS THE sha256 OF THE DUMP (.gsa) THAT YtjlojkcdglocbaaProg.lean LOADS. Nothing in Lean hashes anything: it is a label: what it is worth is what the hold of that sum in a sandbox is worth. -/
noncomputable def Try.pinned : Pinned := { name := "ytjlojkcdglocbaa", sum := "db459fa4e8259a12e46cc9ac7195e636b4427f00b56186fddc935826db1c7819", checked := Try.checked }
namespace Rows
def none {H : Type} : Left H := { results := [], args := [] }

/-- 'tattlerlaw08.FeedStreams': WHATEVER THE INPUT: true; the input reads as it did. -/
def feedStreamsSpec : ChangeSpec := { name := "feedStreams", fn := fun _ => fun
  | [d1, d2] => { results := [.lit (.bool true)], args := [d1, d2] }
  | _ => none }
def feedStreamsRow : OpenClaim := { program := "ytjlojkcdglocbaa", sum := "db459fa4e8259a12e46cc9ac7195e636b4427f00b56186fddc935826db1c7819", func := "tattler/tattlerlaw08.FeedStreams", spec := "feedStreams", inPlace := ["internal/bytealg.IndexByteString", "internal/bytealg.IndexString"], unfollowed := true, recurses := true, named := ["internal/bytealg.MaxLen"], apart := false }
def FeedStreamsSaid : Prop := feedStreamsRow.holds Try.pinned (OpenSpec.ofChange feedStreamsSpec)

/-- ITS FALSE NEIGHBOUR: 'it returns false'. Refute it at one input. -/
def feedStreamsWrong : ChangeSpec := { name := "feedStreams", fn := fun _ => fun
  | [d1, d2] => { results := [.lit (.bool false)], args := [d1, d2] }
  | _ => none }
def FeedStreamsWrongFalsely : Prop := feedStreamsRow.holds Try.pinned (OpenSpec.ofChange feedStreamsWrong)

/-- 'tattlerlaw08.FeedBytes': WHATEVER THE INPUT: true; the input reads as it did. -/
def feedBytesSpec : ChangeSpec := { name := "feedBytes", fn := fun _ => fun
  | [d] => { results := [.lit (.bool true)], args := [d] }
  | _ => none }
def feedBytesRow : OpenClaim := { program := "ytjlojkcdglocbaa", sum := "db459fa4e8259a12e46cc9ac7195e636b4427f00b56186fddc935826db1c7819", func := "tattler/tattlerlaw08.FeedBytes", spec := "feedBytes", inPlace := ["internal/bytealg.IndexByteString", "internal/bytealg.IndexString"], unfollowed := true, recurses := true, named := ["internal/bytealg.MaxLen"], apart := false }
def FeedBytesSaid : Prop := feedBytesRow.holds Try.pinned (OpenSpec.ofChange feedBytesSpec)

/-- ITS FALSE NEIGHBOUR: 'it returns false'. Refute it at one input. -/
def feedBytesWrong : ChangeSpec := { name := "feedBytes", fn := fun _ => fun
  | [d] => { results := [.lit (.bool false)], args := [d] }
  | _ => none }
def FeedBytesWrongFalsely : Prop := feedBytesRow.holds Try.pinned (OpenSpec.ofChange feedBytesWrong)

/-- 'tattlerlaw08.FeedOn': WHATEVER THE INPUT: true; the input reads as it did. -/
def feedOnSpec : ChangeSpec := { name := "feedOn", fn := fun _ => fun
  | [d1, d2] => { results := [.lit (.bool true)], args := [d1, d2] }
  | _ => none }
def feedOnRow : OpenClaim := { program := "ytjlojkcdglocbaa", sum := "db459fa4e8259a12e46cc9ac7195e636b4427f00b56186fddc935826db1c7819", func := "tattler/tattlerlaw08.FeedOn", spec := "feedOn", inPlace := ["internal/bytealg.IndexByteString", "internal/bytealg.IndexString"], unfollowed := true, recurses := true, named := ["internal/bytealg.MaxLen"], apart := false }
def FeedOnSaid : Prop := feedOnRow.holds Try.pinned (OpenSpec.ofChange feedOnSpec)

/-- ITS FALSE NEIGHBOUR: 'it returns false'. Refute it at one input. -/
def feedOnWrong : ChangeSpec := { name := "feedOn", fn := fun _ => fun
  | [d1, d2] => { results := [.lit (.bool false)], args := [d1, d2] }
  | _ => none }
def FeedOnWrongFalsely : Prop := feedOnRow.holds Try.pinned (OpenSpec.ofChange feedOnWrong)

/-- 'tattlerlaw08.FeedBounded': WHATEVER THE INPUT: true; the input reads as it did. -/
def feedBoundedSpec : ChangeSpec := { name := "feedBounded", fn := fun _ => fun
  | [d] => { results := [.lit (.bool true)], args := [d] }
  | _ => none }
def feedBoundedRow : OpenClaim := { program := "ytjlojkcdglocbaa", sum := "db459fa4e8259a12e46cc9ac7195e636b4427f00b56186fddc935826db1c7819", func := "tattler/tattlerlaw08.FeedBounded", spec := "feedBounded", inPlace := ["internal/bytealg.IndexByteString", "internal/bytealg.IndexString"], unfollowed := true, recurses := true, named := ["internal/bytealg.MaxLen"], apart := false }
def FeedBoundedSaid : Prop := feedBoundedRow.holds Try.pinned (OpenSpec.ofChange feedBoundedSpec)

/-- ITS FALSE NEIGHBOUR: 'it returns false'. Refute it at one input. -/
def feedBoundedWrong : ChangeSpec := { name := "feedBounded", fn := fun _ => fun
  | [d] => { results := [.lit (.bool false)], args := [d] }
  | _ => none }
def FeedBoundedWrongFalsely : Prop := feedBoundedRow.holds Try.pinned (OpenSpec.ofChange feedBoundedWrong)

/-- 'tattlerlaw08.FeedData': WHATEVER THE INPUT: true; the input reads as it did. -/
def feedDataSpec : ChangeSpec := { name := "feedData", fn := fun _ => fun
  | [d1, d2] => { results := [.lit (.bool true)], args := [d1, d2] }
  | _ => none }
def feedDataRow : OpenClaim := { program := "ytjlojkcdglocbaa", sum := "db459fa4e8259a12e46cc9ac7195e636b4427f00b56186fddc935826db1c7819", func := "tattler/tattlerlaw08.FeedData", spec := "feedData", inPlace := ["internal/bytealg.IndexByteString", "internal/bytealg.IndexString"], unfollowed := true, recurses := true, named := ["internal/bytealg.MaxLen"], apart := false }
def FeedDataSaid : Prop := feedDataRow.holds Try.pinned (OpenSpec.ofChange feedDataSpec)

/-- ITS FALSE NEIGHBOUR: 'it returns false'. Refute it at one input. -/
def feedDataWrong : ChangeSpec := { name := "feedData", fn := fun _ => fun
  | [d1, d2] => { results := [.lit (.bool false)], args := [d1, d2] }
  | _ => none }
def FeedDataWrongFalsely : Prop := feedDataRow.holds Try.pinned (OpenSpec.ofChange feedDataWrong)

/- THE SECOND FORM. 'bulk': how many values and letters a reading holds, each counted each time it is reached (what is shared counts as often as it is met; a slice's spare places count too). A statement '..UptoSaid' is the law's where the arguments, and the package variables that the reading takes, are together of bulk at most 1048576: NARROWER than '..Said'. Prove '..Said' where nothing that the law and all that it calls make is longer than what came in: it says more and counts as full. Else prove '..UptoSaid'. A law counts once. -/
mutual
def uptoBulk {H : Type} : DataW H → Nat
  | .lit (.string bytes) => bytes.length + 1
  | .lit _ => 1
  | .nil => 1
  | .ptr d => uptoBulk d + 1
  | .slice elems spare => uptoBulkAll elems + uptoBulkAll spare + 1
  | .agg parts => uptoBulkAll parts + 1
  | .iface _ d => uptoBulk d + 1
  | .map entries => uptoBulkEntries entries + 1
  | .held _ => 1
def uptoBulkAll {H : Type} : List (DataW H) → Nat
  | [] => 0
  | d :: r => uptoBulk d + uptoBulkAll r
def uptoBulkEntries {H : Type} : List (Lit × DataW H) → Nat
  | [] => 0
  | x :: r => uptoBulkEntry x + uptoBulkEntries r
def uptoBulkEntry {H : Type} : Lit × DataW H → Nat
  | (.string bytes, d) => bytes.length + uptoBulk d + 1
  | (_, d) => uptoBulk d + 1
 end
def uptoSmall : (H : Type) → List (DataW H) → Bool := fun _ ds => decide (uptoBulkAll ds ≤ 1048576)
def OpenSpec.upto (s : _root_.Go.ChangeSpec) : _root_.Go.OpenSpec := { _root_.Go.OpenSpec.ofChange s with cond := some uptoSmall }

/-- 'tattlerlaw08.FeedStreams', WHERE WHAT IT READS IS OF BULK AT MOST 1048576: true; the input reads as it did. -/
def feedStreamsUptoRow : OpenClaim := { program := "ytjlojkcdglocbaa", sum := "db459fa4e8259a12e46cc9ac7195e636b4427f00b56186fddc935826db1c7819", func := "tattler/tattlerlaw08.FeedStreams", spec := "feedStreams", inPlace := ["internal/bytealg.IndexByteString", "internal/bytealg.IndexString"], unfollowed := true, recurses := true, named := ["internal/bytealg.MaxLen"], apart := false, narrowed := true }
def FeedStreamsUptoSaid : Prop := feedStreamsUptoRow.holds Try.pinned (OpenSpec.upto feedStreamsSpec)

/-- 'tattlerlaw08.FeedBytes', WHERE WHAT IT READS IS OF BULK AT MOST 1048576: true; the input reads as it did. -/
def feedBytesUptoRow : OpenClaim := { program := "ytjlojkcdglocbaa", sum := "db459fa4e8259a12e46cc9ac7195e636b4427f00b56186fddc935826db1c7819", func := "tattler/tattlerlaw08.FeedBytes", spec := "feedBytes", inPlace := ["internal/bytealg.IndexByteString", "internal/bytealg.IndexString"], unfollowed := true, recurses := true, named := ["internal/bytealg.MaxLen"], apart := false, narrowed := true }
def FeedBytesUptoSaid : Prop := feedBytesUptoRow.holds Try.pinned (OpenSpec.upto feedBytesSpec)

/-- 'tattlerlaw08.FeedOn', WHERE WHAT IT READS IS OF BULK AT MOST 1048576: true; the input reads as it did. -/
def feedOnUptoRow : OpenClaim := { program := "ytjlojkcdglocbaa", sum := "db459fa4e8259a12e46cc9ac7195e636b4427f00b56186fddc935826db1c7819", func := "tattler/tattlerlaw08.FeedOn", spec := "feedOn", inPlace := ["internal/bytealg.IndexByteString", "internal/bytealg.IndexString"], unfollowed := true, recurses := true, named := ["internal/bytealg.MaxLen"], apart := false, narrowed := true }
def FeedOnUptoSaid : Prop := feedOnUptoRow.holds Try.pinned (OpenSpec.upto feedOnSpec)

/-- 'tattlerlaw08.FeedBounded', WHERE WHAT IT READS IS OF BULK AT MOST 1048576: true; the input reads as it did. -/
def feedBoundedUptoRow : OpenClaim := { program := "ytjlojkcdglocbaa", sum := "db459fa4e8259a12e46cc9ac7195e636b4427f00b56186fddc935826db1c7819", func := "tattler/tattlerlaw08.FeedBounded", spec := "feedBounded", inPlace := ["internal/bytealg.IndexByteString", "internal/bytealg.IndexString"], unfollowed := true, recurses := true, named := ["internal/bytealg.MaxLen"], apart := false, narrowed := true }
def FeedBoundedUptoSaid : Prop := feedBoundedUptoRow.holds Try.pinned (OpenSpec.upto feedBoundedSpec)

/-- 'tattlerlaw08.FeedData', WHERE WHAT IT READS IS OF BULK AT MOST 1048576: true; the input reads as it did. -/
def feedDataUptoRow : OpenClaim := { program := "ytjlojkcdglocbaa", sum := "db459fa4e8259a12e46cc9ac7195e636b4427f00b56186fddc935826db1c7819", func := "tattler/tattlerlaw08.FeedData", spec := "feedData", inPlace := ["internal/bytealg.IndexByteString", "internal/bytealg.IndexString"], unfollowed := true, recurses := true, named := ["internal/bytealg.MaxLen"], apart := false, narrowed := true }
def FeedDataUptoSaid : Prop := feedDataUptoRow.holds Try.pinned (OpenSpec.upto feedDataSpec)

end Rows
end Go.Proofs.Ytjlojkcdglocbaa
