/-
  DERIVED. GIVEN WITH THE SEED: THE CARDS: each row of YtlbpmehlfihpbaaDoorRows.lean that lists a variable, with what it lists TIED to the program's text (the seventh form; the later family's looks); each row that meets fmt, with fmt's text TOLD by the authors' own Lean function (tested against real Go, not proved from fmt's source: count such statements apart). THE CARD IS WHAT COUNTS. Prove the row's statement (the work); the ties are given (YtlbpmehlfihpbaaDoorTie.lean); close each card by the builder's one call (the guide's Derived/Test/ToyasCard.lean, 'card_holds'). Laid BY PROGRAM, IN A SANDBOX (cutbox-door.mjs). By AI agents, Wed Nov 11 2026. No macro, syntax, notation, axiom, sorry.
-/
import Derived.Test.YtlbpmehlfihpbaaDoorRows
import GoSem.ClaimSeven
namespace Go.Proofs.YtlbpmehlfihpbaaDoor
namespace Rows

/-- THE TIED CARD OF 'tattlerlaw09.SaySays'. -/
def saySaysCard : Claim7 := { stood := { row := saySaysRow, standIns := [], harness := (true, "4252dc6d5cc5f3f44d07347c325327e27ad607b63843288a3dd785a19f62d512"), looks := true }, kinds := [], alts := [], laidByText := true, laidKinds := [.data, .data, .data, .data, .sentinel, .sentinel, .pinned], laidTests := true, laidLooks := .later }
def SaySaysCardSaid : Prop := Claim7.holds Tryd.pinned (.plain (OpenSpec.ofChange saySaysSpec)) saySaysCard

/-- THE TIED CARD OF 'tattlerlaw09.SayReads'. -/
def sayReadsCard : Claim7 := { stood := { row := sayReadsRow, standIns := [], harness := (true, "4252dc6d5cc5f3f44d07347c325327e27ad607b63843288a3dd785a19f62d512"), looks := true }, kinds := [], alts := [], laidByText := true, laidKinds := [.data, .data, .data, .data, .sentinel, .sentinel, .pinned], laidTests := true, laidLooks := .later }
def SayReadsCardSaid : Prop := Claim7.holds Tryd.pinned (.plain (OpenSpec.ofChange sayReadsSpec)) sayReadsCard

/-- THE TIED CARD OF 'tattlerlaw09.SayBack'. -/
def sayBackCard : Claim7 := { stood := { row := sayBackRow, standIns := [], harness := (true, "4252dc6d5cc5f3f44d07347c325327e27ad607b63843288a3dd785a19f62d512"), looks := true }, kinds := [], alts := [], laidByText := true, laidKinds := [.data, .data, .data, .data, .sentinel, .sentinel, .pinned], laidTests := true, laidLooks := .later }
def SayBackCardSaid : Prop := Claim7.holds Tryd.pinned (.plain (OpenSpec.ofChange sayBackSpec)) sayBackCard

/-- THE TIED CARD OF 'tattlerlaw09.SayOnly'. -/
def sayOnlyCard : Claim7 := { stood := { row := sayOnlyRow, standIns := [], harness := (true, "4252dc6d5cc5f3f44d07347c325327e27ad607b63843288a3dd785a19f62d512"), looks := true }, kinds := [], alts := [], laidByText := true, laidKinds := [.data, .data, .data, .data, .sentinel, .sentinel, .pinned], laidTests := true, laidLooks := .later }
def SayOnlyCardSaid : Prop := Claim7.holds Tryd.pinned (.plain (OpenSpec.ofChange sayOnlySpec)) sayOnlyCard

/-- THE TIED CARD OF 'tattlerlaw09.SayEach'. -/
def sayEachCard : Claim7 := { stood := { row := sayEachRow, standIns := [], harness := (true, "4252dc6d5cc5f3f44d07347c325327e27ad607b63843288a3dd785a19f62d512"), looks := true }, kinds := [], alts := [], laidByText := true, laidKinds := [.data, .data, .data, .data, .sentinel, .sentinel, .pinned], laidTests := true, laidLooks := .later }
def SayEachCardSaid : Prop := Claim7.holds Tryd.pinned (.plain (OpenSpec.ofChange sayEachSpec)) sayEachCard

/-- THE SECOND FORM's CARD OF 'tattlerlaw09.SaySays'. -/
def saySaysUptoCard : Claim7 := { stood := { row := saySaysUptoRow, standIns := [], harness := (true, "4252dc6d5cc5f3f44d07347c325327e27ad607b63843288a3dd785a19f62d512"), looks := true }, kinds := [], alts := [], laidByText := true, laidKinds := [.data, .data, .data, .data, .sentinel, .sentinel, .pinned], laidTests := true, laidLooks := .later }
def SaySaysUptoCardSaid : Prop := Claim7.holds Tryd.pinned (.plain (OpenSpec.upto saySaysSpec)) saySaysUptoCard

/-- THE SECOND FORM's CARD OF 'tattlerlaw09.SayReads'. -/
def sayReadsUptoCard : Claim7 := { stood := { row := sayReadsUptoRow, standIns := [], harness := (true, "4252dc6d5cc5f3f44d07347c325327e27ad607b63843288a3dd785a19f62d512"), looks := true }, kinds := [], alts := [], laidByText := true, laidKinds := [.data, .data, .data, .data, .sentinel, .sentinel, .pinned], laidTests := true, laidLooks := .later }
def SayReadsUptoCardSaid : Prop := Claim7.holds Tryd.pinned (.plain (OpenSpec.upto sayReadsSpec)) sayReadsUptoCard

/-- THE SECOND FORM's CARD OF 'tattlerlaw09.SayBack'. -/
def sayBackUptoCard : Claim7 := { stood := { row := sayBackUptoRow, standIns := [], harness := (true, "4252dc6d5cc5f3f44d07347c325327e27ad607b63843288a3dd785a19f62d512"), looks := true }, kinds := [], alts := [], laidByText := true, laidKinds := [.data, .data, .data, .data, .sentinel, .sentinel, .pinned], laidTests := true, laidLooks := .later }
def SayBackUptoCardSaid : Prop := Claim7.holds Tryd.pinned (.plain (OpenSpec.upto sayBackSpec)) sayBackUptoCard

/-- THE SECOND FORM's CARD OF 'tattlerlaw09.SayOnly'. -/
def sayOnlyUptoCard : Claim7 := { stood := { row := sayOnlyUptoRow, standIns := [], harness := (true, "4252dc6d5cc5f3f44d07347c325327e27ad607b63843288a3dd785a19f62d512"), looks := true }, kinds := [], alts := [], laidByText := true, laidKinds := [.data, .data, .data, .data, .sentinel, .sentinel, .pinned], laidTests := true, laidLooks := .later }
def SayOnlyUptoCardSaid : Prop := Claim7.holds Tryd.pinned (.plain (OpenSpec.upto sayOnlySpec)) sayOnlyUptoCard

/-- THE SECOND FORM's CARD OF 'tattlerlaw09.SayEach'. -/
def sayEachUptoCard : Claim7 := { stood := { row := sayEachUptoRow, standIns := [], harness := (true, "4252dc6d5cc5f3f44d07347c325327e27ad607b63843288a3dd785a19f62d512"), looks := true }, kinds := [], alts := [], laidByText := true, laidKinds := [.data, .data, .data, .data, .sentinel, .sentinel, .pinned], laidTests := true, laidLooks := .later }
def SayEachUptoCardSaid : Prop := Claim7.holds Tryd.pinned (.plain (OpenSpec.upto sayEachSpec)) sayEachUptoCard
end Rows
end Go.Proofs.YtlbpmehlfihpbaaDoor
