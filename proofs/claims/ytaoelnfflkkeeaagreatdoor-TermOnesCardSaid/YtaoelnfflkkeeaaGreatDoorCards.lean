/-
  DERIVED. GIVEN WITH THE SEED: THE CARDS: each row of YtaoelnfflkkeeaaGreatDoorRows.lean that lists a variable, with what it lists TIED to the program's text (the seventh form; the later family's looks); each row that meets fmt, with fmt's text TOLD by the authors' own Lean function (tested against real Go, not proved from fmt's source: count such statements apart). THE CARD IS WHAT COUNTS. Prove the row's statement (the work); the ties are given (YtaoelnfflkkeeaaGreatDoorTie.lean); close each card by the builder's one call (the guide's Derived/Test/ToyasCard.lean, 'card_holds'). Laid BY PROGRAM, IN A SANDBOX (cutbox-door.mjs). By AI agents, Wed Nov 11 2026. No macro, syntax, notation, axiom, sorry.
-/
import Derived.Test.YtaoelnfflkkeeaaGreatDoorRows
import GoSem.ClaimSeven
namespace Go.Proofs.YtaoelnfflkkeeaaGreatDoor
namespace Rows

/-- THE TIED CARD OF 'becklaw03.TermOnes'. -/
def termOnesCard : Claim7 := { stood := { row := termOnesRow, standIns := [], harness := (true, "2ae956e15dd138f75ac7d2f821b0ce494d7db9dab2ee7eb877700c52375b9931"), looks := true }, kinds := [], alts := [], laidByText := true, laidKinds := [.data, .data, .data, .sentinel, .sentinel], laidTests := true, laidLooks := .later }
def TermOnesCardSaid : Prop := Claim7.holds Tryz.pinned (.plain (OpenSpec.ofChange termOnesSpec)) termOnesCard

/-- THE SECOND FORM's CARD OF 'becklaw03.TermOnes'. -/
def termOnesUptoCard : Claim7 := { stood := { row := termOnesUptoRow, standIns := [], harness := (true, "2ae956e15dd138f75ac7d2f821b0ce494d7db9dab2ee7eb877700c52375b9931"), looks := true }, kinds := [], alts := [], laidByText := true, laidKinds := [.data, .data, .data, .sentinel, .sentinel], laidTests := true, laidLooks := .later }
def TermOnesUptoCardSaid : Prop := Claim7.holds Tryz.pinned (.plain (OpenSpec.upto termOnesSpec)) termOnesUptoCard
end Rows
end Go.Proofs.YtaoelnfflkkeeaaGreatDoor
