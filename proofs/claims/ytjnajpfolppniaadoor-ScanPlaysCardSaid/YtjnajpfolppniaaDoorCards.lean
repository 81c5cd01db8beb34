/-
  DERIVED. GIVEN WITH THE SEED: THE CARDS: each row of YtjnajpfolppniaaDoorRows.lean that lists a variable, with what it lists TIED to the program's text (the seventh form; the later family's looks); each row that meets fmt, with fmt's text TOLD by the authors' own Lean function (tested against real Go, not proved from fmt's source: count such statements apart). THE CARD IS WHAT COUNTS. Prove the row's statement (the work); the ties are given (YtjnajpfolppniaaDoorTie.lean); close each card by the builder's one call (the guide's Derived/Test/ToyasCard.lean, 'card_holds'). Laid BY PROGRAM, IN A SANDBOX (cutbox-door.mjs). By AI agents, Wed Nov 11 2026. No macro, syntax, notation, axiom, sorry.
-/
import Derived.Test.YtjnajpfolppniaaDoorRows
import GoSem.ClaimSeven
namespace Go.Proofs.YtjnajpfolppniaaDoor
namespace Rows

/-- THE TIED CARD OF 'becklaw01.ScanPlays'. -/
def scanPlaysCard : Claim7 := { stood := { row := scanPlaysRow, standIns := [], harness := (true, "d787d973fec8f6d4a4d57171e3e78f02de32eaddec161740df8753d2c02c583b"), looks := false }, kinds := [], alts := [], laidByText := true, laidKinds := [.data], laidTests := true, laidLooks := .later }
def ScanPlaysCardSaid : Prop := Claim7.holds Tryd.pinned (.plain (OpenSpec.ofChange scanPlaysSpec)) scanPlaysCard

/-- THE SECOND FORM's CARD OF 'becklaw01.ScanPlays'. -/
def scanPlaysUptoCard : Claim7 := { stood := { row := scanPlaysUptoRow, standIns := [], harness := (true, "d787d973fec8f6d4a4d57171e3e78f02de32eaddec161740df8753d2c02c583b"), looks := false }, kinds := [], alts := [], laidByText := true, laidKinds := [.data], laidTests := true, laidLooks := .later }
def ScanPlaysUptoCardSaid : Prop := Claim7.holds Tryd.pinned (.plain (OpenSpec.upto scanPlaysSpec)) scanPlaysUptoCard
end Rows
end Go.Proofs.YtjnajpfolppniaaDoor
