/-
  DERIVED. GIVEN WITH THE SEED: THE CARDS: each row of YtpnfjjgihkmjmaaGreatDoorRows.lean that lists a variable, with what it lists TIED to the program's text (the seventh form; the later family's looks); each row that meets fmt, with fmt's text TOLD by the authors' own Lean function (tested against real Go, not proved from fmt's source: count such statements apart). THE CARD IS WHAT COUNTS. Prove the row's statement (the work); the ties are given (YtpnfjjgihkmjmaaGreatDoorTie.lean); close each card by the builder's one call (the guide's Derived/Test/ToyasCard.lean, 'card_holds'). Laid BY PROGRAM, IN A SANDBOX (cutbox-door.mjs). By AI agents, Wed Nov 11 2026. No macro, syntax, notation, axiom, sorry.
-/
import Derived.Test.YtpnfjjgihkmjmaaGreatDoorRows
import GoSem.ClaimSeven
namespace Go.Proofs.YtpnfjjgihkmjmaaGreatDoor
namespace Rows

/-- THE TIED CARD OF 'becklaw04.NtParses'. -/
def ntParsesCard : Claim7 := { stood := { row := ntParsesRow, standIns := [], harness := (true, "aeecdcc74d122031da516c2b4c9bb5ea0cf75cd01139086b05c7069b52fc16f8"), looks := true }, kinds := [], alts := [], laidByText := true, laidKinds := [.data], laidTests := true, laidLooks := .later }
def NtParsesCardSaid : Prop := Claim7.holds Tryz.pinned (.plain (OpenSpec.ofChange ntParsesSpec)) ntParsesCard

/-- THE TIED CARD OF 'becklaw04.NtShifts'. -/
def ntShiftsCard : Claim7 := { stood := { row := ntShiftsRow, standIns := [], harness := (true, "aeecdcc74d122031da516c2b4c9bb5ea0cf75cd01139086b05c7069b52fc16f8"), looks := true }, kinds := [], alts := [], laidByText := true, laidKinds := [.data], laidTests := true, laidLooks := .later }
def NtShiftsCardSaid : Prop := Claim7.holds Tryz.pinned (.plain (OpenSpec.ofChange ntShiftsSpec)) ntShiftsCard

/-- THE TIED CARD OF 'becklaw03.TermOnes'. -/
def termOnesCard : Claim7 := { stood := { row := termOnesRow, standIns := [], harness := (true, "aeecdcc74d122031da516c2b4c9bb5ea0cf75cd01139086b05c7069b52fc16f8"), looks := true }, kinds := [], alts := [], laidByText := true, laidKinds := [.data, .data, .data, .sentinel, .sentinel], laidTests := true, laidLooks := .later }
def TermOnesCardSaid : Prop := Claim7.holds Tryz.pinned (.plain (OpenSpec.ofChange termOnesSpec)) termOnesCard

/-- THE SECOND FORM's CARD OF 'becklaw04.NtParses'. -/
def ntParsesUptoCard : Claim7 := { stood := { row := ntParsesUptoRow, standIns := [], harness := (true, "aeecdcc74d122031da516c2b4c9bb5ea0cf75cd01139086b05c7069b52fc16f8"), looks := true }, kinds := [], alts := [], laidByText := true, laidKinds := [.data], laidTests := true, laidLooks := .later }
def NtParsesUptoCardSaid : Prop := Claim7.holds Tryz.pinned (.plain (OpenSpec.upto ntParsesSpec)) ntParsesUptoCard

/-- THE SECOND FORM's CARD OF 'becklaw04.NtShifts'. -/
def ntShiftsUptoCard : Claim7 := { stood := { row := ntShiftsUptoRow, standIns := [], harness := (true, "aeecdcc74d122031da516c2b4c9bb5ea0cf75cd01139086b05c7069b52fc16f8"), looks := true }, kinds := [], alts := [], laidByText := true, laidKinds := [.data], laidTests := true, laidLooks := .later }
def NtShiftsUptoCardSaid : Prop := Claim7.holds Tryz.pinned (.plain (OpenSpec.upto ntShiftsSpec)) ntShiftsUptoCard

/-- THE SECOND FORM's CARD OF 'becklaw03.TermOnes'. -/
def termOnesUptoCard : Claim7 := { stood := { row := termOnesUptoRow, standIns := [], harness := (true, "aeecdcc74d122031da516c2b4c9bb5ea0cf75cd01139086b05c7069b52fc16f8"), looks := true }, kinds := [], alts := [], laidByText := true, laidKinds := [.data, .data, .data, .sentinel, .sentinel], laidTests := true, laidLooks := .later }
def TermOnesUptoCardSaid : Prop := Claim7.holds Tryz.pinned (.plain (OpenSpec.upto termOnesSpec)) termOnesUptoCard
end Rows
end Go.Proofs.YtpnfjjgihkmjmaaGreatDoor
