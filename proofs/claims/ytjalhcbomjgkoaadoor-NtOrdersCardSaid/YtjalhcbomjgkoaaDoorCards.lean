/-
  DERIVED. GIVEN WITH THE SEED: THE CARDS: each row of YtjalhcbomjgkoaaDoorRows.lean that lists a variable, with what it lists TIED to the program's text (the seventh form; the later family's looks); each row that meets fmt, with fmt's text TOLD by the authors' own Lean function (tested against real Go, not proved from fmt's source: count such statements apart). THE CARD IS WHAT COUNTS. Prove the row's statement (the work); the ties are given (YtjalhcbomjgkoaaDoorTie.lean); close each card by the builder's one call (the guide's Derived/Test/ToyasCard.lean, 'card_holds'). Laid BY PROGRAM, IN A SANDBOX (cutbox-door.mjs). By AI agents, Wed Nov 11 2026. No macro, syntax, notation, axiom, sorry.
-/
import Derived.Test.YtjalhcbomjgkoaaDoorRows
import GoSem.ClaimSeven
namespace Go.Proofs.YtjalhcbomjgkoaaDoor
namespace Rows

/-- THE TIED CARD OF 'becklaw01.ScanPlays'. -/
def scanPlaysCard : Claim7 := { stood := { row := scanPlaysRow, standIns := [], harness := (true, "967a121e7d8d6c26331eff7bd80d5fa2bc262ed6dc420985ba3e959d1b0c91d6"), looks := true }, kinds := [], alts := [], laidByText := true, laidKinds := [.data], laidTests := true, laidLooks := .later }
def ScanPlaysCardSaid : Prop := Claim7.holds Tryd.pinned (.plain (OpenSpec.ofChange scanPlaysSpec)) scanPlaysCard

/-- THE TIED CARD OF 'becklaw03.TermOrders'. -/
def termOrdersCard : Claim7 := { stood := { row := termOrdersRow, standIns := [], harness := (true, "967a121e7d8d6c26331eff7bd80d5fa2bc262ed6dc420985ba3e959d1b0c91d6"), looks := true }, kinds := [], alts := [], laidByText := true, laidKinds := [.data, .data, .data, .sentinel, .sentinel], laidTests := true, laidLooks := .later }
def TermOrdersCardSaid : Prop := Claim7.holds Tryd.pinned (.plain (OpenSpec.ofChange termOrdersSpec)) termOrdersCard

/-- THE TIED CARD OF 'becklaw04.NtOrders'. -/
def ntOrdersCard : Claim7 := { stood := { row := ntOrdersRow, standIns := [], harness := (true, "967a121e7d8d6c26331eff7bd80d5fa2bc262ed6dc420985ba3e959d1b0c91d6"), looks := true }, kinds := [], alts := [], laidByText := true, laidKinds := [.data], laidTests := true, laidLooks := .later }
def NtOrdersCardSaid : Prop := Claim7.holds Tryd.pinned (.plain (OpenSpec.ofChange ntOrdersSpec)) ntOrdersCard

/-- THE TIED CARD OF 'becklaw04.NtJoins'. -/
def ntJoinsCard : Claim7 := { stood := { row := ntJoinsRow, standIns := [], harness := (true, "967a121e7d8d6c26331eff7bd80d5fa2bc262ed6dc420985ba3e959d1b0c91d6"), looks := true }, kinds := [], alts := [], laidByText := true, laidKinds := [.data], laidTests := true, laidLooks := .later }
def NtJoinsCardSaid : Prop := Claim7.holds Tryd.pinned (.plain (OpenSpec.ofChange ntJoinsSpec)) ntJoinsCard

/-- THE TIED CARD OF 'becklaw04.NtBlanks'. -/
def ntBlanksCard : Claim7 := { stood := { row := ntBlanksRow, standIns := [], harness := (true, "967a121e7d8d6c26331eff7bd80d5fa2bc262ed6dc420985ba3e959d1b0c91d6"), looks := true }, kinds := [], alts := [], laidByText := true, laidKinds := [.data], laidTests := true, laidLooks := .later }
def NtBlanksCardSaid : Prop := Claim7.holds Tryd.pinned (.plain (OpenSpec.ofChange ntBlanksSpec)) ntBlanksCard

/-- THE SECOND FORM's CARD OF 'becklaw01.ScanPlays'. -/
def scanPlaysUptoCard : Claim7 := { stood := { row := scanPlaysUptoRow, standIns := [], harness := (true, "967a121e7d8d6c26331eff7bd80d5fa2bc262ed6dc420985ba3e959d1b0c91d6"), looks := true }, kinds := [], alts := [], laidByText := true, laidKinds := [.data], laidTests := true, laidLooks := .later }
def ScanPlaysUptoCardSaid : Prop := Claim7.holds Tryd.pinned (.plain (OpenSpec.upto scanPlaysSpec)) scanPlaysUptoCard

/-- THE SECOND FORM's CARD OF 'becklaw03.TermOrders'. -/
def termOrdersUptoCard : Claim7 := { stood := { row := termOrdersUptoRow, standIns := [], harness := (true, "967a121e7d8d6c26331eff7bd80d5fa2bc262ed6dc420985ba3e959d1b0c91d6"), looks := true }, kinds := [], alts := [], laidByText := true, laidKinds := [.data, .data, .data, .sentinel, .sentinel], laidTests := true, laidLooks := .later }
def TermOrdersUptoCardSaid : Prop := Claim7.holds Tryd.pinned (.plain (OpenSpec.upto termOrdersSpec)) termOrdersUptoCard

/-- THE SECOND FORM's CARD OF 'becklaw04.NtOrders'. -/
def ntOrdersUptoCard : Claim7 := { stood := { row := ntOrdersUptoRow, standIns := [], harness := (true, "967a121e7d8d6c26331eff7bd80d5fa2bc262ed6dc420985ba3e959d1b0c91d6"), looks := true }, kinds := [], alts := [], laidByText := true, laidKinds := [.data], laidTests := true, laidLooks := .later }
def NtOrdersUptoCardSaid : Prop := Claim7.holds Tryd.pinned (.plain (OpenSpec.upto ntOrdersSpec)) ntOrdersUptoCard

/-- THE SECOND FORM's CARD OF 'becklaw04.NtJoins'. -/
def ntJoinsUptoCard : Claim7 := { stood := { row := ntJoinsUptoRow, standIns := [], harness := (true, "967a121e7d8d6c26331eff7bd80d5fa2bc262ed6dc420985ba3e959d1b0c91d6"), looks := true }, kinds := [], alts := [], laidByText := true, laidKinds := [.data], laidTests := true, laidLooks := .later }
def NtJoinsUptoCardSaid : Prop := Claim7.holds Tryd.pinned (.plain (OpenSpec.upto ntJoinsSpec)) ntJoinsUptoCard

/-- THE SECOND FORM's CARD OF 'becklaw04.NtBlanks'. -/
def ntBlanksUptoCard : Claim7 := { stood := { row := ntBlanksUptoRow, standIns := [], harness := (true, "967a121e7d8d6c26331eff7bd80d5fa2bc262ed6dc420985ba3e959d1b0c91d6"), looks := true }, kinds := [], alts := [], laidByText := true, laidKinds := [.data], laidTests := true, laidLooks := .later }
def NtBlanksUptoCardSaid : Prop := Claim7.holds Tryd.pinned (.plain (OpenSpec.upto ntBlanksSpec)) ntBlanksUptoCard
end Rows
end Go.Proofs.YtjalhcbomjgkoaaDoor
