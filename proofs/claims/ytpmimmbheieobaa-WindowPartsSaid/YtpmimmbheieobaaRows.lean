/-
  No cell of these rows narrows 'for every input' (looked for: loops, veiled, ifaces, maps, wideKeys, modest, calm, conditions, laid).
  DERIVED. THE GIVEN ROWS OF THIS SEAT. 7 by the template 'for every input the law returns true; each argument reads behind the call as it read before'; 0 by the template 'total and deterministic' (their statements: YtpmimmbheieobaaTotals.lean).
  GIVEN WITH THE SEED: the statements are not yours to turn. If you find one false, say at which input.
  Laid BY PROGRAM, IN A SANDBOX (cutbox-rows.mjs): the forced cells as the released guide's own fill.sh prints them over the translation 9bb50c5d58e90e2e… (all of the seat's roots in one cut). By AI agents, Wed Nov 11 2026. No macro, syntax, notation, axiom, sorry.
-/
import Derived.Test.YtpmimmbheieobaaChecked
import GoSem.Claim
import GoSem.ClaimJoined
import GoSem.ClaimMapViews
import Derived.JoinedTies
import Derived.KernelRfl
namespace Go.Proofs.Ytpmimmbheieobaa
/- THE CELL 'sum', in the pinned program and in every row, IS THE sha256 OF THE DUMP (.gsa) THAT YtpmimmbheieobaaProg.lean LOADS. Nothing in Lean hashes anything: it is a label: what it is worth is what the hold of that sum in a sandbox is worth. -/
noncomputable def Try.pinned : Pinned := { name := "ytpmimmbheieobaa", sum := "9bb50c5d58e90e2e0794155d30b3f71c6a13a71285d68afb8d23411c27de5423", checked := Try.checked }
namespace Rows
def none {H : Type} : Left H := { results := [], args := [] }

/-- 'becklaw08.WindowFirsts': WHATEVER THE INPUT: true; the input reads as it did. -/
def windowFirstsSpec : ChangeSpec := { name := "windowFirsts", fn := fun _ => fun
  | [d1, d2] => { results := [.lit (.bool true)], args := [d1, d2] }
  | _ => none }
def windowFirstsRow : OpenClaim := { program := "ytpmimmbheieobaa", sum := "9bb50c5d58e90e2e0794155d30b3f71c6a13a71285d68afb8d23411c27de5423", func := "beck/becklaw08.WindowFirsts", spec := "windowFirsts", apart := false }
def WindowFirstsSaid : Prop := windowFirstsRow.holds Try.pinned (OpenSpec.ofChange windowFirstsSpec)

/-- ITS FALSE NEIGHBOUR: 'it returns false'. Refute it at one input. -/
def windowFirstsWrong : ChangeSpec := { name := "windowFirsts", fn := fun _ => fun
  | [d1, d2] => { results := [.lit (.bool false)], args := [d1, d2] }
  | _ => none }
def WindowFirstsWrongFalsely : Prop := windowFirstsRow.holds Try.pinned (OpenSpec.ofChange windowFirstsWrong)

/-- 'becklaw08.WindowAts': WHATEVER THE INPUT: true; the input reads as it did. -/
def windowAtsSpec : ChangeSpec := { name := "windowAts", fn := fun _ => fun
  | [d1, d2] => { results := [.lit (.bool true)], args := [d1, d2] }
  | _ => none }
def windowAtsRow : OpenClaim := { program := "ytpmimmbheieobaa", sum := "9bb50c5d58e90e2e0794155d30b3f71c6a13a71285d68afb8d23411c27de5423", func := "beck/becklaw08.WindowAts", spec := "windowAts", apart := false }
def WindowAtsSaid : Prop := windowAtsRow.holds Try.pinned (OpenSpec.ofChange windowAtsSpec)

/-- ITS FALSE NEIGHBOUR: 'it returns false'. Refute it at one input. -/
def windowAtsWrong : ChangeSpec := { name := "windowAts", fn := fun _ => fun
  | [d1, d2] => { results := [.lit (.bool false)], args := [d1, d2] }
  | _ => none }
def WindowAtsWrongFalsely : Prop := windowAtsRow.holds Try.pinned (OpenSpec.ofChange windowAtsWrong)

/-- 'becklaw08.WindowReports': WHATEVER THE INPUT: true; the input reads as it did. -/
def windowReportsSpec : ChangeSpec := { name := "windowReports", fn := fun _ => fun
  | [d1, d2, d3] => { results := [.lit (.bool true)], args := [d1, d2, d3] }
  | _ => none }
def windowReportsRow : OpenClaim := { program := "ytpmimmbheieobaa", sum := "9bb50c5d58e90e2e0794155d30b3f71c6a13a71285d68afb8d23411c27de5423", func := "beck/becklaw08.WindowReports", spec := "windowReports", unfollowed := true, recurses := true, apart := false }
def WindowReportsSaid : Prop := windowReportsRow.holds Try.pinned (OpenSpec.ofChange windowReportsSpec)

/-- ITS FALSE NEIGHBOUR: 'it returns false'. Refute it at one input. -/
def windowReportsWrong : ChangeSpec := { name := "windowReports", fn := fun _ => fun
  | [d1, d2, d3] => { results := [.lit (.bool false)], args := [d1, d2, d3] }
  | _ => none }
def WindowReportsWrongFalsely : Prop := windowReportsRow.holds Try.pinned (OpenSpec.ofChange windowReportsWrong)

/-- 'becklaw08.WindowShifts': WHATEVER THE INPUT: true; the input reads as it did. -/
def windowShiftsSpec : ChangeSpec := { name := "windowShifts", fn := fun _ => fun
  | [d1, d2] => { results := [.lit (.bool true)], args := [d1, d2] }
  | _ => none }
def windowShiftsRow : OpenClaim := { program := "ytpmimmbheieobaa", sum := "9bb50c5d58e90e2e0794155d30b3f71c6a13a71285d68afb8d23411c27de5423", func := "beck/becklaw08.WindowShifts", spec := "windowShifts", apart := false }
def WindowShiftsSaid : Prop := windowShiftsRow.holds Try.pinned (OpenSpec.ofChange windowShiftsSpec)

/-- ITS FALSE NEIGHBOUR: 'it returns false'. Refute it at one input. -/
def windowShiftsWrong : ChangeSpec := { name := "windowShifts", fn := fun _ => fun
  | [d1, d2] => { results := [.lit (.bool false)], args := [d1, d2] }
  | _ => none }
def WindowShiftsWrongFalsely : Prop := windowShiftsRow.holds Try.pinned (OpenSpec.ofChange windowShiftsWrong)

/-- 'becklaw08.WindowTumbles': WHATEVER THE INPUT: true; the input reads as it did. -/
def windowTumblesSpec : ChangeSpec := { name := "windowTumbles", fn := fun _ => fun
  | [d1, d2] => { results := [.lit (.bool true)], args := [d1, d2] }
  | _ => none }
def windowTumblesRow : OpenClaim := { program := "ytpmimmbheieobaa", sum := "9bb50c5d58e90e2e0794155d30b3f71c6a13a71285d68afb8d23411c27de5423", func := "beck/becklaw08.WindowTumbles", spec := "windowTumbles", apart := false }
def WindowTumblesSaid : Prop := windowTumblesRow.holds Try.pinned (OpenSpec.ofChange windowTumblesSpec)

/-- ITS FALSE NEIGHBOUR: 'it returns false'. Refute it at one input. -/
def windowTumblesWrong : ChangeSpec := { name := "windowTumbles", fn := fun _ => fun
  | [d1, d2] => { results := [.lit (.bool false)], args := [d1, d2] }
  | _ => none }
def WindowTumblesWrongFalsely : Prop := windowTumblesRow.holds Try.pinned (OpenSpec.ofChange windowTumblesWrong)

/-- 'becklaw08.WindowParts': WHATEVER THE INPUT: true; the input reads as it did. -/
def windowPartsSpec : ChangeSpec := { name := "windowParts", fn := fun _ => fun
  | [d1, d2, d3] => { results := [.lit (.bool true)], args := [d1, d2, d3] }
  | _ => none }
def windowPartsRow : OpenClaim := { program := "ytpmimmbheieobaa", sum := "9bb50c5d58e90e2e0794155d30b3f71c6a13a71285d68afb8d23411c27de5423", func := "beck/becklaw08.WindowParts", spec := "windowParts", unfollowed := true, recurses := true, apart := false }
def WindowPartsSaid : Prop := windowPartsRow.holds Try.pinned (OpenSpec.ofChange windowPartsSpec)

/-- ITS FALSE NEIGHBOUR: 'it returns false'. Refute it at one input. -/
def windowPartsWrong : ChangeSpec := { name := "windowParts", fn := fun _ => fun
  | [d1, d2, d3] => { results := [.lit (.bool false)], args := [d1, d2, d3] }
  | _ => none }
def WindowPartsWrongFalsely : Prop := windowPartsRow.holds Try.pinned (OpenSpec.ofChange windowPartsWrong)

/-- 'becklaw08.WindowNeeds': WHATEVER THE INPUT: true; the input reads as it did. -/
def windowNeedsSpec : ChangeSpec := { name := "windowNeeds", fn := fun _ => fun
  | [d1, d2, d3] => { results := [.lit (.bool true)], args := [d1, d2, d3] }
  | _ => none }
def windowNeedsRow : OpenClaim := { program := "ytpmimmbheieobaa", sum := "9bb50c5d58e90e2e0794155d30b3f71c6a13a71285d68afb8d23411c27de5423", func := "beck/becklaw08.WindowNeeds", spec := "windowNeeds", apart := false }
def WindowNeedsSaid : Prop := windowNeedsRow.holds Try.pinned (OpenSpec.ofChange windowNeedsSpec)

/-- ITS FALSE NEIGHBOUR: 'it returns false'. Refute it at one input. -/
def windowNeedsWrong : ChangeSpec := { name := "windowNeeds", fn := fun _ => fun
  | [d1, d2, d3] => { results := [.lit (.bool false)], args := [d1, d2, d3] }
  | _ => none }
def WindowNeedsWrongFalsely : Prop := windowNeedsRow.holds Try.pinned (OpenSpec.ofChange windowNeedsWrong)

/- THE SECOND FORM. 'bulk': how many values and letters a reading holds, each counted each time it is reached (what is shared counts as often as it is met; a slice's spare places count too). A statement '..UptoSaid' is the law's where the arguments, and the package variables that the reading takes, are together of bulk at most 1048576: NARROWER than '..Said'. Prove '..Said' where nothing that the law and all that it calls make is longer than what came in: it says more and counts as full. Else prove '..UptoSaid'. A law counts once. -/
mutual
def uptoBulk {H : Type} : DataW H → Nat
  | .lit (.string bytes) => bytes.length + 1
  | .lit _ => 1
  | .nil => 1
  | .ptr d => uptoBulk d + 1
  | .slice elems spare => uptoBulkAll elems + uptoBulkAll spare + 1
  | .agg parts => uptoBulkAll parts + 1
  | .iface _ d => uptoBulk d + 1
  | .map entries => uptoBulkEntries entries + 1
  | .held _ => 1
def uptoBulkAll {H : Type} : List (DataW H) → Nat
  | [] => 0
  | d :: r => uptoBulk d + uptoBulkAll r
def uptoBulkEntries {H : Type} : List (Lit × DataW H) → Nat
  | [] => 0
  | x :: r => uptoBulkEntry x + uptoBulkEntries r
def uptoBulkEntry {H : Type} : Lit × DataW H → Nat
  | (.string bytes, d) => bytes.length + uptoBulk d + 1
  | (_, d) => uptoBulk d + 1
 end
def uptoSmall : (H : Type) → List (DataW H) → Bool := fun _ ds => decide (uptoBulkAll ds ≤ 1048576)
def OpenSpec.upto (s : _root_.Go.ChangeSpec) : _root_.Go.OpenSpec := { _root_.Go.OpenSpec.ofChange s with cond := some uptoSmall }

/-- 'becklaw08.WindowFirsts', WHERE WHAT IT READS IS OF BULK AT MOST 1048576: true; the input reads as it did. -/
def windowFirstsUptoRow : OpenClaim := { program := "ytpmimmbheieobaa", sum := "9bb50c5d58e90e2e0794155d30b3f71c6a13a71285d68afb8d23411c27de5423", func := "beck/becklaw08.WindowFirsts", spec := "windowFirsts", apart := false, narrowed := true }
def WindowFirstsUptoSaid : Prop := windowFirstsUptoRow.holds Try.pinned (OpenSpec.upto windowFirstsSpec)

/-- 'becklaw08.WindowAts', WHERE WHAT IT READS IS OF BULK AT MOST 1048576: true; the input reads as it did. -/
def windowAtsUptoRow : OpenClaim := { program := "ytpmimmbheieobaa", sum := "9bb50c5d58e90e2e0794155d30b3f71c6a13a71285d68afb8d23411c27de5423", func := "beck/becklaw08.WindowAts", spec := "windowAts", apart := false, narrowed := true }
def WindowAtsUptoSaid : Prop := windowAtsUptoRow.holds Try.pinned (OpenSpec.upto windowAtsSpec)

/-- 'becklaw08.WindowReports', WHERE WHAT IT READS IS OF BULK AT MOST 1048576: true; the input reads as it did. -/
def windowReportsUptoRow : OpenClaim := { program := "ytpmimmbheieobaa", sum := "9bb50c5d58e90e2e0794155d30b3f71c6a13a71285d68afb8d23411c27de5423", func := "beck/becklaw08.WindowReports", spec := "windowReports", unfollowed := true, recurses := true, apart := false, narrowed := true }
def WindowReportsUptoSaid : Prop := windowReportsUptoRow.holds Try.pinned (OpenSpec.upto windowReportsSpec)

/-- 'becklaw08.WindowShifts', WHERE WHAT IT READS IS OF BULK AT MOST 1048576: true; the input reads as it did. -/
def windowShiftsUptoRow : OpenClaim := { program := "ytpmimmbheieobaa", sum := "9bb50c5d58e90e2e0794155d30b3f71c6a13a71285d68afb8d23411c27de5423", func := "beck/becklaw08.WindowShifts", spec := "windowShifts", apart := false, narrowed := true }
def WindowShiftsUptoSaid : Prop := windowShiftsUptoRow.holds Try.pinned (OpenSpec.upto windowShiftsSpec)

/-- 'becklaw08.WindowTumbles', WHERE WHAT IT READS IS OF BULK AT MOST 1048576: true; the input reads as it did. -/
def windowTumblesUptoRow : OpenClaim := { program := "ytpmimmbheieobaa", sum := "9bb50c5d58e90e2e0794155d30b3f71c6a13a71285d68afb8d23411c27de5423", func := "beck/becklaw08.WindowTumbles", spec := "windowTumbles", apart := false, narrowed := true }
def WindowTumblesUptoSaid : Prop := windowTumblesUptoRow.holds Try.pinned (OpenSpec.upto windowTumblesSpec)

/-- 'becklaw08.WindowParts', WHERE WHAT IT READS IS OF BULK AT MOST 1048576: true; the input reads as it did. -/
def windowPartsUptoRow : OpenClaim := { program := "ytpmimmbheieobaa", sum := "9bb50c5d58e90e2e0794155d30b3f71c6a13a71285d68afb8d23411c27de5423", func := "beck/becklaw08.WindowParts", spec := "windowParts", unfollowed := true, recurses := true, apart := false, narrowed := true }
def WindowPartsUptoSaid : Prop := windowPartsUptoRow.holds Try.pinned (OpenSpec.upto windowPartsSpec)

/-- 'becklaw08.WindowNeeds', WHERE WHAT IT READS IS OF BULK AT MOST 1048576: true; the input reads as it did. -/
def windowNeedsUptoRow : OpenClaim := { program := "ytpmimmbheieobaa", sum := "9bb50c5d58e90e2e0794155d30b3f71c6a13a71285d68afb8d23411c27de5423", func := "beck/becklaw08.WindowNeeds", spec := "windowNeeds", apart := false, narrowed := true }
def WindowNeedsUptoSaid : Prop := windowNeedsUptoRow.holds Try.pinned (OpenSpec.upto windowNeedsSpec)

end Rows
end Go.Proofs.Ytpmimmbheieobaa
