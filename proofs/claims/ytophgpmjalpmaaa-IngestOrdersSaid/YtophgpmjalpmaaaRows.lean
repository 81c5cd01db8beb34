/-
  No cell of these rows narrows 'for every input' (looked for: loops, veiled, ifaces, maps, wideKeys, modest, calm, conditions, laid).
  DERIVED. THE GIVEN ROWS OF THIS SEAT. 6 by the template 'for every input the law returns true; each argument reads behind the call as it read before'; 0 by the template 'total and deterministic' (their statements: YtophgpmjalpmaaaTotals.lean).
  GIVEN WITH THE SEED: the statements are not yours to turn. If you find one false, say at which input.
  Laid BY PROGRAM, IN A SANDBOX (cutbox-rows.mjs): the forced cells as the released guide's own fill.sh prints them over the translation e94935d0fab2651b… (all of the seat's roots in one cut). By AI agents, Wed Nov 11 2026. No macro, syntax, notation, axiom, sorry.
-/
import Derived.Test.YtophgpmjalpmaaaChecked
import GoSem.Claim
import GoSem.ClaimJoined
import GoSem.ClaimMapViews
import Derived.JoinedTies
import Derived.KernelRfl
namespace Go.Proofs.Ytophgpmjalpmaaa
/- THE CELL 'sum', in the pinned program and in every row, IS THE sha256 OF THE DUMP (.gsa) THAT YtophgpmjalpmaaaProg.lean LOADS. Nothing in Lean hashes anything: it is a label: what it is worth is what the hold of that sum in a sandbox is worth. -/
noncomputable def Try.pinned : Pinned := { name := "ytophgpmjalpmaaa", sum := "e94935d0fab2651b9cf7741c5ba52b808f401a22da9417fdab6fe705016623e3", checked := Try.checked }
namespace Rows
def none {H : Type} : Left H := { results := [], args := [] }

/-- 'becklaw07.IngestPlays': WHATEVER THE INPUT: true; the input reads as it did. -/
def ingestPlaysSpec : ChangeSpec := { name := "ingestPlays", fn := fun _ => fun
  | [d1, d2] => { results := [.lit (.bool true)], args := [d1, d2] }
  | _ => none }
def ingestPlaysRow : OpenClaim := { program := "ytophgpmjalpmaaa", sum := "e94935d0fab2651b9cf7741c5ba52b808f401a22da9417fdab6fe705016623e3", func := "beck/becklaw07.IngestPlays", spec := "ingestPlays", unfollowed := true, recurses := true, apart := false }
def IngestPlaysSaid : Prop := ingestPlaysRow.holds Try.pinned (OpenSpec.ofChange ingestPlaysSpec)

/-- ITS FALSE NEIGHBOUR: 'it returns false'. Refute it at one input. -/
def ingestPlaysWrong : ChangeSpec := { name := "ingestPlays", fn := fun _ => fun
  | [d1, d2] => { results := [.lit (.bool false)], args := [d1, d2] }
  | _ => none }
def IngestPlaysWrongFalsely : Prop := ingestPlaysRow.holds Try.pinned (OpenSpec.ofChange ingestPlaysWrong)

/-- 'becklaw07.IngestRises': WHATEVER THE INPUT: true; the input reads as it did. -/
def ingestRisesSpec : ChangeSpec := { name := "ingestRises", fn := fun _ => fun
  | [d1, d2] => { results := [.lit (.bool true)], args := [d1, d2] }
  | _ => none }
def ingestRisesRow : OpenClaim := { program := "ytophgpmjalpmaaa", sum := "e94935d0fab2651b9cf7741c5ba52b808f401a22da9417fdab6fe705016623e3", func := "beck/becklaw07.IngestRises", spec := "ingestRises", unfollowed := true, recurses := true, apart := false }
def IngestRisesSaid : Prop := ingestRisesRow.holds Try.pinned (OpenSpec.ofChange ingestRisesSpec)

/-- ITS FALSE NEIGHBOUR: 'it returns false'. Refute it at one input. -/
def ingestRisesWrong : ChangeSpec := { name := "ingestRises", fn := fun _ => fun
  | [d1, d2] => { results := [.lit (.bool false)], args := [d1, d2] }
  | _ => none }
def IngestRisesWrongFalsely : Prop := ingestRisesRow.holds Try.pinned (OpenSpec.ofChange ingestRisesWrong)

/-- 'becklaw07.IngestOrders': WHATEVER THE INPUT: true; the input reads as it did. -/
def ingestOrdersSpec : ChangeSpec := { name := "ingestOrders", fn := fun _ => fun
  | [d1, d2] => { results := [.lit (.bool true)], args := [d1, d2] }
  | _ => none }
def ingestOrdersRow : OpenClaim := { program := "ytophgpmjalpmaaa", sum := "e94935d0fab2651b9cf7741c5ba52b808f401a22da9417fdab6fe705016623e3", func := "beck/becklaw07.IngestOrders", spec := "ingestOrders", unfollowed := true, recurses := true, apart := false }
def IngestOrdersSaid : Prop := ingestOrdersRow.holds Try.pinned (OpenSpec.ofChange ingestOrdersSpec)

/-- ITS FALSE NEIGHBOUR: 'it returns false'. Refute it at one input. -/
def ingestOrdersWrong : ChangeSpec := { name := "ingestOrders", fn := fun _ => fun
  | [d1, d2] => { results := [.lit (.bool false)], args := [d1, d2] }
  | _ => none }
def IngestOrdersWrongFalsely : Prop := ingestOrdersRow.holds Try.pinned (OpenSpec.ofChange ingestOrdersWrong)

/-- 'becklaw07.IngestMarks': WHATEVER THE INPUT: true; the input reads as it did. -/
def ingestMarksSpec : ChangeSpec := { name := "ingestMarks", fn := fun _ => fun
  | [d1, d2] => { results := [.lit (.bool true)], args := [d1, d2] }
  | _ => none }
def ingestMarksRow : OpenClaim := { program := "ytophgpmjalpmaaa", sum := "e94935d0fab2651b9cf7741c5ba52b808f401a22da9417fdab6fe705016623e3", func := "beck/becklaw07.IngestMarks", spec := "ingestMarks", unfollowed := true, recurses := true, apart := false }
def IngestMarksSaid : Prop := ingestMarksRow.holds Try.pinned (OpenSpec.ofChange ingestMarksSpec)

/-- ITS FALSE NEIGHBOUR: 'it returns false'. Refute it at one input. -/
def ingestMarksWrong : ChangeSpec := { name := "ingestMarks", fn := fun _ => fun
  | [d1, d2] => { results := [.lit (.bool false)], args := [d1, d2] }
  | _ => none }
def IngestMarksWrongFalsely : Prop := ingestMarksRow.holds Try.pinned (OpenSpec.ofChange ingestMarksWrong)

/-- 'becklaw07.IngestCounts': WHATEVER THE INPUT: true; the input reads as it did. -/
def ingestCountsSpec : ChangeSpec := { name := "ingestCounts", fn := fun _ => fun
  | [d1, d2] => { results := [.lit (.bool true)], args := [d1, d2] }
  | _ => none }
def ingestCountsRow : OpenClaim := { program := "ytophgpmjalpmaaa", sum := "e94935d0fab2651b9cf7741c5ba52b808f401a22da9417fdab6fe705016623e3", func := "beck/becklaw07.IngestCounts", spec := "ingestCounts", unfollowed := true, recurses := true, apart := false }
def IngestCountsSaid : Prop := ingestCountsRow.holds Try.pinned (OpenSpec.ofChange ingestCountsSpec)

/-- ITS FALSE NEIGHBOUR: 'it returns false'. Refute it at one input. -/
def ingestCountsWrong : ChangeSpec := { name := "ingestCounts", fn := fun _ => fun
  | [d1, d2] => { results := [.lit (.bool false)], args := [d1, d2] }
  | _ => none }
def IngestCountsWrongFalsely : Prop := ingestCountsRow.holds Try.pinned (OpenSpec.ofChange ingestCountsWrong)

/-- 'becklaw07.IngestLates': WHATEVER THE INPUT: true; the input reads as it did. -/
def ingestLatesSpec : ChangeSpec := { name := "ingestLates", fn := fun _ => fun
  | [d1, d2] => { results := [.lit (.bool true)], args := [d1, d2] }
  | _ => none }
def ingestLatesRow : OpenClaim := { program := "ytophgpmjalpmaaa", sum := "e94935d0fab2651b9cf7741c5ba52b808f401a22da9417fdab6fe705016623e3", func := "beck/becklaw07.IngestLates", spec := "ingestLates", unfollowed := true, recurses := true, apart := false }
def IngestLatesSaid : Prop := ingestLatesRow.holds Try.pinned (OpenSpec.ofChange ingestLatesSpec)

/-- ITS FALSE NEIGHBOUR: 'it returns false'. Refute it at one input. -/
def ingestLatesWrong : ChangeSpec := { name := "ingestLates", fn := fun _ => fun
  | [d1, d2] => { results := [.lit (.bool false)], args := [d1, d2] }
  | _ => none }
def IngestLatesWrongFalsely : Prop := ingestLatesRow.holds Try.pinned (OpenSpec.ofChange ingestLatesWrong)

/- THE SECOND FORM. 'bulk': how many values and letters a reading holds, each counted each time it is reached (what is shared counts as often as it is met; a slice's spare places count too). A statement '..UptoSaid' is the law's where the arguments, and the package variables that the reading takes, are together of bulk at most 1048576: NARROWER than '..Said'. Prove '..Said' where nothing that the law and all that it calls make is longer than what came in: it says more and counts as full. Else prove '..UptoSaid'. A law counts once. -/
mutual
def uptoBulk {H : Type} : DataW H → Nat
  | .lit (.string bytes) => bytes.length + 1
  | .lit _ => 1
  | .nil => 1
  | .ptr d => uptoBulk d + 1
  | .slice elems spare => uptoBulkAll elems + uptoBulkAll spare + 1
  | .agg parts => uptoBulkAll parts + 1
  | .iface _ d => uptoBulk d + 1
  | .map entries => uptoBulkEntries entries + 1
  | .held _ => 1
def uptoBulkAll {H : Type} : List (DataW H) → Nat
  | [] => 0
  | d :: r => uptoBulk d + uptoBulkAll r
def uptoBulkEntries {H : Type} : List (Lit × DataW H) → Nat
  | [] => 0
  | x :: r => uptoBulkEntry x + uptoBulkEntries r
def uptoBulkEntry {H : Type} : Lit × DataW H → Nat
  | (.string bytes, d) => bytes.length + uptoBulk d + 1
  | (_, d) => uptoBulk d + 1
 end
def uptoSmall : (H : Type) → List (DataW H) → Bool := fun _ ds => decide (uptoBulkAll ds ≤ 1048576)
def OpenSpec.upto (s : _root_.Go.ChangeSpec) : _root_.Go.OpenSpec := { _root_.Go.OpenSpec.ofChange s with cond := some uptoSmall }

/-- 'becklaw07.IngestPlays', WHERE WHAT IT READS IS OF BULK AT MOST 1048576: true; the input reads as it did. -/
def ingestPlaysUptoRow : OpenClaim := { program := "ytophgpmjalpmaaa", sum := "e94935d0fab2651b9cf7741c5ba52b808f401a22da9417fdab6fe705016623e3", func := "beck/becklaw07.IngestPlays", spec := "ingestPlays", unfollowed := true, recurses := true, apart := false, narrowed := true }
def IngestPlaysUptoSaid : Prop := ingestPlaysUptoRow.holds Try.pinned (OpenSpec.upto ingestPlaysSpec)

/-- 'becklaw07.IngestRises', WHERE WHAT IT READS IS OF BULK AT MOST 1048576: true; the input reads as it did. -/
def ingestRisesUptoRow : OpenClaim := { program := "ytophgpmjalpmaaa", sum := "e94935d0fab2651b9cf7741c5ba52b808f401a22da9417fdab6fe705016623e3", func := "beck/becklaw07.IngestRises", spec := "ingestRises", unfollowed := true, recurses := true, apart := false, narrowed := true }
def IngestRisesUptoSaid : Prop := ingestRisesUptoRow.holds Try.pinned (OpenSpec.upto ingestRisesSpec)

/-- 'becklaw07.IngestOrders', WHERE WHAT IT READS IS OF BULK AT MOST 1048576: true; the input reads as it did. -/
def ingestOrdersUptoRow : OpenClaim := { program := "ytophgpmjalpmaaa", sum := "e94935d0fab2651b9cf7741c5ba52b808f401a22da9417fdab6fe705016623e3", func := "beck/becklaw07.IngestOrders", spec := "ingestOrders", unfollowed := true, recurses := true, apart := false, narrowed := true }
def IngestOrdersUptoSaid : Prop := ingestOrdersUptoRow.holds Try.pinned (OpenSpec.upto ingestOrdersSpec)

/-- 'becklaw07.IngestMarks', WHERE WHAT IT READS IS OF BULK AT MOST 1048576: true; the input reads as it did. -/
def ingestMarksUptoRow : OpenClaim := { program := "ytophgpmjalpmaaa", sum := "e94935d0fab2651b9cf7741c5ba52b808f401a22da9417fdab6fe705016623e3", func := "beck/becklaw07.IngestMarks", spec := "ingestMarks", unfollowed := true, recurses := true, apart := false, narrowed := true }
def IngestMarksUptoSaid : Prop := ingestMarksUptoRow.holds Try.pinned (OpenSpec.upto ingestMarksSpec)

/-- 'becklaw07.IngestCounts', WHERE WHAT IT READS IS OF BULK AT MOST 1048576: true; the input reads as it did. -/
def ingestCountsUptoRow : OpenClaim := { program := "ytophgpmjalpmaaa", sum := "e94935d0fab2651b9cf7741c5ba52b808f401a22da9417fdab6fe705016623e3", func := "beck/becklaw07.IngestCounts", spec := "ingestCounts", unfollowed := true, recurses := true, apart := false, narrowed := true }
def IngestCountsUptoSaid : Prop := ingestCountsUptoRow.holds Try.pinned (OpenSpec.upto ingestCountsSpec)

/-- 'becklaw07.IngestLates', WHERE WHAT IT READS IS OF BULK AT MOST 1048576: true; the input reads as it did. -/
def ingestLatesUptoRow : OpenClaim := { program := "ytophgpmjalpmaaa", sum := "e94935d0fab2651b9cf7741c5ba52b808f401a22da9417fdab6fe705016623e3", func := "beck/becklaw07.IngestLates", spec := "ingestLates", unfollowed := true, recurses := true, apart := false, narrowed := true }
def IngestLatesUptoSaid : Prop := ingestLatesUptoRow.holds Try.pinned (OpenSpec.upto ingestLatesSpec)

end Rows
end Go.Proofs.Ytophgpmjalpmaaa
