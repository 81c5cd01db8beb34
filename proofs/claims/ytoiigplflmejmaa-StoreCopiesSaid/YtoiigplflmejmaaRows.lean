/-
  No cell of these rows narrows 'for every input' (looked for: loops, veiled, ifaces, maps, wideKeys, modest, calm, conditions, laid).
  DERIVED. THE GIVEN ROWS OF THIS SEAT. 5 by the template 'for every input the law returns true; each argument reads behind the call as it read before'; 0 by the template 'total and deterministic' (their statements: YtoiigplflmejmaaTotals.lean).
  GIVEN WITH THE SEED: the statements are not yours to turn. If you find one false, say at which input.
  Laid BY PROGRAM, IN A SANDBOX (cutbox-rows.mjs): the forced cells as the released guide's own fill.sh prints them over the translation 9b4b35f91353e2c0… (all of the seat's roots in one cut). By AI agents, Wed Nov 11 2026. No macro, syntax, notation, axiom, sorry.
-/
import Derived.Test.YtoiigplflmejmaaChecked
import GoSem.Claim
import GoSem.ClaimJoined
import GoSem.ClaimMapViews
import Derived.JoinedTies
import Derived.KernelRfl
namespace Go.Proofs.Ytoiigplflmejmaa
/- THE CELL 'sum', in the pinned program and in every row, IS THE sha256 OF THE DUMP (.gsa) THAT YtoiigplflmejmaaProg.lean LOADS. Nothing in Lean hashes anything: it is a label: what it is worth is what the hold of that sum in a sandbox is worth. -/
noncomputable def Try.pinned : Pinned := { name := "ytoiigplflmejmaa", sum := "9b4b35f91353e2c0cfd9745d043f4a809bf8e7c2a5e872d19f60ffa2d442f042", checked := Try.checked }
namespace Rows
def none {H : Type} : Left H := { results := [], args := [] }

/-- 'becklaw06.StorePlays': WHATEVER THE INPUT: true; the input reads as it did. -/
def storePlaysSpec : ChangeSpec := { name := "storePlays", fn := fun _ => fun
  | [d1, d2] => { results := [.lit (.bool true)], args := [d1, d2] }
  | _ => none }
def storePlaysRow : OpenClaim := { program := "ytoiigplflmejmaa", sum := "9b4b35f91353e2c0cfd9745d043f4a809bf8e7c2a5e872d19f60ffa2d442f042", func := "beck/becklaw06.StorePlays", spec := "storePlays", inPlace := ["slices.overlaps[beck/dict.Key]", "slices.overlaps[[]beck/dict.Key]"], unfollowed := true, recurses := true, apart := false }
def StorePlaysSaid : Prop := storePlaysRow.holds Try.pinned (OpenSpec.ofChange storePlaysSpec)

/-- ITS FALSE NEIGHBOUR: 'it returns false'. Refute it at one input. -/
def storePlaysWrong : ChangeSpec := { name := "storePlays", fn := fun _ => fun
  | [d1, d2] => { results := [.lit (.bool false)], args := [d1, d2] }
  | _ => none }
def StorePlaysWrongFalsely : Prop := storePlaysRow.holds Try.pinned (OpenSpec.ofChange storePlaysWrong)

/-- 'becklaw06.StoreCopies': WHATEVER THE INPUT: true; the input reads as it did. -/
def storeCopiesSpec : ChangeSpec := { name := "storeCopies", fn := fun _ => fun
  | [d1, d2] => { results := [.lit (.bool true)], args := [d1, d2] }
  | _ => none }
def storeCopiesRow : OpenClaim := { program := "ytoiigplflmejmaa", sum := "9b4b35f91353e2c0cfd9745d043f4a809bf8e7c2a5e872d19f60ffa2d442f042", func := "beck/becklaw06.StoreCopies", spec := "storeCopies", inPlace := ["slices.overlaps[beck/dict.Key]", "slices.overlaps[[]beck/dict.Key]"], unfollowed := true, recurses := true, apart := false }
def StoreCopiesSaid : Prop := storeCopiesRow.holds Try.pinned (OpenSpec.ofChange storeCopiesSpec)

/-- ITS FALSE NEIGHBOUR: 'it returns false'. Refute it at one input. -/
def storeCopiesWrong : ChangeSpec := { name := "storeCopies", fn := fun _ => fun
  | [d1, d2] => { results := [.lit (.bool false)], args := [d1, d2] }
  | _ => none }
def StoreCopiesWrongFalsely : Prop := storeCopiesRow.holds Try.pinned (OpenSpec.ofChange storeCopiesWrong)

/-- 'becklaw06.StoreSums': WHATEVER THE INPUT: true; the input reads as it did. -/
def storeSumsSpec : ChangeSpec := { name := "storeSums", fn := fun _ => fun
  | [d1, d2, d3] => { results := [.lit (.bool true)], args := [d1, d2, d3] }
  | _ => none }
def storeSumsRow : OpenClaim := { program := "ytoiigplflmejmaa", sum := "9b4b35f91353e2c0cfd9745d043f4a809bf8e7c2a5e872d19f60ffa2d442f042", func := "beck/becklaw06.StoreSums", spec := "storeSums", inPlace := ["slices.overlaps[beck/dict.Key]", "slices.overlaps[[]beck/dict.Key]"], unfollowed := true, recurses := true, apart := false }
def StoreSumsSaid : Prop := storeSumsRow.holds Try.pinned (OpenSpec.ofChange storeSumsSpec)

/-- ITS FALSE NEIGHBOUR: 'it returns false'. Refute it at one input. -/
def storeSumsWrong : ChangeSpec := { name := "storeSums", fn := fun _ => fun
  | [d1, d2, d3] => { results := [.lit (.bool false)], args := [d1, d2, d3] }
  | _ => none }
def StoreSumsWrongFalsely : Prop := storeSumsRow.holds Try.pinned (OpenSpec.ofChange storeSumsWrong)

/-- 'becklaw06.StoreUndoes': WHATEVER THE INPUT: true; the input reads as it did. -/
def storeUndoesSpec : ChangeSpec := { name := "storeUndoes", fn := fun _ => fun
  | [d1, d2] => { results := [.lit (.bool true)], args := [d1, d2] }
  | _ => none }
def storeUndoesRow : OpenClaim := { program := "ytoiigplflmejmaa", sum := "9b4b35f91353e2c0cfd9745d043f4a809bf8e7c2a5e872d19f60ffa2d442f042", func := "beck/becklaw06.StoreUndoes", spec := "storeUndoes", inPlace := ["slices.overlaps[beck/dict.Key]", "slices.overlaps[[]beck/dict.Key]"], unfollowed := true, recurses := true, apart := false }
def StoreUndoesSaid : Prop := storeUndoesRow.holds Try.pinned (OpenSpec.ofChange storeUndoesSpec)

/-- ITS FALSE NEIGHBOUR: 'it returns false'. Refute it at one input. -/
def storeUndoesWrong : ChangeSpec := { name := "storeUndoes", fn := fun _ => fun
  | [d1, d2] => { results := [.lit (.bool false)], args := [d1, d2] }
  | _ => none }
def StoreUndoesWrongFalsely : Prop := storeUndoesRow.holds Try.pinned (OpenSpec.ofChange storeUndoesWrong)

/-- 'becklaw06.StoreAgrees': WHATEVER THE INPUT: true; the input reads as it did. -/
def storeAgreesSpec : ChangeSpec := { name := "storeAgrees", fn := fun _ => fun
  | [d1, d2] => { results := [.lit (.bool true)], args := [d1, d2] }
  | _ => none }
def storeAgreesRow : OpenClaim := { program := "ytoiigplflmejmaa", sum := "9b4b35f91353e2c0cfd9745d043f4a809bf8e7c2a5e872d19f60ffa2d442f042", func := "beck/becklaw06.StoreAgrees", spec := "storeAgrees", inPlace := ["slices.overlaps[beck/dict.Key]", "slices.overlaps[[]beck/dict.Key]"], unfollowed := true, recurses := true, apart := false }
def StoreAgreesSaid : Prop := storeAgreesRow.holds Try.pinned (OpenSpec.ofChange storeAgreesSpec)

/-- ITS FALSE NEIGHBOUR: 'it returns false'. Refute it at one input. -/
def storeAgreesWrong : ChangeSpec := { name := "storeAgrees", fn := fun _ => fun
  | [d1, d2] => { results := [.lit (.bool false)], args := [d1, d2] }
  | _ => none }
def StoreAgreesWrongFalsely : Prop := storeAgreesRow.holds Try.pinned (OpenSpec.ofChange storeAgreesWrong)

/- THE SECOND FORM. 'bulk': how many values and letters a reading holds, each counted each time it is reached (what is shared counts as often as it is met; a slice's spare places count too). A statement '..UptoSaid' is the law's where the arguments, and the package variables that the reading takes, are together of bulk at most 1048576: NARROWER than '..Said'. Prove '..Said' where nothing that the law and all that it calls make is longer than what came in: it says more and counts as full. Else prove '..UptoSaid'. A law counts once. -/
mutual
def uptoBulk {H : Type} : DataW H → Nat
  | .lit (.string bytes) => bytes.length + 1
  | .lit _ => 1
  | .nil => 1
  | .ptr d => uptoBulk d + 1
  | .slice elems spare => uptoBulkAll elems + uptoBulkAll spare + 1
  | .agg parts => uptoBulkAll parts + 1
  | .iface _ d => uptoBulk d + 1
  | .map entries => uptoBulkEntries entries + 1
  | .held _ => 1
def uptoBulkAll {H : Type} : List (DataW H) → Nat
  | [] => 0
  | d :: r => uptoBulk d + uptoBulkAll r
def uptoBulkEntries {H : Type} : List (Lit × DataW H) → Nat
  | [] => 0
  | x :: r => uptoBulkEntry x + uptoBulkEntries r
def uptoBulkEntry {H : Type} : Lit × DataW H → Nat
  | (.string bytes, d) => bytes.length + uptoBulk d + 1
  | (_, d) => uptoBulk d + 1
 end
def uptoSmall : (H : Type) → List (DataW H) → Bool := fun _ ds => decide (uptoBulkAll ds ≤ 1048576)
def OpenSpec.upto (s : _root_.Go.ChangeSpec) : _root_.Go.OpenSpec := { _root_.Go.OpenSpec.ofChange s with cond := some uptoSmall }

/-- 'becklaw06.StorePlays', WHERE WHAT IT READS IS OF BULK AT MOST 1048576: true; the input reads as it did. -/
def storePlaysUptoRow : OpenClaim := { program := "ytoiigplflmejmaa", sum := "9b4b35f91353e2c0cfd9745d043f4a809bf8e7c2a5e872d19f60ffa2d442f042", func := "beck/becklaw06.StorePlays", spec := "storePlays", inPlace := ["slices.overlaps[beck/dict.Key]", "slices.overlaps[[]beck/dict.Key]"], unfollowed := true, recurses := true, apart := false, narrowed := true }
def StorePlaysUptoSaid : Prop := storePlaysUptoRow.holds Try.pinned (OpenSpec.upto storePlaysSpec)

/-- 'becklaw06.StoreCopies', WHERE WHAT IT READS IS OF BULK AT MOST 1048576: true; the input reads as it did. -/
def storeCopiesUptoRow : OpenClaim := { program := "ytoiigplflmejmaa", sum := "9b4b35f91353e2c0cfd9745d043f4a809bf8e7c2a5e872d19f60ffa2d442f042", func := "beck/becklaw06.StoreCopies", spec := "storeCopies", inPlace := ["slices.overlaps[beck/dict.Key]", "slices.overlaps[[]beck/dict.Key]"], unfollowed := true, recurses := true, apart := false, narrowed := true }
def StoreCopiesUptoSaid : Prop := storeCopiesUptoRow.holds Try.pinned (OpenSpec.upto storeCopiesSpec)

/-- 'becklaw06.StoreSums', WHERE WHAT IT READS IS OF BULK AT MOST 1048576: true; the input reads as it did. -/
def storeSumsUptoRow : OpenClaim := { program := "ytoiigplflmejmaa", sum := "9b4b35f91353e2c0cfd9745d043f4a809bf8e7c2a5e872d19f60ffa2d442f042", func := "beck/becklaw06.StoreSums", spec := "storeSums", inPlace := ["slices.overlaps[beck/dict.Key]", "slices.overlaps[[]beck/dict.Key]"], unfollowed := true, recurses := true, apart := false, narrowed := true }
def StoreSumsUptoSaid : Prop := storeSumsUptoRow.holds Try.pinned (OpenSpec.upto storeSumsSpec)

/-- 'becklaw06.StoreUndoes', WHERE WHAT IT READS IS OF BULK AT MOST 1048576: true; the input reads as it did. -/
def storeUndoesUptoRow : OpenClaim := { program := "ytoiigplflmejmaa", sum := "9b4b35f91353e2c0cfd9745d043f4a809bf8e7c2a5e872d19f60ffa2d442f042", func := "beck/becklaw06.StoreUndoes", spec := "storeUndoes", inPlace := ["slices.overlaps[beck/dict.Key]", "slices.overlaps[[]beck/dict.Key]"], unfollowed := true, recurses := true, apart := false, narrowed := true }
def StoreUndoesUptoSaid : Prop := storeUndoesUptoRow.holds Try.pinned (OpenSpec.upto storeUndoesSpec)

/-- 'becklaw06.StoreAgrees', WHERE WHAT IT READS IS OF BULK AT MOST 1048576: true; the input reads as it did. -/
def storeAgreesUptoRow : OpenClaim := { program := "ytoiigplflmejmaa", sum := "9b4b35f91353e2c0cfd9745d043f4a809bf8e7c2a5e872d19f60ffa2d442f042", func := "beck/becklaw06.StoreAgrees", spec := "storeAgrees", inPlace := ["slices.overlaps[beck/dict.Key]", "slices.overlaps[[]beck/dict.Key]"], unfollowed := true, recurses := true, apart := false, narrowed := true }
def StoreAgreesUptoSaid : Prop := storeAgreesUptoRow.holds Try.pinned (OpenSpec.upto storeAgreesSpec)

end Rows
end Go.Proofs.Ytoiigplflmejmaa
