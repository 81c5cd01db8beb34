/-
  No cell of these rows narrows 'for every input' (looked for: loops, veiled, ifaces, maps, wideKeys, modest, calm, conditions, laid).
  DERIVED. THE GIVEN ROWS OF THIS SEAT. 8 by the template 'for every input the law returns true; each argument reads behind the call as it read before'; 0 by the template 'total and deterministic' (their statements: YtknjdkjakngkpaaTotals.lean).
  GIVEN WITH THE SEED: the statements are not yours to turn. If you find one false, say at which input.
  Laid BY PROGRAM, IN A SANDBOX (cutbox-rows.mjs): the forced cells as the released guide's own fill.sh prints them over the translation 41e982f91082a70c… (all of the seat's roots in one cut). By AI agents, Wed Nov 11 2026. No macro, syntax, notation, axiom, sorry.
-/
import Derived.Test.YtknjdkjakngkpaaChecked
import GoSem.Claim
import GoSem.ClaimJoined
import GoSem.ClaimMapViews
import Derived.JoinedTies
import Derived.KernelRfl
namespace Go.Proofs.Ytknjdkjakngkpaa
/- THE CELL 'sum', in the pinned program and in every row, IS THE sha256 OF THE DUMP (.gsa) THAT YtknjdkjakngkpaaProg.lean LOADS. Nothing in Lean hashes anything: it is a label: what it is worth is what the hold of that sum in a sandbox is worth. -/
noncomputable def Try.pinned : Pinned := { name := "ytknjdkjakngkpaa", sum := "41e982f91082a70c2e1dca2031c7901a07e03ffc88a1f28237fceb4014d7a546", checked := Try.checked }
namespace Rows
def none {H : Type} : Left H := { results := [], args := [] }

/-- 'becklaw02.ValueTruths': WHATEVER THE INPUT: true; the input reads as it did. -/
def valueTruthsSpec : ChangeSpec := { name := "valueTruths", fn := fun _ => fun
  | [d] => { results := [.lit (.bool true)], args := [d] }
  | _ => none }
def valueTruthsRow : OpenClaim := { program := "ytknjdkjakngkpaa", sum := "41e982f91082a70c2e1dca2031c7901a07e03ffc88a1f28237fceb4014d7a546", func := "beck/becklaw02.ValueTruths", spec := "valueTruths", apart := false }
def ValueTruthsSaid : Prop := valueTruthsRow.holds Try.pinned (OpenSpec.ofChange valueTruthsSpec)

/-- ITS FALSE NEIGHBOUR: 'it returns false'. Refute it at one input. -/
def valueTruthsWrong : ChangeSpec := { name := "valueTruths", fn := fun _ => fun
  | [d] => { results := [.lit (.bool false)], args := [d] }
  | _ => none }
def ValueTruthsWrongFalsely : Prop := valueTruthsRow.holds Try.pinned (OpenSpec.ofChange valueTruthsWrong)

/-- 'becklaw02.ValueSums': WHATEVER THE INPUT: true; the input reads as it did. -/
def valueSumsSpec : ChangeSpec := { name := "valueSums", fn := fun _ => fun
  | [d1, d2] => { results := [.lit (.bool true)], args := [d1, d2] }
  | _ => none }
def valueSumsRow : OpenClaim := { program := "ytknjdkjakngkpaa", sum := "41e982f91082a70c2e1dca2031c7901a07e03ffc88a1f28237fceb4014d7a546", func := "beck/becklaw02.ValueSums", spec := "valueSums", unfollowed := true, recurses := true, apart := false }
def ValueSumsSaid : Prop := valueSumsRow.holds Try.pinned (OpenSpec.ofChange valueSumsSpec)

/-- ITS FALSE NEIGHBOUR: 'it returns false'. Refute it at one input. -/
def valueSumsWrong : ChangeSpec := { name := "valueSums", fn := fun _ => fun
  | [d1, d2] => { results := [.lit (.bool false)], args := [d1, d2] }
  | _ => none }
def ValueSumsWrongFalsely : Prop := valueSumsRow.holds Try.pinned (OpenSpec.ofChange valueSumsWrong)

/-- 'becklaw02.ValueMany': WHATEVER THE INPUT: true; the input reads as it did. -/
def valueManySpec : ChangeSpec := { name := "valueMany", fn := fun _ => fun
  | [d] => { results := [.lit (.bool true)], args := [d] }
  | _ => none }
def valueManyRow : OpenClaim := { program := "ytknjdkjakngkpaa", sum := "41e982f91082a70c2e1dca2031c7901a07e03ffc88a1f28237fceb4014d7a546", func := "beck/becklaw02.ValueMany", spec := "valueMany", unfollowed := true, recurses := true, apart := false }
def ValueManySaid : Prop := valueManyRow.holds Try.pinned (OpenSpec.ofChange valueManySpec)

/-- ITS FALSE NEIGHBOUR: 'it returns false'. Refute it at one input. -/
def valueManyWrong : ChangeSpec := { name := "valueMany", fn := fun _ => fun
  | [d] => { results := [.lit (.bool false)], args := [d] }
  | _ => none }
def ValueManyWrongFalsely : Prop := valueManyRow.holds Try.pinned (OpenSpec.ofChange valueManyWrong)

/-- 'becklaw02.ValueQuotients': WHATEVER THE INPUT: true; the input reads as it did. -/
def valueQuotientsSpec : ChangeSpec := { name := "valueQuotients", fn := fun _ => fun
  | [d1, d2] => { results := [.lit (.bool true)], args := [d1, d2] }
  | _ => none }
def valueQuotientsRow : OpenClaim := { program := "ytknjdkjakngkpaa", sum := "41e982f91082a70c2e1dca2031c7901a07e03ffc88a1f28237fceb4014d7a546", func := "beck/becklaw02.ValueQuotients", spec := "valueQuotients", unfollowed := true, recurses := true, apart := false }
def ValueQuotientsSaid : Prop := valueQuotientsRow.holds Try.pinned (OpenSpec.ofChange valueQuotientsSpec)

/-- ITS FALSE NEIGHBOUR: 'it returns false'. Refute it at one input. -/
def valueQuotientsWrong : ChangeSpec := { name := "valueQuotients", fn := fun _ => fun
  | [d1, d2] => { results := [.lit (.bool false)], args := [d1, d2] }
  | _ => none }
def ValueQuotientsWrongFalsely : Prop := valueQuotientsRow.holds Try.pinned (OpenSpec.ofChange valueQuotientsWrong)

/-- 'becklaw02.ValueBacks': WHATEVER THE INPUT: true; the input reads as it did. -/
def valueBacksSpec : ChangeSpec := { name := "valueBacks", fn := fun _ => fun
  | [d1, d2] => { results := [.lit (.bool true)], args := [d1, d2] }
  | _ => none }
def valueBacksRow : OpenClaim := { program := "ytknjdkjakngkpaa", sum := "41e982f91082a70c2e1dca2031c7901a07e03ffc88a1f28237fceb4014d7a546", func := "beck/becklaw02.ValueBacks", spec := "valueBacks", unfollowed := true, recurses := true, apart := false }
def ValueBacksSaid : Prop := valueBacksRow.holds Try.pinned (OpenSpec.ofChange valueBacksSpec)

/-- ITS FALSE NEIGHBOUR: 'it returns false'. Refute it at one input. -/
def valueBacksWrong : ChangeSpec := { name := "valueBacks", fn := fun _ => fun
  | [d1, d2] => { results := [.lit (.bool false)], args := [d1, d2] }
  | _ => none }
def ValueBacksWrongFalsely : Prop := valueBacksRow.holds Try.pinned (OpenSpec.ofChange valueBacksWrong)

/-- 'becklaw02.ValueOrders': WHATEVER THE INPUT: true; the input reads as it did. -/
def valueOrdersSpec : ChangeSpec := { name := "valueOrders", fn := fun _ => fun
  | [d1, d2, d3] => { results := [.lit (.bool true)], args := [d1, d2, d3] }
  | _ => none }
def valueOrdersRow : OpenClaim := { program := "ytknjdkjakngkpaa", sum := "41e982f91082a70c2e1dca2031c7901a07e03ffc88a1f28237fceb4014d7a546", func := "beck/becklaw02.ValueOrders", spec := "valueOrders", apart := false }
def ValueOrdersSaid : Prop := valueOrdersRow.holds Try.pinned (OpenSpec.ofChange valueOrdersSpec)

/-- ITS FALSE NEIGHBOUR: 'it returns false'. Refute it at one input. -/
def valueOrdersWrong : ChangeSpec := { name := "valueOrders", fn := fun _ => fun
  | [d1, d2, d3] => { results := [.lit (.bool false)], args := [d1, d2, d3] }
  | _ => none }
def ValueOrdersWrongFalsely : Prop := valueOrdersRow.holds Try.pinned (OpenSpec.ofChange valueOrdersWrong)

/-- 'becklaw02.ValueParts': WHATEVER THE INPUT: true; the input reads as it did. -/
def valuePartsSpec : ChangeSpec := { name := "valueParts", fn := fun _ => fun
  | [d1, d2] => { results := [.lit (.bool true)], args := [d1, d2] }
  | _ => none }
def valuePartsRow : OpenClaim := { program := "ytknjdkjakngkpaa", sum := "41e982f91082a70c2e1dca2031c7901a07e03ffc88a1f28237fceb4014d7a546", func := "beck/becklaw02.ValueParts", spec := "valueParts", unfollowed := true, recurses := true, apart := false }
def ValuePartsSaid : Prop := valuePartsRow.holds Try.pinned (OpenSpec.ofChange valuePartsSpec)

/-- ITS FALSE NEIGHBOUR: 'it returns false'. Refute it at one input. -/
def valuePartsWrong : ChangeSpec := { name := "valueParts", fn := fun _ => fun
  | [d1, d2] => { results := [.lit (.bool false)], args := [d1, d2] }
  | _ => none }
def ValuePartsWrongFalsely : Prop := valuePartsRow.holds Try.pinned (OpenSpec.ofChange valuePartsWrong)

/-- 'becklaw02.ValueFloors': WHATEVER THE INPUT: true; the input reads as it did. -/
def valueFloorsSpec : ChangeSpec := { name := "valueFloors", fn := fun _ => fun
  | [d1, d2] => { results := [.lit (.bool true)], args := [d1, d2] }
  | _ => none }
def valueFloorsRow : OpenClaim := { program := "ytknjdkjakngkpaa", sum := "41e982f91082a70c2e1dca2031c7901a07e03ffc88a1f28237fceb4014d7a546", func := "beck/becklaw02.ValueFloors", spec := "valueFloors", apart := false }
def ValueFloorsSaid : Prop := valueFloorsRow.holds Try.pinned (OpenSpec.ofChange valueFloorsSpec)

/-- ITS FALSE NEIGHBOUR: 'it returns false'. Refute it at one input. -/
def valueFloorsWrong : ChangeSpec := { name := "valueFloors", fn := fun _ => fun
  | [d1, d2] => { results := [.lit (.bool false)], args := [d1, d2] }
  | _ => none }
def ValueFloorsWrongFalsely : Prop := valueFloorsRow.holds Try.pinned (OpenSpec.ofChange valueFloorsWrong)

/- THE SECOND FORM. 'bulk': how many values and letters a reading holds, each counted each time it is reached (what is shared counts as often as it is met; a slice's spare places count too). A statement '..UptoSaid' is the law's where the arguments, and the package variables that the reading takes, are together of bulk at most 1048576: NARROWER than '..Said'. Prove '..Said' where nothing that the law and all that it calls make is longer than what came in: it says more and counts as full. Else prove '..UptoSaid'. A law counts once. -/
mutual
def uptoBulk {H : Type} : DataW H → Nat
  | .lit (.string bytes) => bytes.length + 1
  | .lit _ => 1
  | .nil => 1
  | .ptr d => uptoBulk d + 1
  | .slice elems spare => uptoBulkAll elems + uptoBulkAll spare + 1
  | .agg parts => uptoBulkAll parts + 1
  | .iface _ d => uptoBulk d + 1
  | .map entries => uptoBulkEntries entries + 1
  | .held _ => 1
def uptoBulkAll {H : Type} : List (DataW H) → Nat
  | [] => 0
  | d :: r => uptoBulk d + uptoBulkAll r
def uptoBulkEntries {H : Type} : List (Lit × DataW H) → Nat
  | [] => 0
  | x :: r => uptoBulkEntry x + uptoBulkEntries r
def uptoBulkEntry {H : Type} : Lit × DataW H → Nat
  | (.string bytes, d) => bytes.length + uptoBulk d + 1
  | (_, d) => uptoBulk d + 1
 end
def uptoSmall : (H : Type) → List (DataW H) → Bool := fun _ ds => decide (uptoBulkAll ds ≤ 1048576)
def OpenSpec.upto (s : _root_.Go.ChangeSpec) : _root_.Go.OpenSpec := { _root_.Go.OpenSpec.ofChange s with cond := some uptoSmall }

/-- 'becklaw02.ValueTruths', WHERE WHAT IT READS IS OF BULK AT MOST 1048576: true; the input reads as it did. -/
def valueTruthsUptoRow : OpenClaim := { program := "ytknjdkjakngkpaa", sum := "41e982f91082a70c2e1dca2031c7901a07e03ffc88a1f28237fceb4014d7a546", func := "beck/becklaw02.ValueTruths", spec := "valueTruths", apart := false, narrowed := true }
def ValueTruthsUptoSaid : Prop := valueTruthsUptoRow.holds Try.pinned (OpenSpec.upto valueTruthsSpec)

/-- 'becklaw02.ValueSums', WHERE WHAT IT READS IS OF BULK AT MOST 1048576: true; the input reads as it did. -/
def valueSumsUptoRow : OpenClaim := { program := "ytknjdkjakngkpaa", sum := "41e982f91082a70c2e1dca2031c7901a07e03ffc88a1f28237fceb4014d7a546", func := "beck/becklaw02.ValueSums", spec := "valueSums", unfollowed := true, recurses := true, apart := false, narrowed := true }
def ValueSumsUptoSaid : Prop := valueSumsUptoRow.holds Try.pinned (OpenSpec.upto valueSumsSpec)

/-- 'becklaw02.ValueMany', WHERE WHAT IT READS IS OF BULK AT MOST 1048576: true; the input reads as it did. -/
def valueManyUptoRow : OpenClaim := { program := "ytknjdkjakngkpaa", sum := "41e982f91082a70c2e1dca2031c7901a07e03ffc88a1f28237fceb4014d7a546", func := "beck/becklaw02.ValueMany", spec := "valueMany", unfollowed := true, recurses := true, apart := false, narrowed := true }
def ValueManyUptoSaid : Prop := valueManyUptoRow.holds Try.pinned (OpenSpec.upto valueManySpec)

/-- 'becklaw02.ValueQuotients', WHERE WHAT IT READS IS OF BULK AT MOST 1048576: true; the input reads as it did. -/
def valueQuotientsUptoRow : OpenClaim := { program := "ytknjdkjakngkpaa", sum := "41e982f91082a70c2e1dca2031c7901a07e03ffc88a1f28237fceb4014d7a546", func := "beck/becklaw02.ValueQuotients", spec := "valueQuotients", unfollowed := true, recurses := true, apart := false, narrowed := true }
def ValueQuotientsUptoSaid : Prop := valueQuotientsUptoRow.holds Try.pinned (OpenSpec.upto valueQuotientsSpec)

/-- 'becklaw02.ValueBacks', WHERE WHAT IT READS IS OF BULK AT MOST 1048576: true; the input reads as it did. -/
def valueBacksUptoRow : OpenClaim := { program := "ytknjdkjakngkpaa", sum := "41e982f91082a70c2e1dca2031c7901a07e03ffc88a1f28237fceb4014d7a546", func := "beck/becklaw02.ValueBacks", spec := "valueBacks", unfollowed := true, recurses := true, apart := false, narrowed := true }
def ValueBacksUptoSaid : Prop := valueBacksUptoRow.holds Try.pinned (OpenSpec.upto valueBacksSpec)

/-- 'becklaw02.ValueOrders', WHERE WHAT IT READS IS OF BULK AT MOST 1048576: true; the input reads as it did. -/
def valueOrdersUptoRow : OpenClaim := { program := "ytknjdkjakngkpaa", sum := "41e982f91082a70c2e1dca2031c7901a07e03ffc88a1f28237fceb4014d7a546", func := "beck/becklaw02.ValueOrders", spec := "valueOrders", apart := false, narrowed := true }
def ValueOrdersUptoSaid : Prop := valueOrdersUptoRow.holds Try.pinned (OpenSpec.upto valueOrdersSpec)

/-- 'becklaw02.ValueParts', WHERE WHAT IT READS IS OF BULK AT MOST 1048576: true; the input reads as it did. -/
def valuePartsUptoRow : OpenClaim := { program := "ytknjdkjakngkpaa", sum := "41e982f91082a70c2e1dca2031c7901a07e03ffc88a1f28237fceb4014d7a546", func := "beck/becklaw02.ValueParts", spec := "valueParts", unfollowed := true, recurses := true, apart := false, narrowed := true }
def ValuePartsUptoSaid : Prop := valuePartsUptoRow.holds Try.pinned (OpenSpec.upto valuePartsSpec)

/-- 'becklaw02.ValueFloors', WHERE WHAT IT READS IS OF BULK AT MOST 1048576: true; the input reads as it did. -/
def valueFloorsUptoRow : OpenClaim := { program := "ytknjdkjakngkpaa", sum := "41e982f91082a70c2e1dca2031c7901a07e03ffc88a1f28237fceb4014d7a546", func := "beck/becklaw02.ValueFloors", spec := "valueFloors", apart := false, narrowed := true }
def ValueFloorsUptoSaid : Prop := valueFloorsUptoRow.holds Try.pinned (OpenSpec.upto valueFloorsSpec)

end Rows
end Go.Proofs.Ytknjdkjakngkpaa
