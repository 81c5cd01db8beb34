/-
  No cell of these rows narrows 'for every input' (looked for: loops, veiled, ifaces, maps, wideKeys, modest, calm, conditions, laid).
  DERIVED. THE GIVEN ROWS OF THIS SEAT. 7 by the template 'for every input the law returns true; each argument reads behind the call as it read before'; 0 by the template 'total and deterministic' (their statements: YtghlajfalgdkfaaTotals.lean).
  GIVEN WITH THE SEED: the statements are not yours to turn. If you find one false, say at which input.
  Laid BY PROGRAM, IN A SANDBOX (cutbox-rows.mjs): the forced cells as the released guide's own fill.sh prints them over the translation 6c35a94522eaee0b… (all of the seat's roots in one cut). By AI agents, Wed Nov 11 2026. No macro, syntax, notation, axiom, sorry.
-/
import Derived.Test.YtghlajfalgdkfaaChecked
import GoSem.Claim
import GoSem.ClaimJoined
import GoSem.ClaimMapViews
import Derived.JoinedTies
import Derived.KernelRfl
namespace Go.Proofs.Ytghlajfalgdkfaa
/- THE CELL 'sum', in the pinned program and in every row, IS THE sha256 OF THE DUMP (.gsa) THAT YtghlajfalgdkfaaProg.lean LOADS. Nothing in Lean hashes anything: it is a label: what it is worth is what the hold of that sum in a sandbox is worth. -/
noncomputable def Try.pinned : Pinned := { name := "ytghlajfalgdkfaa", sum := "6c35a94522eaee0bf8fe9d46d01f07563d11c4a64070e38f7da476dd7fc4a1e2", checked := Try.checked }
namespace Rows
def none {H : Type} : Left H := { results := [], args := [] }

/-- 'becklaw10.NfaTakes': WHATEVER THE INPUT: true; the input reads as it did. -/
def nfaTakesSpec : ChangeSpec := { name := "nfaTakes", fn := fun _ => fun
  | [d1, d2] => { results := [.lit (.bool true)], args := [d1, d2] }
  | _ => none }
def nfaTakesRow : OpenClaim := { program := "ytghlajfalgdkfaa", sum := "6c35a94522eaee0bf8fe9d46d01f07563d11c4a64070e38f7da476dd7fc4a1e2", func := "beck/becklaw10.NfaTakes", spec := "nfaTakes", inPlace := ["slices.overlaps[beck/nfa.move]"], unfollowed := true, recurses := true, apart := false }
def NfaTakesSaid : Prop := nfaTakesRow.holds Try.pinned (OpenSpec.ofChange nfaTakesSpec)

/-- ITS FALSE NEIGHBOUR: 'it returns false'. Refute it at one input. -/
def nfaTakesWrong : ChangeSpec := { name := "nfaTakes", fn := fun _ => fun
  | [d1, d2] => { results := [.lit (.bool false)], args := [d1, d2] }
  | _ => none }
def NfaTakesWrongFalsely : Prop := nfaTakesRow.holds Try.pinned (OpenSpec.ofChange nfaTakesWrong)

/-- 'becklaw10.NfaChecks': WHATEVER THE INPUT: true; the input reads as it did. -/
def nfaChecksSpec : ChangeSpec := { name := "nfaChecks", fn := fun _ => fun
  | [d] => { results := [.lit (.bool true)], args := [d] }
  | _ => none }
def nfaChecksRow : OpenClaim := { program := "ytghlajfalgdkfaa", sum := "6c35a94522eaee0bf8fe9d46d01f07563d11c4a64070e38f7da476dd7fc4a1e2", func := "beck/becklaw10.NfaChecks", spec := "nfaChecks", inPlace := ["slices.overlaps[beck/nfa.move]"], unfollowed := true, recurses := true, apart := false }
def NfaChecksSaid : Prop := nfaChecksRow.holds Try.pinned (OpenSpec.ofChange nfaChecksSpec)

/-- ITS FALSE NEIGHBOUR: 'it returns false'. Refute it at one input. -/
def nfaChecksWrong : ChangeSpec := { name := "nfaChecks", fn := fun _ => fun
  | [d] => { results := [.lit (.bool false)], args := [d] }
  | _ => none }
def NfaChecksWrongFalsely : Prop := nfaChecksRow.holds Try.pinned (OpenSpec.ofChange nfaChecksWrong)

/-- 'becklaw10.NfaSets': WHATEVER THE INPUT: true; the input reads as it did. -/
def nfaSetsSpec : ChangeSpec := { name := "nfaSets", fn := fun _ => fun
  | [d1, d2] => { results := [.lit (.bool true)], args := [d1, d2] }
  | _ => none }
def nfaSetsRow : OpenClaim := { program := "ytghlajfalgdkfaa", sum := "6c35a94522eaee0bf8fe9d46d01f07563d11c4a64070e38f7da476dd7fc4a1e2", func := "beck/becklaw10.NfaSets", spec := "nfaSets", inPlace := ["slices.overlaps[beck/nfa.move]"], unfollowed := true, recurses := true, apart := false }
def NfaSetsSaid : Prop := nfaSetsRow.holds Try.pinned (OpenSpec.ofChange nfaSetsSpec)

/-- ITS FALSE NEIGHBOUR: 'it returns false'. Refute it at one input. -/
def nfaSetsWrong : ChangeSpec := { name := "nfaSets", fn := fun _ => fun
  | [d1, d2] => { results := [.lit (.bool false)], args := [d1, d2] }
  | _ => none }
def NfaSetsWrongFalsely : Prop := nfaSetsRow.holds Try.pinned (OpenSpec.ofChange nfaSetsWrong)

/-- 'becklaw10.NfaSymbols': WHATEVER THE INPUT: true; the input reads as it did. -/
def nfaSymbolsSpec : ChangeSpec := { name := "nfaSymbols", fn := fun _ => fun
  | [d1, d2] => { results := [.lit (.bool true)], args := [d1, d2] }
  | _ => none }
def nfaSymbolsRow : OpenClaim := { program := "ytghlajfalgdkfaa", sum := "6c35a94522eaee0bf8fe9d46d01f07563d11c4a64070e38f7da476dd7fc4a1e2", func := "beck/becklaw10.NfaSymbols", spec := "nfaSymbols", inPlace := ["slices.overlaps[beck/nfa.move]"], unfollowed := true, recurses := true, apart := false }
def NfaSymbolsSaid : Prop := nfaSymbolsRow.holds Try.pinned (OpenSpec.ofChange nfaSymbolsSpec)

/-- ITS FALSE NEIGHBOUR: 'it returns false'. Refute it at one input. -/
def nfaSymbolsWrong : ChangeSpec := { name := "nfaSymbols", fn := fun _ => fun
  | [d1, d2] => { results := [.lit (.bool false)], args := [d1, d2] }
  | _ => none }
def NfaSymbolsWrongFalsely : Prop := nfaSymbolsRow.holds Try.pinned (OpenSpec.ofChange nfaSymbolsWrong)

/-- 'becklaw10.NfaStars': WHATEVER THE INPUT: true; the input reads as it did. -/
def nfaStarsSpec : ChangeSpec := { name := "nfaStars", fn := fun _ => fun
  | [d1, d2] => { results := [.lit (.bool true)], args := [d1, d2] }
  | _ => none }
def nfaStarsRow : OpenClaim := { program := "ytghlajfalgdkfaa", sum := "6c35a94522eaee0bf8fe9d46d01f07563d11c4a64070e38f7da476dd7fc4a1e2", func := "beck/becklaw10.NfaStars", spec := "nfaStars", inPlace := ["slices.overlaps[beck/nfa.move]"], unfollowed := true, recurses := true, apart := false }
def NfaStarsSaid : Prop := nfaStarsRow.holds Try.pinned (OpenSpec.ofChange nfaStarsSpec)

/-- ITS FALSE NEIGHBOUR: 'it returns false'. Refute it at one input. -/
def nfaStarsWrong : ChangeSpec := { name := "nfaStars", fn := fun _ => fun
  | [d1, d2] => { results := [.lit (.bool false)], args := [d1, d2] }
  | _ => none }
def NfaStarsWrongFalsely : Prop := nfaStarsRow.holds Try.pinned (OpenSpec.ofChange nfaStarsWrong)

/-- 'becklaw10.NfaTwo': WHATEVER THE INPUT: true; the input reads as it did. -/
def nfaTwoSpec : ChangeSpec := { name := "nfaTwo", fn := fun _ => fun
  | [d1, d2, d3] => { results := [.lit (.bool true)], args := [d1, d2, d3] }
  | _ => none }
def nfaTwoRow : OpenClaim := { program := "ytghlajfalgdkfaa", sum := "6c35a94522eaee0bf8fe9d46d01f07563d11c4a64070e38f7da476dd7fc4a1e2", func := "beck/becklaw10.NfaTwo", spec := "nfaTwo", inPlace := ["slices.overlaps[beck/nfa.move]"], unfollowed := true, recurses := true, apart := false }
def NfaTwoSaid : Prop := nfaTwoRow.holds Try.pinned (OpenSpec.ofChange nfaTwoSpec)

/-- ITS FALSE NEIGHBOUR: 'it returns false'. Refute it at one input. -/
def nfaTwoWrong : ChangeSpec := { name := "nfaTwo", fn := fun _ => fun
  | [d1, d2, d3] => { results := [.lit (.bool false)], args := [d1, d2, d3] }
  | _ => none }
def NfaTwoWrongFalsely : Prop := nfaTwoRow.holds Try.pinned (OpenSpec.ofChange nfaTwoWrong)

/-- 'becklaw10.NfaTurns': WHATEVER THE INPUT: true; the input reads as it did. -/
def nfaTurnsSpec : ChangeSpec := { name := "nfaTurns", fn := fun _ => fun
  | [d1, d2] => { results := [.lit (.bool true)], args := [d1, d2] }
  | _ => none }
def nfaTurnsRow : OpenClaim := { program := "ytghlajfalgdkfaa", sum := "6c35a94522eaee0bf8fe9d46d01f07563d11c4a64070e38f7da476dd7fc4a1e2", func := "beck/becklaw10.NfaTurns", spec := "nfaTurns", inPlace := ["slices.overlaps[beck/nfa.move]"], unfollowed := true, recurses := true, apart := false }
def NfaTurnsSaid : Prop := nfaTurnsRow.holds Try.pinned (OpenSpec.ofChange nfaTurnsSpec)

/-- ITS FALSE NEIGHBOUR: 'it returns false'. Refute it at one input. -/
def nfaTurnsWrong : ChangeSpec := { name := "nfaTurns", fn := fun _ => fun
  | [d1, d2] => { results := [.lit (.bool false)], args := [d1, d2] }
  | _ => none }
def NfaTurnsWrongFalsely : Prop := nfaTurnsRow.holds Try.pinned (OpenSpec.ofChange nfaTurnsWrong)

/- THE SECOND FORM. 'bulk': how many values and letters a reading holds, each counted each time it is reached (what is shared counts as often as it is met; a slice's spare places count too). A statement '..UptoSaid' is the law's where the arguments, and the package variables that the reading takes, are together of bulk at most 1048576: NARROWER than '..Said'. Prove '..Said' where nothing that the law and all that it calls make is longer than what came in: it says more and counts as full. Else prove '..UptoSaid'. A law counts once. -/
mutual
def uptoBulk {H : Type} : DataW H → Nat
  | .lit (.string bytes) => bytes.length + 1
  | .lit _ => 1
  | .nil => 1
  | .ptr d => uptoBulk d + 1
  | .slice elems spare => uptoBulkAll elems + uptoBulkAll spare + 1
  | .agg parts => uptoBulkAll parts + 1
  | .iface _ d => uptoBulk d + 1
  | .map entries => uptoBulkEntries entries + 1
  | .held _ => 1
def uptoBulkAll {H : Type} : List (DataW H) → Nat
  | [] => 0
  | d :: r => uptoBulk d + uptoBulkAll r
def uptoBulkEntries {H : Type} : List (Lit × DataW H) → Nat
  | [] => 0
  | x :: r => uptoBulkEntry x + uptoBulkEntries r
def uptoBulkEntry {H : Type} : Lit × DataW H → Nat
  | (.string bytes, d) => bytes.length + uptoBulk d + 1
  | (_, d) => uptoBulk d + 1
 end
def uptoSmall : (H : Type) → List (DataW H) → Bool := fun _ ds => decide (uptoBulkAll ds ≤ 1048576)
def OpenSpec.upto (s : _root_.Go.ChangeSpec) : _root_.Go.OpenSpec := { _root_.Go.OpenSpec.ofChange s with cond := some uptoSmall }

/-- 'becklaw10.NfaTakes', WHERE WHAT IT READS IS OF BULK AT MOST 1048576: true; the input reads as it did. -/
def nfaTakesUptoRow : OpenClaim := { program := "ytghlajfalgdkfaa", sum := "6c35a94522eaee0bf8fe9d46d01f07563d11c4a64070e38f7da476dd7fc4a1e2", func := "beck/becklaw10.NfaTakes", spec := "nfaTakes", inPlace := ["slices.overlaps[beck/nfa.move]"], unfollowed := true, recurses := true, apart := false, narrowed := true }
def NfaTakesUptoSaid : Prop := nfaTakesUptoRow.holds Try.pinned (OpenSpec.upto nfaTakesSpec)

/-- 'becklaw10.NfaChecks', WHERE WHAT IT READS IS OF BULK AT MOST 1048576: true; the input reads as it did. -/
def nfaChecksUptoRow : OpenClaim := { program := "ytghlajfalgdkfaa", sum := "6c35a94522eaee0bf8fe9d46d01f07563d11c4a64070e38f7da476dd7fc4a1e2", func := "beck/becklaw10.NfaChecks", spec := "nfaChecks", inPlace := ["slices.overlaps[beck/nfa.move]"], unfollowed := true, recurses := true, apart := false, narrowed := true }
def NfaChecksUptoSaid : Prop := nfaChecksUptoRow.holds Try.pinned (OpenSpec.upto nfaChecksSpec)

/-- 'becklaw10.NfaSets', WHERE WHAT IT READS IS OF BULK AT MOST 1048576: true; the input reads as it did. -/
def nfaSetsUptoRow : OpenClaim := { program := "ytghlajfalgdkfaa", sum := "6c35a94522eaee0bf8fe9d46d01f07563d11c4a64070e38f7da476dd7fc4a1e2", func := "beck/becklaw10.NfaSets", spec := "nfaSets", inPlace := ["slices.overlaps[beck/nfa.move]"], unfollowed := true, recurses := true, apart := false, narrowed := true }
def NfaSetsUptoSaid : Prop := nfaSetsUptoRow.holds Try.pinned (OpenSpec.upto nfaSetsSpec)

/-- 'becklaw10.NfaSymbols', WHERE WHAT IT READS IS OF BULK AT MOST 1048576: true; the input reads as it did. -/
def nfaSymbolsUptoRow : OpenClaim := { program := "ytghlajfalgdkfaa", sum := "6c35a94522eaee0bf8fe9d46d01f07563d11c4a64070e38f7da476dd7fc4a1e2", func := "beck/becklaw10.NfaSymbols", spec := "nfaSymbols", inPlace := ["slices.overlaps[beck/nfa.move]"], unfollowed := true, recurses := true, apart := false, narrowed := true }
def NfaSymbolsUptoSaid : Prop := nfaSymbolsUptoRow.holds Try.pinned (OpenSpec.upto nfaSymbolsSpec)

/-- 'becklaw10.NfaStars', WHERE WHAT IT READS IS OF BULK AT MOST 1048576: true; the input reads as it did. -/
def nfaStarsUptoRow : OpenClaim := { program := "ytghlajfalgdkfaa", sum := "6c35a94522eaee0bf8fe9d46d01f07563d11c4a64070e38f7da476dd7fc4a1e2", func := "beck/becklaw10.NfaStars", spec := "nfaStars", inPlace := ["slices.overlaps[beck/nfa.move]"], unfollowed := true, recurses := true, apart := false, narrowed := true }
def NfaStarsUptoSaid : Prop := nfaStarsUptoRow.holds Try.pinned (OpenSpec.upto nfaStarsSpec)

/-- 'becklaw10.NfaTwo', WHERE WHAT IT READS IS OF BULK AT MOST 1048576: true; the input reads as it did. -/
def nfaTwoUptoRow : OpenClaim := { program := "ytghlajfalgdkfaa", sum := "6c35a94522eaee0bf8fe9d46d01f07563d11c4a64070e38f7da476dd7fc4a1e2", func := "beck/becklaw10.NfaTwo", spec := "nfaTwo", inPlace := ["slices.overlaps[beck/nfa.move]"], unfollowed := true, recurses := true, apart := false, narrowed := true }
def NfaTwoUptoSaid : Prop := nfaTwoUptoRow.holds Try.pinned (OpenSpec.upto nfaTwoSpec)

/-- 'becklaw10.NfaTurns', WHERE WHAT IT READS IS OF BULK AT MOST 1048576: true; the input reads as it did. -/
def nfaTurnsUptoRow : OpenClaim := { program := "ytghlajfalgdkfaa", sum := "6c35a94522eaee0bf8fe9d46d01f07563d11c4a64070e38f7da476dd7fc4a1e2", func := "beck/becklaw10.NfaTurns", spec := "nfaTurns", inPlace := ["slices.overlaps[beck/nfa.move]"], unfollowed := true, recurses := true, apart := false, narrowed := true }
def NfaTurnsUptoSaid : Prop := nfaTurnsUptoRow.holds Try.pinned (OpenSpec.upto nfaTurnsSpec)

end Rows
end Go.Proofs.Ytghlajfalgdkfaa
