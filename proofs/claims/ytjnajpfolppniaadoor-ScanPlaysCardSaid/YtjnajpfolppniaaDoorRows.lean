/-
  NARROWER THAN 'FOR EVERY INPUT', by the rows' own cells (each row's printed sentence says how): ScanPlays: laid.
  DERIVED. THE GIVEN ROWS OF THIS SEAT. 1 by the template 'for every input the law returns true; each argument reads behind the call as it read before'; 0 by the template 'total and deterministic' (their statements: YtjnajpfolppniaaDoorTotals.lean).
  GIVEN WITH THE SEED: the statements are not yours to turn. If you find one false, say at which input.
  Laid BY PROGRAM, IN A SANDBOX (cutbox-rows.mjs): the forced cells as the released guide's own fill.sh prints them over the translation 821359292af9bc49… (all of the seat's roots in one cut). By AI agents, Wed Nov 11 2026. No macro, syntax, notation, axiom, sorry.
-/
import Derived.Test.YtjnajpfolppniaaDoorChecked
import GoSem.Claim
import GoSem.ClaimJoined
import GoSem.ClaimMapViews
import Derived.JoinedTies
import Derived.KernelRfl
namespace Go.Proofs.YtjnajpfolppniaaDoor
/- THE CELL 'sum', in the pinned program and in every row, IS THE sha256 OF THE DUMP (.gsa) THAT YtjnajpfolppniaaDoorProg.lean LOADS. Nothing in Lean hashes anything: it is a label: what it is worth is what the hold of that sum in a sandbox is worth. -/
noncomputable def Tryd.pinned : Pinned := { name := "ytjnajpfolppniaadoor", sum := "821359292af9bc49521e28e1ffa04d745779851e7b2354309d1be5165a6f332a", checked := Tryd.checked }
namespace Rows
def none {H : Type} : Left H := { results := [], args := [] }

/- WHAT THE LISTED PACKAGE-LEVEL VARIABLES READ AS WHEN THE CALL BEGINS. Each datum BY PROGRAM (the guide's laid-datum.mjs) off the statement by which the dump's own 'gosem.cut.vars' lays the variable. In a bare row this is a premise. The card (YtjnajpfolppniaaDoorCards.lean) ties it to the program's text. -/
def laid_beck_scan_escapes {H : Type} : DataW H := .agg [.agg [.lit (.int .i32 116), .lit (.int .i32 9)], .agg [.lit (.int .i32 110), .lit (.int .i32 10)], .agg [.lit (.int .i32 114), .lit (.int .i32 13)], .agg [.lit (.int .i32 98), .lit (.int .i32 8)], .agg [.lit (.int .i32 102), .lit (.int .i32 12)], .agg [.lit (.int .i32 34), .lit (.int .i32 34)], .agg [.lit (.int .i32 92), .lit (.int .i32 92)]]

/-- 'becklaw01.ScanPlays': WHATEVER THE INPUT: true; the input reads as it did. -/
def scanPlaysSpec : ChangeSpec := { name := "scanPlays", fn := fun _ => fun
  | [d1, d2] => { results := [.lit (.bool true)], args := [d1, d2] }
  | _ => none }
def scanPlaysRow : OpenClaim := { program := "ytjnajpfolppniaadoor", sum := "821359292af9bc49521e28e1ffa04d745779851e7b2354309d1be5165a6f332a", func := "beck/becklaw01.ScanPlays", spec := "scanPlays", inPlace := ["internal/abi.NoEscape"], named := ["beck/scan.escapes"], apart := false, laid := [("beck/scan.escapes", laid_beck_scan_escapes)] }
def ScanPlaysSaid : Prop := scanPlaysRow.holds Tryd.pinned (OpenSpec.ofChange scanPlaysSpec)

/-- ITS FALSE NEIGHBOUR: 'it returns false'. Refute it at one input. -/
def scanPlaysWrong : ChangeSpec := { name := "scanPlays", fn := fun _ => fun
  | [d1, d2] => { results := [.lit (.bool false)], args := [d1, d2] }
  | _ => none }
def ScanPlaysWrongFalsely : Prop := scanPlaysRow.holds Tryd.pinned (OpenSpec.ofChange scanPlaysWrong)

/- THE SECOND FORM. 'bulk': how many values and letters a reading holds, each counted each time it is reached (what is shared counts as often as it is met; a slice's spare places count too). A statement '..UptoSaid' is the law's where the arguments, and the package variables that the reading takes, are together of bulk at most 1048576: NARROWER than '..Said'. Prove '..Said' where nothing that the law and all that it calls make is longer than what came in: it says more and counts as full. Else prove '..UptoSaid'. A law counts once. -/
mutual
def uptoBulk {H : Type} : DataW H → Nat
  | .lit (.string bytes) => bytes.length + 1
  | .lit _ => 1
  | .nil => 1
  | .ptr d => uptoBulk d + 1
  | .slice elems spare => uptoBulkAll elems + uptoBulkAll spare + 1
  | .agg parts => uptoBulkAll parts + 1
  | .iface _ d => uptoBulk d + 1
  | .map entries => uptoBulkEntries entries + 1
  | .held _ => 1
def uptoBulkAll {H : Type} : List (DataW H) → Nat
  | [] => 0
  | d :: r => uptoBulk d + uptoBulkAll r
def uptoBulkEntries {H : Type} : List (Lit × DataW H) → Nat
  | [] => 0
  | x :: r => uptoBulkEntry x + uptoBulkEntries r
def uptoBulkEntry {H : Type} : Lit × DataW H → Nat
  | (.string bytes, d) => bytes.length + uptoBulk d + 1
  | (_, d) => uptoBulk d + 1
 end
def uptoSmall : (H : Type) → List (DataW H) → Bool := fun _ ds => decide (uptoBulkAll ds ≤ 1048576)
def OpenSpec.upto (s : _root_.Go.ChangeSpec) : _root_.Go.OpenSpec := { _root_.Go.OpenSpec.ofChange s with cond := some uptoSmall }

/-- 'becklaw01.ScanPlays', WHERE WHAT IT READS IS OF BULK AT MOST 1048576: true; the input reads as it did. -/
def scanPlaysUptoRow : OpenClaim := { program := "ytjnajpfolppniaadoor", sum := "821359292af9bc49521e28e1ffa04d745779851e7b2354309d1be5165a6f332a", func := "beck/becklaw01.ScanPlays", spec := "scanPlays", inPlace := ["internal/abi.NoEscape"], named := ["beck/scan.escapes"], apart := false, laid := [("beck/scan.escapes", laid_beck_scan_escapes)], narrowed := true }
def ScanPlaysUptoSaid : Prop := scanPlaysUptoRow.holds Tryd.pinned (OpenSpec.upto scanPlaysSpec)

end Rows
end Go.Proofs.YtjnajpfolppniaaDoor
