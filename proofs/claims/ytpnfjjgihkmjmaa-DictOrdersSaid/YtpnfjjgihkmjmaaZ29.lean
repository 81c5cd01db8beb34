/-
  MERGED (a claim has at most 60 files): VFits, VRParse.
-/
import Derived.Test.YtpnfjjgihkmjmaaZ28
import Derived.Laws.AppendOwn
import Derived.Laws.OwnMore
import Derived.OwnWalk
import Derived.Test.YtpnfjjgihkmjmaaZ13
import Derived.Deep.AppendLies
import Derived.Deep.RegionLaw
import Derived.Deep.DrawnRows
import Derived.Lib.Strings
/-
  THE DOCUMENT's 'Same' and 'Fits'.
-/
namespace Go.Proofs.Ytpnfjjgihkmjmaa
open Go.RowKit
set_option linter.unusedVariables false

def F64 (x : Int) : Prop := -9223372036854775808 ≤ x ∧ x ≤ 9223372036854775807
theorem DAt.blk {w : World} {A : Option Addr} {l : List Int} (h : DAt w A l) (o : Obj) : DAt (w.alloc o) A l := h.below ((Below.refl _ _).alloc (Nat.le_refl _) o)
end Go.Proofs.Ytpnfjjgihkmjmaa

/-
  THE DOCUMENT's 'Parse': a text as a number.
-/
namespace Go.Proofs.Ytpnfjjgihkmjmaa
open Go.RowKit
set_option linter.unusedVariables false

abbrev noBig (code : Int) : Value := .tuple #[.agg #[.bool false, .slice none 0 0], .int .i64 code]
end Go.Proofs.Ytpnfjjgihkmjmaa
