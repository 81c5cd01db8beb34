/-
  MERGED (a claim has at most 60 files): NAwake.
-/
import Derived.Test.YtpnfjjgihkmjmaaZ24
import Derived.Test.YtpnfjjgihkmjmaaZ01
import Derived.Deep.RegionHeld3
/-
  WHETHER A TRIPLE MAY BE (package nt); the law's 'awake'.
-/
namespace Go.Proofs.Ytpnfjjgihkmjmaa
open Go.RowKit
set_option linter.unusedVariables false
set_option linter.unusedSimpArgs false

noncomputable def okP (t : Tm) (part : Nat) : Bool := goodT t && mayB t part
/-- From a part on. -/
noncomputable def okR (a b c : Tm) : Nat → Bool
  | 0 => okP a 0 && (okP b 1 && okP c 2)
  | 1 => okP b 1 && okP c 2
  | 2 => okP c 2
  | _ => true
end Go.Proofs.Ytpnfjjgihkmjmaa
