/-
  MERGED (a claim has at most 60 files): NTrq.
-/
import Derived.Test.YtpnfjjgihkmjmaaGreatDoorZ26
import Derived.Test.YtpnfjjgihkmjmaaGreatDoorZ21
/-
  A TRIPLE OF THE DOCUMENT's AS THE PROGRAM's; a triple's text; lines of triples (package nt).
-/
namespace Go.Proofs.YtpnfjjgihkmjmaaGreatDoor
open Go.RowKit
set_option linter.unusedVariables false
set_option linter.unusedSimpArgs false

theorem Rl.fb {w : World} {cs : Array Value} {W : World} (h : Rl w cs W) : Fb W w.heap.size 38 cs := h.2.1
end Go.Proofs.YtpnfjjgihkmjmaaGreatDoor
