/-
  IngestRises: the second loop's facts.
-/
import Derived.Test.YtagidmghmbfnpaaIRz
import Derived.Laws.OwnMore
namespace Go.Proofs.Ytagidmghmbfnpaa
open Go.RowKit
set_option linter.unusedVariables false
set_option linter.unusedSimpArgs false
set_option maxRecDepth 100000

theorem below_drewN {B : Nat} {W0 W : World} (h : Below B W0 W) (q : Nat) : Below B W0 (W.drewN q) := ⟨h.os, h.tape, h.output, h.size, h.block⟩
end Go.Proofs.Ytagidmghmbfnpaa
