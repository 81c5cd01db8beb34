/-
  THE DOCUMENT's 'first': the sign at the beginning of bytes, or that none is there: what the decoder says of them.
-/
import Derived.Test.YtbecjlmbalcgeaaDoorUtf
import Derived.Test.YtbecjlmbalcgeaaDoorBase
import Derived.Laws.RangeAny
import Derived.Deep.LoopGhost
namespace Go.Proofs.YtbecjlmbalcgeaaDoor
open Go.RowKit

theorem ret_two {a b c d : Int} (h : a = c ∧ b = d) : Ending.returned (.tuple #[.int .i64 a, .int .i64 b]) = .returned (.tuple #[.int .i64 c, .int .i64 d]) := by rw [h.1, h.2]
end Go.Proofs.YtbecjlmbalcgeaaDoor
