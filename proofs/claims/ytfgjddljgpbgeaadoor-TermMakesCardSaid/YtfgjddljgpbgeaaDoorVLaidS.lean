/-
  WHAT A LIST OF SEVEN GIVES (the two tables of unicode/utf8 beside the five); and one start that fits.
-/
import Derived.Test.YtfgjddljgpbgeaaDoorVLaid
namespace Go.Proofs.YtfgjddljgpbgeaaDoor
open Go.ChangeShapes Go.RowKit

abbrev laid7 : List (String × DataW Unit) := [("math/bits.deBruijn32tab", Rows.laid_math_bits_deBruijn32tab), ("math/bits.deBruijn64tab", Rows.laid_math_bits_deBruijn64tab), ("internal/strconv.uint64pow10", Rows.laid_internal_strconv_uint64pow10), ("unicode/utf8.acceptRanges", Rows.laid_unicode_utf8_acceptRanges), ("strconv.ErrRange", Rows.laid_strconv_ErrRange), ("strconv.ErrSyntax", Rows.laid_strconv_ErrSyntax), ("unicode/utf8.first", Rows.laid_unicode_utf8_first)]
theorem lv_of7 {W : World} (h : laidMetH Tryd.prog laid7 W) : LV W := by
  rw [MakeChecks.laidMetH_plain _ _ _ (by kernel_rfl)] at h
  have h2 : laidMet Tryd.prog (("internal/strconv.uint64pow10", Lib.tabData .u64 Lib.pow10Tab) :: [("unicode/utf8.acceptRanges", Rows.laid_unicode_utf8_acceptRanges), ("strconv.ErrRange", Rows.laid_strconv_ErrRange), ("strconv.ErrSyntax", Rows.laid_strconv_ErrSyntax), ("unicode/utf8.first", Rows.laid_unicode_utf8_first)]) W := h.tail.tail
  refine ⟨Lib.tabIs_of_head gPow gPowType Tryd.underlying131 Tryd.underlying117 cellsUL cellsPow h2, ?_⟩
  obtain ⟨a, s, hv, _⟩ := laid_sentinel (g := 3) h.tail.tail.tail.tail gRng gRngType Tryd.underlying98 rowES Tryd.underlying147 Tryd.underlying149 rfl rfl Tryd.underlying9 (by kernel_rfl) (by kernel_rfl)
  exact ⟨_, _, hv⟩
def firstCells : Array Value := litsOf Rows.laid_unicode_utf8_first
def accCells : Array Value := match (Rows.laid_unicode_utf8_acceptRanges : DataW Unit) with
  | .agg l => (l.map litsOf).foldl (· ++ ·) #[]
  | _ => #[]
noncomputable def laidWorld7 (os : Os) : World :=
  { laidWorld os with heap := ((laidWorld os).heap.modify 6 (putAt firstCells)).modify 7 (putAt accCells) }
theorem laid_met7 (os : Os) (args : Array Value) : laidMet Tryd.prog laid7 ((laidWorld7 os).forCall (fun _ _ => 0) ⟨#[], args, []⟩).memory :=
  laidMet_of_run' 8 (by kernel_rfl) (by kernel_rfl)
end Go.Proofs.YtfgjddljgpbgeaaDoor
