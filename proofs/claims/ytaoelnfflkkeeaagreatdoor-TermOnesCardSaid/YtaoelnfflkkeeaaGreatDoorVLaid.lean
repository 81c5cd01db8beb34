/-
  WHAT THE ROWS' LIST GIVES: the table of the powers of ten and the one sentinel that the walks ask for; and one start that fits.
-/
import Derived.Test.YtaoelnfflkkeeaaGreatDoorRows
import Derived.Test.YtaoelnfflkkeeaaGreatDoorVStr
import Derived.WalkKit
import Derived.ProofKit
import Derived.OpenShut
import Derived.Deep.DeepHandedRow
import Derived.Lib.LaidTab
import Derived.Stop.LaidErr
import Derived.MakeChecks
namespace Go.Proofs.YtaoelnfflkkeeaaGreatDoor
open Go.ChangeShapes Go.RowKit

theorem own : ownKnob Tryz.prog.godebug = none := by kernel_rfl
theorem gPow : Tryz.prog.globalNamed "internal/strconv.uint64pow10" = some 2 := by kernel_rfl
theorem gPowType : (Tryz.prog.globals[2]?).map (·.type) = some 117 := by kernel_rfl
theorem cellsPow : Tryz.prog.cellsOf 117 = 20 := by kernel_rfl
theorem cellsUL : Tryz.prog.cellsOf 94 = 1 := by kernel_rfl
theorem gRng : Tryz.prog.globalNamed "strconv.ErrRange" = some 1 := by kernel_rfl
theorem gRngType : (Tryz.prog.globals[1]?).map (·.type) = some 78 := by kernel_rfl

theorem star : "*" ++ "errors.errorString" = "*errors.errorString" := by decide
theorem rowES (u : TypeId) (h : Tryz.prog.typeName? 3 u = some "*errors.errorString") : u = 107 :=
  typeName_ptr_named (nm := "errors.errorString") (by rw [star]; kernel_rfl) (by kernel_rfl) (by decide) u (by rw [star]; exact h)

abbrev laid5 : List (String × DataW Unit) := [("math/bits.deBruijn32tab", Rows.laid_math_bits_deBruijn32tab), ("math/bits.deBruijn64tab", Rows.laid_math_bits_deBruijn64tab), ("internal/strconv.uint64pow10", Rows.laid_internal_strconv_uint64pow10), ("strconv.ErrRange", Rows.laid_strconv_ErrRange), ("strconv.ErrSyntax", Rows.laid_strconv_ErrSyntax)]
theorem lv_of {W : World} (h : laidMetH Tryz.prog laid5 W) : LV W := by
  rw [MakeChecks.laidMetH_plain _ _ _ (by kernel_rfl)] at h
  have h2 : laidMet Tryz.prog (("internal/strconv.uint64pow10", Lib.tabData .u64 Lib.pow10Tab) :: [("strconv.ErrRange", Rows.laid_strconv_ErrRange), ("strconv.ErrSyntax", Rows.laid_strconv_ErrSyntax)]) W := h.tail.tail
  refine ⟨Lib.tabIs_of_head gPow gPowType Tryz.underlying117 Tryz.underlying94 cellsUL cellsPow h2, ?_⟩
  obtain ⟨a, s, hv, _⟩ := laid_sentinel (g := 1) h.tail.tail.tail gRng gRngType Tryz.underlying78 rowES Tryz.underlying107 Tryz.underlying109 rfl rfl Tryz.underlying9 (by kernel_rfl) (by kernel_rfl)
  exact ⟨_, _, hv⟩

/-! ### One start that fits -/
abbrev synS : ByteArray := { data := #[105, 110, 118, 97, 108, 105, 100, 32, 115, 121, 110, 116, 97, 120] }
abbrev rngS : ByteArray := { data := #[118, 97, 108, 117, 101, 32, 111, 117, 116, 32, 111, 102, 32, 114, 97, 110, 103, 101] }
def litsOf : DataW Unit → Array Value
  | .agg l => (l.map fun d => match d with | .lit (.int k z) => Value.int k z | _ => .nilIface).toArray
  | _ => #[]
def powCells : Array Value := litsOf Rows.laid_internal_strconv_uint64pow10
def daCells : Array Value := litsOf Rows.laid_math_bits_deBruijn32tab
def dbCells : Array Value := litsOf Rows.laid_math_bits_deBruijn64tab
/-- So many blocks has the settled world. -/
noncomputable def low : Nat := (World.holding Tryz.prog default ⟨#[], #[], []⟩).heap.size
def putAt (cs : Array Value) : Obj → Obj
  | .cells _ t frozen => .cells cs t frozen
  | o => o
noncomputable def laidWorld (os : Os) : World :=
  let w0 := World.holding Tryz.prog os ⟨#[.cells #[.string synS] 109, .cells #[.string rngS] 109], #[], []⟩
  { w0 with heap := ((((w0.heap.modify 0 (putAt #[.iface 107 (.pointer (some ⟨low, 0, none⟩))])).modify 1 (putAt #[.iface 107 (.pointer (some ⟨low + 1, 0, none⟩))])).modify 2 (putAt powCells)).modify 3 (putAt daCells)).modify 4 (putAt dbCells) }
theorem laid_met (os : Os) (args : Array Value) : laidMet Tryz.prog laid5 ((laidWorld os).forCall (fun _ _ => 0) ⟨#[], args, []⟩).memory :=
  laidMet_of_run' 8 (by kernel_rfl) (by kernel_rfl)
end Go.Proofs.YtaoelnfflkkeeaaGreatDoor
