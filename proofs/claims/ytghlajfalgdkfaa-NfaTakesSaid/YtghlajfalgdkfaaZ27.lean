/-
  MERGED (a claim has at most 60 files): NgRs.
-/
import Derived.Test.YtghlajfalgdkfaaZ25
import Derived.Laws.StructEq
/-
  Two symbols of the reference, compared.
-/
namespace Go.Proofs.Ytghlajfalgdkfaa
open Go.RowKit
set_option linter.unusedVariables false
set_option linter.unusedSimpArgs false
set_option maxRecDepth 100000
theorem rsym_eql (w : World) (a b : Int) (p q : Bool) : (Sem.run Try.prog (binOp .eql 75 (.agg #[.int .i64 a, .bool p]) (.agg #[.int .i64 b, .bool q])) w) = .ok (.bool (a == b && p == q)) w := by
  have h1 : Try.prog.underlying 75 = some (.struct (Try.prog.fieldsOf 75)) := by kernel_rfl
  have h2 : Try.prog.stoodInHeld 75 = false := by kernel_rfl
  have h3 := Try.underlying75.symm.trans h1
  injection h3 with h3
  injection h3 with h3
  rw [run_eql_struct, run_equalIn_agg _ _ _ _ _ h1 h2, ← h3]
  have hi : Try.prog.underlying 3 = some (.int .i64) := Try.underlying3
  have hbo : Try.prog.underlying 4 = some .bool := Try.underlying4
  have ri := fun (d : Nat) (w : World) => run_equalIn_int (P := Try.prog) w d 3 .i64 .i64 a b hi
  have rb := fun (d : Nat) (w : World) => run_equalIn_bool' (P := Try.prog) w d 4 p q hbo
  simp [Op.eqFields, part, go_sem, ri, rb]
  by_cases h : a = b
  · by_cases h' : p = q <;> simp [h, h']
  · simp [h]
theorem rsym_guard (w : World) (x y : Operand) (a b : Int) (p q : Bool) : Sem.run Try.prog (eqGuard .eql 75 x y (.agg #[.int .i64 a, .bool p]) (.agg #[.int .i64 b, .bool q])) w = .ok () w := run_eqGuard_agg w .eql 75 x y _ _ (by kernel_rfl)
end Go.Proofs.Ytghlajfalgdkfaa
