/-
  ARGUMENTS AS THE CALL GETS THEM: arrays by value.
-/
import Derived.Test.YtoiigplflmejmaaProg
import Derived.Test.YtoiigplflmejmaaRows
import Derived.WalkKit
import Derived.ProofKit
import Derived.OpenShut
import Derived.Lib.SmallJoins
import Derived.Laws.IdiomArrays
namespace Go.Proofs.Ytoiigplflmejmaa
open Go.ChangeShapes Go.WideShapes Go.ChangeAt Go.RowKit
set_option linter.unusedVariables false
set_option maxRecDepth 100000
def i64b (x : Int) : Prop := -9223372036854775808 ≤ x ∧ x ≤ 9223372036854775807
section
variable {H : Type} {enc : TypeId × Value → H} {W : World}
theorem okWide_arr {P : Program} {w : World} {r : Reach} {base : Nat} {t e : TypeId} {n : Nat} {v : Value} (ht : P.underlying t = some (.array n e)) (h : Value.okWide P w r base t v) : ∃ cs, v = .agg cs ∧ cs.size = P.cellsOf t := by
  simp only [Value.okWide, ht] at h
  obtain ⟨cs, h1, h2, _⟩ := h
  exact ⟨cs, h1, h2⟩
/-- Three integers by value. -/
theorem a3_value {b0 : Nat} {v : Value} {d : DataW H} {ps : List MemPlace} (hv : Value.okWide Try.prog W .any b0 31 v) (h : DataW.Trod enc Try.prog W 0 (fun _ => true) true 31 v d ps) :
    ∃ r : Int × Int × Int, (i64b r.1 ∧ i64b r.2.1 ∧ i64b r.2.2) ∧ v = .agg #[.int .i64 r.1, .int .i64 r.2.1, .int .i64 r.2.2] := by
  obtain ⟨cs, rfl, hz⟩ := okWide_arr Try.underlying31 hv
  obtain ⟨fuel, hf⟩ := h
  have h2 : Try.prog.cellsOf 31 = 3 := by kernel_rfl
  rw [h2] at hz
  obtain ⟨l⟩ := cs
  match l, hz with
  | [v0, v1, v2], _ =>
    have hI : Try.prog.cellsOf 3 = 1 := by kernel_rfl
    obtain ⟨y0, y1, y2, n, _, a0, a1, a2⟩ := trod_array3 (c0 := v0) (c1 := v1) (c2 := v2) Try.underlying31 hI (by simpa [Value.cells] using hf)
    obtain ⟨a, e0, _, w0⟩ := DataW.trod_int Try.underlying3 a0
    obtain ⟨b, e1, _, w1⟩ := DataW.trod_int Try.underlying3 a1
    obtain ⟨c, e2, _, w2⟩ := DataW.trod_int Try.underlying3 a2
    simp at e0 e1 e2
    subst e0 e1 e2
    exact ⟨(a, b, c), ⟨bounds_i64 w0, bounds_i64 w1, bounds_i64 w2⟩, rfl⟩
end
end Go.Proofs.Ytoiigplflmejmaa
