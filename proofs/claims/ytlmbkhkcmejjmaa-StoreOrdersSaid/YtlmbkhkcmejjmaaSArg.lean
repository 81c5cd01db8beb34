/-
  ARGUMENTS AS THE CALL GETS THEM: arrays by value.
-/
import Derived.Test.YtlmbkhkcmejjmaaProg
import Derived.Test.YtlmbkhkcmejjmaaRows
import Derived.WalkKit
import Derived.ProofKit
import Derived.OpenShut
import Derived.Lib.SmallJoins
import Derived.Laws.IdiomArrays
namespace Go.Proofs.Ytlmbkhkcmejjmaa
open Go.ChangeShapes Go.WideShapes Go.ChangeAt Go.RowKit
set_option linter.unusedVariables false
set_option maxRecDepth 100000
def i64b (x : Int) : Prop := -9223372036854775808 ≤ x ∧ x ≤ 9223372036854775807
section
variable {H : Type} {enc : TypeId × Value → H} {W : World}
theorem arr23_open {t e : TypeId} {fuel : Nat} {c0 c1 c2 c3 c4 c5 : Value} {x : DataW H × List MemPlace} (ht : Try.prog.underlying t = some (.array 2 e)) (hce : Try.prog.cellsOf e = 3)
    (h : DataW.trod enc Try.prog W 0 (fun _ => true) true fuel t [c0, c1, c2, c3, c4, c5] = some x) :
    ∃ y0 y1 n, DataW.trod enc Try.prog W 0 (fun _ => true) true n e [c0, c1, c2] = some y0 ∧ DataW.trod enc Try.prog W 0 (fun _ => true) true n e [c3, c4, c5] = some y1 := by
  cases fuel with
  | zero => simp [DataW.trod] at h
  | succ n =>
    unfold DataW.trod at h
    rw [ht] at h
    have r2 : List.range 2 = [0, 1] := rfl
    simp [r2, hce] at h
    obtain ⟨_, h⟩ := h
    cases h0 : DataW.trod enc Try.prog W 0 (fun _ => true) true n e [c0, c1, c2] with
    | none => simp [h0] at h
    | some y0 =>
      cases h1 : DataW.trod enc Try.prog W 0 (fun _ => true) true n e [c3, c4, c5] with
      | none => simp [h0, h1] at h
      | some y1 => exact ⟨y0, y1, n, h0, h1⟩
theorem okWide_arr {P : Program} {w : World} {r : Reach} {base : Nat} {t e : TypeId} {n : Nat} {v : Value} (ht : P.underlying t = some (.array n e)) (h : Value.okWide P w r base t v) : ∃ cs, v = .agg cs ∧ cs.size = P.cellsOf t := by
  simp only [Value.okWide, ht] at h
  obtain ⟨cs, h1, h2, _⟩ := h
  exact ⟨cs, h1, h2⟩
/-- Three integers by value. -/
theorem a3_value {b0 : Nat} {v : Value} {d : DataW H} {ps : List MemPlace} (hv : Value.okWide Try.prog W .any b0 22 v) (h : DataW.Trod enc Try.prog W 0 (fun _ => true) true 22 v d ps) :
    ∃ r : Int × Int × Int, (i64b r.1 ∧ i64b r.2.1 ∧ i64b r.2.2) ∧ v = .agg #[.int .i64 r.1, .int .i64 r.2.1, .int .i64 r.2.2] := by
  obtain ⟨cs, rfl, hz⟩ := okWide_arr Try.underlying22 hv
  obtain ⟨fuel, hf⟩ := h
  have h2 : Try.prog.cellsOf 22 = 3 := by kernel_rfl
  rw [h2] at hz
  obtain ⟨l⟩ := cs
  match l, hz with
  | [v0, v1, v2], _ =>
    have hI : Try.prog.cellsOf 3 = 1 := by kernel_rfl
    obtain ⟨y0, y1, y2, n, _, a0, a1, a2⟩ := trod_array3 (c0 := v0) (c1 := v1) (c2 := v2) Try.underlying22 hI (by simpa [Value.cells] using hf)
    obtain ⟨a, e0, _, w0⟩ := DataW.trod_int Try.underlying3 a0
    obtain ⟨b, e1, _, w1⟩ := DataW.trod_int Try.underlying3 a1
    obtain ⟨c, e2, _, w2⟩ := DataW.trod_int Try.underlying3 a2
    simp at e0 e1 e2
    subst e0 e1 e2
    exact ⟨(a, b, c), ⟨bounds_i64 w0, bounds_i64 w1, bounds_i64 w2⟩, rfl⟩
theorem a6_value {b0 : Nat} {v : Value} {d : DataW H} {ps : List MemPlace} (hv : Value.okWide Try.prog W .any b0 23 v) (h : DataW.Trod enc Try.prog W 0 (fun _ => true) true 23 v d ps) :
    ∃ a b c d e f : Int, v = .agg #[.int .i64 a, .int .i64 b, .int .i64 c, .int .i64 d, .int .i64 e, .int .i64 f] := by
  obtain ⟨cs, rfl, hz⟩ := okWide_arr Try.underlying23 hv
  obtain ⟨fuel, hf⟩ := h
  have h2 : Try.prog.cellsOf 23 = 6 := by kernel_rfl
  rw [h2] at hz
  obtain ⟨l⟩ := cs
  match l, hz with
  | [v0, v1, v2, v3, v4, v5], _ =>
    have hI : Try.prog.cellsOf 3 = 1 := by kernel_rfl
    have hD : Try.prog.cellsOf 22 = 3 := by kernel_rfl
    obtain ⟨y0, y1, n, a0, a1⟩ := arr23_open (c0 := v0) (c1 := v1) (c2 := v2) (c3 := v3) (c4 := v4) (c5 := v5) Try.underlying23 hD (by simpa [Value.cells] using hf)
    obtain ⟨z0, z1, z2, m, _, b0, b1, b2⟩ := trod_array3 (c0 := v0) (c1 := v1) (c2 := v2) Try.underlying22 hI a0
    obtain ⟨x0, x1, x2, m', _, e0, e1, e2⟩ := trod_array3 (c0 := v3) (c1 := v4) (c2 := v5) Try.underlying22 hI a1
    obtain ⟨a, p0, _, _⟩ := DataW.trod_int Try.underlying3 b0
    obtain ⟨b, p1, _, _⟩ := DataW.trod_int Try.underlying3 b1
    obtain ⟨c, p2, _, _⟩ := DataW.trod_int Try.underlying3 b2
    obtain ⟨d, p3, _, _⟩ := DataW.trod_int Try.underlying3 e0
    obtain ⟨e, p4, _, _⟩ := DataW.trod_int Try.underlying3 e1
    obtain ⟨f, p5, _, _⟩ := DataW.trod_int Try.underlying3 e2
    simp at p0 p1 p2 p3 p4 p5
    subst p0 p1 p2 p3 p4 p5
    exact ⟨a, b, c, d, e, f, rfl⟩
end
end Go.Proofs.Ytlmbkhkcmejjmaa
