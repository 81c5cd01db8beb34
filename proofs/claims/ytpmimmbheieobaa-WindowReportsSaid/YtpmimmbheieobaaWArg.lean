/-
  ARGUMENTS AS THE CALL GETS THEM: arrays by value.
-/
import Derived.Test.YtpmimmbheieobaaProg
import Derived.Test.YtpmimmbheieobaaRows
import Derived.WalkKit
import Derived.ProofKit
import Derived.OpenShut
import Derived.Lib.SmallJoins
import Derived.Laws.IdiomArrays
namespace Go.Proofs.Ytpmimmbheieobaa
open Go.ChangeShapes Go.WideShapes Go.ChangeAt Go.RowKit
set_option linter.unusedVariables false
set_option maxRecDepth 100000
def i64b (x : Int) : Prop := -9223372036854775808 ≤ x ∧ x ≤ 9223372036854775807
def u8b (x : Int) : Prop := 0 ≤ x ∧ x ≤ 255
section
variable {H : Type} {enc : TypeId × Value → H} {W : World}
theorem arr2_open {t e : TypeId} {fuel : Nat} {c0 c1 : Value} {x : DataW H × List MemPlace} (ht : Try.prog.underlying t = some (.array 2 e)) (hce : Try.prog.cellsOf e = 1)
    (h : DataW.trod enc Try.prog W 0 (fun _ => true) true fuel t [c0, c1] = some x) :
    ∃ y0 y1 n, DataW.trod enc Try.prog W 0 (fun _ => true) true n e [c0] = some y0 ∧ DataW.trod enc Try.prog W 0 (fun _ => true) true n e [c1] = some y1 := by
  cases fuel with
  | zero => simp [DataW.trod] at h
  | succ n =>
    unfold DataW.trod at h
    rw [ht] at h
    have r2 : List.range 2 = [0, 1] := rfl
    simp [r2, hce] at h
    obtain ⟨_, h⟩ := h
    cases h0 : DataW.trod enc Try.prog W 0 (fun _ => true) true n e [c0] with
    | none => simp [h0] at h
    | some y0 =>
      cases h1 : DataW.trod enc Try.prog W 0 (fun _ => true) true n e [c1] with
      | none => simp [h0, h1] at h
      | some y1 => exact ⟨y0, y1, n, h0, h1⟩
theorem okWide_arr {P : Program} {w : World} {r : Reach} {base : Nat} {t e : TypeId} {n : Nat} {v : Value} (ht : P.underlying t = some (.array n e)) (h : Value.okWide P w r base t v) : ∃ cs, v = .agg cs ∧ cs.size = P.cellsOf t := by
  simp only [Value.okWide, ht] at h
  obtain ⟨cs, h1, h2, _⟩ := h
  exact ⟨cs, h1, h2⟩
/-- Two integers by value. -/
theorem a2_value {b0 : Nat} {v : Value} {d : DataW H} {ps : List MemPlace} (hv : Value.okWide Try.prog W .any b0 38 v) (h : DataW.Trod enc Try.prog W 0 (fun _ => true) true 38 v d ps) :
    ∃ r : Int × Int, (i64b r.1 ∧ i64b r.2) ∧ v = .agg #[.int .i64 r.1, .int .i64 r.2] := by
  obtain ⟨cs, rfl, hz⟩ := okWide_arr Try.underlying38 hv
  obtain ⟨fuel, hf⟩ := h
  have h2 : Try.prog.cellsOf 38 = 2 := by kernel_rfl
  rw [h2] at hz
  obtain ⟨l⟩ := cs
  match l, hz with
  | [v0, v1], _ =>
    have hI : Try.prog.cellsOf 3 = 1 := by kernel_rfl
    obtain ⟨y0, y1, n, a0, a1⟩ := arr2_open (c0 := v0) (c1 := v1) Try.underlying38 hI (by simpa [Value.cells] using hf)
    obtain ⟨a, e0, _, w0⟩ := DataW.trod_int Try.underlying3 a0
    obtain ⟨b, e1, _, w1⟩ := DataW.trod_int Try.underlying3 a1
    simp at e0 e1
    subst e0 e1
    exact ⟨(a, b), ⟨bounds_i64 w0, bounds_i64 w1⟩, rfl⟩
/-- Three integers by value. -/
theorem a3_value {b0 : Nat} {v : Value} {d : DataW H} {ps : List MemPlace} (hv : Value.okWide Try.prog W .any b0 22 v) (h : DataW.Trod enc Try.prog W 0 (fun _ => true) true 22 v d ps) :
    ∃ r : Int × Int × Int, (i64b r.1 ∧ i64b r.2.1 ∧ i64b r.2.2) ∧ v = .agg #[.int .i64 r.1, .int .i64 r.2.1, .int .i64 r.2.2] := by
  obtain ⟨cs, rfl, hz⟩ := okWide_arr Try.underlying22 hv
  obtain ⟨fuel, hf⟩ := h
  have h2 : Try.prog.cellsOf 22 = 3 := by kernel_rfl
  rw [h2] at hz
  obtain ⟨l⟩ := cs
  match l, hz with
  | [v0, v1, v2], _ =>
    have hI : Try.prog.cellsOf 3 = 1 := by kernel_rfl
    obtain ⟨y0, y1, y2, n, _, a0, a1, a2⟩ := trod_array3 (c0 := v0) (c1 := v1) (c2 := v2) Try.underlying22 hI (by simpa [Value.cells] using hf)
    obtain ⟨a, e0, _, w0⟩ := DataW.trod_int Try.underlying3 a0
    obtain ⟨b, e1, _, w1⟩ := DataW.trod_int Try.underlying3 a1
    obtain ⟨c, e2, _, w2⟩ := DataW.trod_int Try.underlying3 a2
    simp at e0 e1 e2
    subst e0 e1 e2
    exact ⟨(a, b, c), ⟨bounds_i64 w0, bounds_i64 w1, bounds_i64 w2⟩, rfl⟩
/-- Two bytes by value. -/
theorem au_value {b0 : Nat} {v : Value} {d : DataW H} {ps : List MemPlace} (hv : Value.okWide Try.prog W .any b0 47 v) (h : DataW.Trod enc Try.prog W 0 (fun _ => true) true 47 v d ps) :
    ∃ r : Int × Int, (u8b r.1 ∧ u8b r.2) ∧ v = .agg #[.int .u8 r.1, .int .u8 r.2] := by
  obtain ⟨cs, rfl, hz⟩ := okWide_arr Try.underlying47 hv
  obtain ⟨fuel, hf⟩ := h
  have h2 : Try.prog.cellsOf 47 = 2 := by kernel_rfl
  rw [h2] at hz
  obtain ⟨l⟩ := cs
  match l, hz with
  | [v0, v1], _ =>
    have hI : Try.prog.cellsOf 5 = 1 := by kernel_rfl
    obtain ⟨y0, y1, n, a0, a1⟩ := arr2_open (c0 := v0) (c1 := v1) Try.underlying47 hI (by simpa [Value.cells] using hf)
    obtain ⟨a, e0, _, w0⟩ := DataW.trod_int Try.underlying5 a0
    obtain ⟨b, e1, _, w1⟩ := DataW.trod_int Try.underlying5 a1
    simp at e0 e1
    subst e0 e1
    exact ⟨(a, b), ⟨bounds_u8 w0, bounds_u8 w1⟩, rfl⟩
/-- Three bytes by value. -/
theorem a8_value {b0 : Nat} {v : Value} {d : DataW H} {ps : List MemPlace} (hv : Value.okWide Try.prog W .any b0 45 v) (h : DataW.Trod enc Try.prog W 0 (fun _ => true) true 45 v d ps) :
    ∃ r : Int × Int × Int, (u8b r.1 ∧ u8b r.2.1 ∧ u8b r.2.2) ∧ v = .agg #[.int .u8 r.1, .int .u8 r.2.1, .int .u8 r.2.2] := by
  obtain ⟨cs, rfl, hz⟩ := okWide_arr Try.underlying45 hv
  obtain ⟨fuel, hf⟩ := h
  have h2 : Try.prog.cellsOf 45 = 3 := by kernel_rfl
  rw [h2] at hz
  obtain ⟨l⟩ := cs
  match l, hz with
  | [v0, v1, v2], _ =>
    have hI : Try.prog.cellsOf 5 = 1 := by kernel_rfl
    obtain ⟨y0, y1, y2, n, _, a0, a1, a2⟩ := trod_array3 (c0 := v0) (c1 := v1) (c2 := v2) Try.underlying45 hI (by simpa [Value.cells] using hf)
    obtain ⟨a, e0, _, w0⟩ := DataW.trod_int Try.underlying5 a0
    obtain ⟨b, e1, _, w1⟩ := DataW.trod_int Try.underlying5 a1
    obtain ⟨c, e2, _, w2⟩ := DataW.trod_int Try.underlying5 a2
    simp at e0 e1 e2
    subst e0 e1 e2
    exact ⟨(a, b, c), ⟨bounds_u8 w0, bounds_u8 w1, bounds_u8 w2⟩, rfl⟩
end
end Go.Proofs.Ytpmimmbheieobaa
