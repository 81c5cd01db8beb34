/-
  window.Span.Has: is a time in a while?
-/
import Derived.Test.YtncnoilldlnpoaaBgPl
import Derived.Deep.RegionHeld3
namespace Go.Proofs.Ytncnoilldlnpoaa
open Go.RowKit
set_option linter.unusedVariables false
set_option linter.unusedSimpArgs false
set_option maxRecDepth 100000

/-- The nearest time that is told apart. -/
def cl (t : Int) : Int := max (-2305843009213693952) (min t 2305843009213693952)
theorem ret_int {a b : Int} (h : a = b) : (Ending.returned (.int .i64 a)) = .returned (.int .i64 b) := by rw [h]
theorem ret_bool {a b : Bool} (h : a = b) : (Ending.returned (.bool a)) = .returned (.bool b) := by rw [h]
theorem wwithin_any (t : Int) (w : World) : Calls Try.prog 35 #[.int .i64 t] w fun e w' => e = .returned (.int .i64 (cl t)) ∧ Below w.heap.size w w' := by
  rcases Int.lt_or_le 2305843009213693952 t with h1 | h1
  · go_enter Try.func35, Try.ntmps35
    go_wp2
    go_ret
    exact ⟨ret_int (by unfold cl; omega), by first | exact Below.refl _ _ | exact (Below.refl _ _).drew⟩
  · have n1 : ¬ 2305843009213693952 < t := by omega
    rcases Int.lt_or_le (-2305843009213693952) t with h2 | h2
    · go_enter Try.func35, Try.ntmps35
      go_wp2
      go_ret
      exact ⟨ret_int (by unfold cl; omega), by first | exact Below.refl _ _ | exact (Below.refl _ _).drew⟩
    · have n2 : ¬ -2305843009213693952 < t := by omega
      go_enter Try.func35, Try.ntmps35
      go_wp2
      go_ret
      exact ⟨ret_int (by unfold cl; omega), by first | exact Below.refl _ _ | exact (Below.refl _ _).drew⟩
def spv (a b : Int) : Value := .agg #[.int .i64 a, .int .i64 b]
/-- Is a time in it? -/
def hasB (a b t : Int) : Bool := decide (a ≤ cl t) && decide (cl t < b)
theorem whas_any (a b t : Int) (w : World) : Calls Try.prog 25 #[spv a b, .int .i64 t] w fun e w' => e = .returned (.bool (hasB a b t)) ∧ Below w.heap.size w w' := by
  have hB1 : Below w.heap.size w (w.alloc (.cells #[.int .i64 a, .int .i64 b] 24)) := (Below.refl _ _).alloc (Nat.le_refl _) _
  have hF := Fb.new w 24 #[.int .i64 a, .int .i64 b]
  have cW := fun (W : World) (hb : Below (w.alloc (.cells #[.int .i64 a, .int .i64 b] 24)).heap.size (w.alloc (.cells #[.int .i64 a, .int .i64 b] 24)) W) => (wwithin_any t W).mono (R' := fun e w' => e = .returned (.int .i64 (cl t)) ∧ Below w.heap.size w w' ∧ w'.cell? ⟨w.heap.size, 0, none⟩ = some (.int .i64 a) ∧ w'.cell? ⟨w.heap.size, 1, none⟩ = some (.int .i64 b)) fun e w' ⟨h1, h2⟩ =>
    ⟨h1, (hB1.trans (hb.mono hB1.size)).trans (h2.mono (Nat.le_trans hB1.size hb.size)), ((hF.below hb).below h2).cell 0, ((hF.below hb).below h2).cell 1⟩
  unfold hasB spv
  generalize cl t = c at *
  clear hF hB1
  by_cases h1 : a ≤ c
  · by_cases h2 : c < b
    · go_enter Try.func25, Try.ntmps25
      go_wp2_with (go_at_call 35; (with_reducible refine (cW _ (by first | exact Below.refl _ _ | exact (Below.refl _ _).drew)).mono ?_); rintro e w' ⟨rfl, hR, c0, c1⟩)
      go_ret
      exact ⟨ret_bool (by simp [h1, h2]), by first | exact hR | exact hR.drew⟩
    · go_enter Try.func25, Try.ntmps25
      go_wp2_with (go_at_call 35; (with_reducible refine (cW _ (by first | exact Below.refl _ _ | exact (Below.refl _ _).drew)).mono ?_); rintro e w' ⟨rfl, hR, c0, c1⟩)
      go_ret
      exact ⟨ret_bool (by simp [h1, h2] <;> omega), by first | exact hR | exact hR.drew⟩
  · go_enter Try.func25, Try.ntmps25
    go_wp2_with (go_at_call 35; (with_reducible refine (cW _ (by first | exact Below.refl _ _ | exact (Below.refl _ _).drew)).mono ?_); rintro e w' ⟨rfl, hR, c0, c1⟩)
    go_ret
    exact ⟨ret_bool (by simp [h1] <;> omega), by first | exact hR | exact hR.drew⟩
/-- A while's times, in a row of rising ones, stand together. -/
theorem cl_mono {x y : Int} (h : x ≤ y) : cl x ≤ cl y := by unfold cl; omega
end Go.Proofs.Ytncnoilldlnpoaa
