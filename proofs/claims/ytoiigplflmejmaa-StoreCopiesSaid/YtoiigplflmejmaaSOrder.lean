/-
  A PATTERN's order, both.
-/
import Derived.Test.YtoiigplflmejmaaSBase
namespace Go.Proofs.Ytoiigplflmejmaa
open Go.RowKit
set_option linter.unusedVariables false
set_option linter.unusedSimpArgs false
set_option maxRecDepth 100000

/-- The order of a pattern. -/
def ordP (a b c : Int) : Int := if 0 ≤ b ∧ ¬ 0 ≤ a then 1 else if 0 ≤ c ∧ ¬ 0 ≤ b then 2 else 0
set_option maxHeartbeats 4000000 in
theorem sorder_any (a b c : Int) (W : World) : Calls Try.prog 23 #[.agg #[.int .i64 a, .int .i64 b, .int .i64 c]] W fun e w' => e = .returned (.int .i64 (ordP a b c)) ∧ Below W.heap.size W w' := by
  obtain ⟨r, hr⟩ : ∃ r, r = ordP a b c := ⟨_, rfl⟩
  rw [← hr]
  unfold ordP at hr
  have HB := Lib.hid (show ∀ q, Below W.heap.size W ((W.alloc (.cells #[.int .i64 a, .int .i64 b, .int .i64 c] 48)).drewN q) from fun q => below_drewP ((Below.refl _ _).alloc (Nat.le_refl _) _) q)
  by_cases h0 : 0 ≤ a <;> by_cases h1 : 0 ≤ b <;> by_cases h2 : 0 ≤ c
  · have hv : r = 0 := by rw [hr]; simp [h0, h1, h2]
    subst hv
    have d0 : decide (0 ≤ a) = true := by simp [h0]
    have d1 : decide (0 ≤ b) = true := by simp [h1]
    have d2 : decide (0 ≤ c) = true := by simp [h2]
    clear hr
    go_enter Try.func23, Try.ntmps23
    go_wp2
    go_quiet (fail)
    go_wp2
    go_ret
    exact ⟨rfl, HB.out _⟩
  · have hv : r = 0 := by rw [hr]; simp [h0, h1, h2]
    subst hv
    have d0 : decide (0 ≤ a) = true := by simp [h0]
    have d1 : decide (0 ≤ b) = true := by simp [h1]
    have d2 : decide (0 ≤ c) = false := by simp [h2]
    clear hr
    go_enter Try.func23, Try.ntmps23
    go_wp2
    go_quiet (fail)
    go_wp2
    go_ret
    exact ⟨rfl, HB.out _⟩
  · have hv : r = 2 := by rw [hr]; simp [h0, h1, h2]
    subst hv
    have d0 : decide (0 ≤ a) = true := by simp [h0]
    have d1 : decide (0 ≤ b) = false := by simp [h1]
    have d2 : decide (0 ≤ c) = true := by simp [h2]
    clear hr
    go_enter Try.func23, Try.ntmps23
    go_wp2
    go_quiet (fail)
    go_wp2
    go_ret
    exact ⟨rfl, HB.out _⟩
  · have hv : r = 0 := by rw [hr]; simp [h0, h1, h2]
    subst hv
    have d0 : decide (0 ≤ a) = true := by simp [h0]
    have d1 : decide (0 ≤ b) = false := by simp [h1]
    have d2 : decide (0 ≤ c) = false := by simp [h2]
    clear hr
    go_enter Try.func23, Try.ntmps23
    go_wp2
    go_quiet (fail)
    go_wp2
    go_ret
    exact ⟨rfl, HB.out _⟩
  · have hv : r = 1 := by rw [hr]; simp [h0, h1, h2]
    subst hv
    have d0 : decide (0 ≤ a) = false := by simp [h0]
    have d1 : decide (0 ≤ b) = true := by simp [h1]
    have d2 : decide (0 ≤ c) = true := by simp [h2]
    clear hr
    go_enter Try.func23, Try.ntmps23
    go_wp2
    go_quiet (fail)
    go_wp2
    go_ret
    exact ⟨rfl, HB.out _⟩
  · have hv : r = 1 := by rw [hr]; simp [h0, h1, h2]
    subst hv
    have d0 : decide (0 ≤ a) = false := by simp [h0]
    have d1 : decide (0 ≤ b) = true := by simp [h1]
    have d2 : decide (0 ≤ c) = false := by simp [h2]
    clear hr
    go_enter Try.func23, Try.ntmps23
    go_wp2
    go_quiet (fail)
    go_wp2
    go_ret
    exact ⟨rfl, HB.out _⟩
  · have hv : r = 2 := by rw [hr]; simp [h0, h1, h2]
    subst hv
    have d0 : decide (0 ≤ a) = false := by simp [h0]
    have d1 : decide (0 ≤ b) = false := by simp [h1]
    have d2 : decide (0 ≤ c) = true := by simp [h2]
    clear hr
    go_enter Try.func23, Try.ntmps23
    go_wp2
    go_quiet (fail)
    go_wp2
    go_ret
    exact ⟨rfl, HB.out _⟩
  · have hv : r = 0 := by rw [hr]; simp [h0, h1, h2]
    subst hv
    have d0 : decide (0 ≤ a) = false := by simp [h0]
    have d1 : decide (0 ≤ b) = false := by simp [h1]
    have d2 : decide (0 ≤ c) = false := by simp [h2]
    clear hr
    go_enter Try.func23, Try.ntmps23
    go_wp2
    go_quiet (fail)
    go_wp2
    go_ret
    exact ⟨rfl, HB.out _⟩
set_option maxHeartbeats 4000000 in
theorem korder_any (a b c : Int) (W : World) : Calls Try.prog 29 #[.agg #[.int .i64 a, .int .i64 b, .int .i64 c]] W fun e w' => e = .returned (.int .i64 (ordP a b c)) ∧ Below W.heap.size W w' := by
  obtain ⟨r, hr⟩ : ∃ r, r = ordP a b c := ⟨_, rfl⟩
  rw [← hr]
  unfold ordP at hr
  have HB := Lib.hid (show ∀ q, Below W.heap.size W ((W.alloc (.cells #[.int .i64 a, .int .i64 b, .int .i64 c] 31)).drewN q) from fun q => below_drewP ((Below.refl _ _).alloc (Nat.le_refl _) _) q)
  by_cases h0 : 0 ≤ a <;> by_cases h1 : 0 ≤ b <;> by_cases h2 : 0 ≤ c
  · have hv : r = 0 := by rw [hr]; simp [h0, h1, h2]
    subst hv
    have d0 : decide (0 ≤ a) = true := by simp [h0]
    have d1 : decide (0 ≤ b) = true := by simp [h1]
    have d2 : decide (0 ≤ c) = true := by simp [h2]
    clear hr
    go_enter Try.func29, Try.ntmps29
    go_wp2
    go_quiet (fail)
    go_wp2
    go_ret
    exact ⟨rfl, HB.out _⟩
  · have hv : r = 0 := by rw [hr]; simp [h0, h1, h2]
    subst hv
    have d0 : decide (0 ≤ a) = true := by simp [h0]
    have d1 : decide (0 ≤ b) = true := by simp [h1]
    have d2 : decide (0 ≤ c) = false := by simp [h2]
    clear hr
    go_enter Try.func29, Try.ntmps29
    go_wp2
    go_quiet (fail)
    go_wp2
    go_ret
    exact ⟨rfl, HB.out _⟩
  · have hv : r = 2 := by rw [hr]; simp [h0, h1, h2]
    subst hv
    have d0 : decide (0 ≤ a) = true := by simp [h0]
    have d1 : decide (0 ≤ b) = false := by simp [h1]
    have d2 : decide (0 ≤ c) = true := by simp [h2]
    clear hr
    go_enter Try.func29, Try.ntmps29
    go_wp2
    go_quiet (fail)
    go_wp2
    go_ret
    exact ⟨rfl, HB.out _⟩
  · have hv : r = 0 := by rw [hr]; simp [h0, h1, h2]
    subst hv
    have d0 : decide (0 ≤ a) = true := by simp [h0]
    have d1 : decide (0 ≤ b) = false := by simp [h1]
    have d2 : decide (0 ≤ c) = false := by simp [h2]
    clear hr
    go_enter Try.func29, Try.ntmps29
    go_wp2
    go_quiet (fail)
    go_wp2
    go_ret
    exact ⟨rfl, HB.out _⟩
  · have hv : r = 1 := by rw [hr]; simp [h0, h1, h2]
    subst hv
    have d0 : decide (0 ≤ a) = false := by simp [h0]
    have d1 : decide (0 ≤ b) = true := by simp [h1]
    have d2 : decide (0 ≤ c) = true := by simp [h2]
    clear hr
    go_enter Try.func29, Try.ntmps29
    go_wp2
    go_quiet (fail)
    go_wp2
    go_ret
    exact ⟨rfl, HB.out _⟩
  · have hv : r = 1 := by rw [hr]; simp [h0, h1, h2]
    subst hv
    have d0 : decide (0 ≤ a) = false := by simp [h0]
    have d1 : decide (0 ≤ b) = true := by simp [h1]
    have d2 : decide (0 ≤ c) = false := by simp [h2]
    clear hr
    go_enter Try.func29, Try.ntmps29
    go_wp2
    go_quiet (fail)
    go_wp2
    go_ret
    exact ⟨rfl, HB.out _⟩
  · have hv : r = 2 := by rw [hr]; simp [h0, h1, h2]
    subst hv
    have d0 : decide (0 ≤ a) = false := by simp [h0]
    have d1 : decide (0 ≤ b) = false := by simp [h1]
    have d2 : decide (0 ≤ c) = true := by simp [h2]
    clear hr
    go_enter Try.func29, Try.ntmps29
    go_wp2
    go_quiet (fail)
    go_wp2
    go_ret
    exact ⟨rfl, HB.out _⟩
  · have hv : r = 0 := by rw [hr]; simp [h0, h1, h2]
    subst hv
    have d0 : decide (0 ≤ a) = false := by simp [h0]
    have d1 : decide (0 ≤ b) = false := by simp [h1]
    have d2 : decide (0 ≤ c) = false := by simp [h2]
    clear hr
    go_enter Try.func29, Try.ntmps29
    go_wp2
    go_quiet (fail)
    go_wp2
    go_ret
    exact ⟨rfl, HB.out _⟩
end Go.Proofs.Ytoiigplflmejmaa
