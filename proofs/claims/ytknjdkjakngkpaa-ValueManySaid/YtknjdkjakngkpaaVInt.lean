/-
  INTEGERS OF 64 BITS: Order, Sub, Div, Floor, and what Add and Mul make of two.
-/
import Derived.Test.YtknjdkjakngkpaaVTru
import Derived.Deep.QuietTactic
import Derived.BigQuiet
namespace Go.Proofs.Ytknjdkjakngkpaa
open Go.RowKit
set_option linter.unusedVariables false

theorem ret_int {k : IntKind} {a b : Int} (h : a = b) : Ending.returned (.int k a) = .returned (.int k b) := by rw [h]
theorem ret_bool {a b : Bool} (h : a = b) : Ending.returned (.bool a) = .returned (.bool b) := by rw [h]
/-- Is it an integer of 64 bits? -/
def fit (z : Int) : Prop := -9223372036854775808 ≤ z ∧ z ≤ 9223372036854775807
instance (z : Int) : Decidable (fit z) := by unfold fit; infer_instance
/-- The wrapped number. -/
def wr64 (z : Int) : Int := (z + 9223372036854775808) % 18446744073709551616 - 9223372036854775808
theorem wrap_is (z : Int) : IntKind.i64.wrap z = wr64 z := by rw [IntKind.wrap_i64]; unfold wr64; omega
theorem wr64_fit {z : Int} (h : fit z) : wr64 z = z := by unfold fit at h; unfold wr64; omega
/-- The order. -/
def ord (a b : Int) : Int := if a < b then -1 else if b < a then 1 else 0
theorem isnan_any (a : Int) (w : World) : Calls Try.prog 40 #[.int .i64 a] w fun e w' => e = .returned (.bool false) ∧ w = w' := by
  go_enter Try.func40, Try.ntmps40
  go_wp2
  go_ret
  exact ⟨ret_bool (by simp), rfl⟩
theorem compare_any (a b : Int) (w : World) : Calls Try.prog 39 #[.int .i64 a, .int .i64 b] w fun e w' => e = .returned (.int .i64 (ord a b)) ∧ w = w' := by
  go_enter Try.func39, Try.ntmps39
  go_wp2_with (go_at_call 40; (with_reducible refine (isnan_any _ _).mono ?_); rintro e w' ⟨rfl, rfl⟩)
  all_goals (go_ret; refine ⟨ret_int ?_, rfl⟩; unfold ord; omega)
theorem order_any (a b : Int) (w : World) : Calls Try.prog 24 #[.int .i64 a, .int .i64 b] w fun e w' => e = .returned (.int .i64 (ord a b)) ∧ w = w' := by
  go_enter Try.func24, Try.ntmps24
  go_wp2_with (go_at_call 39; (with_reducible refine (compare_any _ _ _).mono ?_); rintro e w' ⟨rfl, rfl⟩)
  go_ret
  exact ⟨rfl, rfl⟩
theorem lorder_any (a b : Int) (w : World) : Calls Try.prog 25 #[.int .i64 a, .int .i64 b] w fun e w' => e = .returned (.int .i64 (ord a b)) ∧ w = w' := by
  go_enter Try.func25, Try.ntmps25
  go_wp2
  all_goals (go_ret; refine ⟨ret_int ?_, rfl⟩; unfold ord; omega)

/-- What a call answers: an integer, or that there is none. -/
abbrev two (z : Int) (code : Int) : Value := .tuple #[.int .i64 z, .int .i64 code]
theorem sub_yes (a b : Int) (ha : fit a) (hb : fit b) (h : fit (a - b)) (w : World) : Calls Try.prog 18 #[.int .i64 a, .int .i64 b] w fun e w' => e = .returned (two (a - b) 0) ∧ w = w' := by
  obtain ⟨c, hc⟩ : ∃ c, c = a - b := ⟨_, rfl⟩
  have hw : IntKind.i64.wrap (a - b) = c := by rw [wrap_is, wr64_fit h, hc]
  rw [← hc]
  by_cases h0 : 0 < b
  · have h1 : c < a := by omega
    clear ha hb h hc
    go_enter Try.func18, Try.ntmps18
    go_wp2
    go_ret2
    exact ⟨rfl, rfl⟩
  · have h1 : ¬ c < a := by omega
    clear ha hb h hc
    go_enter Try.func18, Try.ntmps18
    go_wp2
    go_ret2
    exact ⟨rfl, rfl⟩
theorem sub_no (a b : Int) (ha : fit a) (hb : fit b) (h : ¬ fit (a - b)) (w : World) : Calls Try.prog 18 #[.int .i64 a, .int .i64 b] w fun e w' => e = .returned (two 0 9) ∧ w = w' := by
  obtain ⟨c, hc⟩ : ∃ c, c = wr64 (a - b) := ⟨_, rfl⟩
  have hw : IntKind.i64.wrap (a - b) = c := by rw [wrap_is, hc]
  by_cases h0 : 0 < b
  · have h1 : ¬ c < a := by unfold wr64 at hc; unfold fit at ha hb h; omega
    clear ha hb h hc
    go_enter Try.func18, Try.ntmps18
    go_wp2
    go_ret2
    exact ⟨rfl, rfl⟩
  · have h1 : c < a := by unfold wr64 at hc; unfold fit at ha hb h; omega
    clear ha hb h hc
    go_enter Try.func18, Try.ntmps18
    go_wp2
    go_ret2
    exact ⟨rfl, rfl⟩
theorem div_zero (a : Int) (w : World) : Calls Try.prog 27 #[.int .i64 a, .int .i64 0] w fun e w' => e = .returned (two 0 2) ∧ w = w' := by
  go_enter Try.func27, Try.ntmps27
  go_wp2
  go_ret2
  exact ⟨rfl, rfl⟩
theorem div_over (w : World) : Calls Try.prog 27 #[.int .i64 (-9223372036854775808), .int .i64 (-1)] w fun e w' => e = .returned (two 0 9) ∧ w = w' := by
  go_enter Try.func27, Try.ntmps27
  go_wp2
  go_ret2
  exact ⟨rfl, rfl⟩
theorem tdiv_fit (a b : Int) (ha : fit a) (h : ¬ (a = -9223372036854775808 ∧ b = -1)) : fit (a.tdiv b) := by
  have h1 : (a.tdiv b).natAbs ≤ a.natAbs := by rw [Int.natAbs_tdiv]; exact Nat.div_le_self _ _
  unfold fit at *
  refine ⟨by omega, ?_⟩
  by_cases e : a = -9223372036854775808
  · have hb : b ≠ -1 := fun x => h ⟨e, x⟩
    subst e
    by_cases b1 : b.natAbs ≤ 1
    · have : b = 0 ∨ b = 1 := by omega
      rcases this with rfl | rfl <;> decide
    · have : ((-9223372036854775808 : Int).tdiv b).natAbs ≤ 9223372036854775808 / 2 := by
        rw [Int.natAbs_tdiv]
        exact Nat.div_le_div_left (by omega) (by decide)
      omega
  · omega
theorem div_yes (a b : Int) (ha : fit a) (h0 : b ≠ 0) (h : ¬ (a = -9223372036854775808 ∧ b = -1)) (w : World) : Calls Try.prog 27 #[.int .i64 a, .int .i64 b] w fun e w' => e = .returned (two (a.tdiv b) 0) ∧ w = w' := by
  have hw : IntKind.i64.wrap (a.tdiv b) = a.tdiv b := by rw [wrap_is, wr64_fit (tdiv_fit a b ha h)]
  have g0 : (b == 0) = false := by simpa using h0
  by_cases hm : a = -9223372036854775808
  · have g1 : (a == -9223372036854775808) = true := by simpa using hm
    have g2 : (b == -1) = false := by have : b ≠ -1 := fun e => h ⟨hm, e⟩
                                      simpa using this
    clear ha h hm
    go_enter Try.func27, Try.ntmps27
    go_wp2
    go_ret2
    exact ⟨rfl, rfl⟩
  · have g1 : (a == -9223372036854775808) = false := by simpa using hm
    clear ha h hm
    go_enter Try.func27, Try.ntmps27
    go_wp2
    go_ret2
    exact ⟨rfl, rfl⟩
end Go.Proofs.Ytknjdkjakngkpaa
