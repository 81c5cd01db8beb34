/-
  FLOOR; SUMS AND PRODUCTS of many.
-/
import Derived.Test.YtknjdkjakngkpaaVInt
namespace Go.Proofs.Ytknjdkjakngkpaa
open Go.RowKit
set_option linter.unusedVariables false

theorem two_eq {a b c : Int} (h : a = b) : Ending.returned (two a c) = .returned (two b c) := by rw [h]
theorem wrap64_is (z : Int) : wrap64 z = wr64 z := by unfold wrap64 wr64; omega
/-- The quotient downwards. -/
def flr (a b : Int) : Int := if a.tmod b ≠ 0 ∧ (decide (a < 0) != decide (b < 0)) = true then a.tdiv b - 1 else a.tdiv b
theorem floor_zero (a : Int) (w : World) : Calls Try.prog 28 #[.int .i64 a, .int .i64 0] w fun e w' => e = .returned (two 0 2) ∧ w = w' := by
  go_enter Try.func28, Try.ntmps28
  go_wp2_with (go_at_call 27; (with_reducible refine (div_zero _ _).mono ?_); rintro e w' ⟨rfl, rfl⟩)
  go_ret2
  exact ⟨rfl, rfl⟩
theorem floor_over (w : World) : Calls Try.prog 28 #[.int .i64 (-9223372036854775808), .int .i64 (-1)] w fun e w' => e = .returned (two 0 9) ∧ w = w' := by
  go_enter Try.func28, Try.ntmps28
  go_wp2_with (go_at_call 27; (with_reducible refine (div_over _).mono ?_); rintro e w' ⟨rfl, rfl⟩)
  go_ret2
  exact ⟨rfl, rfl⟩
theorem tmod_fit (a b : Int) (ha : fit a) : fit (a.tmod b) := by
  have h1 : (a.tmod b).natAbs ≤ a.natAbs := by rw [Int.natAbs_tmod]; exact Nat.mod_le _ _
  unfold fit at *
  by_cases e : 0 ≤ a
  · have := Int.tmod_nonneg b e; omega
  · have : a.tmod b ≤ 0 := by
      have := Int.neg_tmod a b
      have h2 := Int.tmod_nonneg b (a := -a) (by omega)
      omega
    omega
theorem flr_low (a b : Int) (ha : fit a) (hb : fit b) (h0 : b ≠ 0) (hq : fit (a.tdiv b)) : a.tmod b ≠ 0 ∧ (decide (a < 0) != decide (b < 0)) = true → fit (a.tdiv b - 1) := by
  rintro ⟨h1, h2⟩
  have : (a.tdiv b).natAbs ≤ a.natAbs := by rw [Int.natAbs_tdiv]; exact Nat.div_le_self _ _
  have h3 := Int.tmod_add_mul_tdiv a b
  unfold fit at *
  refine ⟨?_, by omega⟩
  by_cases e : a.tdiv b = -9223372036854775808
  · exfalso
    rw [e] at h3
    have h4 : (a.tmod b).natAbs < b.natAbs := by rw [Int.natAbs_tmod]; exact Nat.mod_lt _ (by omega)
    have : b = 1 ∨ b = -1 ∨ 2 ≤ b ∨ b ≤ -2 := by omega
    rcases this with rfl | rfl | hb2 | hb2
    · omega
    · omega
    · omega
    · omega
  · omega
theorem flr_fit (a b : Int) (ha : fit a) (hb : fit b) (h0 : b ≠ 0) (h : ¬ (a = -9223372036854775808 ∧ b = -1)) : fit (flr a b) := by
  have hq := tdiv_fit a b ha h
  unfold flr
  split
  · exact flr_low a b ha hb h0 hq (by assumption)
  · exact hq
theorem floor_yes (a b : Int) (ha : fit a) (hb : fit b) (h0 : b ≠ 0) (h : ¬ (a = -9223372036854775808 ∧ b = -1)) (w : World) : Calls Try.prog 28 #[.int .i64 a, .int .i64 b] w fun e w' => e = .returned (two (flr a b) 0) ∧ w = w' := by
  have hD : ∀ W, Calls Try.prog 27 #[.int .i64 a, .int .i64 b] W fun e w' => e = .returned (two (a.tdiv b) 0) ∧ W = w' := div_yes a b ha h0 h
  have hq := tdiv_fit a b ha h
  have hmw : IntKind.i64.wrap (a.tmod b) = a.tmod b := by rw [wrap_is, wr64_fit (tmod_fit a b ha)]
  have hq1 := flr_low a b ha hb h0 hq
  obtain ⟨q, hqq⟩ : ∃ q, q = a.tdiv b := ⟨_, rfl⟩
  unfold flr
  rw [← hqq] at hq1 ⊢
  rw [← hqq] at hD
  have g0 : (b == 0) = false := by simpa using h0
  obtain ⟨q1, hq1'⟩ : ∃ q1, q1 = if a.tmod b ≠ 0 ∧ (decide (a < 0) != decide (b < 0)) = true then q - 1 else q := ⟨_, rfl⟩
  rw [← hq1']
  have HQ := Lib.hid hq1'
  have HF := Lib.hid hq1
  clear ha hb h hq hq1 hqq hq1'
  go_enter Try.func28, Try.ntmps28
  go_wp2_with (go_at_call 27; (with_reducible refine (hD _).mono ?_); rintro e w' ⟨rfl, rfl⟩)
  · go_ret2
    have hm : a.tmod b = 0 := by assumption
    exact ⟨two_eq (by rw [HQ.out, if_neg (fun x => x.1 hm)]), rfl⟩
  · go_ret2
    have hs : (a.tmod b != 0) = true ∧ (!decide (a < 0) == decide (b < 0)) = true := by assumption
    have hc : a.tmod b ≠ 0 ∧ (decide (a < 0) != decide (b < 0)) = true := ⟨by simpa using hs.1, by simpa using hs.2⟩
    exact ⟨two_eq (by rw [HQ.out, if_pos hc, wrap64_is, wr64_fit (HF.out hc)]), rfl⟩
  · go_ret2
    have hm : ¬ a.tmod b = 0 := by assumption
    have hs : (a.tmod b != 0) = false ∨ (!decide (a < 0) == decide (b < 0)) = false := by assumption
    refine ⟨two_eq ?_, rfl⟩
    rw [HQ.out, if_neg ?_]
    rintro ⟨_, hc2⟩
    rcases hs with hs | hs
    · simp [hm] at hs
    · simp at hs hc2
      exact hc2 hs
end Go.Proofs.Ytknjdkjakngkpaa
