/-
  SUMS AND PRODUCTS of many: the closures, 'fold', Add and Mul.
-/
import Derived.Test.YtknjdkjakngkpaaVFold
namespace Go.Proofs.Ytknjdkjakngkpaa
open Go.RowKit
set_option linter.unusedVariables false

abbrev twoB (z : Int) (b : Bool) : Value := .tuple #[.int .i64 z, .bool b]
theorem addA_any (a b : Int) (ha : fit a) (hb : fit b) (w : World) : Calls Try.prog 32 #[.int .i64 a, .int .i64 b] w fun e w' => e = .returned (twoB (wr64 (a + b)) (decide (fit (a + b)))) ∧ ∃ n, w' = w.drewN n := by
  obtain ⟨c, hc⟩ : ∃ c, c = wr64 (a + b) := ⟨_, rfl⟩
  have hw : IntKind.i64.wrap (a + b) = c := by rw [wrap_is, hc]
  rw [← hc]
  obtain ⟨B, hB⟩ : ∃ B, B = decide (fit (a + b)) := ⟨_, rfl⟩
  rw [← hB]
  have key : (decide (a < c) == decide (0 < b)) = B := by
    rw [hB]
    by_cases h0 : 0 < b <;> by_cases h1 : a < c <;> by_cases h2 : fit (a + b) <;> simp only [h0, h1, h2, decide_true, decide_false] <;>
      first | rfl | (exfalso; unfold wr64 at hc; unfold fit at ha hb h2; omega)
  have K := Lib.hid key
  clear ha hb hc hB key
  go_enter Try.func32, Try.ntmps32
  go_wp2
  go_ret2
  exact ⟨by rw [← K.out]; rfl, 0, rfl⟩
theorem mulA_key (a b c : Int) (ha : fit a) (hb : fit b) (h0 : b ≠ 0) (h1 : b ≠ -1) (hc : c = wr64 (a * b)) : (c.tdiv b == a) = decide (fit (a * b)) := by
  by_cases h : fit (a * b)
  · rw [hc, wr64_fit h, decide_eq_true h, Int.mul_tdiv_cancel _ h0]; simp
  · rw [decide_eq_false h, beq_eq_false_iff_ne]
    intro e
    have h3 := Int.tmod_add_mul_tdiv c b
    have h4 : (c.tmod b).natAbs < b.natAbs := by rw [Int.natAbs_tmod]; exact Nat.mod_lt _ (by omega)
    rw [e, Int.mul_comm b a] at h3
    obtain ⟨P, hP⟩ : ∃ P, P = a * b := ⟨_, rfl⟩
    rw [← hP] at hc h h3
    unfold wr64 at hc
    unfold fit at h hb
    omega
theorem mulA_any (a b : Int) (ha : fit a) (hb : fit b) (w : World) : Calls Try.prog 33 #[.int .i64 a, .int .i64 b] w fun e w' => e = .returned (twoB (wr64 (a * b)) (decide (fit (a * b)))) ∧ ∃ n, w' = w.drewN n := by
  obtain ⟨c, hc⟩ : ∃ c, c = wr64 (a * b) := ⟨_, rfl⟩
  have hw : IntKind.i64.wrap (a * b) = c := by rw [wrap_is, hc]
  have hcf : fit c := by rw [hc]; unfold wr64 fit; omega
  rw [← hc]
  obtain ⟨B, hB⟩ : ∃ B, B = decide (fit (a * b)) := ⟨_, rfl⟩
  rw [← hB]
  by_cases h1 : b = -1
  · subst h1
    have key : (a != -9223372036854775808) = B := by
      rw [hB]
      by_cases h : a = -9223372036854775808
      · subst h; decide
      · rw [decide_eq_true (by unfold fit at *; omega)]; simpa using h
    have K := Lib.hid key
    have hw2 : wrap64 (-a) = c := by rw [wrap64_is, hc, show a * -1 = -a by omega]
    clear ha hb hc hB key hcf
    go_enter Try.func33, Try.ntmps33
    go_wp2
    go_ret2
    exact ⟨by rw [← K.out, ← hw2]; rfl, 0, rfl⟩
  by_cases h0 : b = 0
  · subst h0
    have key : B = true := by rw [hB]; simp [fit]
    subst key
    obtain rfl : c = 0 := by rw [hc, Int.mul_zero]; rfl
    clear ha hb hc hB hcf
    go_enter Try.func33, Try.ntmps33
    go_wp2
    go_quiet (fail)
    go_wp2
    go_ret2
    exact ⟨rfl, _, rfl⟩
  · have key := mulA_key a b c ha hb h0 h1 hc
    rw [← hB] at key
    have hq : IntKind.i64.wrap (c.tdiv b) = c.tdiv b := by rw [wrap_is, wr64_fit (tdiv_fit c b hcf (fun x => h1 x.2))]
    have g0 : (b == 0) = false := by simpa using h0
    have g1 : (b == -1) = false := by simpa using h1
    clear ha hb hc hB hcf h1
    go_enter Try.func33, Try.ntmps33
    go_wp2
    go_quiet (fail)
    go_wp2
    go_ret2
    exact ⟨rfl, _, rfl⟩
end Go.Proofs.Ytknjdkjakngkpaa
