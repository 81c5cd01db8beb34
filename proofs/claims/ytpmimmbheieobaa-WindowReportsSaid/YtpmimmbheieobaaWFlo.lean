/-
  FLOOR by a divisor above 0.
-/
import Derived.Test.YtpmimmbheieobaaProg
import Derived.Test.YtpmimmbheieobaaWSh
import Derived.WalkKit
import Derived.WalkLawsBesides
import Derived.Below
import Derived.IntWalk
import Derived.Lib.Hide
import Derived.Laws.Rows
import Derived.Laws.AppendOwn
import Derived.Outline
import Derived.Deep.QuietTactic
import Derived.BigQuiet
namespace Go.Proofs.Ytpmimmbheieobaa
open Go.RowKit
set_option linter.unusedVariables false
set_option linter.unusedSimpArgs false
set_option maxRecDepth 100000

theorem ret_int {k : IntKind} {a b : Int} (h : a = b) : Ending.returned (.int k a) = .returned (.int k b) := by rw [h]
theorem ret_bool {a b : Bool} (h : a = b) : Ending.returned (.bool a) = .returned (.bool b) := by rw [h]
def fit (z : Int) : Prop := -9223372036854775808 ≤ z ∧ z ≤ 9223372036854775807
def wr64 (z : Int) : Int := (z + 9223372036854775808) % 18446744073709551616 - 9223372036854775808
theorem wrap_is (z : Int) : IntKind.i64.wrap z = wr64 z := by rw [IntKind.wrap_i64]; unfold wr64; omega
theorem wr64_fit {z : Int} (h : fit z) : wr64 z = z := by unfold fit at h; unfold wr64; omega
theorem wrap_fit {z : Int} (h0 : -9223372036854775808 ≤ z) (h1 : z ≤ 9223372036854775807) : IntKind.i64.wrap z = z := by rw [wrap_is, wr64_fit ⟨h0, h1⟩]
theorem wrap64_is (z : Int) : wrap64 z = wr64 z := by unfold wrap64 wr64; omega
theorem wrap64_fit {z : Int} (h0 : -9223372036854775808 ≤ z) (h1 : z ≤ 9223372036854775807) : wrap64 z = z := by rw [wrap64_is, wr64_fit ⟨h0, h1⟩]
/-- What a call answers: an integer, or that there is none. -/
abbrev two (z : Int) (code : Int) : Value := .tuple #[.int .i64 z, .int .i64 code]
theorem two_eq {a b c : Int} (h : a = b) : Ending.returned (two a c) = .returned (two b c) := by rw [h]
theorem tdiv_pos (a b : Int) (ha : fit a) (h : 1 ≤ b) : fit (a.tdiv b) := by
  have h1 : (a.tdiv b).natAbs ≤ a.natAbs := by rw [Int.natAbs_tdiv]; exact Nat.div_le_self _ _
  unfold fit at *
  have : 0 ≤ a → 0 ≤ a.tdiv b := fun e => Int.tdiv_nonneg e (by omega)
  have h3 : a ≤ 0 → a.tdiv b ≤ 0 := fun e => by
    have := Int.tdiv_nonneg (a := -a) (b := b) (by omega) (by omega)
    rw [Int.neg_tdiv] at this; omega
  omega
theorem div_pos (a b : Int) (ha : fit a) (h : 1 ≤ b) (w : World) : Calls Try.prog 30 #[.int .i64 a, .int .i64 b] w fun e w' => e = .returned (two (a.tdiv b) 0) ∧ w = w' := by
  have hw : IntKind.i64.wrap (a.tdiv b) = a.tdiv b := by rw [wrap_is, wr64_fit (tdiv_pos a b ha h)]
  have g0 : (b == 0) = false := by simp; omega
  have g2 : (b == -1) = false := by simp; omega
  have n0 : ¬ b = 0 := by omega
  have n1 : ¬ b = -1 := by omega
  by_cases hm : a = -9223372036854775808
  · have g1 : (a == -9223372036854775808) = true := by simpa using hm
    clear ha h hm
    go_enter Try.func30, Try.ntmps30
    go_wp2
    go_ret2
    exact ⟨rfl, rfl⟩
  · have g1 : (a == -9223372036854775808) = false := by simpa using hm
    clear ha h hm
    go_enter Try.func30, Try.ntmps30
    go_wp2
    go_ret2
    exact ⟨rfl, rfl⟩
theorem ediv_way (a b : Int) (h : 1 ≤ b) : a / b = if a.tmod b ≠ 0 ∧ a < 0 then a.tdiv b - 1 else a.tdiv b := by
  have h1 := Int.tmod_add_mul_tdiv a b
  have h2 : a.tmod b < b := Int.tmod_lt_of_pos a (by omega)
  have h3 : -b < a.tmod b := by
    have := Int.tmod_lt_of_pos (-a) (b := b) (by omega)
    rw [Int.neg_tmod] at this; omega
  have h4 : 0 ≤ a → 0 ≤ a.tmod b := fun e => Int.tmod_nonneg b e
  have h5 : a < 0 → a.tmod b ≤ 0 := fun e => by
    have := Int.tmod_nonneg b (a := -a) (by omega)
    rw [Int.neg_tmod] at this; omega
  have key : ∀ q r : Int, r + b * q = a → 0 ≤ r → r < b → a / b = q := fun q r e r0 r1 => by
    subst e
    rw [Int.add_mul_ediv_left _ _ (by omega), Int.ediv_eq_zero_of_lt r0 r1]; omega
  split
  · rename_i hc
    have := h5 hc.2
    refine key _ (a.tmod b + b) ?_ (by omega) (by omega)
    rw [Int.mul_sub]; omega
  · rename_i hc
    refine key _ (a.tmod b) h1 ?_ h2
    by_cases e : 0 ≤ a
    · exact h4 e
    · have : a.tmod b = 0 := Classical.byContradiction fun x => hc ⟨x, by omega⟩
      omega
theorem floor_pos (a b : Int) (ha : fit a) (h : 1 ≤ b) (w : World) : Calls Try.prog 29 #[.int .i64 a, .int .i64 b] w fun e w' => e = .returned (two (a / b) 0) ∧ w = w' := by
  have hD : ∀ W, Calls Try.prog 30 #[.int .i64 a, .int .i64 b] W fun e w' => e = .returned (two (a.tdiv b) 0) ∧ W = w' := div_pos a b ha h
  have hq := tdiv_pos a b ha h
  have hE := ediv_way a b h
  have hmf : fit (a.tmod b) := by
    have h2 : a.tmod b < b := Int.tmod_lt_of_pos a (by omega)
    have h1 : (a.tmod b).natAbs ≤ a.natAbs := by rw [Int.natAbs_tmod]; exact Nat.mod_le _ _
    have h4 : 0 ≤ a → 0 ≤ a.tmod b := fun e => Int.tmod_nonneg b e
    have h5 : a < 0 → a.tmod b ≤ 0 := fun e => by
      have := Int.tmod_nonneg b (a := -a) (by omega)
      rw [Int.neg_tmod] at this; omega
    unfold fit at *; omega
  have hmw : IntKind.i64.wrap (a.tmod b) = a.tmod b := by rw [wrap_is, wr64_fit hmf]
  obtain ⟨q, hqq⟩ : ∃ q, q = a.tdiv b := ⟨_, rfl⟩
  rw [← hqq] at hq hE hD
  have g0 : (b == 0) = false := by simp; omega
  have hb0 : ¬ b < 0 := by omega
  have n0 : ¬ b = 0 := by omega
  have HB := Lib.hid h
  have HA := Lib.hid ha
  have HQ := Lib.hid hq
  have HE := Lib.hid hE
  have HT := Lib.hid hqq
  clear ha h hq hqq hE hmf
  go_enter Try.func29, Try.ntmps29
  go_wp2_with (go_at_call 30; (with_reducible refine (hD _).mono ?_); rintro e w' ⟨rfl, rfl⟩)
  · go_ret2
    have hm : a.tmod b = 0 := by assumption
    exact ⟨two_eq (by rw [HE.out, if_neg (fun x => x.1 hm)]), rfl⟩
  · go_ret2
    have hs : (a.tmod b != 0) = true ∧ (!decide (a < 0) == decide (b < 0)) = true := by assumption
    have hc : a.tmod b ≠ 0 ∧ a < 0 := ⟨by simpa using hs.1, by have h8 := hs.2; simp at h8; have := HB.out; omega⟩
    have hf : fit (q - 1) := by
      have e := HE.out
      rw [if_pos hc] at e
      have h1 := HQ.out
      unfold fit at h1 ⊢
      have h2 : a / b * b ≤ a := Int.ediv_mul_le a n0
      have h3 := Int.emod_lt_of_pos a (show 0 < b by have := HB.out; omega)
      have h4 := Int.mul_ediv_add_emod a b
      have h5 := HA.out
      unfold fit at h5
      rcases Int.lt_or_le q (-9223372036854775807) with hl | hl
      · exfalso
        have hab : a.tmod b + b * q = a := by rw [HT.out]; exact Int.tmod_add_mul_tdiv a b
        have hb1 := HB.out
        have hq : q = -9223372036854775808 := by omega
        rw [hq] at hab
        have h6 : a.tmod b ≤ 0 := by
          have := Int.tmod_nonneg b (a := -a) (by omega)
          rw [Int.neg_tmod] at this; omega
        have h7 := hc.1
        omega
      · omega
    exact ⟨two_eq (by rw [HE.out, if_pos hc, wrap64_is, wr64_fit hf]), rfl⟩
  · go_ret2
    have hm : ¬ a.tmod b = 0 := by assumption
    have hs : (a.tmod b != 0) = false ∨ (!decide (a < 0) == decide (b < 0)) = false := by assumption
    refine ⟨two_eq ?_, rfl⟩
    rw [HE.out, if_neg ?_]
    rintro ⟨_, hc2⟩
    rcases hs with hs | hs
    · simp [hm] at hs
    · simp at hs
      have := HB.out
      omega
end Go.Proofs.Ytpmimmbheieobaa
