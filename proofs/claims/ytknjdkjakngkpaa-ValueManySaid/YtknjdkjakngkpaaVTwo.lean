/-
  Add and Mul of two integers, each call in a world that has grown.
-/
import Derived.Test.YtknjdkjakngkpaaVMany
namespace Go.Proofs.Ytknjdkjakngkpaa
open Go.RowKit
set_option linter.unusedVariables false

abbrev pairObj (a b : Int) : Obj := .cells #[.int .i64 a, .int .i64 b] 2 (0, 0)
theorem pair_at (a b : Int) (W : World) : LAt (W.alloc (pairObj a b)) (some ⟨W.heap.size, 0, none⟩) [a, b] := by
  intro j x hx
  refine ⟨_, 0, rfl, by simp, ?_⟩
  match j, hx with
  | 0, hx => simp at hx; subst hx; simp [go_sem]
  | 1, hx => simp at hx; subst hx; simp [go_sem]
  | j + 2, hx => simp at hx
theorem allfit_two {a b : Int} (ha : fit a) (hb : fit b) : AllFit [a, b] := by
  intro x hx
  simp at hx
  rcases hx with rfl | rfl <;> assumption
theorem below_step {w W w' : World} (h : Below w.heap.size w W) (o : Obj) (k : Below (W.alloc o).heap.size (W.alloc o) w') : Below w.heap.size w w' :=
  (h.alloc h.size o).trans (k.mono (by simp; have := h.size; omega))
theorem add_yes {w : World} (a b s : Int) (ha : fit a) (hb : fit b) (h : fit (a + b)) (hs : a + b = s) (W : World) (hW : Below w.heap.size w W) :
    Calls Try.prog 17 #[.slice (some ⟨W.heap.size, 0, none⟩) 2 2] (W.alloc (pairObj a b)) fun e w' => e = .returned (two s 0) ∧ Below w.heap.size w w' := by
  refine (add_many [a, b] (allfit_two ha hb) (by simp) _ 2 _ (pair_at a b W)).mono fun e w' ⟨he, hb'⟩ => ⟨?_, below_step hW _ hb'⟩
  rw [he]
  have : foZ (· + ·) 0 [a, b] = some s := by
    simp only [foZ, Int.zero_add]
    rw [if_pos ha, if_pos h, hs]
  rw [this]; rfl
theorem add_no {w : World} (a b : Int) (ha : fit a) (hb : fit b) (h : ¬ fit (a + b)) (W : World) (hW : Below w.heap.size w W) :
    Calls Try.prog 17 #[.slice (some ⟨W.heap.size, 0, none⟩) 2 2] (W.alloc (pairObj a b)) fun e w' => e = .returned (two 0 9) ∧ Below w.heap.size w w' := by
  refine (add_many [a, b] (allfit_two ha hb) (by simp) _ 2 _ (pair_at a b W)).mono fun e w' ⟨he, hb'⟩ => ⟨?_, below_step hW _ hb'⟩
  rw [he]
  have : foZ (· + ·) 0 [a, b] = none := by
    simp only [foZ, Int.zero_add]
    rw [if_pos ha, if_neg h]
  rw [this]; rfl
theorem mul_yes {w : World} (a b s : Int) (ha : fit a) (hb : fit b) (h : fit (a * b)) (hs : a * b = s) (W : World) (hW : Below w.heap.size w W) :
    Calls Try.prog 19 #[.slice (some ⟨W.heap.size, 0, none⟩) 2 2] (W.alloc (pairObj a b)) fun e w' => e = .returned (two s 0) ∧ Below w.heap.size w w' := by
  refine (mul_many [a, b] (allfit_two ha hb) (by simp) _ 2 _ (pair_at a b W)).mono fun e w' ⟨he, hb'⟩ => ⟨?_, below_step hW _ hb'⟩
  rw [he]
  have : foZ (· * ·) 1 [a, b] = some s := by
    simp only [foZ, Int.one_mul]
    rw [if_pos ha, if_pos h, hs]
  rw [this]; rfl
theorem mul_no {w : World} (a b : Int) (ha : fit a) (hb : fit b) (h : ¬ fit (a * b)) (W : World) (hW : Below w.heap.size w W) :
    Calls Try.prog 19 #[.slice (some ⟨W.heap.size, 0, none⟩) 2 2] (W.alloc (pairObj a b)) fun e w' => e = .returned (two 0 9) ∧ Below w.heap.size w w' := by
  refine (mul_many [a, b] (allfit_two ha hb) (by simp) _ 2 _ (pair_at a b W)).mono fun e w' ⟨he, hb'⟩ => ⟨?_, below_step hW _ hb'⟩
  rw [he]
  have : foZ (· * ·) 1 [a, b] = none := by
    simp only [foZ, Int.one_mul]
    rw [if_pos ha, if_neg h]
  rw [this]; rfl
theorem vawake_at {w : World} (W : World) (hW : Below w.heap.size w W) : Calls Try.prog 11 #[] W fun e w' => e = .returned (.bool true) ∧ Below w.heap.size w w' :=
  (awake_ok W).mono fun e w' ⟨a, b⟩ => ⟨a, hW.trans (b.mono hW.size)⟩
end Go.Proofs.Ytknjdkjakngkpaa
