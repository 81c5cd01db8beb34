/-
  StoreSums, plain: what is counted number by number is what is counted at once.
-/
import Derived.Test.YtoiigplflmejmaaSKplain
namespace Go.Proofs.Ytoiigplflmejmaa
open Go.RowKit
set_option linter.unusedVariables false
set_option linter.unusedSimpArgs false
set_option maxRecDepth 100000

def cK : Nat → Kt → Int
  | 0, k => k.a
  | 1, k => k.b
  | _, k => k.c
def setK : Nat → Kt → Int → Kt
  | 0, k, n => ⟨n, k.b, k.c⟩
  | 1, k, n => ⟨k.a, n, k.c⟩
  | _, k, n => ⟨k.a, k.b, n⟩
theorem fit1_neg (x : Int) : fit1 (-1) x = true := fit1_lt (by decide)
theorem fit1_nn {n x : Int} (h : 0 ≤ n) : fit1 n x = decide (x = n) := by
  unfold fit1
  rw [decide_eq_false (by omega), Bool.false_or]
  by_cases e : n = x
  · rw [decide_eq_true e, decide_eq_true e.symm]
  · rw [decide_eq_false e, decide_eq_false (fun h => e h.symm)]
theorem fit_set {i : Nat} {p k : Kt} {n : Int} (h : 0 ≤ n) : fitK (setK i p n) k = (fitK (setK i p (-1)) k && decide (cK i k = n)) := by
  match i with
  | 0 =>
    show (fit1 n k.a && fit1 p.b k.b && fit1 p.c k.c) = ((fit1 (-1) k.a && fit1 p.b k.b && fit1 p.c k.c) && decide (k.a = n))
    rw [fit1_neg, fit1_nn h, Bool.true_and, Bool.and_assoc, Bool.and_comm]
  | 1 =>
    show (fit1 p.a k.a && fit1 n k.b && fit1 p.c k.c) = ((fit1 p.a k.a && fit1 (-1) k.b && fit1 p.c k.c) && decide (k.b = n))
    rw [fit1_neg, fit1_nn h, Bool.and_true, Bool.and_assoc, Bool.and_assoc, Bool.and_comm (decide (k.b = n))]
  | n' + 2 =>
    show (fit1 p.a k.a && fit1 p.b k.b && fit1 n k.c) = ((fit1 p.a k.a && fit1 p.b k.b && fit1 (-1) k.c) && decide (k.c = n))
    rw [fit1_neg, fit1_nn h, Bool.and_true]
/-- What is counted of the numbers seen. -/
def sumS (L : List Kt) (i : Nat) (p : Kt) (seen : List Int) : Nat := (L.filter (fun k => fitK (setK i p (-1)) k && seen.contains (cK i k))).length
theorem sumS_nil (L : List Kt) (i : Nat) (p : Kt) : sumS L i p [] = 0 := by
  unfold sumS
  rw [List.filter_eq_nil_iff.2 (fun k _ => by simp)]; rfl
theorem sumS_step {i : Nat} {p : Kt} {seen : List Int} {n : Int} (hn : 0 ≤ n) (hs : n ∉ seen) : ∀ L : List Kt, sumS L i p (seen ++ [n]) = sumS L i p seen + (scanD (setK i p n) L).length := fun L => by
  rw [scan_len]
  unfold sumS
  induction L with
  | nil => rfl
  | cons k L ih =>
    rw [List.filter_cons, List.filter_cons, List.filter_cons, fit_set hn]
    cases hf : fitK (setK i p (-1)) k with
    | false =>
      simp only [Bool.false_and, Bool.false_eq_true, if_false]
      exact ih
    | true =>
      simp only [Bool.true_and]
      by_cases e : cK i k = n
      · have h1 : (seen ++ [n]).contains (cK i k) = true := by rw [List.contains_iff_mem, e]; simp
        have h2 : seen.contains (cK i k) = false := by
          cases hc : seen.contains (cK i k) with
          | false => rfl
          | true => rw [List.contains_iff_mem, e] at hc; exact absurd hc hs
        rw [h1, h2, decide_eq_true e]
        simp only [if_true, Bool.false_eq_true, if_false, List.length_cons]
        rw [ih]; omega
      · have h1 : (seen ++ [n]).contains (cK i k) = seen.contains (cK i k) := by
          have h : (seen ++ [n]).contains (cK i k) = true ↔ cK i k ∈ seen ++ [n] := List.contains_iff_mem
          cases hc : seen.contains (cK i k) with
          | true =>
            rw [List.contains_iff_mem] at hc
            exact h.2 (List.mem_append_left _ hc)
          | false =>
            cases hd : (seen ++ [n]).contains (cK i k) with
            | false => rfl
            | true =>
              have := h.1 hd
              rcases List.mem_append.1 this with hm | hm
              · rw [← List.contains_iff_mem, hc] at hm; cases hm
              · simp at hm; exact absurd hm e
        rw [h1, decide_eq_false e]
        simp only [Bool.false_eq_true, if_false]
        cases seen.contains (cK i k) with
        | false =>
          simp only [Bool.false_eq_true, if_false]
          exact ih
        | true =>
          simp only [if_true, List.length_cons]
          rw [ih]; omega
theorem sumS_all {L : List Kt} {i : Nat} {p : Kt} {seen : List Int} (h : ∀ k ∈ L, cK i k ∈ seen) : sumS L i p seen = (scanD (setK i p (-1)) L).length := by
  rw [scan_len]
  unfold sumS
  congr 1
  refine List.filter_congr fun k hk => ?_
  have : seen.contains (cK i k) = true := List.contains_iff_mem.2 (h k hk)
  rw [this, Bool.and_true]
end Go.Proofs.Ytoiigplflmejmaa
