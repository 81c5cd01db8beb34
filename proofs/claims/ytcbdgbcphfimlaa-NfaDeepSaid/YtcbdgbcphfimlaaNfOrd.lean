/-
  The order of symbols, whether a state is there, and the closures of moves.
-/
import Derived.Test.YtcbdgbcphfimlaaNfBlw
import Derived.Deep.RegionHeld3
namespace Go.Proofs.Ytcbdgbcphfimlaa
open Go.RowKit
set_option linter.unusedVariables false
set_option linter.unusedSimpArgs false
set_option maxRecDepth 100000

def cmp3 (a b : Int) : Int := if a < b then -1 else if b < a then 1 else 0
set_option maxHeartbeats 8000000 in
theorem order_any (a b : Int) (W : World) : Calls Try.prog 48 #[.agg #[.int .i64 a, .bool false], .agg #[.int .i64 b, .bool false]] W fun e w' => e = .returned (.int .i64 (cmp3 a b)) ∧ Below W.heap.size W w' := by
  have HB := Lib.hid (show Below W.heap.size W ((W.alloc (.cells #[.int .i64 a, .bool false] 44)).alloc (.cells #[.int .i64 b, .bool false] 44)) from ((Below.refl _ _).alloc (Nat.le_refl _) _).alloc (by simp) _)
  unfold cmp3
  by_cases h : a < b
  · rw [if_pos h]
    go_enter Try.func48, Try.ntmps48
    go_wp2
    go_ret
    exact ⟨rfl, HB.out⟩
  · rw [if_neg h]
    have h1 : b ≤ a := by omega
    by_cases h2 : b < a
    · rw [if_pos h2]
      go_enter Try.func48, Try.ntmps48
      go_wp2
      go_ret
      exact ⟨rfl, HB.out⟩
    · rw [if_neg h2]
      have h3 : a ≤ b := by omega
      go_enter Try.func48, Try.ntmps48
      go_wp2
      go_ret
      exact ⟨rfl, HB.out⟩
set_option maxHeartbeats 8000000 in
theorem has_any {W : World} {d : Nat} {A : Option Addr} {n c i : Nat} (h : W.cell? ⟨d, 0, none⟩ = some (.slice A n c)) (hi : i < n) : Calls Try.prog 45 #[.pointer (some ⟨d, 0, none⟩), .int .i64 (i : Int)] W fun e w' => e = .returned (.bool true) ∧ w' = W := by
  have h0 : (0 : Int) ≤ (i : Int) := by omega
  have h1 : (i : Int) < (n : Int) := by omega
  clear hi
  cases A
  all_goals
    go_enter Try.func45, Try.ntmps45
    go_wp2
    go_ret
    exact ⟨rfl, rfl⟩
set_option maxHeartbeats 8000000 in
theorem movesA_any {W : World} {p q g c i : Nat} {N s : Int} (hp : W.cell? ⟨p, 0, none⟩ = some (.slice (some ⟨g, 0, none⟩) 1 c)) (hq : W.cell? ⟨q, 0, none⟩ = some (.int .i64 s)) (hq1 : W.cell? ⟨q, 1, none⟩ = some (.bool false))
    (hg : W.cell? ⟨g, 0, none⟩ = some (.int .i64 N)) (hg1 : W.cell? ⟨g, 1, none⟩ = some (.bool false)) (hi : i < 1) :
    Calls Try.prog 64 #[.int .i64 (i : Int), .pointer (some ⟨p, 0, none⟩), .pointer (some ⟨q, 0, none⟩)] W fun e w' => e = .returned (.bool (decide (s ≤ N))) ∧ Below W.heap.size W w' := by
  obtain rfl : i = 0 := by omega
  have cO := fun W => order_any N s W
  have hr : decide (cmp3 N s ≥ 0) = decide (s ≤ N) := by
    unfold cmp3
    by_cases h : N < s
    · rw [if_pos h, decide_eq_false (by omega), decide_eq_false (by omega)]
    · rw [if_neg h]
      by_cases h2 : s < N
      · rw [if_pos h2, decide_eq_true (by omega), decide_eq_true (by omega)]
      · rw [if_neg h2, decide_eq_true (by omega), decide_eq_true (by omega)]
  rw [← hr]
  clear hr hi
  generalize cmp3 N s = k at *
  go_enter Try.func64, Try.ntmps64
  go_wp2
  go_region_held3 (fun w => w.cell? ⟨p, 0, none⟩ = some (.slice (some ⟨g, 0, none⟩) 1 c) ∧ w.cell? ⟨q, 0, none⟩ = some (.int .i64 s) ∧ w.cell? ⟨q, 1, none⟩ = some (.bool false) ∧ w.cell? ⟨g, 0, none⟩ = some (.int .i64 N) ∧ w.cell? ⟨g, 1, none⟩ = some (.bool false))
    (first | exact ⟨hp, hq, hq1, hg, hg1⟩ | exact ⟨cell_below hp hB, cell_below hq hB, cell_below hq1 hB, cell_below hg hB, cell_below hg1 hB⟩)
    (first
      | (go_at_call 48; (with_reducible refine (cO _).mono ?_); rintro e w1 ⟨rfl, hB0⟩; have hB := (Below.drew (Below.refl W.heap.size W)).trans hB0)
      | fail)
  all_goals
    go_wp2
    go_ret
    exact ⟨rfl, hB⟩
theorem neqSym (a b : Int) (w : World) : (binOp .neq 44 (.agg #[.int .i64 a, .bool false]) (.agg #[.int .i64 b, .bool false])).run Try.prog w = .ok (.bool (decide (a ≠ b))) w := by
  by_cases h : a = b
  · subst h
    rw [decide_eq_false (by simp)]
    go_simp
  · rw [decide_eq_true h]
    have m : (a == b) = false := by rw [beq_eq_false_iff_ne]; exact h
    go_simp
set_option maxHeartbeats 8000000 in
theorem movesB_any {W : World} {p q g c i : Nat} {N s : Int} (hp : W.cell? ⟨p, 0, none⟩ = some (.slice (some ⟨g, 0, none⟩) 1 c)) (hq : W.cell? ⟨q, 0, none⟩ = some (.int .i64 s)) (hq1 : W.cell? ⟨q, 1, none⟩ = some (.bool false))
    (hg : W.cell? ⟨g, 0, none⟩ = some (.int .i64 N)) (hg1 : W.cell? ⟨g, 1, none⟩ = some (.bool false)) (hi : i < 1) :
    Calls Try.prog 65 #[.int .i64 (i : Int), .pointer (some ⟨p, 0, none⟩), .pointer (some ⟨q, 0, none⟩)] W fun e w' => e = .returned (.bool (decide (N ≠ s))) ∧ Below W.heap.size W w' := by
  obtain rfl : i = 0 := by omega
  clear hi
  have hE := fun w => neqSym N s w
  generalize decide (N ≠ s) = r at *
  go_enter Try.func65, Try.ntmps65
  go_wp2
  go_quiet (fail)
  go_wp2
  go_ret
  exact ⟨rfl, below_drewP (Below.refl _ _) _⟩
end Go.Proofs.Ytcbdgbcphfimlaa
