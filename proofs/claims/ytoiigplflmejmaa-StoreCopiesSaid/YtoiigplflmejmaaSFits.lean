/-
  DOES A KEY FIT? The program's.
-/
import Derived.Test.YtoiigplflmejmaaSBase
namespace Go.Proofs.Ytoiigplflmejmaa
open Go.RowKit
set_option linter.unusedVariables false
set_option linter.unusedSimpArgs false
set_option maxRecDepth 100000

def fit1 (p k : Int) : Bool := decide (p < 0) || decide (p = k)
def fit3 (a b c x y z : Int) : Bool := fit1 a x && fit1 b y && fit1 c z
theorem fit1_lt {p k : Int} (h : p < 0) : fit1 p k = true := by unfold fit1; simp [h]
theorem fit1_eq (k : Int) : fit1 k k = true := by unfold fit1; simp
theorem fit1_no {p k : Int} (h : ¬ p < 0) (e : ¬ p = k) : fit1 p k = false := by unfold fit1; simp [h, e]
def FtRel (a b c x y z : Int) (W2 : World) (g : Nat) (s : Value) (wr : World) : Prop :=
  wr = W2 ∧ ((g = 3 ∧ s = .int .i64 0) ∨ (g = 2 ∧ s = .int .i64 1 ∧ fit1 a x = true) ∨ (g = 1 ∧ s = .int .i64 2 ∧ fit1 a x = true ∧ fit1 b y = true) ∨ (g = 0 ∧ s = .int .i64 3 ∧ fit1 a x = true ∧ fit1 b y = true ∧ fit1 c z = true))
set_option maxHeartbeats 16000000 in
theorem sfits_any (a b c x y z : Int) (W : World) : Calls Try.prog 34 #[.agg #[.int .i64 a, .int .i64 b, .int .i64 c], .agg #[.int .i64 x, .int .i64 y, .int .i64 z]] W fun e w' => e = .returned (.bool (fit3 a b c x y z)) ∧ Below W.heap.size W w' := by
  obtain ⟨r, hr⟩ : ∃ r, r = fit3 a b c x y z := ⟨_, rfl⟩
  rw [← hr]
  unfold fit3 at hr
  have HR := Lib.hid hr
  obtain ⟨W2, hW2⟩ : ∃ W2, W2 = (W.alloc (.cells #[.int .i64 a, .int .i64 b, .int .i64 c] 48)).alloc (.cells #[.int .i64 x, .int .i64 y, .int .i64 z] 37) := ⟨_, rfl⟩
  have hF2 : Fb W2 (W.heap.size + 1) 37 #[.int .i64 x, .int .i64 y, .int .i64 z] := by
    have := Fb.new (W.alloc (.cells #[.int .i64 a, .int .i64 b, .int .i64 c] 48)) 37 #[.int .i64 x, .int .i64 y, .int .i64 z]
    rw [World.size_alloc] at this
    rw [hW2]; exact this
  have HB := Lib.hid (show Below W.heap.size W W2 from by rw [hW2]; exact ((Below.refl _ _).alloc (Nat.le_refl _) _).alloc (by simp) _)
  have q0 := hF2.cell 0
  have q1 := hF2.cell 1
  have q2 := hF2.cell 2
  clear hF2 hr
  have i0 : ∀ w, (Instr.index 48 (.agg #[.int .i64 a, .int .i64 b, .int .i64 c]) (.int .i64 0)).run Try.prog w = .ok (.int .i64 a) w := fun _ => by kernel_rfl
  have i1 : ∀ w, (Instr.index 48 (.agg #[.int .i64 a, .int .i64 b, .int .i64 c]) (.int .i64 1)).run Try.prog w = .ok (.int .i64 b) w := fun _ => by kernel_rfl
  have i2 : ∀ w, (Instr.index 48 (.agg #[.int .i64 a, .int .i64 b, .int .i64 c]) (.int .i64 2)).run Try.prog w = .ok (.int .i64 c) w := fun _ => by kernel_rfl
  go_enter Try.func34, Try.ntmps34
  go_wp2
  rw [← hW2]
  clear hW2
  go_loopg [8] 3 (fun g s wr => FtRel a b c x y z W2 g s wr)
  case atStart => exact ⟨rfl, .inl ⟨rfl, rfl⟩⟩
  case round =>
    obtain ⟨rfl, hw⟩ := hrel
    rcases hw with ⟨hg, rfl⟩ | ⟨hg, rfl, e0⟩ | ⟨hg, rfl, e0, e1⟩ | ⟨hg, rfl, e0, e1, e2⟩
    · subst hg
      by_cases h : a < 0
      · have F := Lib.hid (fit1_lt (k := x) h)
        have d1 : decide (0 ≤ a) = false := decide_eq_false (by omega)
        have n1 : ¬ 0 ≤ a := by omega
        go_wp2
        go_roundg 2
        case measure => exact Nat.lt_succ_self _
        case rel => exact ⟨rfl, .inr (.inl ⟨rfl, rfl, F.out⟩)⟩
      by_cases e : a = x
      · subst e
        have F := Lib.hid (fit1_eq a)
        have d1 : decide (0 ≤ a) = true := decide_eq_true (by omega)
        have n1 : 0 ≤ a := by omega
        go_wp2
        go_roundg 2
        case measure => exact Nat.lt_succ_self _
        case rel => exact ⟨rfl, .inr (.inl ⟨rfl, rfl, F.out⟩)⟩
      have hrr := HR.out
      rw [fit1_no (p := a) (k := x) h e] at hrr
      have hv : r = false := by rw [hrr]; simp
      subst hv
      have d1 : decide (0 ≤ a) = true := decide_eq_true (by omega)
      have n1 : 0 ≤ a := by omega
      have n2 : (a == x) = false := by rw [beq_eq_false_iff_ne]; exact e
      clear hrr
      go_wp2
      go_ret
      exact ⟨rfl, HB.out⟩
    · subst hg
      have E0 := Lib.hid e0
      clear e0
      by_cases h : b < 0
      · have F := Lib.hid (fit1_lt (k := y) h)
        have d1 : decide (0 ≤ b) = false := decide_eq_false (by omega)
        have n1 : ¬ 0 ≤ b := by omega
        go_wp2
        go_roundg 1
        case measure => exact Nat.lt_succ_self _
        case rel => exact ⟨rfl, .inr (.inr (.inl ⟨rfl, rfl, E0.out, F.out⟩))⟩
      by_cases e : b = y
      · subst e
        have F := Lib.hid (fit1_eq b)
        have d1 : decide (0 ≤ b) = true := decide_eq_true (by omega)
        have n1 : 0 ≤ b := by omega
        go_wp2
        go_roundg 1
        case measure => exact Nat.lt_succ_self _
        case rel => exact ⟨rfl, .inr (.inr (.inl ⟨rfl, rfl, E0.out, F.out⟩))⟩
      have hrr := HR.out
      rw [fit1_no (p := b) (k := y) h e, E0.out] at hrr
      have hv : r = false := by rw [hrr]; simp
      subst hv
      have d1 : decide (0 ≤ b) = true := decide_eq_true (by omega)
      have n1 : 0 ≤ b := by omega
      have n2 : (b == y) = false := by rw [beq_eq_false_iff_ne]; exact e
      clear hrr
      go_wp2
      go_ret
      exact ⟨rfl, HB.out⟩
    · subst hg
      have E0 := Lib.hid e0
      have E1 := Lib.hid e1
      clear e0 e1
      by_cases h : c < 0
      · have F := Lib.hid (fit1_lt (k := z) h)
        have d1 : decide (0 ≤ c) = false := decide_eq_false (by omega)
        have n1 : ¬ 0 ≤ c := by omega
        go_wp2
        go_roundg 0
        case measure => exact Nat.lt_succ_self _
        case rel => exact ⟨rfl, .inr (.inr (.inr ⟨rfl, rfl, E0.out, E1.out, F.out⟩))⟩
      by_cases e : c = z
      · subst e
        have F := Lib.hid (fit1_eq c)
        have d1 : decide (0 ≤ c) = true := decide_eq_true (by omega)
        have n1 : 0 ≤ c := by omega
        go_wp2
        go_roundg 0
        case measure => exact Nat.lt_succ_self _
        case rel => exact ⟨rfl, .inr (.inr (.inr ⟨rfl, rfl, E0.out, E1.out, F.out⟩))⟩
      have hrr := HR.out
      rw [fit1_no (p := c) (k := z) h e, E0.out, E1.out] at hrr
      have hv : r = false := by rw [hrr]; simp
      subst hv
      have d1 : decide (0 ≤ c) = true := decide_eq_true (by omega)
      have n1 : 0 ≤ c := by omega
      have n2 : (c == z) = false := by rw [beq_eq_false_iff_ne]; exact e
      clear hrr
      go_wp2
      go_ret
      exact ⟨rfl, HB.out⟩
    · subst hg
      have hrr := HR.out
      rw [e0, e1, e2] at hrr
      have hv : r = true := by rw [hrr]; rfl
      subst hv
      clear e0 e1 e2 hrr
      go_wp2
      go_ret
      exact ⟨rfl, HB.out⟩
end Go.Proofs.Ytoiigplflmejmaa
