/-
  THE CLASS OF A SIGN, its number as a digit, its letter: the program's and the document's: one contract each.
-/
import Derived.Test.YtjnajpfolppniaaDoorProg
import Derived.Test.YtjnajpfolppniaaDoorUtf
import Derived.WalkKit
import Derived.IntWalk
import Derived.Lib.Hide
namespace Go.Proofs.YtjnajpfolppniaaDoor
open Go.RowKit

theorem ret_int {k : IntKind} {a b : Int} (h : a = b) : Ending.returned (.int k a) = .returned (.int k b) := by rw [h]
theorem ret_bool {a b : Bool} (h : a = b) : Ending.returned (.bool a) = .returned (.bool b) := by rw [h]

def cls (r : Int) : Int := if r = 32 ∨ r = 9 ∨ r = 10 ∨ r = 13 then 0 else if (97 ≤ r ∧ r ≤ 122) ∨ (65 ≤ r ∧ r ≤ 90) then 1 else if 48 ≤ r ∧ r ≤ 57 then 2 else if 33 ≤ r ∧ r ≤ 126 then 3 else if r < 0 ∨ (55296 ≤ r ∧ r ≤ 57343) ∨ 1114111 < r then 6 else if r < 160 then 4 else 5
def hexv (n : Int) : Int := if 48 ≤ n ∧ n ≤ 57 then n - 48 else if 65 ≤ n ∧ n ≤ 70 then n - 55 else if 97 ≤ n ∧ n ≤ 102 then n - 87 else -1
def lett (n : Int) : Int := if n = 9 then 116 else if n = 10 then 110 else if n = 13 then 114 else if n = 8 then 98 else if n = 12 then 102 else if n = 34 then 34 else if n = 92 then 92 else 0


set_option linter.unusedSimpArgs false
theorem class_any (r : Int) (w : World) : Calls Tryd.prog 25 #[.int .i32 r] w fun e w' => e = .returned (.int .i64 (cls r)) ∧ w = w' := by
  go_enter Tryd.func25, Tryd.ntmps25
  go_wp2
  all_goals (go_ret; refine ⟨ret_int ?_, rfl⟩; (try simp only [Bool.or_eq_true, Bool.or_eq_false_iff, beq_iff_eq, beq_eq_false_iff_ne, decide_eq_true_eq, decide_eq_false_iff_not] at *); unfold cls; omega)
theorem refSign_any (r : Int) (w : World) : Calls Tryd.prog 24 #[.int .i64 r] w fun e w' => e = .returned (.bool (sgn r)) ∧ w = w' := by
  go_enter Tryd.func24, Tryd.ntmps24
  go_wp2
  all_goals (go_ret; refine ⟨ret_bool ?_, rfl⟩; unfold sgn; rw [Bool.eq_iff_iff]; simp only [Bool.or_eq_true, Bool.and_eq_true, decide_eq_true_eq]; first | omega | (constructor <;> intro <;> omega) | (simp; omega))
theorem refSign_yes (r : Int) (h : sgn r = true) (w : World) : Calls Tryd.prog 24 #[.int .i64 r] w fun e w' => e = .returned (.bool true) ∧ w = w' :=
  (refSign_any r w).mono fun _ _ ⟨a, b⟩ => ⟨by rw [a, h], b⟩
theorem refSign_no (r : Int) (h : sgn r = false) (w : World) : Calls Tryd.prog 24 #[.int .i64 r] w fun e w' => e = .returned (.bool false) ∧ w = w' :=
  (refSign_any r w).mono fun _ _ ⟨a, b⟩ => ⟨by rw [a, h], b⟩
theorem refClass_any (r : Int) (w : World) : Calls Tryd.prog 10 #[.int .i64 r] w fun e w' => e = .returned (.int .i64 (cls r)) ∧ w = w' := by
  by_cases hs : sgn r = true
  · have H : Hid (0 ≤ r ∧ r ≤ 1114111 ∧ (r < 55296 ∨ 57343 < r)) := by unfold sgn at hs; exact Lib.hid (of_decide_eq_true hs)
    go_enter Tryd.func10, Tryd.ntmps10
    go_wp2_with (go_at_call 24; refine (refSign_yes _ hs _).mono ?_; rintro e w' ⟨rfl, rfl⟩)
    all_goals (go_ret; refine ⟨ret_int ?_, rfl⟩; have HO := H.out; (try simp only [Bool.or_eq_true, Bool.or_eq_false_iff, beq_iff_eq, beq_eq_false_iff_ne, decide_eq_true_eq, decide_eq_false_iff_not] at *); unfold cls; omega)
  · have hs : sgn r = false := by simpa using hs
    have H : Hid (¬ (0 ≤ r ∧ r ≤ 1114111 ∧ (r < 55296 ∨ 57343 < r))) := by unfold sgn at hs; exact Lib.hid (of_decide_eq_false hs)
    go_enter Tryd.func10, Tryd.ntmps10
    go_wp2_with (go_at_call 24; refine (refSign_no _ hs _).mono ?_; rintro e w' ⟨rfl, rfl⟩)
    all_goals (go_ret; refine ⟨ret_int ?_, rfl⟩; have HO := H.out; unfold cls; omega)
theorem hex_step (n k : Int) (a b : Int) (h : hexv n < 0 ∨ k ≤ hexv n) (h1 : n ≠ a) (h2 : n ≠ b) (hab : (k < 10 ∧ a = 48 + k ∧ b = 48 + k) ∨ (10 ≤ k ∧ a = 87 + k ∧ b = 55 + k)) (h0 : 0 ≤ k) (h16 : k < 16) : hexv n < 0 ∨ k + 1 ≤ hexv n := by
  unfold hexv at *
  omega
theorem hex_end (n : Int) (h : hexv n < 0 ∨ 16 ≤ hexv n) : -1 = hexv n := by unfold hexv at *; omega
def lettNot (n k : Int) : Prop := (1 ≤ k → n ≠ 9) ∧ (2 ≤ k → n ≠ 10) ∧ (3 ≤ k → n ≠ 13) ∧ (4 ≤ k → n ≠ 8) ∧ (5 ≤ k → n ≠ 12) ∧ (6 ≤ k → n ≠ 34) ∧ (7 ≤ k → n ≠ 92)
end Go.Proofs.YtjnajpfolppniaaDoor
