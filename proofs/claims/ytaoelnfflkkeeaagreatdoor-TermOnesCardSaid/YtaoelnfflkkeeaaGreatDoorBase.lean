/-
  THE CLASS OF A SIGN, its number as a digit, its letter: the program's and the document's: one contract each.
-/
import Derived.Test.YtaoelnfflkkeeaaGreatDoorProg
import Derived.Test.YtaoelnfflkkeeaaGreatDoorUtf
import Derived.WalkKit
import Derived.IntWalk
import Derived.Lib.Hide
namespace Go.Proofs.YtaoelnfflkkeeaaGreatDoor
open Go.RowKit

theorem ret_int {k : IntKind} {a b : Int} (h : a = b) : Ending.returned (.int k a) = .returned (.int k b) := by rw [h]
theorem ret_bool {a b : Bool} (h : a = b) : Ending.returned (.bool a) = .returned (.bool b) := by rw [h]

def cls (r : Int) : Int := if r = 32 ∨ r = 9 ∨ r = 10 ∨ r = 13 then 0 else if (97 ≤ r ∧ r ≤ 122) ∨ (65 ≤ r ∧ r ≤ 90) then 1 else if 48 ≤ r ∧ r ≤ 57 then 2 else if 33 ≤ r ∧ r ≤ 126 then 3 else if r < 0 ∨ (55296 ≤ r ∧ r ≤ 57343) ∨ 1114111 < r then 6 else if r < 160 then 4 else 5
set_option linter.unusedSimpArgs false
theorem class_any (r : Int) (w : World) : Calls Tryz.prog 94 #[.int .i32 r] w fun e w' => e = .returned (.int .i64 (cls r)) ∧ w = w' := by
  go_enter Tryz.func94, Tryz.ntmps94
  go_wp2
  all_goals (go_ret; refine ⟨ret_int ?_, rfl⟩; (try simp only [Bool.or_eq_true, Bool.or_eq_false_iff, beq_iff_eq, beq_eq_false_iff_ne, decide_eq_true_eq, decide_eq_false_iff_not] at *); unfold cls; omega)
theorem refSign_any (r : Int) (w : World) : Calls Tryz.prog 48 #[.int .i64 r] w fun e w' => e = .returned (.bool (sgn r)) ∧ w = w' := by
  go_enter Tryz.func48, Tryz.ntmps48
  go_wp2
  all_goals (go_ret; refine ⟨ret_bool ?_, rfl⟩; unfold sgn; rw [Bool.eq_iff_iff]; simp only [Bool.or_eq_true, Bool.and_eq_true, decide_eq_true_eq]; first | omega | (constructor <;> intro <;> omega) | (simp; omega))
theorem refSign_yes (r : Int) (h : sgn r = true) (w : World) : Calls Tryz.prog 48 #[.int .i64 r] w fun e w' => e = .returned (.bool true) ∧ w = w' :=
  (refSign_any r w).mono fun _ _ ⟨a, b⟩ => ⟨by rw [a, h], b⟩
theorem refSign_no (r : Int) (h : sgn r = false) (w : World) : Calls Tryz.prog 48 #[.int .i64 r] w fun e w' => e = .returned (.bool false) ∧ w = w' :=
  (refSign_any r w).mono fun _ _ ⟨a, b⟩ => ⟨by rw [a, h], b⟩
theorem refClass_any (r : Int) (w : World) : Calls Tryz.prog 43 #[.int .i64 r] w fun e w' => e = .returned (.int .i64 (cls r)) ∧ w = w' := by
  by_cases hs : sgn r = true
  · have H : Hid (0 ≤ r ∧ r ≤ 1114111 ∧ (r < 55296 ∨ 57343 < r)) := by unfold sgn at hs; exact Lib.hid (of_decide_eq_true hs)
    go_enter Tryz.func43, Tryz.ntmps43
    go_wp2_with (go_at_call 48; refine (refSign_yes _ hs _).mono ?_; rintro e w' ⟨rfl, rfl⟩)
    all_goals (go_ret; refine ⟨ret_int ?_, rfl⟩; have HO := H.out; (try simp only [Bool.or_eq_true, Bool.or_eq_false_iff, beq_iff_eq, beq_eq_false_iff_ne, decide_eq_true_eq, decide_eq_false_iff_not] at *); unfold cls; omega)
  · have hs : sgn r = false := by simpa using hs
    have H : Hid (¬ (0 ≤ r ∧ r ≤ 1114111 ∧ (r < 55296 ∨ 57343 < r))) := by unfold sgn at hs; exact Lib.hid (of_decide_eq_false hs)
    go_enter Tryz.func43, Tryz.ntmps43
    go_wp2_with (go_at_call 48; refine (refSign_no _ hs _).mono ?_; rintro e w' ⟨rfl, rfl⟩)
    all_goals (go_ret; refine ⟨ret_int ?_, rfl⟩; have HO := H.out; unfold cls; omega)
end Go.Proofs.YtaoelnfflkkeeaaGreatDoor
