/-
  MERGED (a claim has at most 60 files): Base.
-/
import Derived.Test.YtjalhcbomjgkoaaDoorProg
import Derived.Test.YtjalhcbomjgkoaaDoorZ00
import Derived.WalkKit
import Derived.IntWalk
import Derived.Lib.Hide
/-
  THE CLASS OF A SIGN, its number as a digit, its letter: the program's and the document's: one contract each.
-/
namespace Go.Proofs.YtjalhcbomjgkoaaDoor
open Go.RowKit

theorem ret_int {k : IntKind} {a b : Int} (h : a = b) : Ending.returned (.int k a) = .returned (.int k b) := by rw [h]
theorem ret_bool {a b : Bool} (h : a = b) : Ending.returned (.bool a) = .returned (.bool b) := by rw [h]

def cls (r : Int) : Int := if r = 32 ∨ r = 9 ∨ r = 10 ∨ r = 13 then 0 else if (97 ≤ r ∧ r ≤ 122) ∨ (65 ≤ r ∧ r ≤ 90) then 1 else if 48 ≤ r ∧ r ≤ 57 then 2 else if 33 ≤ r ∧ r ≤ 126 then 3 else if r < 0 ∨ (55296 ≤ r ∧ r ≤ 57343) ∨ 1114111 < r then 6 else if r < 160 then 4 else 5
def hexv (n : Int) : Int := if 48 ≤ n ∧ n ≤ 57 then n - 48 else if 65 ≤ n ∧ n ≤ 70 then n - 55 else if 97 ≤ n ∧ n ≤ 102 then n - 87 else -1
def lett (n : Int) : Int := if n = 9 then 116 else if n = 10 then 110 else if n = 13 then 114 else if n = 8 then 98 else if n = 12 then 102 else if n = 34 then 34 else if n = 92 then 92 else 0


set_option linter.unusedSimpArgs false
theorem class_any (r : Int) (w : World) : Calls Tryd.prog 47 #[.int .i32 r] w fun e w' => e = .returned (.int .i64 (cls r)) ∧ w = w' := by
  go_enter Tryd.func47, Tryd.ntmps47
  go_wp2
  all_goals (go_ret; refine ⟨ret_int ?_, rfl⟩; (try simp only [Bool.or_eq_true, Bool.or_eq_false_iff, beq_iff_eq, beq_eq_false_iff_ne, decide_eq_true_eq, decide_eq_false_iff_not] at *); unfold cls; omega)
theorem hex_any (r : Int) (w : World) : Calls Tryd.prog 135 #[.int .i32 r] w fun e w' => e = .returned (.int .i64 (hexv r)) ∧ w = w' := by
  go_enter Tryd.func135, Tryd.ntmps135
  go_wp2
  all_goals (go_ret; refine ⟨ret_int ?_, rfl⟩; (try simp only [Bool.or_eq_true, Bool.or_eq_false_iff, beq_iff_eq, beq_eq_false_iff_ne, decide_eq_true_eq, decide_eq_false_iff_not] at *); unfold hexv; omega)
theorem refSign_any (r : Int) (w : World) : Calls Tryd.prog 46 #[.int .i64 r] w fun e w' => e = .returned (.bool (sgn r)) ∧ w = w' := by
  go_enter Tryd.func46, Tryd.ntmps46
  go_wp2
  all_goals (go_ret; refine ⟨ret_bool ?_, rfl⟩; unfold sgn; rw [Bool.eq_iff_iff]; simp only [Bool.or_eq_true, Bool.and_eq_true, decide_eq_true_eq]; first | omega | (constructor <;> intro <;> omega) | (simp; omega))
theorem refSign_yes (r : Int) (h : sgn r = true) (w : World) : Calls Tryd.prog 46 #[.int .i64 r] w fun e w' => e = .returned (.bool true) ∧ w = w' :=
  (refSign_any r w).mono fun _ _ ⟨a, b⟩ => ⟨by rw [a, h], b⟩
theorem refSign_no (r : Int) (h : sgn r = false) (w : World) : Calls Tryd.prog 46 #[.int .i64 r] w fun e w' => e = .returned (.bool false) ∧ w = w' :=
  (refSign_any r w).mono fun _ _ ⟨a, b⟩ => ⟨by rw [a, h], b⟩
theorem refClass_any (r : Int) (w : World) : Calls Tryd.prog 14 #[.int .i64 r] w fun e w' => e = .returned (.int .i64 (cls r)) ∧ w = w' := by
  by_cases hs : sgn r = true
  · have H : Hid (0 ≤ r ∧ r ≤ 1114111 ∧ (r < 55296 ∨ 57343 < r)) := by unfold sgn at hs; exact Lib.hid (of_decide_eq_true hs)
    go_enter Tryd.func14, Tryd.ntmps14
    go_wp2_with (go_at_call 46; refine (refSign_yes _ hs _).mono ?_; rintro e w' ⟨rfl, rfl⟩)
    all_goals (go_ret; refine ⟨ret_int ?_, rfl⟩; have HO := H.out; (try simp only [Bool.or_eq_true, Bool.or_eq_false_iff, beq_iff_eq, beq_eq_false_iff_ne, decide_eq_true_eq, decide_eq_false_iff_not] at *); unfold cls; omega)
  · have hs : sgn r = false := by simpa using hs
    have H : Hid (¬ (0 ≤ r ∧ r ≤ 1114111 ∧ (r < 55296 ∨ 57343 < r))) := by unfold sgn at hs; exact Lib.hid (of_decide_eq_false hs)
    go_enter Tryd.func14, Tryd.ntmps14
    go_wp2_with (go_at_call 46; refine (refSign_no _ hs _).mono ?_; rintro e w' ⟨rfl, rfl⟩)
    all_goals (go_ret; refine ⟨ret_int ?_, rfl⟩; have HO := H.out; unfold cls; omega)
theorem hex_step (n k : Int) (a b : Int) (h : hexv n < 0 ∨ k ≤ hexv n) (h1 : n ≠ a) (h2 : n ≠ b) (hab : (k < 10 ∧ a = 48 + k ∧ b = 48 + k) ∨ (10 ≤ k ∧ a = 87 + k ∧ b = 55 + k)) (h0 : 0 ≤ k) (h16 : k < 16) : hexv n < 0 ∨ k + 1 ≤ hexv n := by
  unfold hexv at *
  omega
theorem hex_end (n : Int) (h : hexv n < 0 ∨ 16 ≤ hexv n) : -1 = hexv n := by unfold hexv at *; omega
def lettNot (n k : Int) : Prop := (1 ≤ k → n ≠ 9) ∧ (2 ≤ k → n ≠ 10) ∧ (3 ≤ k → n ≠ 13) ∧ (4 ≤ k → n ≠ 8) ∧ (5 ≤ k → n ≠ 12) ∧ (6 ≤ k → n ≠ 34) ∧ (7 ≤ k → n ≠ 92)
set_option maxHeartbeats 4000000 in
theorem refLetter_any (n : Int) (w : World) : Calls Tryd.prog 110 #[.int .i64 n] w fun e w' => e = .returned (.int .u8 (lett n)) ∧ w = w' := by
  go_enter Tryd.func110, Tryd.ntmps110
  go_wp2
  go_loop [5] (fun i => ∃ k : Int, 0 ≤ k ∧ k ≤ 7 ∧ i = .int .i64 k ∧ lettNot n k) (fun i => 7 - (intOf i).toNat)
  case atStart => exact ⟨0, by omega, by omega, rfl, by unfold lettNot; omega⟩
  case round =>
    obtain ⟨k, hk0, hk, rfl, H⟩ := hrel
    obtain rfl | rfl | rfl | rfl | rfl | rfl | rfl | rfl : k = 0 ∨ k = 1 ∨ k = 2 ∨ k = 3 ∨ k = 4 ∨ k = 5 ∨ k = 6 ∨ k = 7 := by omega
    · have e1 : (((⟨#[9, 10, 13, 8, 12, 34, 92]⟩ : ByteArray)[0]'(by decide)).toNat) = 9 := rfl
      have e2 : (((⟨#[116, 110, 114, 98, 102, 34, 92]⟩ : ByteArray)[0]'(by decide)).toNat) = 116 := rfl
      go_wp2
      all_goals first
        | (go_ret; refine ⟨ret_int ?_, rfl⟩; (try simp only [beq_iff_eq, beq_eq_false_iff_ne] at *); unfold lett; unfold lettNot at H; omega)
        | (go_round; (case rel => exact ⟨1, by omega, by omega, rfl, by (try simp only [beq_iff_eq, beq_eq_false_iff_ne] at *); unfold lettNot at *; omega⟩); (case measure => simp [intOf]))
    · have e1 : (((⟨#[9, 10, 13, 8, 12, 34, 92]⟩ : ByteArray)[1]'(by decide)).toNat) = 10 := rfl
      have e2 : (((⟨#[116, 110, 114, 98, 102, 34, 92]⟩ : ByteArray)[1]'(by decide)).toNat) = 110 := rfl
      go_wp2
      all_goals first
        | (go_ret; refine ⟨ret_int ?_, rfl⟩; (try simp only [beq_iff_eq, beq_eq_false_iff_ne] at *); unfold lett; unfold lettNot at H; omega)
        | (go_round; (case rel => exact ⟨2, by omega, by omega, rfl, by (try simp only [beq_iff_eq, beq_eq_false_iff_ne] at *); unfold lettNot at *; omega⟩); (case measure => simp [intOf]))
    · have e1 : (((⟨#[9, 10, 13, 8, 12, 34, 92]⟩ : ByteArray)[2]'(by decide)).toNat) = 13 := rfl
      have e2 : (((⟨#[116, 110, 114, 98, 102, 34, 92]⟩ : ByteArray)[2]'(by decide)).toNat) = 114 := rfl
      go_wp2
      all_goals first
        | (go_ret; refine ⟨ret_int ?_, rfl⟩; (try simp only [beq_iff_eq, beq_eq_false_iff_ne] at *); unfold lett; unfold lettNot at H; omega)
        | (go_round; (case rel => exact ⟨3, by omega, by omega, rfl, by (try simp only [beq_iff_eq, beq_eq_false_iff_ne] at *); unfold lettNot at *; omega⟩); (case measure => simp [intOf]))
    · have e1 : (((⟨#[9, 10, 13, 8, 12, 34, 92]⟩ : ByteArray)[3]'(by decide)).toNat) = 8 := rfl
      have e2 : (((⟨#[116, 110, 114, 98, 102, 34, 92]⟩ : ByteArray)[3]'(by decide)).toNat) = 98 := rfl
      go_wp2
      all_goals first
        | (go_ret; refine ⟨ret_int ?_, rfl⟩; (try simp only [beq_iff_eq, beq_eq_false_iff_ne] at *); unfold lett; unfold lettNot at H; omega)
        | (go_round; (case rel => exact ⟨4, by omega, by omega, rfl, by (try simp only [beq_iff_eq, beq_eq_false_iff_ne] at *); unfold lettNot at *; omega⟩); (case measure => simp [intOf]))
    · have e1 : (((⟨#[9, 10, 13, 8, 12, 34, 92]⟩ : ByteArray)[4]'(by decide)).toNat) = 12 := rfl
      have e2 : (((⟨#[116, 110, 114, 98, 102, 34, 92]⟩ : ByteArray)[4]'(by decide)).toNat) = 102 := rfl
      go_wp2
      all_goals first
        | (go_ret; refine ⟨ret_int ?_, rfl⟩; (try simp only [beq_iff_eq, beq_eq_false_iff_ne] at *); unfold lett; unfold lettNot at H; omega)
        | (go_round; (case rel => exact ⟨5, by omega, by omega, rfl, by (try simp only [beq_iff_eq, beq_eq_false_iff_ne] at *); unfold lettNot at *; omega⟩); (case measure => simp [intOf]))
    · have e1 : (((⟨#[9, 10, 13, 8, 12, 34, 92]⟩ : ByteArray)[5]'(by decide)).toNat) = 34 := rfl
      have e2 : (((⟨#[116, 110, 114, 98, 102, 34, 92]⟩ : ByteArray)[5]'(by decide)).toNat) = 34 := rfl
      go_wp2
      all_goals first
        | (go_ret; refine ⟨ret_int ?_, rfl⟩; (try simp only [beq_iff_eq, beq_eq_false_iff_ne] at *); unfold lett; unfold lettNot at H; omega)
        | (go_round; (case rel => exact ⟨6, by omega, by omega, rfl, by (try simp only [beq_iff_eq, beq_eq_false_iff_ne] at *); unfold lettNot at *; omega⟩); (case measure => simp [intOf]))
    · have e1 : (((⟨#[9, 10, 13, 8, 12, 34, 92]⟩ : ByteArray)[6]'(by decide)).toNat) = 92 := rfl
      have e2 : (((⟨#[116, 110, 114, 98, 102, 34, 92]⟩ : ByteArray)[6]'(by decide)).toNat) = 92 := rfl
      go_wp2
      all_goals first
        | (go_ret; refine ⟨ret_int ?_, rfl⟩; (try simp only [beq_iff_eq, beq_eq_false_iff_ne] at *); unfold lett; unfold lettNot at H; omega)
        | (go_round; (case rel => exact ⟨7, by omega, by omega, rfl, by (try simp only [beq_iff_eq, beq_eq_false_iff_ne] at *); unfold lettNot at *; omega⟩); (case measure => simp [intOf]))
    · go_wp2
      go_ret
      refine ⟨ret_int ?_, rfl⟩; unfold lettNot at H; unfold lett; omega
end Go.Proofs.YtjalhcbomjgkoaaDoor
