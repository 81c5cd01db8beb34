/-
  MERGED (a claim has at most 60 files): Base.
-/
import Derived.Test.YtjalhcbomjgkoaaGreatDoorProg
import Derived.Test.YtjalhcbomjgkoaaGreatDoorZ00
import Derived.WalkKit
import Derived.IntWalk
import Derived.Lib.Hide
/-
  THE CLASS OF A SIGN, its number as a digit, its letter: the program's and the document's: one contract each.
-/
namespace Go.Proofs.YtjalhcbomjgkoaaGreatDoor
open Go.RowKit

theorem ret_int {k : IntKind} {a b : Int} (h : a = b) : Ending.returned (.int k a) = .returned (.int k b) := by rw [h]
theorem ret_bool {a b : Bool} (h : a = b) : Ending.returned (.bool a) = .returned (.bool b) := by rw [h]

def cls (r : Int) : Int := if r = 32 ∨ r = 9 ∨ r = 10 ∨ r = 13 then 0 else if (97 ≤ r ∧ r ≤ 122) ∨ (65 ≤ r ∧ r ≤ 90) then 1 else if 48 ≤ r ∧ r ≤ 57 then 2 else if 33 ≤ r ∧ r ≤ 126 then 3 else if r < 0 ∨ (55296 ≤ r ∧ r ≤ 57343) ∨ 1114111 < r then 6 else if r < 160 then 4 else 5
def hexv (n : Int) : Int := if 48 ≤ n ∧ n ≤ 57 then n - 48 else if 65 ≤ n ∧ n ≤ 70 then n - 55 else if 97 ≤ n ∧ n ≤ 102 then n - 87 else -1
def lett (n : Int) : Int := if n = 9 then 116 else if n = 10 then 110 else if n = 13 then 114 else if n = 8 then 98 else if n = 12 then 102 else if n = 34 then 34 else if n = 92 then 92 else 0


set_option linter.unusedSimpArgs false
theorem class_any (r : Int) (w : World) : Calls Tryz.prog 99 #[.int .i32 r] w fun e w' => e = .returned (.int .i64 (cls r)) ∧ w = w' := by
  go_enter Tryz.func99, Tryz.ntmps99
  go_wp2
  all_goals (go_ret; refine ⟨ret_int ?_, rfl⟩; (try simp only [Bool.or_eq_true, Bool.or_eq_false_iff, beq_iff_eq, beq_eq_false_iff_ne, decide_eq_true_eq, decide_eq_false_iff_not] at *); unfold cls; omega)
theorem hex_any (r : Int) (w : World) : Calls Tryz.prog 133 #[.int .i32 r] w fun e w' => e = .returned (.int .i64 (hexv r)) ∧ w = w' := by
  go_enter Tryz.func133, Tryz.ntmps133
  go_wp2
  all_goals (go_ret; refine ⟨ret_int ?_, rfl⟩; (try simp only [Bool.or_eq_true, Bool.or_eq_false_iff, beq_iff_eq, beq_eq_false_iff_ne, decide_eq_true_eq, decide_eq_false_iff_not] at *); unfold hexv; omega)
theorem refSign_any (r : Int) (w : World) : Calls Tryz.prog 94 #[.int .i64 r] w fun e w' => e = .returned (.bool (sgn r)) ∧ w = w' := by
  go_enter Tryz.func94, Tryz.ntmps94
  go_wp2
  all_goals (go_ret; refine ⟨ret_bool ?_, rfl⟩; unfold sgn; rw [Bool.eq_iff_iff]; simp only [Bool.or_eq_true, Bool.and_eq_true, decide_eq_true_eq]; first | omega | (constructor <;> intro <;> omega) | (simp; omega))
theorem refSign_yes (r : Int) (h : sgn r = true) (w : World) : Calls Tryz.prog 94 #[.int .i64 r] w fun e w' => e = .returned (.bool true) ∧ w = w' :=
  (refSign_any r w).mono fun _ _ ⟨a, b⟩ => ⟨by rw [a, h], b⟩
theorem refSign_no (r : Int) (h : sgn r = false) (w : World) : Calls Tryz.prog 94 #[.int .i64 r] w fun e w' => e = .returned (.bool false) ∧ w = w' :=
  (refSign_any r w).mono fun _ _ ⟨a, b⟩ => ⟨by rw [a, h], b⟩
theorem refClass_any (r : Int) (w : World) : Calls Tryz.prog 78 #[.int .i64 r] w fun e w' => e = .returned (.int .i64 (cls r)) ∧ w = w' := by
  by_cases hs : sgn r = true
  · have H : Hid (0 ≤ r ∧ r ≤ 1114111 ∧ (r < 55296 ∨ 57343 < r)) := by unfold sgn at hs; exact Lib.hid (of_decide_eq_true hs)
    go_enter Tryz.func78, Tryz.ntmps78
    go_wp2_with (go_at_call 94; refine (refSign_yes _ hs _).mono ?_; rintro e w' ⟨rfl, rfl⟩)
    all_goals (go_ret; refine ⟨ret_int ?_, rfl⟩; have HO := H.out; (try simp only [Bool.or_eq_true, Bool.or_eq_false_iff, beq_iff_eq, beq_eq_false_iff_ne, decide_eq_true_eq, decide_eq_false_iff_not] at *); unfold cls; omega)
  · have hs : sgn r = false := by simpa using hs
    have H : Hid (¬ (0 ≤ r ∧ r ≤ 1114111 ∧ (r < 55296 ∨ 57343 < r))) := by unfold sgn at hs; exact Lib.hid (of_decide_eq_false hs)
    go_enter Tryz.func78, Tryz.ntmps78
    go_wp2_with (go_at_call 94; refine (refSign_no _ hs _).mono ?_; rintro e w' ⟨rfl, rfl⟩)
    all_goals (go_ret; refine ⟨ret_int ?_, rfl⟩; have HO := H.out; unfold cls; omega)
theorem hex_step (n k : Int) (a b : Int) (h : hexv n < 0 ∨ k ≤ hexv n) (h1 : n ≠ a) (h2 : n ≠ b) (hab : (k < 10 ∧ a = 48 + k ∧ b = 48 + k) ∨ (10 ≤ k ∧ a = 87 + k ∧ b = 55 + k)) (h0 : 0 ≤ k) (h16 : k < 16) : hexv n < 0 ∨ k + 1 ≤ hexv n := by
  unfold hexv at *
  omega
theorem hex_end (n : Int) (h : hexv n < 0 ∨ 16 ≤ hexv n) : -1 = hexv n := by unfold hexv at *; omega
set_option maxHeartbeats 4000000 in
theorem refHex_any (n : Int) (w : World) : Calls Tryz.prog 106 #[.int .i64 n] w fun e w' => e = .returned (.int .i64 (hexv n)) ∧ w = w' := by
  go_enter Tryz.func106, Tryz.ntmps106
  go_wp2
  go_loop [5] (fun i => ∃ k : Int, 0 ≤ k ∧ k ≤ 16 ∧ i = .int .i64 k ∧ Hid (hexv n < 0 ∨ k ≤ hexv n)) (fun i => 16 - (intOf i).toNat)
  case atStart => exact ⟨0, by omega, by omega, rfl, Lib.hid (by omega)⟩
  case round =>
    obtain ⟨k, hk0, hk, rfl, H⟩ := hrel
    obtain rfl | rfl | rfl | rfl | rfl | rfl | rfl | rfl | rfl | rfl | rfl | rfl | rfl | rfl | rfl | rfl | rfl : k = 0 ∨ k = 1 ∨ k = 2 ∨ k = 3 ∨ k = 4 ∨ k = 5 ∨ k = 6 ∨ k = 7 ∨ k = 8 ∨ k = 9 ∨ k = 10 ∨ k = 11 ∨ k = 12 ∨ k = 13 ∨ k = 14 ∨ k = 15 ∨ k = 16 := by omega
    · have e1 : (((⟨#[48, 49, 50, 51, 52, 53, 54, 55, 56, 57, 97, 98, 99, 100, 101, 102]⟩ : ByteArray)[0]'(by decide)).toNat) = 48 := rfl
      have e2 : (((⟨#[48, 49, 50, 51, 52, 53, 54, 55, 56, 57, 65, 66, 67, 68, 69, 70]⟩ : ByteArray)[0]'(by decide)).toNat) = 48 := rfl
      go_wp2
      all_goals first
        | (go_ret; refine ⟨ret_int ?_, rfl⟩; (try simp only [beq_iff_eq, beq_eq_false_iff_ne] at *); unfold hexv; omega)
        | (go_round; (case rel => exact ⟨1, by omega, by omega, rfl, by (try simp only [beq_iff_eq, beq_eq_false_iff_ne] at *); exact Lib.hid (hex_step n 0 48 48 H.out (by omega) (by omega) (by omega) (by omega) (by omega))⟩); (case measure => simp [intOf]))
    · have e1 : (((⟨#[48, 49, 50, 51, 52, 53, 54, 55, 56, 57, 97, 98, 99, 100, 101, 102]⟩ : ByteArray)[1]'(by decide)).toNat) = 49 := rfl
      have e2 : (((⟨#[48, 49, 50, 51, 52, 53, 54, 55, 56, 57, 65, 66, 67, 68, 69, 70]⟩ : ByteArray)[1]'(by decide)).toNat) = 49 := rfl
      go_wp2
      all_goals first
        | (go_ret; refine ⟨ret_int ?_, rfl⟩; (try simp only [beq_iff_eq, beq_eq_false_iff_ne] at *); unfold hexv; omega)
        | (go_round; (case rel => exact ⟨2, by omega, by omega, rfl, by (try simp only [beq_iff_eq, beq_eq_false_iff_ne] at *); exact Lib.hid (hex_step n 1 49 49 H.out (by omega) (by omega) (by omega) (by omega) (by omega))⟩); (case measure => simp [intOf]))
    · have e1 : (((⟨#[48, 49, 50, 51, 52, 53, 54, 55, 56, 57, 97, 98, 99, 100, 101, 102]⟩ : ByteArray)[2]'(by decide)).toNat) = 50 := rfl
      have e2 : (((⟨#[48, 49, 50, 51, 52, 53, 54, 55, 56, 57, 65, 66, 67, 68, 69, 70]⟩ : ByteArray)[2]'(by decide)).toNat) = 50 := rfl
      go_wp2
      all_goals first
        | (go_ret; refine ⟨ret_int ?_, rfl⟩; (try simp only [beq_iff_eq, beq_eq_false_iff_ne] at *); unfold hexv; omega)
        | (go_round; (case rel => exact ⟨3, by omega, by omega, rfl, by (try simp only [beq_iff_eq, beq_eq_false_iff_ne] at *); exact Lib.hid (hex_step n 2 50 50 H.out (by omega) (by omega) (by omega) (by omega) (by omega))⟩); (case measure => simp [intOf]))
    · have e1 : (((⟨#[48, 49, 50, 51, 52, 53, 54, 55, 56, 57, 97, 98, 99, 100, 101, 102]⟩ : ByteArray)[3]'(by decide)).toNat) = 51 := rfl
      have e2 : (((⟨#[48, 49, 50, 51, 52, 53, 54, 55, 56, 57, 65, 66, 67, 68, 69, 70]⟩ : ByteArray)[3]'(by decide)).toNat) = 51 := rfl
      go_wp2
      all_goals first
        | (go_ret; refine ⟨ret_int ?_, rfl⟩; (try simp only [beq_iff_eq, beq_eq_false_iff_ne] at *); unfold hexv; omega)
        | (go_round; (case rel => exact ⟨4, by omega, by omega, rfl, by (try simp only [beq_iff_eq, beq_eq_false_iff_ne] at *); exact Lib.hid (hex_step n 3 51 51 H.out (by omega) (by omega) (by omega) (by omega) (by omega))⟩); (case measure => simp [intOf]))
    · have e1 : (((⟨#[48, 49, 50, 51, 52, 53, 54, 55, 56, 57, 97, 98, 99, 100, 101, 102]⟩ : ByteArray)[4]'(by decide)).toNat) = 52 := rfl
      have e2 : (((⟨#[48, 49, 50, 51, 52, 53, 54, 55, 56, 57, 65, 66, 67, 68, 69, 70]⟩ : ByteArray)[4]'(by decide)).toNat) = 52 := rfl
      go_wp2
      all_goals first
        | (go_ret; refine ⟨ret_int ?_, rfl⟩; (try simp only [beq_iff_eq, beq_eq_false_iff_ne] at *); unfold hexv; omega)
        | (go_round; (case rel => exact ⟨5, by omega, by omega, rfl, by (try simp only [beq_iff_eq, beq_eq_false_iff_ne] at *); exact Lib.hid (hex_step n 4 52 52 H.out (by omega) (by omega) (by omega) (by omega) (by omega))⟩); (case measure => simp [intOf]))
    · have e1 : (((⟨#[48, 49, 50, 51, 52, 53, 54, 55, 56, 57, 97, 98, 99, 100, 101, 102]⟩ : ByteArray)[5]'(by decide)).toNat) = 53 := rfl
      have e2 : (((⟨#[48, 49, 50, 51, 52, 53, 54, 55, 56, 57, 65, 66, 67, 68, 69, 70]⟩ : ByteArray)[5]'(by decide)).toNat) = 53 := rfl
      go_wp2
      all_goals first
        | (go_ret; refine ⟨ret_int ?_, rfl⟩; (try simp only [beq_iff_eq, beq_eq_false_iff_ne] at *); unfold hexv; omega)
        | (go_round; (case rel => exact ⟨6, by omega, by omega, rfl, by (try simp only [beq_iff_eq, beq_eq_false_iff_ne] at *); exact Lib.hid (hex_step n 5 53 53 H.out (by omega) (by omega) (by omega) (by omega) (by omega))⟩); (case measure => simp [intOf]))
    · have e1 : (((⟨#[48, 49, 50, 51, 52, 53, 54, 55, 56, 57, 97, 98, 99, 100, 101, 102]⟩ : ByteArray)[6]'(by decide)).toNat) = 54 := rfl
      have e2 : (((⟨#[48, 49, 50, 51, 52, 53, 54, 55, 56, 57, 65, 66, 67, 68, 69, 70]⟩ : ByteArray)[6]'(by decide)).toNat) = 54 := rfl
      go_wp2
      all_goals first
        | (go_ret; refine ⟨ret_int ?_, rfl⟩; (try simp only [beq_iff_eq, beq_eq_false_iff_ne] at *); unfold hexv; omega)
        | (go_round; (case rel => exact ⟨7, by omega, by omega, rfl, by (try simp only [beq_iff_eq, beq_eq_false_iff_ne] at *); exact Lib.hid (hex_step n 6 54 54 H.out (by omega) (by omega) (by omega) (by omega) (by omega))⟩); (case measure => simp [intOf]))
    · have e1 : (((⟨#[48, 49, 50, 51, 52, 53, 54, 55, 56, 57, 97, 98, 99, 100, 101, 102]⟩ : ByteArray)[7]'(by decide)).toNat) = 55 := rfl
      have e2 : (((⟨#[48, 49, 50, 51, 52, 53, 54, 55, 56, 57, 65, 66, 67, 68, 69, 70]⟩ : ByteArray)[7]'(by decide)).toNat) = 55 := rfl
      go_wp2
      all_goals first
        | (go_ret; refine ⟨ret_int ?_, rfl⟩; (try simp only [beq_iff_eq, beq_eq_false_iff_ne] at *); unfold hexv; omega)
        | (go_round; (case rel => exact ⟨8, by omega, by omega, rfl, by (try simp only [beq_iff_eq, beq_eq_false_iff_ne] at *); exact Lib.hid (hex_step n 7 55 55 H.out (by omega) (by omega) (by omega) (by omega) (by omega))⟩); (case measure => simp [intOf]))
    · have e1 : (((⟨#[48, 49, 50, 51, 52, 53, 54, 55, 56, 57, 97, 98, 99, 100, 101, 102]⟩ : ByteArray)[8]'(by decide)).toNat) = 56 := rfl
      have e2 : (((⟨#[48, 49, 50, 51, 52, 53, 54, 55, 56, 57, 65, 66, 67, 68, 69, 70]⟩ : ByteArray)[8]'(by decide)).toNat) = 56 := rfl
      go_wp2
      all_goals first
        | (go_ret; refine ⟨ret_int ?_, rfl⟩; (try simp only [beq_iff_eq, beq_eq_false_iff_ne] at *); unfold hexv; omega)
        | (go_round; (case rel => exact ⟨9, by omega, by omega, rfl, by (try simp only [beq_iff_eq, beq_eq_false_iff_ne] at *); exact Lib.hid (hex_step n 8 56 56 H.out (by omega) (by omega) (by omega) (by omega) (by omega))⟩); (case measure => simp [intOf]))
    · have e1 : (((⟨#[48, 49, 50, 51, 52, 53, 54, 55, 56, 57, 97, 98, 99, 100, 101, 102]⟩ : ByteArray)[9]'(by decide)).toNat) = 57 := rfl
      have e2 : (((⟨#[48, 49, 50, 51, 52, 53, 54, 55, 56, 57, 65, 66, 67, 68, 69, 70]⟩ : ByteArray)[9]'(by decide)).toNat) = 57 := rfl
      go_wp2
      all_goals first
        | (go_ret; refine ⟨ret_int ?_, rfl⟩; (try simp only [beq_iff_eq, beq_eq_false_iff_ne] at *); unfold hexv; omega)
        | (go_round; (case rel => exact ⟨10, by omega, by omega, rfl, by (try simp only [beq_iff_eq, beq_eq_false_iff_ne] at *); exact Lib.hid (hex_step n 9 57 57 H.out (by omega) (by omega) (by omega) (by omega) (by omega))⟩); (case measure => simp [intOf]))
    · have e1 : (((⟨#[48, 49, 50, 51, 52, 53, 54, 55, 56, 57, 97, 98, 99, 100, 101, 102]⟩ : ByteArray)[10]'(by decide)).toNat) = 97 := rfl
      have e2 : (((⟨#[48, 49, 50, 51, 52, 53, 54, 55, 56, 57, 65, 66, 67, 68, 69, 70]⟩ : ByteArray)[10]'(by decide)).toNat) = 65 := rfl
      go_wp2
      all_goals first
        | (go_ret; refine ⟨ret_int ?_, rfl⟩; (try simp only [beq_iff_eq, beq_eq_false_iff_ne] at *); unfold hexv; omega)
        | (go_round; (case rel => exact ⟨11, by omega, by omega, rfl, by (try simp only [beq_iff_eq, beq_eq_false_iff_ne] at *); exact Lib.hid (hex_step n 10 97 65 H.out (by omega) (by omega) (by omega) (by omega) (by omega))⟩); (case measure => simp [intOf]))
    · have e1 : (((⟨#[48, 49, 50, 51, 52, 53, 54, 55, 56, 57, 97, 98, 99, 100, 101, 102]⟩ : ByteArray)[11]'(by decide)).toNat) = 98 := rfl
      have e2 : (((⟨#[48, 49, 50, 51, 52, 53, 54, 55, 56, 57, 65, 66, 67, 68, 69, 70]⟩ : ByteArray)[11]'(by decide)).toNat) = 66 := rfl
      go_wp2
      all_goals first
        | (go_ret; refine ⟨ret_int ?_, rfl⟩; (try simp only [beq_iff_eq, beq_eq_false_iff_ne] at *); unfold hexv; omega)
        | (go_round; (case rel => exact ⟨12, by omega, by omega, rfl, by (try simp only [beq_iff_eq, beq_eq_false_iff_ne] at *); exact Lib.hid (hex_step n 11 98 66 H.out (by omega) (by omega) (by omega) (by omega) (by omega))⟩); (case measure => simp [intOf]))
    · have e1 : (((⟨#[48, 49, 50, 51, 52, 53, 54, 55, 56, 57, 97, 98, 99, 100, 101, 102]⟩ : ByteArray)[12]'(by decide)).toNat) = 99 := rfl
      have e2 : (((⟨#[48, 49, 50, 51, 52, 53, 54, 55, 56, 57, 65, 66, 67, 68, 69, 70]⟩ : ByteArray)[12]'(by decide)).toNat) = 67 := rfl
      go_wp2
      all_goals first
        | (go_ret; refine ⟨ret_int ?_, rfl⟩; (try simp only [beq_iff_eq, beq_eq_false_iff_ne] at *); unfold hexv; omega)
        | (go_round; (case rel => exact ⟨13, by omega, by omega, rfl, by (try simp only [beq_iff_eq, beq_eq_false_iff_ne] at *); exact Lib.hid (hex_step n 12 99 67 H.out (by omega) (by omega) (by omega) (by omega) (by omega))⟩); (case measure => simp [intOf]))
    · have e1 : (((⟨#[48, 49, 50, 51, 52, 53, 54, 55, 56, 57, 97, 98, 99, 100, 101, 102]⟩ : ByteArray)[13]'(by decide)).toNat) = 100 := rfl
      have e2 : (((⟨#[48, 49, 50, 51, 52, 53, 54, 55, 56, 57, 65, 66, 67, 68, 69, 70]⟩ : ByteArray)[13]'(by decide)).toNat) = 68 := rfl
      go_wp2
      all_goals first
        | (go_ret; refine ⟨ret_int ?_, rfl⟩; (try simp only [beq_iff_eq, beq_eq_false_iff_ne] at *); unfold hexv; omega)
        | (go_round; (case rel => exact ⟨14, by omega, by omega, rfl, by (try simp only [beq_iff_eq, beq_eq_false_iff_ne] at *); exact Lib.hid (hex_step n 13 100 68 H.out (by omega) (by omega) (by omega) (by omega) (by omega))⟩); (case measure => simp [intOf]))
    · have e1 : (((⟨#[48, 49, 50, 51, 52, 53, 54, 55, 56, 57, 97, 98, 99, 100, 101, 102]⟩ : ByteArray)[14]'(by decide)).toNat) = 101 := rfl
      have e2 : (((⟨#[48, 49, 50, 51, 52, 53, 54, 55, 56, 57, 65, 66, 67, 68, 69, 70]⟩ : ByteArray)[14]'(by decide)).toNat) = 69 := rfl
      go_wp2
      all_goals first
        | (go_ret; refine ⟨ret_int ?_, rfl⟩; (try simp only [beq_iff_eq, beq_eq_false_iff_ne] at *); unfold hexv; omega)
        | (go_round; (case rel => exact ⟨15, by omega, by omega, rfl, by (try simp only [beq_iff_eq, beq_eq_false_iff_ne] at *); exact Lib.hid (hex_step n 14 101 69 H.out (by omega) (by omega) (by omega) (by omega) (by omega))⟩); (case measure => simp [intOf]))
    · have e1 : (((⟨#[48, 49, 50, 51, 52, 53, 54, 55, 56, 57, 97, 98, 99, 100, 101, 102]⟩ : ByteArray)[15]'(by decide)).toNat) = 102 := rfl
      have e2 : (((⟨#[48, 49, 50, 51, 52, 53, 54, 55, 56, 57, 65, 66, 67, 68, 69, 70]⟩ : ByteArray)[15]'(by decide)).toNat) = 70 := rfl
      go_wp2
      all_goals first
        | (go_ret; refine ⟨ret_int ?_, rfl⟩; (try simp only [beq_iff_eq, beq_eq_false_iff_ne] at *); unfold hexv; omega)
        | (go_round; (case rel => exact ⟨16, by omega, by omega, rfl, by (try simp only [beq_iff_eq, beq_eq_false_iff_ne] at *); exact Lib.hid (hex_step n 15 102 70 H.out (by omega) (by omega) (by omega) (by omega) (by omega))⟩); (case measure => simp [intOf]))
    · go_wp2
      go_ret
      exact ⟨ret_int (hex_end n H.out), rfl⟩
def lettNot (n k : Int) : Prop := (1 ≤ k → n ≠ 9) ∧ (2 ≤ k → n ≠ 10) ∧ (3 ≤ k → n ≠ 13) ∧ (4 ≤ k → n ≠ 8) ∧ (5 ≤ k → n ≠ 12) ∧ (6 ≤ k → n ≠ 34) ∧ (7 ≤ k → n ≠ 92)
set_option maxHeartbeats 4000000 in
theorem refLetter_any (n : Int) (w : World) : Calls Tryz.prog 81 #[.int .i64 n] w fun e w' => e = .returned (.int .u8 (lett n)) ∧ w = w' := by
  go_enter Tryz.func81, Tryz.ntmps81
  go_wp2
  go_loop [5] (fun i => ∃ k : Int, 0 ≤ k ∧ k ≤ 7 ∧ i = .int .i64 k ∧ lettNot n k) (fun i => 7 - (intOf i).toNat)
  case atStart => exact ⟨0, by omega, by omega, rfl, by unfold lettNot; omega⟩
  case round =>
    obtain ⟨k, hk0, hk, rfl, H⟩ := hrel
    obtain rfl | rfl | rfl | rfl | rfl | rfl | rfl | rfl : k = 0 ∨ k = 1 ∨ k = 2 ∨ k = 3 ∨ k = 4 ∨ k = 5 ∨ k = 6 ∨ k = 7 := by omega
    · have e1 : (((⟨#[9, 10, 13, 8, 12, 34, 92]⟩ : ByteArray)[0]'(by decide)).toNat) = 9 := rfl
      have e2 : (((⟨#[116, 110, 114, 98, 102, 34, 92]⟩ : ByteArray)[0]'(by decide)).toNat) = 116 := rfl
      go_wp2
      all_goals first
        | (go_ret; refine ⟨ret_int ?_, rfl⟩; (try simp only [beq_iff_eq, beq_eq_false_iff_ne] at *); unfold lett; unfold lettNot at H; omega)
        | (go_round; (case rel => exact ⟨1, by omega, by omega, rfl, by (try simp only [beq_iff_eq, beq_eq_false_iff_ne] at *); unfold lettNot at *; omega⟩); (case measure => simp [intOf]))
    · have e1 : (((⟨#[9, 10, 13, 8, 12, 34, 92]⟩ : ByteArray)[1]'(by decide)).toNat) = 10 := rfl
      have e2 : (((⟨#[116, 110, 114, 98, 102, 34, 92]⟩ : ByteArray)[1]'(by decide)).toNat) = 110 := rfl
      go_wp2
      all_goals first
        | (go_ret; refine ⟨ret_int ?_, rfl⟩; (try simp only [beq_iff_eq, beq_eq_false_iff_ne] at *); unfold lett; unfold lettNot at H; omega)
        | (go_round; (case rel => exact ⟨2, by omega, by omega, rfl, by (try simp only [beq_iff_eq, beq_eq_false_iff_ne] at *); unfold lettNot at *; omega⟩); (case measure => simp [intOf]))
    · have e1 : (((⟨#[9, 10, 13, 8, 12, 34, 92]⟩ : ByteArray)[2]'(by decide)).toNat) = 13 := rfl
      have e2 : (((⟨#[116, 110, 114, 98, 102, 34, 92]⟩ : ByteArray)[2]'(by decide)).toNat) = 114 := rfl
      go_wp2
      all_goals first
        | (go_ret; refine ⟨ret_int ?_, rfl⟩; (try simp only [beq_iff_eq, beq_eq_false_iff_ne] at *); unfold lett; unfold lettNot at H; omega)
        | (go_round; (case rel => exact ⟨3, by omega, by omega, rfl, by (try simp only [beq_iff_eq, beq_eq_false_iff_ne] at *); unfold lettNot at *; omega⟩); (case measure => simp [intOf]))
    · have e1 : (((⟨#[9, 10, 13, 8, 12, 34, 92]⟩ : ByteArray)[3]'(by decide)).toNat) = 8 := rfl
      have e2 : (((⟨#[116, 110, 114, 98, 102, 34, 92]⟩ : ByteArray)[3]'(by decide)).toNat) = 98 := rfl
      go_wp2
      all_goals first
        | (go_ret; refine ⟨ret_int ?_, rfl⟩; (try simp only [beq_iff_eq, beq_eq_false_iff_ne] at *); unfold lett; unfold lettNot at H; omega)
        | (go_round; (case rel => exact ⟨4, by omega, by omega, rfl, by (try simp only [beq_iff_eq, beq_eq_false_iff_ne] at *); unfold lettNot at *; omega⟩); (case measure => simp [intOf]))
    · have e1 : (((⟨#[9, 10, 13, 8, 12, 34, 92]⟩ : ByteArray)[4]'(by decide)).toNat) = 12 := rfl
      have e2 : (((⟨#[116, 110, 114, 98, 102, 34, 92]⟩ : ByteArray)[4]'(by decide)).toNat) = 102 := rfl
      go_wp2
      all_goals first
        | (go_ret; refine ⟨ret_int ?_, rfl⟩; (try simp only [beq_iff_eq, beq_eq_false_iff_ne] at *); unfold lett; unfold lettNot at H; omega)
        | (go_round; (case rel => exact ⟨5, by omega, by omega, rfl, by (try simp only [beq_iff_eq, beq_eq_false_iff_ne] at *); unfold lettNot at *; omega⟩); (case measure => simp [intOf]))
    · have e1 : (((⟨#[9, 10, 13, 8, 12, 34, 92]⟩ : ByteArray)[5]'(by decide)).toNat) = 34 := rfl
      have e2 : (((⟨#[116, 110, 114, 98, 102, 34, 92]⟩ : ByteArray)[5]'(by decide)).toNat) = 34 := rfl
      go_wp2
      all_goals first
        | (go_ret; refine ⟨ret_int ?_, rfl⟩; (try simp only [beq_iff_eq, beq_eq_false_iff_ne] at *); unfold lett; unfold lettNot at H; omega)
        | (go_round; (case rel => exact ⟨6, by omega, by omega, rfl, by (try simp only [beq_iff_eq, beq_eq_false_iff_ne] at *); unfold lettNot at *; omega⟩); (case measure => simp [intOf]))
    · have e1 : (((⟨#[9, 10, 13, 8, 12, 34, 92]⟩ : ByteArray)[6]'(by decide)).toNat) = 92 := rfl
      have e2 : (((⟨#[116, 110, 114, 98, 102, 34, 92]⟩ : ByteArray)[6]'(by decide)).toNat) = 92 := rfl
      go_wp2
      all_goals first
        | (go_ret; refine ⟨ret_int ?_, rfl⟩; (try simp only [beq_iff_eq, beq_eq_false_iff_ne] at *); unfold lett; unfold lettNot at H; omega)
        | (go_round; (case rel => exact ⟨7, by omega, by omega, rfl, by (try simp only [beq_iff_eq, beq_eq_false_iff_ne] at *); unfold lettNot at *; omega⟩); (case measure => simp [intOf]))
    · go_wp2
      go_ret
      refine ⟨ret_int ?_, rfl⟩; unfold lettNot at H; unfold lett; omega
end Go.Proofs.YtjalhcbomjgkoaaGreatDoor
