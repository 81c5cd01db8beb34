/-
  MERGED (a claim has at most 60 files): Base, Sig.
-/
import Derived.Test.YtehechbiajbobaaProg
import Derived.Test.YtehechbiajbobaaZ01
import Derived.WalkKit
import Derived.IntWalk
import Derived.Lib.Hide
import Derived.Deep.LoopGhost
/-
  THE CLASS OF A SIGN, its number as a digit, its letter: the program's and the document's: one contract each.
-/
namespace Go.Proofs.Ytehechbiajbobaa
open Go.RowKit

theorem ret_int {k : IntKind} {a b : Int} (h : a = b) : Ending.returned (.int k a) = .returned (.int k b) := by rw [h]
theorem ret_bool {a b : Bool} (h : a = b) : Ending.returned (.bool a) = .returned (.bool b) := by rw [h]

def cls (r : Int) : Int := if r = 32 ∨ r = 9 ∨ r = 10 ∨ r = 13 then 0 else if (97 ≤ r ∧ r ≤ 122) ∨ (65 ≤ r ∧ r ≤ 90) then 1 else if 48 ≤ r ∧ r ≤ 57 then 2 else if 33 ≤ r ∧ r ≤ 126 then 3 else if r < 0 ∨ (55296 ≤ r ∧ r ≤ 57343) ∨ 1114111 < r then 6 else if r < 160 then 4 else 5
def hexv (n : Int) : Int := if 48 ≤ n ∧ n ≤ 57 then n - 48 else if 65 ≤ n ∧ n ≤ 70 then n - 55 else if 97 ≤ n ∧ n ≤ 102 then n - 87 else -1
def lett (n : Int) : Int := if n = 9 then 116 else if n = 10 then 110 else if n = 13 then 114 else if n = 8 then 98 else if n = 12 then 102 else if n = 34 then 34 else if n = 92 then 92 else 0


set_option linter.unusedSimpArgs false
theorem class_any (r : Int) (w : World) : Calls Try.prog 66 #[.int .i32 r] w fun e w' => e = .returned (.int .i64 (cls r)) ∧ w = w' := by
  go_enter Try.func66, Try.ntmps66
  go_wp2
  all_goals (go_ret; refine ⟨ret_int ?_, rfl⟩; (try simp only [Bool.or_eq_true, Bool.or_eq_false_iff, beq_iff_eq, beq_eq_false_iff_ne, decide_eq_true_eq, decide_eq_false_iff_not] at *); unfold cls; omega)
theorem refSign_any (r : Int) (w : World) : Calls Try.prog 43 #[.int .i64 r] w fun e w' => e = .returned (.bool (sgn r)) ∧ w = w' := by
  go_enter Try.func43, Try.ntmps43
  go_wp2
  all_goals (go_ret; refine ⟨ret_bool ?_, rfl⟩; unfold sgn; rw [Bool.eq_iff_iff]; simp only [Bool.or_eq_true, Bool.and_eq_true, decide_eq_true_eq]; first | omega | (constructor <;> intro <;> omega) | (simp; omega))
theorem refSign_yes (r : Int) (h : sgn r = true) (w : World) : Calls Try.prog 43 #[.int .i64 r] w fun e w' => e = .returned (.bool true) ∧ w = w' :=
  (refSign_any r w).mono fun _ _ ⟨a, b⟩ => ⟨by rw [a, h], b⟩
theorem refSign_no (r : Int) (h : sgn r = false) (w : World) : Calls Try.prog 43 #[.int .i64 r] w fun e w' => e = .returned (.bool false) ∧ w = w' :=
  (refSign_any r w).mono fun _ _ ⟨a, b⟩ => ⟨by rw [a, h], b⟩
theorem refClass_any (r : Int) (w : World) : Calls Try.prog 40 #[.int .i64 r] w fun e w' => e = .returned (.int .i64 (cls r)) ∧ w = w' := by
  by_cases hs : sgn r = true
  · have H : Hid (0 ≤ r ∧ r ≤ 1114111 ∧ (r < 55296 ∨ 57343 < r)) := by unfold sgn at hs; exact Lib.hid (of_decide_eq_true hs)
    go_enter Try.func40, Try.ntmps40
    go_wp2_with (go_at_call 43; refine (refSign_yes _ hs _).mono ?_; rintro e w' ⟨rfl, rfl⟩)
    all_goals (go_ret; refine ⟨ret_int ?_, rfl⟩; have HO := H.out; (try simp only [Bool.or_eq_true, Bool.or_eq_false_iff, beq_iff_eq, beq_eq_false_iff_ne, decide_eq_true_eq, decide_eq_false_iff_not] at *); unfold cls; omega)
  · have hs : sgn r = false := by simpa using hs
    have H : Hid (¬ (0 ≤ r ∧ r ≤ 1114111 ∧ (r < 55296 ∨ 57343 < r))) := by unfold sgn at hs; exact Lib.hid (of_decide_eq_false hs)
    go_enter Try.func40, Try.ntmps40
    go_wp2_with (go_at_call 43; refine (refSign_no _ hs _).mono ?_; rintro e w' ⟨rfl, rfl⟩)
    all_goals (go_ret; refine ⟨ret_int ?_, rfl⟩; have HO := H.out; unfold cls; omega)
end Go.Proofs.Ytehechbiajbobaa

namespace Go.Proofs.Ytehechbiajbobaa
open Go.RowKit

def rowOf (n : Int) : Array Value := (Lib.runeCells n).toArray
theorem bytes_any (n : Int) (h : sgn n = true) (w : World) :
    Calls Try.prog 44 #[.int .i64 n] w fun e w' => e = .returned (.slice (some ⟨w.heap.size, 0, none⟩) (Lib.encodeRune n).length (Lib.encodeRune n).length) ∧ w' = w.alloc (.cells (rowOf n) 5) := by
  obtain ⟨h0, h1, h2⟩ := (sgn_iff n).1 h
  clear h
  by_cases a : n < 128
  · have e1 : rowOf n = #[.int .u8 n] := by unfold rowOf Lib.runeCells; rw [Lib.encodeRuneZ_one (by omega) (by omega)]; rfl
    have e2 : (Lib.encodeRune n).length = 1 := by unfold Lib.encodeRune; rw [Lib.encodeRuneZ_one (by omega) (by omega)]; rfl
    rw [e1, e2]
    clear e1 e2
    go_enter Try.func44, Try.ntmps44
    go_wp2
    go_ret
    exact ⟨rfl, rfl⟩
  by_cases b : n < 2048
  · have e1 : rowOf n = #[.int .u8 (192 + n / 64), .int .u8 (128 + n % 64)] := by unfold rowOf Lib.runeCells; rw [Lib.encodeRuneZ_two (by omega) (by omega)]; rfl
    have e2 : (Lib.encodeRune n).length = 2 := by unfold Lib.encodeRune; rw [Lib.encodeRuneZ_two (by omega) (by omega)]; rfl
    rw [e1, e2]
    clear e1 e2
    go_enter Try.func44, Try.ntmps44
    go_wp2
    go_ret
    exact ⟨rfl, rfl⟩
  by_cases c : n < 65536
  · have e1 : rowOf n = #[.int .u8 (224 + n / 4096), .int .u8 (128 + n / 64 % 64), .int .u8 (128 + n % 64)] := by unfold rowOf Lib.runeCells; rw [Lib.encodeRuneZ_three (by omega)]; rfl
    have e2 : (Lib.encodeRune n).length = 3 := by unfold Lib.encodeRune; rw [Lib.encodeRuneZ_three (by omega)]; rfl
    rw [e1, e2]
    clear e1 e2
    go_enter Try.func44, Try.ntmps44
    go_wp2
    go_ret
    exact ⟨rfl, rfl⟩
  · have e1 : rowOf n = #[.int .u8 (240 + n / 262144), .int .u8 (128 + n / 4096 % 64), .int .u8 (128 + n / 64 % 64), .int .u8 (128 + n % 64)] := by unfold rowOf Lib.runeCells; rw [Lib.encodeRuneZ_four (by omega) (by omega)]; rfl
    have e2 : (Lib.encodeRune n).length = 4 := by unfold Lib.encodeRune; rw [Lib.encodeRuneZ_four (by omega) (by omega)]; rfl
    rw [e1, e2]
    clear e1 e2
    go_enter Try.func44, Try.ntmps44
    go_wp2
    go_ret
    exact ⟨rfl, rfl⟩
end Go.Proofs.Ytehechbiajbobaa
