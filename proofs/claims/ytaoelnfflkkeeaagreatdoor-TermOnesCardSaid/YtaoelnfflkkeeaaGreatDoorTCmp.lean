/-
  COMPARING: integers, texts, lists of texts; the first that isn't 0; whether a type is known.
-/
import Derived.Test.YtaoelnfflkkeeaaGreatDoorTBase
namespace Go.Proofs.YtaoelnfflkkeeaaGreatDoor
open Go.RowKit
set_option linter.unusedVariables false

theorem ret_iT {k : IntKind} {a b : Int} (h : a = b) : Ending.returned (.int k a) = .returned (.int k b) := by rw [h]
theorem ret_bT {a b : Bool} (h : a = b) : Ending.returned (.bool a) = .returned (.bool b) := by rw [h]
abbrev lS : List UInt8 := [104, 116, 116, 112, 58, 47, 47, 119, 119, 119, 46, 119, 51, 46, 111, 114, 103, 47, 50, 48, 48, 49, 47, 88, 77, 76, 83, 99, 104, 101, 109, 97, 35, 115, 116, 114, 105, 110, 103]
abbrev lI : List UInt8 := [104, 116, 116, 112, 58, 47, 47, 119, 119, 119, 46, 119, 51, 46, 111, 114, 103, 47, 50, 48, 48, 49, 47, 88, 77, 76, 83, 99, 104, 101, 109, 97, 35, 105, 110, 116, 101, 103, 101, 114]
abbrev lB : List UInt8 := [104, 116, 116, 112, 58, 47, 47, 119, 119, 119, 46, 119, 51, 46, 111, 114, 103, 47, 50, 48, 48, 49, 47, 88, 77, 76, 83, 99, 104, 101, 109, 97, 35, 98, 111, 111, 108, 101, 97, 110]
abbrev lL : List UInt8 := [104, 116, 116, 112, 58, 47, 47, 119, 119, 119, 46, 119, 51, 46, 111, 114, 103, 47, 49, 57, 57, 57, 47, 48, 50, 47, 50, 50, 45, 114, 100, 102, 45, 115, 121, 110, 116, 97, 120, 45, 110, 115, 35, 108, 97, 110, 103, 83, 116, 114, 105, 110, 103]
def known (b : ByteArray) : Bool := (b.toList == lS) || (b.toList == lI) || (b.toList == lB) || (b.toList == lL)
set_option maxRecDepth 100000 in
theorem known_any (b : ByteArray) (w : World) : Calls Tryz.prog 36 #[.string b] w fun e w' => e = .returned (.bool (known b)) ∧ w = w' := by
  obtain ⟨r, hr⟩ : ∃ r, r = known b := ⟨_, rfl⟩
  rw [← hr]
  unfold known at hr
  cases h1 : (b.toList == lS) <;> cases h2 : (b.toList == lI) <;> cases h3 : (b.toList == lB) <;> cases h4 : (b.toList == lL)
  all_goals
    rw [h1, h2, h3, h4] at hr
    have H := Lib.hid hr
    clear hr
    go_enter Tryz.func36, Tryz.ntmps36
    go_wp2
    go_ret
    exact ⟨ret_bT H.out.symm, rfl⟩
/-- The first that is not 0. -/
def orT (x y : Int) : Int := if x = 0 then y else x
theorem orErr_any (x y : Int) (w : World) (g c : Nat) (h0 : w.cell? ⟨g, 0, none⟩ = some (.int .i64 x)) (h1 : w.cell? ⟨g, 1, none⟩ = some (.int .i64 y)) :
    Calls Tryz.prog 45 #[.slice (some ⟨g, 0, none⟩) 2 c] w fun e w' => e = .returned (.int .i64 (orT x y)) ∧ w = w' := by
  go_enter Tryz.func45, Tryz.ntmps45
  go_wp2
  go_loopg [5, 8] 2 (fun g s5 s8 wr => ∃ k : Nat, k + g = 2 ∧ s8 = .int .i64 k ∧ Hid (1 ≤ k → x = 0) ∧ Hid (2 ≤ k → y = 0) ∧ w = wr)
  case atStart => exact ⟨0, rfl, rfl, Lib.hid (by omega), Lib.hid (by omega), rfl⟩
  case round =>
    obtain ⟨k, hkg, rfl, H0, H1, rfl⟩ := hrel
    obtain rfl | rfl | rfl : k = 0 ∨ k = 1 ∨ k = 2 := by omega
    · by_cases hx : x = 0
      · have hb : (x != 0) = false := by simpa using hx
        have HX := Lib.hid hx
        clear hx
        go_wp2
        go_roundg 1
        case measure => omega
        case rel => exact ⟨1, rfl, rfl, Lib.hid (fun _ => HX.out), Lib.hid (by omega), rfl⟩
      · have hb : (x != 0) = true := by simpa using hx
        have HX : Hid (orT x y = x) := Lib.hid (if_neg hx)
        clear hx
        go_wp2
        (try rw [Exit.noGoto_ret])
        go_ret
        exact ⟨ret_iT HX.out.symm, rfl⟩
    · have HX : Hid (orT x y = y) := Lib.hid (if_pos (H0.out (by omega)))
      by_cases hy : y = 0
      · have hb : (y != 0) = false := by simpa using hy
        have HY := Lib.hid hy
        clear hy
        go_wp2
        go_roundg 0
        case measure => omega
        case rel => exact ⟨2, rfl, rfl, Lib.hid (fun _ => H0.out (by omega)), Lib.hid (fun _ => HY.out), rfl⟩
      · have hb : (y != 0) = true := by simpa using hy
        clear hy
        go_wp2
        (try rw [Exit.noGoto_ret])
        go_ret
        exact ⟨ret_iT HX.out.symm, rfl⟩
    · have HX : Hid (orT x y = 0) := Lib.hid (by unfold orT; rw [if_pos (H0.out (by omega)), H1.out (by omega)])
      go_wp2
      go_ret
      exact ⟨ret_iT HX.out.symm, rfl⟩
end Go.Proofs.YtaoelnfflkkeeaaGreatDoor
