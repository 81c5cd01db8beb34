/-
  TRUTHS: Not, And, Or, Of, and the law's 'awake'.
-/
import Derived.Test.YtknjdkjakngkpaaDoorProg
import Derived.WalkKit
import Derived.Below
import Derived.IntWalk
import Derived.Lib.Hide
import Derived.Deep.LoopGhost
namespace Go.Proofs.YtknjdkjakngkpaaDoor
open Go.RowKit
set_option linter.unusedVariables false

/-- Not. -/
def nt (a : Int) : Int := if a = 0 then 1 else if a = 1 then 0 else 2
/-- decide, from an answer on. -/
def dcF (f ans : Int) : List Int → Int
  | [] => ans
  | a :: l => if a = f then f else dcF f (if 2 ≤ a then 2 else ans) l
/-- Truths in memory. -/
def TAt (w : World) (A : Option Addr) (l : List Int) : Prop := ∀ (j : Nat) (x : Int), l[j]? = some x → ∃ g o, A = some ⟨g, o, none⟩ ∧ w.cell? ⟨g, o + j, none⟩ = some (.int .u8 x)
theorem ret_u8 {a b : Int} (h : a = b) : Ending.returned (.int .u8 a) = .returned (.int .u8 b) := by rw [h]
theorem not_any (a : Int) (w : World) : Calls Tryd.prog 13 #[.int .u8 a] w fun e w' => e = .returned (.int .u8 (nt a)) ∧ w = w' := by
  go_enter Tryd.func13, Tryd.ntmps13
  go_wp2
  all_goals (go_ret; refine ⟨ret_u8 ?_, rfl⟩; (try simp only [beq_iff_eq, beq_eq_false_iff_ne] at *); unfold nt; omega)
theorem drop_get {l : List Int} {j : Nat} {x : Int} (h : l[j]? = some x) : l.drop j = x :: l.drop (j + 1) := by
  have hj := (List.getElem?_eq_some_iff.1 h).1
  rw [List.drop_eq_getElem_cons hj, (List.getElem?_eq_some_iff.1 h).2]
/-- The loop's relation. -/
def DcI (w : World) (f : Int) (l : List Int) (r : Int) (g : Nat) (s5 s12 : Value) (wr : World) : Prop :=
  ∃ (k : Nat) (ans : Int), k + g = l.length ∧ s12 = .int .i64 k ∧ s5 = .int .u8 ans ∧ r = dcF f ans (l.drop k) ∧ wr = w
theorem decide_any (f : Int) (l : List Int) (hl : l.length ≤ 1000000) (A : Option Addr) (cap : Nat) (w : World) (h : TAt w A l) :
    Calls Tryd.prog 20 #[.slice A l.length cap, .int .u8 f] w fun e w' => e = .returned (.int .u8 (dcF f (nt f) l)) ∧ w = w' := by
  have H := Lib.hid h
  have hN : ∀ W, Calls Tryd.prog 13 #[.int .u8 f] W fun e w' => e = .returned (.int .u8 (nt f)) ∧ W = w' := not_any f
  obtain ⟨r, hr⟩ : ∃ r, r = dcF f (nt f) l := ⟨_, rfl⟩
  rw [← hr]
  have HR := Lib.hid hr
  clear h hr
  go_enter Tryd.func20, Tryd.ntmps20
  go_wp2_with (go_at_call 13; (with_reducible refine (hN _).mono ?_); rintro e w' ⟨rfl, rfl⟩)
  go_loopg [5, 12] l.length (fun g s5 s12 wr => DcI w f l r g s5 s12 wr)
  case atStart => exact ⟨0, _, by omega, rfl, rfl, HR.out, rfl⟩
  case round =>
    obtain ⟨k, ans, hkg, rfl, rfl, hrr, rfl⟩ := hrel
    have HRR := Lib.hid hrr
    clear hrr
    cases gk with
    | zero =>
      have hge : ¬ ((k : Int) < (l.length : Int)) := by omega
      have hres : r = ans := by rw [HRR.out, List.drop_eq_nil_of_le (by omega)]; rfl
      have HF := Lib.hid hres
      clear hres
      go_wp2
      go_ret
      exact ⟨ret_u8 HF.out.symm, rfl⟩
    | succ g =>
      have hlt : (k : Int) < (l.length : Int) := by omega
      obtain ⟨x, hx⟩ : ∃ x, l[k]? = some x := ⟨_, List.getElem?_eq_getElem (by omega)⟩
      obtain ⟨gb, o, rfl, hcell⟩ := H.out k x hx
      have hd : dcF f ans (l.drop k) = if x = f then f else dcF f (if 2 ≤ x then 2 else ans) (l.drop (k + 1)) := by rw [drop_get hx]; rfl
      have HD := Lib.hid hd
      clear hd hx
      by_cases hxf : x = f
      · have hb : (x == f) = true := by simpa using hxf
        have hres : r = f := by rw [HRR.out, HD.out, if_pos hxf]
        have HF := Lib.hid hres
        clear hres hxf
        go_wp2
        go_ret
        exact ⟨ret_u8 HF.out.symm, rfl⟩
      · have hb : (x == f) = false := by simpa using hxf
        have hres : r = dcF f (if 2 ≤ x then 2 else ans) (l.drop (k + 1)) := by rw [HRR.out, HD.out, if_neg hxf]
        clear hxf
        by_cases h2 : 2 ≤ x
        · rw [if_pos h2] at hres
          have HF := Lib.hid hres
          clear hres
          go_wp2
          go_roundg g
          case measure => omega
          case rel => exact ⟨k + 1, _, by omega, by go_num, rfl, HF.out, rfl⟩
        · rw [if_neg h2] at hres
          have HF := Lib.hid hres
          clear hres
          go_wp2
          go_roundg g
          case measure => omega
          case rel => exact ⟨k + 1, _, by omega, by go_num, rfl, HF.out, rfl⟩
theorem or_any (l : List Int) (hl : l.length ≤ 1000000) (A : Option Addr) (cap : Nat) (w : World) (h : TAt w A l) :
    Calls Tryd.prog 12 #[.slice A l.length cap] w fun e w' => e = .returned (.int .u8 (dcF 1 0 l)) ∧ w = w' := by
  have hD := decide_any 1 l hl A cap w h
  clear h
  go_enter Tryd.func12, Tryd.ntmps12
  go_wp2_with (go_at_call 20; (with_reducible refine hD.mono ?_); rintro e w' ⟨rfl, rfl⟩)
  go_ret
  exact ⟨rfl, rfl⟩
theorem tat_awake (w : World) : TAt (w.alloc (.cells #[.int .u8 2, .int .u8 1] 37)) (some ⟨w.heap.size, 0, none⟩) [2, 1] := by
  intro j x hx
  refine ⟨_, 0, rfl, ?_⟩
  match j, hx with
  | 0, hx => simp at hx; subst hx; simp [go_sem]
  | 1, hx => simp at hx; subst hx; simp [go_sem]
  | j + 2, hx => simp at hx
theorem awake_ok (w : World) : Calls Tryd.prog 5 #[] w fun e w' => e = .returned (.bool true) ∧ Below w.heap.size w w' := by
  have hO : Calls Tryd.prog 12 #[.slice (some ⟨w.heap.size, 0, none⟩) 2 2] (w.alloc (.cells #[.int .u8 2, .int .u8 1] 37)) fun e w' => e = .returned (.int .u8 1) ∧ w.alloc (.cells #[.int .u8 2, .int .u8 1] 37) = w' :=
    or_any [2, 1] (by simp) _ _ _ (tat_awake w)
  have hN : ∀ W, Calls Tryd.prog 13 #[.int .u8 0] W fun e w' => e = .returned (.int .u8 1) ∧ W = w' := not_any 0
  go_enter Tryd.func5, Tryd.ntmps5
  go_wp2_with (first
    | (go_at_call 12; (with_reducible refine hO.mono ?_); rintro e w' ⟨rfl, rfl⟩)
    | (go_at_call 13; (with_reducible refine (hN _).mono ?_); rintro e w' ⟨rfl, rfl⟩))
  go_ret
  exact ⟨rfl, (Below.refl _ _).alloc (Nat.le_refl _) _⟩
end Go.Proofs.YtknjdkjakngkpaaDoor
