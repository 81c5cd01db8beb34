/-
  THE DOCUMENT's Effective: a term as a truth.
-/
import Derived.Test.YtaoelnfflkkeeaaGreatDoorTEff
import Derived.Test.YtaoelnfflkkeeaaGreatDoorTRefB
import Derived.Test.YtaoelnfflkkeeaaGreatDoorTRef
namespace Go.Proofs.YtaoelnfflkkeeaaGreatDoor
open Go.RowKit
set_option linter.unusedVariables false

theorem ret_i64 {a b : Int} (h : a = b) : Ending.returned (.int .i64 a) = .returned (.int .i64 b) := by rw [h]
theorem reff_no (k : Int) (hk : ¬ k = 2) (a b c : ByteArray) (w : World) : Calls Tryz.prog 16 #[F4 k a b c] w fun e w' => e = .returned (.int .i64 2) ∧ Below w.heap.size w w' := by
  go_enter Tryz.func16, Tryz.ntmps16
  go_wp2
  go_ret
  exact ⟨rfl, (Below.refl _ _).alloc (Nat.le_refl _) _⟩
set_option maxRecDepth 100000 in
set_option maxHeartbeats 8000000 in
theorem reff_int (a b c : ByteArray) (h : (b.toList == lI) = true) (hS : (b.toList == lS) = false) (hL : (b.toList == lL) = false) (hs : a.size ≤ 100000) (w : World) : Calls Tryz.prog 16 #[F4 2 a b c] w fun e w' => e = .returned (.int .i64 (tru ((asI (.lit a b c)).1 != 0) (asI (.lit a b c)).2)) ∧ Below w.heap.size w w' := by
  have cI : Calls Tryz.prog 10 #[F4 2 a b c] (w.alloc (.cells #[.int .i64 2, .string a, .string b, .string c] 23)) (RaPost (w.alloc (.cells #[.int .i64 2, .string a, .string b, .string c] 23)) (.lit a b c)) := rasInt_any (.lit a b c) hs _
  have HB0 := Lib.hid (show Below w.heap.size w (w.alloc (.cells #[.int .i64 2, .string a, .string b, .string c] 23)) from (Below.refl _ _).alloc (Nat.le_refl _) _)
  unfold RaPost at cI
  obtain ⟨z, hz⟩ : ∃ z, z = (asI (.lit a b c)).1 := ⟨_, rfl⟩
  obtain ⟨u, hu⟩ : ∃ u, u = (asI (.lit a b c)).2 := ⟨_, rfl⟩
  rw [← hz, ← hu] at cI ⊢
  clear hz hu
  by_cases hu0 : u = 0
  · simp only [if_pos hu0] at cI
    subst hu0
    by_cases hz0 : z = 0
    · subst hz0
      have e : (digs (0 : Int).natAbs).length = 0 := by rw [show (0 : Int).natAbs = 0 from rfl, digs_zero]; rfl
      have cI2 : Calls Tryz.prog 10 #[F4 2 a b c] (w.alloc (.cells #[.int .i64 2, .string a, .string b, .string c] 23)) fun e w' => ∃ A ca, e = .returned (.tuple #[.agg #[.bool false, .slice A 0 ca], .int .i64 0]) ∧ Below (w.alloc (.cells #[.int .i64 2, .string a, .string b, .string c] 23)).heap.size (w.alloc (.cells #[.int .i64 2, .string a, .string b, .string c] 23)) w' := cI.mono fun e' w' ⟨v, h1, ⟨A, ca, h2, _, _⟩, h3⟩ => ⟨A, ca, by rw [h1, h2, e]; rfl, h3⟩
      clear cI e
      go_enter Tryz.func16, Tryz.ntmps16
      go_wp2_with (go_at_call 10; (with_reducible refine cI2.mono ?_); rintro e w3 ⟨A, ca, rfl, hb3⟩; have HB3 := Lib.hid hb3; clear hb3)
      go_ret
      exact ⟨ret_i64 rfl, (HB0.out.trans (HB3.out.mono HB0.out.size)).alloc (Nat.le_trans HB0.out.size HB3.out.size) _⟩
    · obtain ⟨n, hn⟩ : ∃ n, n + 1 = (digs z.natAbs).length := by
        have : (digs z.natAbs) ≠ [] := fun h => hz0 (by have := digs_nil.1 h; omega)
        exact ⟨(digs z.natAbs).length - 1, by have := List.length_pos_iff.2 this; omega⟩
      have cI2 : Calls Tryz.prog 10 #[F4 2 a b c] (w.alloc (.cells #[.int .i64 2, .string a, .string b, .string c] 23)) fun e w' => ∃ A ca x, e = .returned (.tuple #[.agg #[.bool x, .slice A (n + 1) ca], .int .i64 0]) ∧ Below (w.alloc (.cells #[.int .i64 2, .string a, .string b, .string c] 23)).heap.size (w.alloc (.cells #[.int .i64 2, .string a, .string b, .string c] 23)) w' := cI.mono fun e' w' ⟨v, h1, ⟨A, ca, h2, _, _⟩, h3⟩ => ⟨A, ca, decide (z < 0), by rw [h1, h2, hn], h3⟩
      have HR := Lib.hid (show tru (z != 0) 0 = 1 from by unfold tru; rw [if_pos rfl, bne_iff_ne.2 hz0]; rfl)
      have hne : ¬ ((n : Int) + 1) = 0 := by omega
      clear cI hn hz0
      go_enter Tryz.func16, Tryz.ntmps16
      go_wp2_with (go_at_call 10; (with_reducible refine cI2.mono ?_); rintro e w3 ⟨A, ca, x, rfl, hb3⟩; have HB3 := Lib.hid hb3; clear hb3)
      go_ret
      exact ⟨ret_i64 HR.out.symm, (HB0.out.trans (HB3.out.mono HB0.out.size)).alloc (Nat.le_trans HB0.out.size HB3.out.size) _⟩
  · simp only [if_neg hu0] at cI
    have HR := Lib.hid (show tru (z != 0) u = 2 from by unfold tru; rw [if_neg hu0])
    go_enter Tryz.func16, Tryz.ntmps16
    go_wp2_with (go_at_call 10; (with_reducible refine cI.mono ?_); rintro e w3 ⟨rfl, hb3⟩; have HB3 := Lib.hid hb3; clear hb3)
    go_ret
    exact ⟨ret_i64 HR.out.symm, (HB0.out.trans (HB3.out.mono HB0.out.size)).alloc (Nat.le_trans HB0.out.size HB3.out.size) _⟩
set_option maxRecDepth 100000 in
set_option maxHeartbeats 8000000 in
theorem reff_bool (a b c : ByteArray) (h : (b.toList == lB) = true) (hI : (b.toList == lI) = false) (hS : (b.toList == lS) = false) (hL : (b.toList == lL) = false) (w : World) : Calls Tryz.prog 16 #[F4 2 a b c] w fun e w' => e = .returned (.int .i64 (tru (asB (.lit a b c)).1 (asB (.lit a b c)).2)) ∧ Below w.heap.size w w' := by
  have cB := rasBool_lit a b c
  obtain ⟨y, hy⟩ : ∃ k, k = (asB (.lit a b c)).1 := ⟨_, rfl⟩
  obtain ⟨x, hx⟩ : ∃ k, k = (asB (.lit a b c)).2 := ⟨_, rfl⟩
  rw [← hy, ← hx] at cB ⊢
  clear hy hx
  have HB0 := Lib.hid (show Below w.heap.size w (w.alloc (.cells #[.int .i64 2, .string a, .string b, .string c] 23)) from (Below.refl _ _).alloc (Nat.le_refl _) _)
  by_cases hx0 : x = 0
  · subst hx0
    cases y
    all_goals
      go_enter Tryz.func16, Tryz.ntmps16
      go_wp2_with (go_at_call 11; (with_reducible refine (cB _).mono ?_); rintro e w3 ⟨rfl, hb3⟩; have HB3 := Lib.hid hb3; clear hb3)
      go_ret
      exact ⟨ret_i64 rfl, HB0.out.trans (HB3.out.mono HB0.out.size)⟩
  · have HR := Lib.hid (show tru y x = 2 from by unfold tru; rw [if_neg hx0])
    go_enter Tryz.func16, Tryz.ntmps16
    go_wp2_with (go_at_call 11; (with_reducible refine (cB _).mono ?_); rintro e w3 ⟨rfl, hb3⟩; have HB3 := Lib.hid hb3; clear hb3)
    go_ret
    exact ⟨ret_i64 HR.out.symm, HB0.out.trans (HB3.out.mono HB0.out.size)⟩
set_option maxRecDepth 100000 in
set_option maxHeartbeats 8000000 in
theorem reff_text (a b c : ByteArray) (h : (b.toList == lS) = true ∨ ((b.toList == lS) = false ∧ (b.toList == lL) = true)) (w : World) : Calls Tryz.prog 16 #[F4 2 a b c] w fun e w' => e = .returned (.int .i64 (if (!a.toList.isEmpty) = true then 1 else 0)) ∧ Below w.heap.size w w' := by
  have HB0 := Lib.hid (show Below w.heap.size w (w.alloc (.cells #[.int .i64 2, .string a, .string b, .string c] 23)) from (Below.refl _ _).alloc (Nat.le_refl _) _)
  cases ha : (!a.toList.isEmpty)
  · have h0 : a.toList = [] := by simpa using ha
    rcases h with h | ⟨h, h'⟩
    all_goals
      go_enter Tryz.func16, Tryz.ntmps16
      go_wp2
      go_ret
      exact ⟨ret_i64 rfl, HB0.out⟩
  · have h0 : ¬ a.toList = [] := by simpa using ha
    have h1 : (a.toList == []) = false := by simpa using h0
    rcases h with h | ⟨h, h'⟩
    all_goals
      go_enter Tryz.func16, Tryz.ntmps16
      go_wp2
      go_ret
      exact ⟨ret_i64 rfl, HB0.out⟩
set_option maxRecDepth 100000 in
set_option maxHeartbeats 8000000 in
theorem reff_other (a b c : ByteArray) (hB : (b.toList == lB) = false) (hI : (b.toList == lI) = false) (hS : (b.toList == lS) = false) (hL : (b.toList == lL) = false) (w : World) : Calls Tryz.prog 16 #[F4 2 a b c] w fun e w' => e = .returned (.int .i64 2) ∧ Below w.heap.size w w' := by
  go_enter Tryz.func16, Tryz.ntmps16
  go_wp2
  go_ret
  exact ⟨rfl, (Below.refl _ _).alloc (Nat.le_refl _) _⟩
theorem l_ne {b : ByteArray} {x y : List UInt8} (h : (b.toList == x) = true) (hxy : (x == y) = false) : (b.toList == y) = false := by
  have e : b.toList = x := by simpa using h
  rw [e]; exact hxy
theorem reff_any (t : Tm) (hs : t.la.size ≤ 100000) (w : World) : Calls Tryz.prog 16 #[T4 t] w fun e w' => e = .returned (.int .i64 (eff t)) ∧ Below w.heap.size w w' := by
  match t, hs with
  | .blank s, _ => exact reff_no 0 (by decide) _ _ _ w
  | .iri s, _ => exact reff_no 1 (by decide) _ _ _ w
  | .odd n, _ => exact reff_no 3 (by decide) _ _ _ w
  | .none, _ => exact reff_no 3 (by decide) _ _ _ w
  | .lit a b c, hs =>
    have hr : eff (.lit a b c) = (if (b.toList == lB) = true then tru (asB (.lit a b c)).1 (asB (.lit a b c)).2 else if (b.toList == lI) = true then tru ((asI (.lit a b c)).1 != 0) (asI (.lit a b c)).2 else if (b.toList == lS || b.toList == lL) = true then (if (!a.toList.isEmpty) = true then 1 else 0) else 2) := rfl
    rw [hr]
    cases hB : (b.toList == lB)
    · cases hI : (b.toList == lI)
      · cases hS : (b.toList == lS)
        · cases hL : (b.toList == lL)
          · exact reff_other a b c hB hI hS hL w
          · exact reff_text a b c (.inr ⟨hS, hL⟩) w
        · exact reff_text a b c (.inl hS) w
      · exact reff_int a b c hI (l_ne hI (by decide)) (l_ne hI (by decide)) hs w
    · exact reff_bool a b c hB (l_ne hB (by decide)) (l_ne hB (by decide)) (l_ne hB (by decide)) w
end Go.Proofs.YtaoelnfflkkeeaaGreatDoor
