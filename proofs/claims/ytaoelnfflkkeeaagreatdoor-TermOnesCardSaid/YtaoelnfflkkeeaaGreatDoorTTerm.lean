/-
  THE LAW'S TERMS: short, plain, Real.
-/
import Derived.Test.YtaoelnfflkkeeaaGreatDoorTMake
namespace Go.Proofs.YtaoelnfflkkeeaaGreatDoor
open Go.RowKit
set_option linter.unusedVariables false

/-- Is a term short? -/
def shortB (a b c : ByteArray) : Bool := decide (a.size ≤ 5000) && (decide (b.size ≤ 300) && decide (c.size ≤ 100))
set_option maxHeartbeats 2000000 in
theorem short_any (k : Int) (a b c : ByteArray) (w : World) : Calls Tryz.prog 5 #[F4 k a b c] w fun e w' => e = .returned (.bool (shortB a b c)) ∧ Below w.heap.size w w' := by
  obtain ⟨r, hr⟩ : ∃ r, r = shortB a b c := ⟨_, rfl⟩
  rw [← hr]
  unfold shortB at hr
  by_cases h1 : a.size ≤ 5000
  · have k1 : (a.size : Int) ≤ 5000 := by omega
    rw [decide_eq_true h1, Bool.true_and] at hr
    by_cases h2 : b.size ≤ 300
    · have k2 : (b.size : Int) ≤ 300 := by omega
      rw [decide_eq_true h2, Bool.true_and] at hr
      by_cases h3 : c.size ≤ 100
      · have k3 : (c.size : Int) ≤ 100 := by omega
        rw [decide_eq_true h3] at hr
        subst hr
        clear h1 h2 h3
        go_enter Tryz.func5, Tryz.ntmps5
        go_wp2
        go_ret
        exact ⟨rfl, (Below.refl _ _).alloc (Nat.le_refl _) _⟩
      · have k3 : ¬ (c.size : Int) ≤ 100 := by omega
        rw [decide_eq_false h3] at hr
        subst hr
        clear h1 h2 h3
        go_enter Tryz.func5, Tryz.ntmps5
        go_wp2
        go_ret
        exact ⟨rfl, (Below.refl _ _).alloc (Nat.le_refl _) _⟩
    · have k2 : ¬ (b.size : Int) ≤ 300 := by omega
      rw [decide_eq_false h2, Bool.false_and] at hr
      subst hr
      clear h1 h2
      go_enter Tryz.func5, Tryz.ntmps5
      go_wp2
      go_ret
      exact ⟨rfl, (Below.refl _ _).alloc (Nat.le_refl _) _⟩
  · have k1 : ¬ (a.size : Int) ≤ 5000 := by omega
    rw [decide_eq_false h1, Bool.false_and] at hr
    subst hr
    clear h1
    go_enter Tryz.func5, Tryz.ntmps5
    go_wp2
    go_ret
    exact ⟨rfl, (Below.refl _ _).alloc (Nat.le_refl _) _⟩
/-- The term that the law makes of one. -/
def tmOf (k : Int) (a b c : ByteArray) : Tm := if k % 4 = 0 then .blank a else if k % 4 = 1 then .iri a else if k % 4 = 2 then .lit a b c else .odd 0
abbrev T4 (t : Tm) : Value := F4 t.kind t.ta t.tb t.tc
set_option maxHeartbeats 2000000 in
theorem plainT_any (k : Int) (hk : -9223372036854775808 ≤ k ∧ k ≤ 9223372036854775807) (a b c : ByteArray) (w : World) : Calls Tryz.prog 6 #[F4 k a b c] w fun e w' => e = .returned (T4 (tmOf k a b c)) ∧ Below w.heap.size w w' := by
  obtain ⟨r, hr⟩ : ∃ r, r = k % 4 := ⟨_, rfl⟩
  have h4 : r = 0 ∨ r = 1 ∨ r = 2 ∨ r = 3 := by omega
  have hw : wrap64 ((IntKind.u64.wrap k).tmod 4) = r := by
    rw [show IntKind.u64.wrap k = k % 18446744073709551616 from rfl, Int.tmod_eq_emod_of_nonneg (by omega)]
    have : k % 18446744073709551616 % 4 = r := by omega
    rw [this]
    exact IntWalk.wrap64_in r ⟨by omega, by omega⟩
  unfold tmOf
  rw [← hr]
  clear hr hk
  rcases h4 with rfl | rfl | rfl | rfl
  · rw [if_pos rfl]
    simp only [T4, Tm.kind, Tm.ta, Tm.tb, Tm.tc]
    go_enter Tryz.func6, Tryz.ntmps6
    go_wp2
    exact bodyPost_ret (v := F4 0 a mt mt) (by simp [results, Tryz.results6, go_sem]) rfl ⟨rfl, ((Below.refl _ _).alloc (Nat.le_refl _) _).alloc (by simp) _⟩
  · rw [if_neg (by decide), if_pos rfl]
    simp only [T4, Tm.kind, Tm.ta, Tm.tb, Tm.tc]
    go_enter Tryz.func6, Tryz.ntmps6
    go_wp2
    exact bodyPost_ret (v := F4 1 a mt mt) (by simp [results, Tryz.results6, go_sem]) rfl ⟨rfl, ((Below.refl _ _).alloc (Nat.le_refl _) _).alloc (by simp) _⟩
  · rw [if_neg (by decide), if_neg (by decide), if_pos rfl]
    simp only [T4, Tm.kind, Tm.ta, Tm.tb, Tm.tc]
    go_enter Tryz.func6, Tryz.ntmps6
    go_wp2
    exact bodyPost_ret (v := F4 2 a b c) (by simp [results, Tryz.results6, go_sem]) rfl ⟨rfl, ((Below.refl _ _).alloc (Nat.le_refl _) _).alloc (by simp) _⟩
  · rw [if_neg (by decide), if_neg (by decide), if_neg (by decide)]
    simp only [T4, Tm.kind, Tm.ta, Tm.tb, Tm.tc]
    go_enter Tryz.func6, Tryz.ntmps6
    go_wp2
    exact bodyPost_ret (v := F4 3 mt mt mt) (by simp [results, Tryz.results6, go_sem]) rfl ⟨rfl, ((Below.refl _ _).alloc (Nat.le_refl _) _).alloc (by simp) _⟩
set_option maxHeartbeats 2000000 in
theorem real_any (t : Tm) (ht : t = tmOf 0 t.ta t.tb t.tc ∨ t = tmOf 1 t.ta t.tb t.tc ∨ t = tmOf 2 t.ta t.tb t.tc ∨ t = .odd 0) (w : World) : Calls Tryz.prog 7 #[T4 t] w fun e w' => e = .returned t.val ∧ Below w.heap.size w w' := by
  match t, ht with
  | .blank s, _ =>
    simp only [T4, Tm.kind, Tm.ta, Tm.tb, Tm.tc, Tm.val]
    go_enter Tryz.func7, Tryz.ntmps7
    go_wp2
    go_ret
    exact ⟨rfl, (Below.refl _ _).alloc (Nat.le_refl _) _⟩
  | .iri s, _ =>
    simp only [T4, Tm.kind, Tm.ta, Tm.tb, Tm.tc, Tm.val]
    go_enter Tryz.func7, Tryz.ntmps7
    go_wp2
    go_ret
    exact ⟨rfl, (Below.refl _ _).alloc (Nat.le_refl _) _⟩
  | .lit a b c, _ =>
    simp only [T4, Tm.kind, Tm.ta, Tm.tb, Tm.tc, Tm.val]
    go_enter Tryz.func7, Tryz.ntmps7
    go_wp2
    go_ret
    exact ⟨rfl, (Below.refl _ _).alloc (Nat.le_refl _) _⟩
  | .odd n, h =>
    obtain rfl : n = 0 := by
      rcases h with h | h | h | h
      · simp [tmOf] at h
      · simp [tmOf] at h
      · simp [tmOf] at h
      · simpa using h
    simp only [T4, Tm.kind, Tm.ta, Tm.tb, Tm.tc, Tm.val]
    go_enter Tryz.func7, Tryz.ntmps7
    go_wp2
    go_ret
    exact ⟨rfl, (Below.refl _ _).alloc (Nat.le_refl _) _⟩
  | .none, h =>
    exfalso
    rcases h with h | h | h | h <;> simp [tmOf] at h
theorem realT_any (k : Int) (a b c : ByteArray) (w : World) : Calls Tryz.prog 7 #[T4 (tmOf k a b c)] w fun e w' => e = .returned (tmOf k a b c).val ∧ Below w.heap.size w w' := by
  apply real_any
  unfold tmOf
  have h4 : k % 4 = 0 ∨ k % 4 = 1 ∨ k % 4 = 2 ∨ k % 4 = 3 := by omega
  rcases h4 with h | h | h | h <;> simp [h, Tm.ta, Tm.tb, Tm.tc]
theorem tmOf_la (k : Int) (a b c : ByteArray) : (tmOf k a b c).la = a ∨ (tmOf k a b c).la = mt := by
  unfold tmOf
  have h4 : k % 4 = 0 ∨ k % 4 = 1 ∨ k % 4 = 2 ∨ k % 4 = 3 := by omega
  rcases h4 with h | h | h | h <;> simp [h, Tm.la, Tm.isLit, Tm.ta]
theorem tmOf_size (k : Int) (a b c : ByteArray) (h : a.size ≤ 5000) : (tmOf k a b c).la.size ≤ 1000000 := by
  rcases tmOf_la k a b c with e | e
  · rw [e]; omega
  · rw [e]; decide
end Go.Proofs.YtaoelnfflkkeeaaGreatDoor
