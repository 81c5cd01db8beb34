/-
  THE LAW'S TERMS: short, plain, Real.
-/
import Derived.Test.YtbecjlmbalcgeaaDoorTMake
namespace Go.Proofs.YtbecjlmbalcgeaaDoor
open Go.RowKit
set_option linter.unusedVariables false

/-- Is a term short? -/
def shortB (a b c : ByteArray) : Bool := decide (a.size ≤ 5000) && (decide (b.size ≤ 300) && decide (c.size ≤ 100))
set_option maxHeartbeats 2000000 in
theorem short_any (k : Int) (a b c : ByteArray) (w : World) : Calls Tryd.prog 5 #[F4 k a b c] w fun e w' => e = .returned (.bool (shortB a b c)) ∧ Below w.heap.size w w' := by
  obtain ⟨r, hr⟩ : ∃ r, r = shortB a b c := ⟨_, rfl⟩
  rw [← hr]
  unfold shortB at hr
  by_cases h1 : a.size ≤ 5000
  · have k1 : (a.size : Int) ≤ 5000 := by omega
    rw [decide_eq_true h1, Bool.true_and] at hr
    by_cases h2 : b.size ≤ 300
    · have k2 : (b.size : Int) ≤ 300 := by omega
      rw [decide_eq_true h2, Bool.true_and] at hr
      by_cases h3 : c.size ≤ 100
      · have k3 : (c.size : Int) ≤ 100 := by omega
        rw [decide_eq_true h3] at hr
        subst hr
        clear h1 h2 h3
        go_enter Tryd.func5, Tryd.ntmps5
        go_wp2
        go_ret
        exact ⟨rfl, (Below.refl _ _).alloc (Nat.le_refl _) _⟩
      · have k3 : ¬ (c.size : Int) ≤ 100 := by omega
        rw [decide_eq_false h3] at hr
        subst hr
        clear h1 h2 h3
        go_enter Tryd.func5, Tryd.ntmps5
        go_wp2
        go_ret
        exact ⟨rfl, (Below.refl _ _).alloc (Nat.le_refl _) _⟩
    · have k2 : ¬ (b.size : Int) ≤ 300 := by omega
      rw [decide_eq_false h2, Bool.false_and] at hr
      subst hr
      clear h1 h2
      go_enter Tryd.func5, Tryd.ntmps5
      go_wp2
      go_ret
      exact ⟨rfl, (Below.refl _ _).alloc (Nat.le_refl _) _⟩
  · have k1 : ¬ (a.size : Int) ≤ 5000 := by omega
    rw [decide_eq_false h1, Bool.false_and] at hr
    subst hr
    clear h1
    go_enter Tryd.func5, Tryd.ntmps5
    go_wp2
    go_ret
    exact ⟨rfl, (Below.refl _ _).alloc (Nat.le_refl _) _⟩
/-- The term that the law makes of one. -/
def tmOf (k : Int) (a b c : ByteArray) : Tm := if k % 4 = 0 then .blank a else if k % 4 = 1 then .iri a else if k % 4 = 2 then .lit a b c else .odd 0
abbrev T4 (t : Tm) : Value := F4 t.kind t.ta t.tb t.tc
set_option maxHeartbeats 2000000 in
theorem real_any (t : Tm) (ht : t = tmOf 0 t.ta t.tb t.tc ∨ t = tmOf 1 t.ta t.tb t.tc ∨ t = tmOf 2 t.ta t.tb t.tc ∨ t = .odd 0) (w : World) : Calls Tryd.prog 7 #[T4 t] w fun e w' => e = .returned t.val ∧ Below w.heap.size w w' := by
  match t, ht with
  | .blank s, _ =>
    simp only [T4, Tm.kind, Tm.ta, Tm.tb, Tm.tc, Tm.val]
    go_enter Tryd.func7, Tryd.ntmps7
    go_wp2
    go_ret
    exact ⟨rfl, (Below.refl _ _).alloc (Nat.le_refl _) _⟩
  | .iri s, _ =>
    simp only [T4, Tm.kind, Tm.ta, Tm.tb, Tm.tc, Tm.val]
    go_enter Tryd.func7, Tryd.ntmps7
    go_wp2
    go_ret
    exact ⟨rfl, (Below.refl _ _).alloc (Nat.le_refl _) _⟩
  | .lit a b c, _ =>
    simp only [T4, Tm.kind, Tm.ta, Tm.tb, Tm.tc, Tm.val]
    go_enter Tryd.func7, Tryd.ntmps7
    go_wp2
    go_ret
    exact ⟨rfl, (Below.refl _ _).alloc (Nat.le_refl _) _⟩
  | .odd n, h =>
    obtain rfl : n = 0 := by
      rcases h with h | h | h | h
      · simp [tmOf] at h
      · simp [tmOf] at h
      · simp [tmOf] at h
      · simpa using h
    simp only [T4, Tm.kind, Tm.ta, Tm.tb, Tm.tc, Tm.val]
    go_enter Tryd.func7, Tryd.ntmps7
    go_wp2
    go_ret
    exact ⟨rfl, (Below.refl _ _).alloc (Nat.le_refl _) _⟩
  | .none, h =>
    exfalso
    rcases h with h | h | h | h <;> simp [tmOf] at h
theorem realT_any (k : Int) (a b c : ByteArray) (w : World) : Calls Tryd.prog 7 #[T4 (tmOf k a b c)] w fun e w' => e = .returned (tmOf k a b c).val ∧ Below w.heap.size w w' := by
  apply real_any
  unfold tmOf
  have h4 : k % 4 = 0 ∨ k % 4 = 1 ∨ k % 4 = 2 ∨ k % 4 = 3 := by omega
  rcases h4 with h | h | h | h <;> simp [h, Tm.ta, Tm.tb, Tm.tc]
theorem tmOf_la (k : Int) (a b c : ByteArray) : (tmOf k a b c).la = a ∨ (tmOf k a b c).la = mt := by
  unfold tmOf
  have h4 : k % 4 = 0 ∨ k % 4 = 1 ∨ k % 4 = 2 ∨ k % 4 = 3 := by omega
  rcases h4 with h | h | h | h <;> simp [h, Tm.la, Tm.isLit, Tm.ta]
end Go.Proofs.YtbecjlmbalcgeaaDoor
