/-
  MERGED (a claim has at most 60 files): TTerm, TEqualB.
-/
import Derived.Test.YtpnfjjgihkmjmaaZ15
import Derived.Deep.RegionHeld3
/-
  THE LAW'S TERMS: short, plain, Real.
-/
namespace Go.Proofs.Ytpnfjjgihkmjmaa
open Go.RowKit
set_option linter.unusedVariables false

/-- The term that the law makes of one. -/
def tmOf (k : Int) (a b c : ByteArray) : Tm := if k % 4 = 0 then .blank a else if k % 4 = 1 then .iri a else if k % 4 = 2 then .lit a b c else .odd 0
abbrev T4 (t : Tm) : Value := F4 t.kind t.ta t.tb t.tc
set_option maxHeartbeats 2000000 in
theorem real_any (t : Tm) (ht : t = tmOf 0 t.ta t.tb t.tc ∨ t = tmOf 1 t.ta t.tb t.tc ∨ t = tmOf 2 t.ta t.tb t.tc ∨ t = .odd 0) (w : World) : Calls Try.prog 12 #[T4 t] w fun e w' => e = .returned t.val ∧ Below w.heap.size w w' := by
  match t, ht with
  | .blank s, _ =>
    simp only [T4, Tm.kind, Tm.ta, Tm.tb, Tm.tc, Tm.val]
    go_enter Try.func12, Try.ntmps12
    go_wp2
    go_ret
    exact ⟨rfl, (Below.refl _ _).alloc (Nat.le_refl _) _⟩
  | .iri s, _ =>
    simp only [T4, Tm.kind, Tm.ta, Tm.tb, Tm.tc, Tm.val]
    go_enter Try.func12, Try.ntmps12
    go_wp2
    go_ret
    exact ⟨rfl, (Below.refl _ _).alloc (Nat.le_refl _) _⟩
  | .lit a b c, _ =>
    simp only [T4, Tm.kind, Tm.ta, Tm.tb, Tm.tc, Tm.val]
    go_enter Try.func12, Try.ntmps12
    go_wp2
    go_ret
    exact ⟨rfl, (Below.refl _ _).alloc (Nat.le_refl _) _⟩
  | .odd n, h =>
    obtain rfl : n = 0 := by
      rcases h with h | h | h | h
      · simp [tmOf] at h
      · simp [tmOf] at h
      · simp [tmOf] at h
      · simpa using h
    simp only [T4, Tm.kind, Tm.ta, Tm.tb, Tm.tc, Tm.val]
    go_enter Try.func12, Try.ntmps12
    go_wp2
    go_ret
    exact ⟨rfl, (Below.refl _ _).alloc (Nat.le_refl _) _⟩
  | .none, h =>
    exfalso
    rcases h with h | h | h | h <;> simp [tmOf] at h
end Go.Proofs.Ytpnfjjgihkmjmaa

/-
  TermEquals: its words; being of one value is handed on; terms that are long.
-/
namespace Go.Proofs.Ytpnfjjgihkmjmaa
open Go.RowKit
set_option linter.unusedVariables false

theorem bytes_ext {a b : ByteArray} (h : (a.toList == b.toList) = true) : a = b := by
  rw [beq_iff_eq, ByteArray.toList_eq, ByteArray.toList_eq] at h
  exact ByteArray.ext (Array.ext' h)
theorem orT_zero {u v : Int} : orT u v = 0 ↔ u = 0 ∧ v = 0 := by
  unfold orT
  by_cases h : u = 0
  · rw [if_pos h]; simp [h]
  · rw [if_neg h]; simp [h]
/-- Three terms' boxes. -/
abbrev R4 (k : Int) (a b c : ByteArray) : Array Value := #[.int .i64 k, .string a, .string b, .string c]
def Cells4 (W : World) (g : Nat) (k : Int) (a b c : ByteArray) : Prop := W.cell? ⟨g, 0, none⟩ = some (.int .i64 k) ∧ W.cell? ⟨g, 1, none⟩ = some (.string a) ∧ W.cell? ⟨g, 2, none⟩ = some (.string b) ∧ W.cell? ⟨g, 3, none⟩ = some (.string c)
theorem Fb.four {W : World} {g : Nat} {k : Int} {a b c : ByteArray} (h : Fb W g 32 (R4 k a b c)) : Cells4 W g k a b c := ⟨h.cell 0, h.cell 1, h.cell 2, h.cell 3⟩
end Go.Proofs.Ytpnfjjgihkmjmaa
