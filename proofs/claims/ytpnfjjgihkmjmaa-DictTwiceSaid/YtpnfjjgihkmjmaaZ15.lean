/-
  MERGED (a claim has at most 60 files): TMake, TTerm.
-/
import Derived.Test.YtpnfjjgihkmjmaaZ14
import Derived.Test.YtpnfjjgihkmjmaaZ13
import Derived.Deep.RegionHeld3
/-
  LITERALS THAT ARE MADE: Plain, Int, Bool.
-/
namespace Go.Proofs.Ytpnfjjgihkmjmaa
open Go.RowKit
set_option linter.unusedVariables false

theorem Fb.free {w : World} {g : Nat} {t : TypeId} {cs : Array Value} (h : Fb w g t cs) (i : Nat) : w.frozen? ⟨g, i, none⟩ = false := by
  unfold Fb at h
  simp [World.frozen?, h]
end Go.Proofs.Ytpnfjjgihkmjmaa

/-
  THE LAW'S TERMS: short, plain, Real.
-/
namespace Go.Proofs.Ytpnfjjgihkmjmaa
open Go.RowKit
set_option linter.unusedVariables false

/-- The term that the law makes of one. -/
def tmOf (k : Int) (a b c : ByteArray) : Tm := if k % 4 = 0 then .blank a else if k % 4 = 1 then .iri a else if k % 4 = 2 then .lit a b c else .odd 0
abbrev T4 (t : Tm) : Value := F4 t.kind t.ta t.tb t.tc
set_option maxHeartbeats 2000000 in
theorem real_any (t : Tm) (ht : t = tmOf 0 t.ta t.tb t.tc ∨ t = tmOf 1 t.ta t.tb t.tc ∨ t = tmOf 2 t.ta t.tb t.tc ∨ t = .odd 0) (w : World) : Calls Try.prog 12 #[T4 t] w fun e w' => e = .returned t.val ∧ Below w.heap.size w w' := by
  match t, ht with
  | .blank s, _ =>
    simp only [T4, Tm.kind, Tm.ta, Tm.tb, Tm.tc, Tm.val]
    go_enter Try.func12, Try.ntmps12
    go_wp2
    go_ret
    exact ⟨rfl, (Below.refl _ _).alloc (Nat.le_refl _) _⟩
  | .iri s, _ =>
    simp only [T4, Tm.kind, Tm.ta, Tm.tb, Tm.tc, Tm.val]
    go_enter Try.func12, Try.ntmps12
    go_wp2
    go_ret
    exact ⟨rfl, (Below.refl _ _).alloc (Nat.le_refl _) _⟩
  | .lit a b c, _ =>
    simp only [T4, Tm.kind, Tm.ta, Tm.tb, Tm.tc, Tm.val]
    go_enter Try.func12, Try.ntmps12
    go_wp2
    go_ret
    exact ⟨rfl, (Below.refl _ _).alloc (Nat.le_refl _) _⟩
  | .odd n, h =>
    obtain rfl : n = 0 := by
      rcases h with h | h | h | h
      · simp [tmOf] at h
      · simp [tmOf] at h
      · simp [tmOf] at h
      · simpa using h
    simp only [T4, Tm.kind, Tm.ta, Tm.tb, Tm.tc, Tm.val]
    go_enter Try.func12, Try.ntmps12
    go_wp2
    go_ret
    exact ⟨rfl, (Below.refl _ _).alloc (Nat.le_refl _) _⟩
  | .none, h =>
    exfalso
    rcases h with h | h | h | h <;> simp [tmOf] at h
end Go.Proofs.Ytpnfjjgihkmjmaa
