/-
  MERGED (a claim has at most 60 files): VSizes, VTrim.
-/
import Derived.Test.YtpnfjjgihkmjmaaZ13
import Derived.Test.YtpnfjjgihkmjmaaProg
import Derived.WalkKit
import Derived.Below
import Derived.IntWalk
import Derived.Lib.Hide
import Derived.Deep.LoopGhost
import Derived.Deep.QuietTactic
import Derived.BigQuiet
import Derived.Laws.Rows
/-
  THE DOCUMENT's 'sizes': how two sizes are.
-/
namespace Go.Proofs.Ytpnfjjgihkmjmaa
open Go.RowKit
set_option linter.unusedVariables false

/-- Integers in memory. -/
def DAt (w : World) (A : Option Addr) (l : List Int) : Prop := ∀ (j : Nat) (x : Int), l[j]? = some x → ∃ g o, A = some ⟨g, o, none⟩ ∧ g < w.heap.size ∧ w.cell? ⟨g, o + j, none⟩ = some (.int .i64 x)
theorem DAt.below {w w' : World} {A : Option Addr} {l : List Int} (h : DAt w A l) (hb : Below w.heap.size w w') : DAt w' A l := by
  intro j x hx
  obtain ⟨g, o, e, hg, hc⟩ := h j x hx
  exact ⟨g, o, e, Nat.lt_of_lt_of_le hg hb.size, (hb.cell (p := ⟨g, o + j, none⟩) hg).trans hc⟩
theorem DAt.cellAt {w : World} {g o : Nat} {l : List Int} (h : DAt w (some ⟨g, o, none⟩) l) {j : Nat} {x : Int} (hx : l[j]? = some x) : g < w.heap.size ∧ w.cell? ⟨g, o + j, none⟩ = some (.int .i64 x) := by
  obtain ⟨g', o', e, hg, hc⟩ := h j x hx
  injection e with e
  injection e with e1 e2
  subst e1; subst e2
  exact ⟨hg, hc⟩
theorem DAt.nil (w : World) (A : Option Addr) : DAt w A [] := fun j x hx => by simp at hx
theorem DAt.drewN {w : World} {A : Option Addr} {l : List Int} (h : DAt w A l) (n : Nat) : DAt (w.drewN n) A l := h
end Go.Proofs.Ytpnfjjgihkmjmaa

/-
  THE DOCUMENT's 'trim': a number without noughts ahead.
-/
namespace Go.Proofs.Ytpnfjjgihkmjmaa
open Go.RowKit
set_option linter.unusedVariables false

theorem DAt.take {w : World} {A : Option Addr} {l : List Int} (h : DAt w A l) (k : Nat) : DAt w A (l.take k) := by
  intro j x hx
  refine h j x ?_
  have hj := (List.getElem?_eq_some_iff.1 hx).1
  simp at hj
  rw [List.getElem?_take_of_lt (by omega)] at hx
  exact hx
/-- A number, as the call answers it. -/
def BigV (w : World) (v : Value) (z : Int) : Prop := ∃ A c, v = .agg #[.bool (decide (z < 0)), .slice A (digs z.natAbs).length c] ∧ ((digs z.natAbs).length ≤ c ∧ c ≤ maxLen) ∧ DAt w A (digs z.natAbs)
theorem BigV.below {w w' : World} {v : Value} {z : Int} (h : BigV w v z) (hb : Below w.heap.size w w') : BigV w' v z := by
  obtain ⟨A, c, e, hc, hd⟩ := h
  exact ⟨A, c, e, hc, hd.below hb⟩
end Go.Proofs.Ytpnfjjgihkmjmaa
