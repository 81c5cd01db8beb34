/-
  MERGED (a claim has at most 60 files): VTrim, VFits.
-/
import Derived.Test.YtpnfjjgihkmjmaaZ26
import Derived.Laws.Rows
import Derived.Laws.AppendOwn
import Derived.Laws.OwnMore
import Derived.OwnWalk
/-
  THE DOCUMENT's 'trim': a number without noughts ahead.
-/
namespace Go.Proofs.Ytpnfjjgihkmjmaa
open Go.RowKit
set_option linter.unusedVariables false

theorem DAt.take {w : World} {A : Option Addr} {l : List Int} (h : DAt w A l) (k : Nat) : DAt w A (l.take k) := by
  intro j x hx
  refine h j x ?_
  have hj := (List.getElem?_eq_some_iff.1 hx).1
  simp at hj
  rw [List.getElem?_take_of_lt (by omega)] at hx
  exact hx
/-- A number, as the call answers it. -/
def BigV (w : World) (v : Value) (z : Int) : Prop := ∃ A c, v = .agg #[.bool (decide (z < 0)), .slice A (digs z.natAbs).length c] ∧ ((digs z.natAbs).length ≤ c ∧ c ≤ maxLen) ∧ DAt w A (digs z.natAbs)
theorem BigV.below {w w' : World} {v : Value} {z : Int} (h : BigV w v z) (hb : Below w.heap.size w w') : BigV w' v z := by
  obtain ⟨A, c, e, hc, hd⟩ := h
  exact ⟨A, c, e, hc, hd.below hb⟩
end Go.Proofs.Ytpnfjjgihkmjmaa

/-
  THE DOCUMENT's 'Same' and 'Fits'.
-/
namespace Go.Proofs.Ytpnfjjgihkmjmaa
open Go.RowKit
set_option linter.unusedVariables false

def F64 (x : Int) : Prop := -9223372036854775808 ≤ x ∧ x ≤ 9223372036854775807
theorem DAt.blk {w : World} {A : Option Addr} {l : List Int} (h : DAt w A l) (o : Obj) : DAt (w.alloc o) A l := h.below ((Below.refl _ _).alloc (Nat.le_refl _) o)
end Go.Proofs.Ytpnfjjgihkmjmaa
