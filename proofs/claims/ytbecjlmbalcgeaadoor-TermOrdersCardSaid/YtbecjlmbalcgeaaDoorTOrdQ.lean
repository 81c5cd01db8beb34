/-
  WHAT THE LAW ON ORDERS COMPARES, plain.
-/
import Derived.Test.YtbecjlmbalcgeaaDoorTOrdP
namespace Go.Proofs.YtbecjlmbalcgeaaDoor
open Go.RowKit
set_option linter.unusedVariables false

def lessM (x y : Tm) : Bool := lessT x.kind x.ta x.tb x.tc y.kind y.ta y.tb y.tc
def eqF (x y : Tm) : Bool := (x.kind == y.kind) && ((x.ta.toList == y.ta.toList) && ((x.tb.toList == y.tb.toList) && (x.tc.toList == y.tc.toList)))
theorem beq_bytes (a b : ByteArray) : (a.toList == b.toList) = decide (a = b) := by
  rw [Bool.eq_iff_iff, beq_iff_eq, decide_eq_true_eq]
  exact ⟨list_bytes, fun e => by rw [e]⟩
theorem eqF_ord (x y : Tm) : (ordB x y == 0) = eqF x y := by
  unfold eqF
  simp only [beq_bytes]
  rw [Bool.eq_iff_iff, beq_iff_eq, ordB_zero]
  unfold kOf
  simp only [Prod.mk.injEq, Bool.and_eq_true, decide_eq_true_eq, beq_iff_eq]
theorem less_ordS (a b : ByteArray) : Op.bytesLess a.toList b.toList = decide (ordS a b = -1) := by
  rcases ordS_cases a b with ⟨h, e⟩ | ⟨h, e⟩ | ⟨h, e⟩
  · rw [h, e]; rfl
  · subst h; rw [less_irr, e]; rfl
  · rw [less_asym _ _ h, e]; rfl
theorem lessM_ord (x y : Tm) : lessM x y = decide (ordB x y = -1) := by
  unfold lessM lessT ordB ord3 orT ordT
  simp only [beq_bytes, less_ordS]
  by_cases hk : x.kind = y.kind
  · have e0 : (x.kind != y.kind) = false := by simp [hk]
    rw [e0, if_neg (by decide), hk, if_neg (Int.lt_irrefl _), if_neg (Int.lt_irrefl _), if_pos rfl]
    by_cases ha : x.ta = y.ta
    · rw [decide_eq_true ha, if_neg (by decide), if_pos ((ordS_whole.zero _ _).2 ha)]
      by_cases hb : x.tb = y.tb
      · rw [decide_eq_true hb, if_neg (by decide), if_pos ((ordS_whole.zero _ _).2 hb)]
      · rw [decide_eq_false hb, if_pos rfl, if_neg (fun e => hb ((ordS_whole.zero _ _).1 e))]
    · rw [decide_eq_false ha, if_pos rfl, if_neg (fun e => ha ((ordS_whole.zero _ _).1 e))]
  · have e0 : (x.kind != y.kind) = true := by simp [hk]
    rw [e0, if_pos rfl]
    by_cases h1 : x.kind < y.kind
    · rw [if_pos h1, decide_eq_true h1, if_neg (by decide)]; rfl
    · rw [if_neg h1, if_pos (show y.kind < x.kind by omega), decide_eq_false h1, if_neg (show ¬ (1 : Int) = 0 by decide)]; rfl
/-- What the law wants of the order. -/
theorem want_ord (x y : Tm) : (lessM x y = true ∧ ordB x y = -1) ∨ (lessM x y = false ∧ lessM y x = true ∧ ordB x y = 1) ∨ (lessM x y = false ∧ lessM y x = false ∧ ordB x y = 0) := by
  rw [lessM_ord, lessM_ord, ordB_anti x y]
  have := ord_whole.rng (kOf x) (kOf y)
  rw [← ordB_lex] at this
  rcases this with h | h | h <;> rw [h] <;> simp
theorem sameB_eqF (x y : Tm) : sameB x y = (eqF x y && decide (x.kind < 3)) := by
  have hk : (x.kind != 3) = decide (x.kind < 3) := by cases x <;> rfl
  unfold sameB same4 eqF
  rw [hk, Bool.and_comm]
theorem eqF_comm (x y : Tm) : eqF x y = eqF y x := by
  rw [← eqF_ord, ← eqF_ord, ordB_anti x y, Bool.eq_iff_iff, beq_iff_eq, beq_iff_eq]
  omega
theorem eqF_refl (x : Tm) : eqF x x = true := by
  unfold eqF; simp
theorem sameB_comm (x y : Tm) : sameB x y = sameB y x := by
  cases h : eqF x y
  · rw [sameB_eqF, sameB_eqF, ← eqF_comm x y, h]; rfl
  · have : x.kind = y.kind := by
      unfold eqF at h
      rw [Bool.and_eq_true, beq_iff_eq] at h
      exact h.1
    rw [sameB_eqF, sameB_eqF, ← eqF_comm x y, h, this]
theorem orT_tru (b b' : Bool) (u v : Int) (h : b = b') : tru b (orT u v) = tru b' (orT v u) := by
  subst h
  unfold tru
  by_cases h1 : orT u v = 0
  · have := orT_zero.1 h1
    rw [if_pos h1, if_pos (orT_zero.2 ⟨this.2, this.1⟩)]
  · rw [if_neg h1, if_neg (fun e => h1 (orT_zero.2 ⟨(orT_zero.1 e).2, (orT_zero.1 e).1⟩))]
theorem eqv_comm (x y : Tm) : eqv x y = eqv y x := by
  unfold eqv eqI eqB
  rw [sameB_comm x y, Bool.and_comm x.isLit, Bool.and_comm (x.tb.toList == lI), Bool.and_comm (x.tb.toList == lB), Bool.and_comm (known x.tb)]
  rw [orT_tru _ ((asI y).1 == (asI x).1) (asI x).2 (asI y).2 (by rw [Bool.eq_iff_iff, beq_iff_eq, beq_iff_eq]; exact eq_comm), orT_tru _ ((asB y).1 == (asB x).1) (asB x).2 (asB y).2 (by rw [Bool.eq_iff_iff, beq_iff_eq, beq_iff_eq]; exact eq_comm)]
theorem eqv_refl (x : Tm) (h : x.kind < 3) : eqv x x = 1 := by
  unfold eqv
  rw [sameB_eqF, eqF_refl, decide_eq_true h]
  rfl
end Go.Proofs.YtbecjlmbalcgeaaDoor
