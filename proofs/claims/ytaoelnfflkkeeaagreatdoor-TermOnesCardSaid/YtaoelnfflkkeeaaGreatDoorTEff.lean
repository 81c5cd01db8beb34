/-
  A TERM AS A TRUTH; the order of terms.
-/
import Derived.Test.YtaoelnfflkkeeaaGreatDoorTEqB
namespace Go.Proofs.YtaoelnfflkkeeaaGreatDoor
open Go.RowKit
set_option linter.unusedVariables false

def eff (t : Tm) : Int := if t.isLit = true then (if (t.tb.toList == lB) = true then tru (asB t).1 (asB t).2 else if (t.tb.toList == lI) = true then tru ((asI t).1 != 0) (asI t).2 else if (t.tb.toList == lS || t.tb.toList == lL) = true then (if (!t.la.toList.isEmpty) = true then 1 else 0) else 2) else 2
theorem eff_nolit (t : Tm) (h : t.isLit = false) (w : World) : Calls Tryz.prog 15 #[t.val] w fun e w' => e = .returned (.int .u8 2) ∧ Below w.heap.size w w' := by
  have cA := asLit_any t w
  rw [h] at cA
  obtain ⟨a, ha⟩ : ∃ k, k = t.la := ⟨_, rfl⟩
  obtain ⟨b, hb⟩ : ∃ k, k = t.tb := ⟨_, rfl⟩
  obtain ⟨c, hc⟩ : ∃ k, k = t.tc := ⟨_, rfl⟩
  obtain ⟨v, hvv⟩ : ∃ k, k = t.val := ⟨_, rfl⟩
  rw [← ha, ← hb, ← hc, ← hvv] at cA
  rw [← hvv]
  clear ha hb hc hvv h
  go_enter Tryz.func15, Tryz.ntmps15
  go_wp2_with (go_at_call 22; (with_reducible refine cA.mono ?_); rintro e w1 ⟨rfl, hb1⟩)
  go_ret
  exact ⟨rfl, hb1.alloc hb1.size _⟩
set_option maxRecDepth 100000 in
set_option maxHeartbeats 8000000 in
theorem eff_lit (a b c : ByteArray) (hs : a.size ≤ 1000000) (w : World) (hv : LV w) : Calls Tryz.prog 15 #[(Tm.lit a b c).val] w fun e w' => e = .returned (.int .u8 (eff (.lit a b c))) ∧ Below w.heap.size w w' := by
  have cA : ∀ W, Calls Tryz.prog 22 #[(Tm.lit a b c).val] W _ := asLit_any (.lit a b c)
  have cI := asInt_any (.lit a b c) hs
  have cB := asBool_any (.lit a b c)
  have hr : eff (.lit a b c) = (if (b.toList == lB) = true then tru (asB (.lit a b c)).1 (asB (.lit a b c)).2 else if (b.toList == lI) = true then tru ((asI (.lit a b c)).1 != 0) (asI (.lit a b c)).2 else if (b.toList == lS || b.toList == lL) = true then (if (!a.toList.isEmpty) = true then 1 else 0) else 2) := rfl
  obtain ⟨r, hrr⟩ : ∃ k, k = eff (.lit a b c) := ⟨_, rfl⟩
  obtain ⟨z, hz⟩ : ∃ k, k = (asI (.lit a b c)).1 := ⟨_, rfl⟩
  obtain ⟨u, hu⟩ : ∃ k, k = (asI (.lit a b c)).2 := ⟨_, rfl⟩
  obtain ⟨y, hy⟩ : ∃ k, k = (asB (.lit a b c)).1 := ⟨_, rfl⟩
  obtain ⟨x, hx⟩ : ∃ k, k = (asB (.lit a b c)).2 := ⟨_, rfl⟩
  rw [← hrr, ← hz, ← hu, ← hy, ← hx] at hr
  rw [← hz, ← hu] at cI
  rw [← hy, ← hx] at cB
  rw [← hrr]
  have hLV := Lib.hid hv
  have cT1 := truthOf_any y x
  have cT2 := truthOf_any (z != 0) u
  have cO := of_any (!a.toList.isEmpty)
  obtain ⟨e1, he1⟩ : ∃ k, k = tru y x := ⟨_, rfl⟩
  obtain ⟨e2, he2⟩ : ∃ k, k = tru (z != 0) u := ⟨_, rfl⟩
  obtain ⟨e3, he3⟩ : ∃ k : Int, k = if (!a.toList.isEmpty) = true then 1 else 0 := ⟨_, rfl⟩
  rw [← he1, ← he2, ← he3] at hr
  rw [← he1] at cT1
  rw [← he2] at cT2
  rw [← he3] at cO
  clear hrr hz hu hy hx he1 he2 he3 hs hv
  simp only [Tm.val, Tm.la, Tm.isLit, Tm.ta, Tm.tb, Tm.tc, if_true] at cA cI cB ⊢
  have ways : ((b.toList == lB) = true ∧ r = e1) ∨ ((b.toList == lB) = false ∧ (((b.toList == lI) = true ∧ r = e2) ∨ ((b.toList == lI) = false ∧ (((b.toList == lS) = true ∧ r = e3) ∨ ((b.toList == lS) = false ∧ (((b.toList == lL) = true ∧ r = e3) ∨ ((b.toList == lL) = false ∧ r = 2))))))) := by
    cases h1 : (b.toList == lI) <;> cases h2 : (b.toList == lB) <;> cases h3 : (b.toList == lS) <;> cases h4 : (b.toList == lL) <;> rw [h1, h2, h3, h4] at hr <;> simp at hr <;> simp [hr]
  clear hr
  rcases ways with ⟨h1, hr⟩ | ⟨h1, ⟨h2, hr⟩ | ⟨h2, ⟨h3, hr⟩ | ⟨h3, ⟨h4, hr⟩ | ⟨h4, hr⟩⟩⟩⟩
  all_goals
    have HR := Lib.hid hr
    clear hr
    go_enter Tryz.func15, Tryz.ntmps15
    go_wp2_with (first
      | (go_at_call 22; (with_reducible refine (cA _).mono ?_); rintro e w1 ⟨rfl, hb1⟩; have hb2 := hb1.alloc hb1.size (.cells #[.string a, .string b, .string c] 53))
      | (go_at_call 8; (with_reducible refine (cI _ (hLV.out.below hb2)).mono ?_); rintro e w3 ⟨rfl, hb3⟩; have hb4 := hb2.trans (hb3.mono hb2.size))
      | (go_at_call 9; (with_reducible refine (cB _).mono ?_); rintro e w3 ⟨rfl, hb3⟩; have hb4 := hb2.trans (hb3.mono hb2.size))
      | (go_at_call 30; (with_reducible refine (cT1 _).mono ?_); rintro e w' ⟨rfl, rfl⟩)
      | (go_at_call 30; (with_reducible refine (cT2 _).mono ?_); rintro e w' ⟨rfl, rfl⟩)
      | (go_at_call 31; (with_reducible refine (cO _).mono ?_); rintro e w' ⟨rfl, rfl⟩))
    go_ret
    exact ⟨ret_u8 HR.out.symm, by assumption⟩
theorem eff_any (t : Tm) (hs : t.la.size ≤ 1000000) (w : World) (hv : LV w) : Calls Tryz.prog 15 #[t.val] w fun e w' => e = .returned (.int .u8 (eff t)) ∧ Below w.heap.size w w' := by
  cases hl : t.isLit
  · have := eff_nolit t hl w
    unfold eff
    rw [hl, if_neg (by decide)]
    exact this
  · match t, hl with
    | .lit a b c, _ => exact eff_lit a b c hs w hv
end Go.Proofs.YtaoelnfflkkeeaaGreatDoor
