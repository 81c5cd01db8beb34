/-
  WHETHER TWO LITERALS ARE OF ONE VALUE; a term as a truth.
-/
import Derived.Test.YtaoelnfflkkeeaaGreatDoorTEqA
namespace Go.Proofs.YtaoelnfflkkeeaaGreatDoor
open Go.RowKit
set_option linter.unusedVariables false

/-- A box of three, behind a call that makes memory. -/
theorem box3 {w2 w4 : World} {a b c : ByteArray} {t : TypeId} (hb : Below (w2.alloc (.cells #[.string a, .string b, .string c] t)).heap.size (w2.alloc (.cells #[.string a, .string b, .string c] t)) w4) :
    w4.cell? ⟨w2.heap.size, 0, none⟩ = some (.string a) ∧ w4.cell? ⟨w2.heap.size, 1, none⟩ = some (.string b) ∧ w4.cell? ⟨w2.heap.size, 2, none⟩ = some (.string c) := by
  have h : Fb w4 w2.heap.size t #[.string a, .string b, .string c] := (Fb.new w2 t _).below hb
  exact ⟨h.cell 0, h.cell 1, h.cell 2⟩
set_option maxRecDepth 100000 in
set_option maxHeartbeats 8000000 in
theorem equal_lits (a b c a' b' c' : ByteArray) (h : sameB (.lit a b c) (.lit a' b' c') = false) (hs : a.size ≤ 1000000) (hs' : a'.size ≤ 1000000) (w : World) (hv : LV w) :
    Calls Tryz.prog 21 #[(Tm.lit a b c).val, (Tm.lit a' b' c').val] w fun e w' => e = .returned (.int .u8 (eqv (.lit a b c) (.lit a' b' c'))) ∧ Below w.heap.size w w' := by
  have cS := same_any (.lit a b c) (.lit a' b' c') w
  rw [h] at cS
  have cx : ∀ W, Calls Tryz.prog 22 #[(Tm.lit a b c).val] W _ := asLit_any (.lit a b c)
  have cy : ∀ W, Calls Tryz.prog 22 #[(Tm.lit a' b' c').val] W _ := asLit_any (.lit a' b' c')
  have cI := eqI_any (.lit a b c) (.lit a' b' c') hs hs'
  have cB := eqB_any (.lit a b c) (.lit a' b' c')
  have hr : eqv (.lit a b c) (.lit a' b' c') = (if ((b.toList == lI) && (b'.toList == lI)) = true then eqI (.lit a b c) (.lit a' b' c') else if ((b.toList == lB) && (b'.toList == lB)) = true then eqB (.lit a b c) (.lit a' b' c') else if (known b && known b') = true then 0 else 2) := by
    unfold eqv
    rw [h, if_neg (by decide), if_pos (show ((Tm.lit a b c).isLit && (Tm.lit a' b' c').isLit) = true from rfl)]
    rfl
  have ck := known_any b
  have ck' := known_any b'
  obtain ⟨r, hrr⟩ : ∃ k, k = eqv (.lit a b c) (.lit a' b' c') := ⟨_, rfl⟩
  obtain ⟨i, hi⟩ : ∃ k, k = eqI (.lit a b c) (.lit a' b' c') := ⟨_, rfl⟩
  obtain ⟨o, ho⟩ : ∃ k, k = eqB (.lit a b c) (.lit a' b' c') := ⟨_, rfl⟩
  obtain ⟨n, hn⟩ : ∃ k, k = known b := ⟨_, rfl⟩
  obtain ⟨n', hn'⟩ : ∃ k, k = known b' := ⟨_, rfl⟩
  rw [← hrr, ← hi, ← ho, ← hn, ← hn'] at hr
  rw [← hi] at cI
  rw [← ho] at cB
  rw [← hn] at ck
  rw [← hn'] at ck'
  rw [← hrr]
  have hLV := Lib.hid hv
  clear hrr hi ho hn hn' h hs hs' hv
  simp only [Tm.val, Tm.la, Tm.isLit, Tm.ta, Tm.tb, Tm.tc, if_true] at cS cx cy cI cB ⊢
  have ways : ((b.toList == lI) = true ∧ (b'.toList == lI) = true ∧ r = i) ∨ (((b.toList == lI) = false ∨ ((b.toList == lI) = true ∧ (b'.toList == lI) = false)) ∧
      (((b.toList == lB) = true ∧ (b'.toList == lB) = true ∧ r = o) ∨ (((b.toList == lB) = false ∨ ((b.toList == lB) = true ∧ (b'.toList == lB) = false)) ∧ ((n = false ∧ r = 2) ∨ (n = true ∧ n' = false ∧ r = 2) ∨ (n = true ∧ n' = true ∧ r = 0))))) := by
    cases h1 : (b.toList == lI) <;> cases h2 : (b'.toList == lI) <;> cases h3 : (b.toList == lB) <;> cases h4 : (b'.toList == lB) <;> cases n <;> cases n' <;> rw [h1, h2, h3, h4] at hr <;> simp at hr <;> simp [hr]
  clear hr
  rcases ways with ⟨h1, h2, hr⟩ | ⟨h1 | ⟨h1, h2⟩, ⟨h3, h4, hr⟩ | ⟨h3 | ⟨h3, h4⟩, ⟨rfl, hr⟩ | ⟨rfl, rfl, hr⟩ | ⟨rfl, rfl, hr⟩⟩⟩
  all_goals
    have HR := Lib.hid hr
    clear hr
    go_enter Tryz.func21, Tryz.ntmps21
    go_wp2_with (first
      | (go_at_call 20; (with_reducible refine cS.mono ?_); rintro e w1 ⟨rfl, hb1⟩)
      | (go_at_call 22; (with_reducible refine (cx _).mono ?_); rintro e w2 ⟨rfl, hb2⟩; have hb3 := (hb1.trans (hb2.mono hb1.size)).alloc (Nat.le_trans hb1.size hb2.size) (.cells #[.string a, .string b, .string c] 53))
      | (go_at_call 22; (with_reducible refine (cy _).mono ?_); rintro e w4 ⟨rfl, hb4⟩; have hb5 := (hb3.trans (hb4.mono hb3.size)).alloc (Nat.le_trans hb3.size hb4.size) (.cells #[.string a', .string b', .string c'] 53); obtain ⟨q1, q2, q3⟩ := box3 hb4; have hz : w2.heap.size < w4.heap.size := by (have := hb4.size; simp at this; omega))
      | (go_at_call 34; (with_reducible refine (cI _ (hLV.out.below hb5)).mono ?_); rintro e w6 ⟨rfl, hb6⟩; have hb7 := hb5.trans (hb6.mono hb5.size))
      | (go_at_call 35; (with_reducible refine (cB _ (hLV.out.below hb5)).mono ?_); rintro e w6 ⟨rfl, hb6⟩; have hb7 := hb5.trans (hb6.mono hb5.size))
      | (go_at_call 36; (with_reducible refine (ck _).mono ?_); rintro e w' ⟨rfl, rfl⟩)
      | (go_at_call 36; (with_reducible refine (ck' _).mono ?_); rintro e w' ⟨rfl, rfl⟩))
    go_ret
    exact ⟨ret_u8 HR.out.symm, by assumption⟩
theorem equal_any (x y : Tm) (hx : x.la.size ≤ 1000000) (hy : y.la.size ≤ 1000000) (w : World) (hv : LV w) : Calls Tryz.prog 21 #[x.val, y.val] w fun e w' => e = .returned (.int .u8 (eqv x y)) ∧ Below w.heap.size w w' := by
  cases h : sameB x y
  · cases hl : (x.isLit && y.isLit)
    · have := equal_nolit x y h hl w
      unfold eqv
      rw [h, hl, if_neg (by decide), if_neg (by decide)]
      exact this
    · rw [Bool.and_eq_true] at hl
      match x, y, hl with
      | .lit a b c, .lit a' b' c', _ => exact equal_lits a b c a' b' c' h hx hy w hv
  · have := equal_same x y h w
    unfold eqv
    rw [h, if_pos rfl]
    exact this
end Go.Proofs.YtaoelnfflkkeeaaGreatDoor
