/-
  THE DOCUMENT's 'Equal' of literals that are no integers; of any two terms.
-/
import Derived.Test.YtbecjlmbalcgeaaDoorTRefB
namespace Go.Proofs.YtbecjlmbalcgeaaDoor
open Go.RowKit
set_option linter.unusedVariables false

set_option maxRecDepth 100000 in
set_option maxHeartbeats 8000000 in
theorem req_bools (a b c a' b' c' : ByteArray) (h : ((a.toList == a'.toList) && ((b.toList == b'.toList) && (c.toList == c'.toList))) = false) (hI : (b.toList == lI) = false ∨ ((b.toList == lI) = true ∧ (b'.toList == lI) = false)) (h1 : (b.toList == lB) = true) (h2 : (b'.toList == lB) = true) (w : World) :
    Calls Tryd.prog 12 #[F4 2 a b c, F4 2 a' b' c'] w fun e w' => e = .returned (.int .i64 (eqB (.lit a b c) (.lit a' b' c'))) ∧ Below w.heap.size w w' := by
  have hE := eql4T
  have cx := rasBool_lit a b c
  have cy := rasBool_lit a' b' c'
  unfold eqB
  obtain ⟨z, hz⟩ : ∃ k, k = (asB (.lit a b c)).1 := ⟨_, rfl⟩
  obtain ⟨u, hu⟩ : ∃ k, k = (asB (.lit a b c)).2 := ⟨_, rfl⟩
  obtain ⟨z', hz'⟩ : ∃ k, k = (asB (.lit a' b' c')).1 := ⟨_, rfl⟩
  obtain ⟨u', hu'⟩ : ∃ k, k = (asB (.lit a' b' c')).2 := ⟨_, rfl⟩
  rw [← hz, ← hu] at cx
  rw [← hz', ← hu'] at cy
  rw [← hz, ← hu, ← hz', ← hu']
  have hb0 := ((Below.refl w.heap.size w).alloc (Nat.le_refl _) (.cells (R4c 2 a b c) 23)).alloc (by simp) (.cells (R4c 2 a' b' c') 23)
  have HB0 := Lib.hid hb0
  have HS0 := Lib.hid hb0.size
  clear hz hu hz' hu' hb0
  have ways : ((u != 0) = true ∧ tru (z == z') (orT u u') = 2) ∨ ((u != 0) = false ∧ (u' != 0) = true ∧ tru (z == z') (orT u u') = 2) ∨ ((u != 0) = false ∧ (u' != 0) = false ∧ (((z == z') = true ∧ tru (z == z') (orT u u') = 1) ∨ ((z == z') = false ∧ tru (z == z') (orT u u') = 0))) := by
    unfold tru orT
    by_cases g1 : u = 0
    · by_cases g2 : u' = 0
      · refine .inr (.inr ⟨by simp [g1], by simp [g2], ?_⟩)
        rw [if_pos g1, if_pos g2]
        cases z <;> cases z' <;> simp
      · refine .inr (.inl ⟨by simp [g1], by simp [g2], ?_⟩)
        rw [if_pos g1, if_neg g2]
    · refine .inl ⟨by simp [g1], ?_⟩
      rw [if_neg g1, if_neg g1]
  obtain ⟨r, hr⟩ : ∃ r, r = tru (z == z') (orT u u') := ⟨_, rfl⟩
  rw [← hr] at ways ⊢
  clear hr
  rcases hI with i1 | ⟨i1, i2⟩
  all_goals
    rcases ways with ⟨g1, hr⟩ | ⟨g1, g2, hr⟩ | ⟨g1, g2, ⟨g3, hr⟩ | ⟨g3, hr⟩⟩
    all_goals
      have HR := Lib.hid hr
      clear hr
      go_enter Tryd.func12, Tryd.ntmps12
      go_wp2_with (first
        | (go_at_call 26; (with_reducible refine (cx _).mono ?_); rintro e w3 ⟨rfl, hb3⟩; obtain ⟨x1, x2⟩ := two4 hb3; have y0 := x2.cell 0; have y1 := x2.cell 1; have y2 := x2.cell 2; have y3 := x2.cell 3; simp at y0 y1 y2 y3; have hz2 := x2.lt; have hB3 := HB0.out.trans (hb3.mono HS0.out))
        | (go_at_call 26; (with_reducible refine (cy _).mono ?_); rintro e w5 ⟨rfl, hb5⟩; have hB5 := hB3.trans (hb5.mono hB3.size)))
      go_ret
      exact ⟨ret_iT HR.out.symm, hB5⟩
set_option maxRecDepth 100000 in
set_option maxHeartbeats 8000000 in
theorem req_rest (a b c a' b' c' : ByteArray) (h : ((a.toList == a'.toList) && ((b.toList == b'.toList) && (c.toList == c'.toList))) = false) (hI : (b.toList == lI) = false ∨ ((b.toList == lI) = true ∧ (b'.toList == lI) = false)) (hB : (b.toList == lB) = false ∨ ((b.toList == lB) = true ∧ (b'.toList == lB) = false)) (w : World) :
    Calls Tryd.prog 12 #[F4 2 a b c, F4 2 a' b' c'] w fun e w' => e = .returned (.int .i64 (if (known b && known b') = true then 0 else 2)) ∧ Below w.heap.size w w' := by
  have hE := eql4T
  have cx := rknown_any b
  have cy := rknown_any b'
  obtain ⟨r, hr⟩ : ∃ r : Int, r = if (known b && known b') = true then 0 else 2 := ⟨_, rfl⟩
  rw [← hr]
  have hb0 := ((Below.refl w.heap.size w).alloc (Nat.le_refl _) (.cells (R4c 2 a b c) 23)).alloc (by simp) (.cells (R4c 2 a' b' c') 23)
  have HB0 := Lib.hid hb0
  clear hb0
  have ways : (known b = false ∧ r = 2) ∨ (known b = true ∧ known b' = false ∧ r = 2) ∨ (known b = true ∧ known b' = true ∧ r = 0) := by
    cases k1 : known b <;> cases k2 : known b' <;> rw [k1, k2] at hr <;> simp at hr <;> simp [hr]
  clear hr
  rcases hI with i1 | ⟨i1, i2⟩ <;> rcases hB with j1 | ⟨j1, j2⟩ <;> rcases ways with ⟨k1, hr⟩ | ⟨k1, k2, hr⟩ | ⟨k1, k2, hr⟩
  all_goals
    (try rw [k1] at cx)
    (try rw [k2] at cy)
    have HR := Lib.hid hr
    clear hr
    go_enter Tryd.func12, Tryd.ntmps12
    go_wp2_with (first
      | (go_at_call 27; (with_reducible refine (cx _).mono ?_); rintro e w' ⟨rfl, rfl⟩)
      | (go_at_call 27; (with_reducible refine (cy _).mono ?_); rintro e w' ⟨rfl, rfl⟩))
    go_ret
    exact ⟨ret_iT HR.out.symm, HB0.out⟩
theorem req_any (x y : Tm) (hx : x.la.size ≤ 100000) (hy : y.la.size ≤ 100000) (kx : x.kind ≠ 3) (ky : y.kind ≠ 3) (w : World) : Calls Tryd.prog 12 #[T4 x, T4 y] w fun e w' => e = .returned (.int .i64 (eqv x y)) ∧ Below w.heap.size w w' := by
  cases hs : sameB x y
  · have h4 : ((x.kind == y.kind) && ((x.ta.toList == y.ta.toList) && ((x.tb.toList == y.tb.toList) && (x.tc.toList == y.tc.toList)))) = false := by
      unfold sameB same4 at hs
      rw [show (x.kind != 3) = true by simpa using kx, Bool.true_and] at hs
      exact hs
    cases hl : (x.isLit && y.isLit)
    · have e : eqv x y = 0 := by unfold eqv; rw [hs, hl]; rfl
      rw [e]
      refine req_kinds _ _ _ _ _ _ _ _ h4 ?_ w
      cases x <;> cases y <;> simp_all [Tm.kind, Tm.isLit]
    · rw [Bool.and_eq_true] at hl
      match x, y, hl with
      | .lit a b c, .lit a' b' c', _ =>
        have h5 : ((a.toList == a'.toList) && ((b.toList == b'.toList) && (c.toList == c'.toList))) = false := by simpa [Tm.kind, Tm.ta, Tm.tb, Tm.tc] using h4
        have e : eqv (.lit a b c) (.lit a' b' c') = (if ((b.toList == lI) && (b'.toList == lI)) = true then eqI (.lit a b c) (.lit a' b' c') else if ((b.toList == lB) && (b'.toList == lB)) = true then eqB (.lit a b c) (.lit a' b' c') else if (known b && known b') = true then 0 else 2) := by
          unfold eqv
          rw [hs, if_neg (by decide), if_pos (show ((Tm.lit a b c).isLit && (Tm.lit a' b' c').isLit) = true from rfl)]
          rfl
        rw [e]
        cases i1 : (b.toList == lI)
        · cases j1 : (b.toList == lB)
          · exact req_rest a b c a' b' c' h5 (.inl i1) (.inl j1) w
          · cases j2 : (b'.toList == lB)
            · exact req_rest a b c a' b' c' h5 (.inl i1) (.inr ⟨j1, j2⟩) w
            · exact req_bools a b c a' b' c' h5 (.inl i1) j1 j2 w
        · cases i2 : (b'.toList == lI)
          · cases j1 : (b.toList == lB)
            · exact req_rest a b c a' b' c' h5 (.inr ⟨i1, i2⟩) (.inl j1) w
            · cases j2 : (b'.toList == lB)
              · exact req_rest a b c a' b' c' h5 (.inr ⟨i1, i2⟩) (.inr ⟨j1, j2⟩) w
              · exact req_bools a b c a' b' c' h5 (.inr ⟨i1, i2⟩) j1 j2 w
          · exact req_ints a b c a' b' c' hx hy h5 i1 i2 w
  · have e : eqv x y = 1 := by unfold eqv; rw [hs]; rfl
    rw [e]
    unfold sameB same4 at hs
    rw [Bool.and_eq_true] at hs
    exact req_same _ _ _ _ _ _ _ _ hs.2 w
end Go.Proofs.YtbecjlmbalcgeaaDoor
