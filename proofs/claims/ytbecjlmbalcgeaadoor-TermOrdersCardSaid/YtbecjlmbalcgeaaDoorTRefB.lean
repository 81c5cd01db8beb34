/-
  THE DOCUMENT's 'AsBool' and 'Equal'.
-/
import Derived.Test.YtbecjlmbalcgeaaDoorTRef
import Derived.Test.YtbecjlmbalcgeaaDoorVFits
namespace Go.Proofs.YtbecjlmbalcgeaaDoor
open Go.RowKit
set_option linter.unusedVariables false

set_option maxRecDepth 100000 in
set_option maxHeartbeats 4000000 in
theorem rasBool_lit (a b c : ByteArray) (w : World) : Calls Tryd.prog 26 #[F4 2 a b c] w fun e w' => e = .returned (oT (asB (.lit a b c)).1 (asB (.lit a b c)).2) ∧ Below w.heap.size w w' := by
  obtain ⟨r, hr⟩ : ∃ r, r = asB (.lit a b c) := ⟨_, rfl⟩
  rw [← hr]
  have e : asB (.lit a b c) = if (b.toList == lB) = true then bT a else (false, 10) := rfl
  rw [e] at hr
  clear e
  cases hB : (b.toList == lB)
  · rw [hB, if_neg (by decide)] at hr
    subst hr
    go_enter Tryd.func26, Tryd.ntmps26
    go_wp2
    go_ret2
    exact ⟨rfl, (Below.refl _ _).alloc (Nat.le_refl _) _⟩
  · rw [hB, if_pos rfl] at hr
    unfold bT at hr
    cases h1 : (a.toList == wTrue) <;> cases h2 : (a.toList == wOne) <;> cases h3 : (a.toList == wFalse) <;> cases h4 : (a.toList == wNought)
    all_goals
      rw [h1, h2, h3, h4] at hr
      simp only [if_true, Bool.false_eq_true, if_false] at hr
      have HR := Lib.hid hr
      clear hr
      go_enter Tryd.func26, Tryd.ntmps26
      go_wp2
      go_ret2
      exact ⟨ret_obT (by rw [HR.out]) (by rw [HR.out]), (Below.refl _ _).alloc (Nat.le_refl _) _⟩
theorem eql4T (k : Int) (a b c : ByteArray) (k' : Int) (a' b' c' : ByteArray) (w : World) :
    (binOp .eql 23 (F4 k a b c) (F4 k' a' b' c')).run Tryd.prog w = .ok (.bool ((k == k') && ((a.toList == a'.toList) && ((b.toList == b'.toList) && (c.toList == c'.toList))))) w := by
  go_simp
  by_cases hk : k = k'
  · by_cases h1 : a.toList = a'.toList <;> by_cases h2 : b.toList = b'.toList <;> by_cases h3 : c.toList = c'.toList <;> simp [hk, h1, h2, h3]
  · simp [hk]
theorem req_same (k : Int) (a b c : ByteArray) (k' : Int) (a' b' c' : ByteArray) (h : ((k == k') && ((a.toList == a'.toList) && ((b.toList == b'.toList) && (c.toList == c'.toList)))) = true) (w : World) :
    Calls Tryd.prog 12 #[F4 k a b c, F4 k' a' b' c'] w fun e w' => e = .returned (.int .i64 1) ∧ Below w.heap.size w w' := by
  have hE := eql4T
  go_enter Tryd.func12, Tryd.ntmps12
  go_wp2
  go_ret
  exact ⟨rfl, ((Below.refl _ _).alloc (Nat.le_refl _) _).alloc (by simp) _⟩
theorem req_kinds (k : Int) (a b c : ByteArray) (k' : Int) (a' b' c' : ByteArray) (h : ((k == k') && ((a.toList == a'.toList) && ((b.toList == b'.toList) && (c.toList == c'.toList)))) = false) (hk : (k != 2) = true ∨ ((k != 2) = false ∧ (k' != 2) = true)) (w : World) :
    Calls Tryd.prog 12 #[F4 k a b c, F4 k' a' b' c'] w fun e w' => e = .returned (.int .i64 0) ∧ Below w.heap.size w w' := by
  have hE := eql4T
  rcases hk with hk | ⟨hk, hk'⟩
  all_goals
    go_enter Tryd.func12, Tryd.ntmps12
    go_wp2
    go_ret
    exact ⟨rfl, ((Below.refl _ _).alloc (Nat.le_refl _) _).alloc (by simp) _⟩
abbrev R4c (k : Int) (a b c : ByteArray) : Array Value := #[.int .i64 k, .string a, .string b, .string c]
theorem two4 {w w4 : World} {k k' : Int} {a b c a' b' c' : ByteArray} (hb : Below ((w.alloc (.cells #[.int .i64 k, .string a, .string b, .string c] 23)).alloc (.cells #[.int .i64 k', .string a', .string b', .string c'] 23)).heap.size ((w.alloc (.cells #[.int .i64 k, .string a, .string b, .string c] 23)).alloc (.cells #[.int .i64 k', .string a', .string b', .string c'] 23)) w4) :
    Fb w4 w.heap.size 23 (R4c k a b c) ∧ Fb w4 (w.heap.size + 1) 23 (R4c k' a' b' c') := box4 hb
/-- The document's AsInt, in one form for all ways. -/
def RaAny (w : World) (t : Tm) (e : Ending) (w' : World) : Prop :=
  ∃ (bb : Bool) (A : Option Addr) (n cc : Nat), e = .returned (.tuple #[.agg #[.bool bb, .slice A n cc], .int .i64 (asI t).2]) ∧ ((asI t).2 = 0 → BigV w' (.agg #[.bool bb, .slice A n cc]) (asI t).1) ∧ Below w.heap.size w w'
theorem raAny_of {w : World} {t : Tm} {e : Ending} {w' : World} (h : RaPost w t e w') : RaAny w t e w' := by
  unfold RaPost at h
  by_cases h0 : (asI t).2 = 0
  · rw [if_pos h0] at h
    obtain ⟨v, he, hV, hb⟩ := h
    obtain ⟨A, c, rfl, hc, hA⟩ := id hV
    exact ⟨_, A, _, c, by rw [he, h0], fun _ => hV, hb⟩
  · rw [if_neg h0] at h
    exact ⟨false, none, 0, 0, h.1, fun e => absurd e h0, h.2⟩
theorem rasInt_all (t : Tm) (hs : t.la.size ≤ 100000) (w : World) : Calls Tryd.prog 24 #[T4 t] w (RaAny w t) := (rasInt_any t hs w).mono fun _ _ h => raAny_of h
theorem asI_f64 {t : Tm} (h : (asI t).2 = 0) : F64 (asI t).1 := by
  unfold asI asT prs at *
  unfold F64
  by_cases h1 : t.isLit = true
  · rw [if_pos h1] at *
    by_cases h2 : (t.tb.toList == lI) = true
    · rw [if_pos h2] at *
      by_cases h3 : isNum t.la.data.toList = true
      · rw [if_pos h3] at *
        by_cases h4 : -9223372036854775808 ≤ numZ t.la.data.toList ∧ numZ t.la.data.toList ≤ 9223372036854775807
        · rw [if_pos h4] at *
          exact h4
        · rw [if_neg h4] at *
          simp at h
      · rw [if_neg h3] at *
        simp at h
    · rw [if_neg h2] at *
      simp at h
  · rw [if_neg h1] at *
    simp at h
theorem f64_digs {z : Int} (h : F64 z) : (digs z.natAbs).length ≤ 100000 := Nat.le_trans (digs_len (k := 20) (by unfold F64 at h; omega)) (by decide)
set_option maxRecDepth 100000 in
set_option maxHeartbeats 8000000 in
theorem req_ints (a b c a' b' c' : ByteArray) (hs : a.size ≤ 100000) (hs' : a'.size ≤ 100000) (h : ((a.toList == a'.toList) && ((b.toList == b'.toList) && (c.toList == c'.toList))) = false) (h1 : (b.toList == lI) = true) (h2 : (b'.toList == lI) = true) (w : World) :
    Calls Tryd.prog 12 #[F4 2 a b c, F4 2 a' b' c'] w fun e w' => e = .returned (.int .i64 (eqI (.lit a b c) (.lit a' b' c'))) ∧ Below w.heap.size w w' := by
  have hE := eql4T
  have cx : ∀ W, Calls Tryd.prog 24 #[F4 2 a b c] W (RaAny W (.lit a b c)) := fun W => rasInt_all (.lit a b c) hs W
  have cy : ∀ W, Calls Tryd.prog 24 #[F4 2 a' b' c'] W (RaAny W (.lit a' b' c')) := fun W => rasInt_all (.lit a' b' c') hs' W
  have fx := @asI_f64 (.lit a b c)
  have fy := @asI_f64 (.lit a' b' c')
  unfold RaAny at cx cy
  unfold eqI
  obtain ⟨z, hz⟩ : ∃ k, k = (asI (.lit a b c)).1 := ⟨_, rfl⟩
  obtain ⟨u, hu⟩ : ∃ k, k = (asI (.lit a b c)).2 := ⟨_, rfl⟩
  obtain ⟨z', hz'⟩ : ∃ k, k = (asI (.lit a' b' c')).1 := ⟨_, rfl⟩
  obtain ⟨u', hu'⟩ : ∃ k, k = (asI (.lit a' b' c')).2 := ⟨_, rfl⟩
  rw [← hz, ← hu] at cx fx
  rw [← hz', ← hu'] at cy fy
  rw [← hz, ← hu, ← hz', ← hu']
  have hb0 := ((Below.refl w.heap.size w).alloc (Nat.le_refl _) (.cells (R4c 2 a b c) 23)).alloc (by simp) (.cells (R4c 2 a' b' c') 23)
  have HB0 := Lib.hid hb0
  have HS0 := Lib.hid hb0.size
  clear hz hu hz' hu' hs hs' hb0
  have ways : ((u != 0) = true ∧ tru (z == z') (orT u u') = 2) ∨ ((u != 0) = false ∧ (u' != 0) = true ∧ tru (z == z') (orT u u') = 2) ∨ ((u != 0) = false ∧ (u' != 0) = false ∧ F64 z ∧ F64 z' ∧ u = 0 ∧ u' = 0 ∧ tru (z == z') (orT u u') = (if decide (z = z') = true then 1 else 0)) := by
    unfold tru orT
    by_cases g1 : u = 0
    · by_cases g2 : u' = 0
      · refine .inr (.inr ⟨by simp [g1], by simp [g2], fx g1, fy g2, g1, g2, ?_⟩)
        rw [if_pos g1, if_pos g2]
        by_cases g3 : z = z' <;> simp [g3]
      · refine .inr (.inl ⟨by simp [g1], by simp [g2], ?_⟩)
        rw [if_pos g1, if_neg g2]
    · refine .inl ⟨by simp [g1], ?_⟩
      rw [if_neg g1, if_neg g1]
  obtain ⟨r, hr⟩ : ∃ r, r = tru (z == z') (orT u u') := ⟨_, rfl⟩
  rw [← hr] at ways ⊢
  clear hr fx fy
  rcases ways with ⟨g1, hr⟩ | ⟨g1, g2, hr⟩ | ⟨g1, g2, fz, fz', e1, e2, hr⟩
  · have HR := Lib.hid hr
    clear hr
    go_enter Tryd.func12, Tryd.ntmps12
    go_wp2_with (first
      | (go_at_call 24; (with_reducible refine (cx _).mono ?_); rintro e w3 ⟨bb, A, n, cc, rfl, hV, hb3⟩; obtain ⟨x1, x2⟩ := two4 hb3; have y0 := x2.cell 0; have y1 := x2.cell 1; have y2 := x2.cell 2; have y3 := x2.cell 3; simp at y0 y1 y2 y3; have hz2 := x2.lt; have hB3 := HB0.out.trans (hb3.mono HS0.out); have hB4 := hB3.alloc hB3.size (.cells #[.bool bb, .slice A n cc] 64))
      | (go_at_call 24; (with_reducible refine (cy _).mono ?_); rintro e w5 ⟨bb', A', n', cc', rfl, hV', hb5⟩; have hB5 := hB4.trans (hb5.mono hB4.size); have hB6 := hB5.alloc hB5.size (.cells #[.bool bb', .slice A' n' cc'] 64)))
    go_ret
    exact ⟨ret_iT HR.out.symm, hB6⟩
  · have HR := Lib.hid hr
    clear hr
    go_enter Tryd.func12, Tryd.ntmps12
    go_wp2_with (first
      | (go_at_call 24; (with_reducible refine (cx _).mono ?_); rintro e w3 ⟨bb, A, n, cc, rfl, hV, hb3⟩; obtain ⟨x1, x2⟩ := two4 hb3; have y0 := x2.cell 0; have y1 := x2.cell 1; have y2 := x2.cell 2; have y3 := x2.cell 3; simp at y0 y1 y2 y3; have hz2 := x2.lt; have hB3 := HB0.out.trans (hb3.mono HS0.out); have hB4 := hB3.alloc hB3.size (.cells #[.bool bb, .slice A n cc] 64))
      | (go_at_call 24; (with_reducible refine (cy _).mono ?_); rintro e w5 ⟨bb', A', n', cc', rfl, hV', hb5⟩; have hB5 := hB4.trans (hb5.mono hB4.size); have hB6 := hB5.alloc hB5.size (.cells #[.bool bb', .slice A' n' cc'] 64)))
    go_ret
    exact ⟨ret_iT HR.out.symm, hB6⟩
  · have FZ := Lib.hid fz
    have FZ' := Lib.hid fz'
    have HU := Lib.hid e1
    have HU' := Lib.hid e2
    clear fz fz' e1 e2
    cases hd : decide (z = z')
    all_goals
      rw [hd] at hr
      simp only [if_true, Bool.false_eq_true, if_false] at hr
      have HR := Lib.hid hr
      clear hr
      go_enter Tryd.func12, Tryd.ntmps12
      go_wp2_with (first
        | (go_at_call 24; (with_reducible refine (cx _).mono ?_); rintro e w3 ⟨bb, A, n, cc, rfl, hV, hb3⟩; obtain ⟨x1, x2⟩ := two4 hb3; have y0 := x2.cell 0; have y1 := x2.cell 1; have y2 := x2.cell 2; have y3 := x2.cell 3; simp at y0 y1 y2 y3; have hz2 := x2.lt; have hB3 := HB0.out.trans (hb3.mono HS0.out); have hB4 := hB3.alloc hB3.size (.cells #[.bool bb, .slice A n cc] 64); have hV3 := hV HU.out; have hVa := hV3.below ((Below.refl _ _).alloc (Nat.le_refl _) (.cells #[.bool bb, .slice A n cc] 64)); have k0 := (Fb.new w3 64 #[.bool bb, .slice A n cc]))
        | (go_at_call 24; (with_reducible refine (cy _).mono ?_); rintro e w5 ⟨bb', A', n', cc', rfl, hV', hb5⟩; have hB5 := hB4.trans (hb5.mono hB4.size); have hB6 := hB5.alloc hB5.size (.cells #[.bool bb', .slice A' n' cc'] 64); have hVx := (hVa.below hb5).below ((Below.refl _ _).alloc (Nat.le_refl _) (.cells #[.bool bb', .slice A' n' cc'] 64)); have hVy := (hV' HU'.out).below ((Below.refl _ _).alloc (Nat.le_refl _) (.cells #[.bool bb', .slice A' n' cc'] 64)); have k1 := k0.below hb5; have m0 := k1.cell 0; have m1 := k1.cell 1; simp at m0 m1; have hz3 := k1.lt)
        | (go_at_call 25; (with_reducible refine (same_big z z' (f64_digs FZ.out) (f64_digs FZ'.out) _ _ _ hVx hVy).mono ?_); rintro e w7 ⟨rfl, hb7⟩; have hB7 := hB6.trans (hb7.mono hB6.size)))
      go_ret
      exact ⟨ret_iT HR.out.symm, hB7⟩
end Go.Proofs.YtbecjlmbalcgeaaDoor
