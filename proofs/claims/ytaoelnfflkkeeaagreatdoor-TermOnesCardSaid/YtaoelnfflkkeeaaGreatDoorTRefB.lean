/-
  THE DOCUMENT's 'AsBool' and 'Equal'.
-/
import Derived.Test.YtaoelnfflkkeeaaGreatDoorTRef
import Derived.Test.YtaoelnfflkkeeaaGreatDoorVFits
namespace Go.Proofs.YtaoelnfflkkeeaaGreatDoor
open Go.RowKit
set_option linter.unusedVariables false

set_option maxRecDepth 100000 in
set_option maxHeartbeats 4000000 in
theorem rasBool_lit (a b c : ByteArray) (w : World) : Calls Tryz.prog 11 #[F4 2 a b c] w fun e w' => e = .returned (oT (asB (.lit a b c)).1 (asB (.lit a b c)).2) ∧ Below w.heap.size w w' := by
  obtain ⟨r, hr⟩ : ∃ r, r = asB (.lit a b c) := ⟨_, rfl⟩
  rw [← hr]
  have e : asB (.lit a b c) = if (b.toList == lB) = true then bT a else (false, 10) := rfl
  rw [e] at hr
  clear e
  cases hB : (b.toList == lB)
  · rw [hB, if_neg (by decide)] at hr
    subst hr
    go_enter Tryz.func11, Tryz.ntmps11
    go_wp2
    go_ret2
    exact ⟨rfl, (Below.refl _ _).alloc (Nat.le_refl _) _⟩
  · rw [hB, if_pos rfl] at hr
    unfold bT at hr
    cases h1 : (a.toList == wTrue) <;> cases h2 : (a.toList == wOne) <;> cases h3 : (a.toList == wFalse) <;> cases h4 : (a.toList == wNought)
    all_goals
      rw [h1, h2, h3, h4] at hr
      simp only [if_true, Bool.false_eq_true, if_false] at hr
      have HR := Lib.hid hr
      clear hr
      go_enter Tryz.func11, Tryz.ntmps11
      go_wp2
      go_ret2
      exact ⟨ret_obT (by rw [HR.out]) (by rw [HR.out]), (Below.refl _ _).alloc (Nat.le_refl _) _⟩
theorem eql4T (k : Int) (a b c : ByteArray) (k' : Int) (a' b' c' : ByteArray) (w : World) :
    (binOp .eql 23 (F4 k a b c) (F4 k' a' b' c')).run Tryz.prog w = .ok (.bool ((k == k') && ((a.toList == a'.toList) && ((b.toList == b'.toList) && (c.toList == c'.toList))))) w := by
  go_simp
  by_cases hk : k = k'
  · by_cases h1 : a.toList = a'.toList <;> by_cases h2 : b.toList = b'.toList <;> by_cases h3 : c.toList = c'.toList <;> simp [hk, h1, h2, h3]
  · simp [hk]
abbrev R4c (k : Int) (a b c : ByteArray) : Array Value := #[.int .i64 k, .string a, .string b, .string c]
theorem two4 {w w4 : World} {k k' : Int} {a b c a' b' c' : ByteArray} (hb : Below ((w.alloc (.cells #[.int .i64 k, .string a, .string b, .string c] 23)).alloc (.cells #[.int .i64 k', .string a', .string b', .string c'] 23)).heap.size ((w.alloc (.cells #[.int .i64 k, .string a, .string b, .string c] 23)).alloc (.cells #[.int .i64 k', .string a', .string b', .string c'] 23)) w4) :
    Fb w4 w.heap.size 23 (R4c k a b c) ∧ Fb w4 (w.heap.size + 1) 23 (R4c k' a' b' c') := box4 hb
/-- The document's AsInt, in one form for all ways. -/
def RaAny (w : World) (t : Tm) (e : Ending) (w' : World) : Prop :=
  ∃ (bb : Bool) (A : Option Addr) (n cc : Nat), e = .returned (.tuple #[.agg #[.bool bb, .slice A n cc], .int .i64 (asI t).2]) ∧ ((asI t).2 = 0 → BigV w' (.agg #[.bool bb, .slice A n cc]) (asI t).1) ∧ Below w.heap.size w w'
theorem raAny_of {w : World} {t : Tm} {e : Ending} {w' : World} (h : RaPost w t e w') : RaAny w t e w' := by
  unfold RaPost at h
  by_cases h0 : (asI t).2 = 0
  · rw [if_pos h0] at h
    obtain ⟨v, he, hV, hb⟩ := h
    obtain ⟨A, c, rfl, hc, hA⟩ := id hV
    exact ⟨_, A, _, c, by rw [he, h0], fun _ => hV, hb⟩
  · rw [if_neg h0] at h
    exact ⟨false, none, 0, 0, h.1, fun e => absurd e h0, h.2⟩
theorem rasInt_all (t : Tm) (hs : t.la.size ≤ 100000) (w : World) : Calls Tryz.prog 10 #[T4 t] w (RaAny w t) := (rasInt_any t hs w).mono fun _ _ h => raAny_of h
theorem asI_f64 {t : Tm} (h : (asI t).2 = 0) : F64 (asI t).1 := by
  unfold asI asT prs at *
  unfold F64
  by_cases h1 : t.isLit = true
  · rw [if_pos h1] at *
    by_cases h2 : (t.tb.toList == lI) = true
    · rw [if_pos h2] at *
      by_cases h3 : isNum t.la.data.toList = true
      · rw [if_pos h3] at *
        by_cases h4 : -9223372036854775808 ≤ numZ t.la.data.toList ∧ numZ t.la.data.toList ≤ 9223372036854775807
        · rw [if_pos h4] at *
          exact h4
        · rw [if_neg h4] at *
          simp at h
      · rw [if_neg h3] at *
        simp at h
    · rw [if_neg h2] at *
      simp at h
  · rw [if_neg h1] at *
    simp at h
theorem f64_digs {z : Int} (h : F64 z) : (digs z.natAbs).length ≤ 100000 := Nat.le_trans (digs_len (k := 20) (by unfold F64 at h; omega)) (by decide)
end Go.Proofs.YtaoelnfflkkeeaaGreatDoor
