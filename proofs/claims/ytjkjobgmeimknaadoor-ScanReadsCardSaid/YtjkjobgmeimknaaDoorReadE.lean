/-
  READING WHAT STANDS BEHIND A BACKSLASH: all ways.
-/
import Derived.Test.YtjkjobgmeimknaaDoorReadD
namespace Go.Proofs.YtjkjobgmeimknaaDoor
open Go.RowKit
set_option linter.unusedVariables false

/-- What stands behind a backslash. -/
def ef (sl : List Int) (p : Nat) : Nat × Option Int :=
  match sl[p]? with
  | none => (p, none)
  | some c => if c = 117 then rd 4 0 (sl.drop (p + 1)) (p + 1) else if c = 85 then rd 8 0 (sl.drop (p + 1)) (p + 1) else if 0 ≤ unl c then (p + 1, some (unl c)) else (p, none)
set_option maxHeartbeats 4000000 in
set_option maxRecDepth 100000 in
theorem escape_none {B : Nat} {w : World} {b : Nat} {v : Value} {sl : List Int} {k : Nat} {c : Int} (h : Sc B w b v sl k)
    (hP : ∀ W, Same w W → Calls Tryd.prog 20 #[.pointer (some ⟨b, 0, none⟩)] W fun e w' => e = .returned (.int .i32 c) ∧ Same w w')
    (hu : unl c = -1) (h1 : c ≠ 117) (h2 : c ≠ 85) (t : TypeId) (fr : Nat × Nat) (htab : ∀ W, Same w W → W.heap[0]? = some (.cells escCells t fr)) :
    Calls Tryd.prog 53 #[.pointer (some ⟨b, 0, none⟩)] w fun e w' => e = .returned (.tuple #[.int .i32 0, .bool false]) ∧ Moves B w b v sl k w' := by
  have hE : ∀ W, Same w W → Calls Tryd.prog 58 #[.int .i32 c] W fun e w' => e = .returned (.tuple #[.int .i32 0, .bool false]) ∧ Sc B w' b v sl k ∧ w.grownBy w' (some b) := fun W s => (escaped_any c W t fr (htab W s)).mono fun _ _ ⟨x, y⟩ => ⟨by rw [x, ← escRes_no c hu], (s.sc h).below3 y, grown_trans (same_grown s _) (below_grown y _)⟩
  have e1 : (c == 117) = false := by simpa using h1
  have e2 : (c == 85) = false := by simpa using h2
  have hs0 : Same w w := Same.refl w
  clear h hu htab h1 h2
  go_enter Tryd.func53, Tryd.ntmps53
  go_wp2_with (first
    | (go_at_call 20; (with_reducible refine (hP _ (by assumption)).mono ?_); rintro e w3 ⟨rfl, hs3⟩)
    | (go_at_call 58; (with_reducible refine (hE _ (by assumption)).mono ?_); rintro e w4 ⟨rfl, hsc4, hg4⟩))
  go_ret2
  exact ⟨rfl, hsc4, hg4⟩

set_option maxHeartbeats 4000000 in
set_option maxRecDepth 100000 in
theorem escape_u4 {B : Nat} {w : World} {b : Nat} {v : Value} {sl : List Int} {k : Nat} (h : Sc B w b v sl k) (hl : sl.length ≤ 4294967296) (hx : sl[k]? = some 117) :
    Calls Tryd.prog 53 #[.pointer (some ⟨b, 0, none⟩)] w (RdPost B w b v sl (rd 4 0 (sl.drop (k + 1)) (k + 1))) := by
  have hki : k < sl.length := (List.getElem?_eq_some_iff.1 hx).1
  have hP := peek_sign h hx hl
  obtain ⟨r, hr⟩ : ∃ r, r = rd 4 0 (sl.drop (k + 1)) (k + 1) := ⟨_, rfl⟩
  have hN : ∀ W, Sc B W b v sl (k + 1) → Calls Tryd.prog 57 #[.pointer (some ⟨b, 0, none⟩), .int .i64 4] W (RdPost B W b v sl r) := fun W s => by
    rw [hr]; exact number_any s (by omega) hl 4 (by omega) (by omega)
  have HS := Lib.hid h
  rw [← hr]
  clear h hx hr
  go_enter Tryd.func53, Tryd.ntmps53
  go_wp2_with (first
    | (go_at_call 20; (with_reducible refine hP.mono ?_); rintro e w3 ⟨rfl, hs3⟩; have h3 := hs3.sc HS.out; have c13 := h3.c1; have f13 := h3.f1; have h4 : Sc B (w3.setCell ⟨b, 1, none⟩ (.int .i64 ((k : Int) + 1))) b v sl (k + 1) := h3.place (k + 1))
    | (go_at_call 57; (with_reducible refine (hN _ (by assumption)).mono ?_); rintro e w4 ⟨rfl, hM4⟩))
  go_ret2
  exact ⟨rfl, hM4.1, grown_trans (grown_trans (same_grown hs3 _) (grown_set w3 b 1 _)) hM4.2⟩
set_option maxHeartbeats 4000000 in
set_option maxRecDepth 100000 in
theorem escape_u8 {B : Nat} {w : World} {b : Nat} {v : Value} {sl : List Int} {k : Nat} (h : Sc B w b v sl k) (hl : sl.length ≤ 4294967296) (hx : sl[k]? = some 85) :
    Calls Tryd.prog 53 #[.pointer (some ⟨b, 0, none⟩)] w (RdPost B w b v sl (rd 8 0 (sl.drop (k + 1)) (k + 1))) := by
  have hki : k < sl.length := (List.getElem?_eq_some_iff.1 hx).1
  have hP := peek_sign h hx hl
  obtain ⟨r, hr⟩ : ∃ r, r = rd 8 0 (sl.drop (k + 1)) (k + 1) := ⟨_, rfl⟩
  have hN : ∀ W, Sc B W b v sl (k + 1) → Calls Tryd.prog 57 #[.pointer (some ⟨b, 0, none⟩), .int .i64 8] W (RdPost B W b v sl r) := fun W s => by
    rw [hr]; exact number_any s (by omega) hl 8 (by omega) (by omega)
  have HS := Lib.hid h
  rw [← hr]
  clear h hx hr
  go_enter Tryd.func53, Tryd.ntmps53
  go_wp2_with (first
    | (go_at_call 20; (with_reducible refine hP.mono ?_); rintro e w3 ⟨rfl, hs3⟩; have h3 := hs3.sc HS.out; have c13 := h3.c1; have f13 := h3.f1; have h4 : Sc B (w3.setCell ⟨b, 1, none⟩ (.int .i64 ((k : Int) + 1))) b v sl (k + 1) := h3.place (k + 1))
    | (go_at_call 57; (with_reducible refine (hN _ (by assumption)).mono ?_); rintro e w4 ⟨rfl, hM4⟩))
  go_ret2
  exact ⟨rfl, hM4.1, grown_trans (grown_trans (same_grown hs3 _) (grown_set w3 b 1 _)) hM4.2⟩
theorem unl_m (c : Int) (h : ¬ 0 ≤ unl c) : unl c = -1 := by revert h; unfold unl; omega
theorem escape_any {B : Nat} {w : World} {b : Nat} {v : Value} {sl : List Int} {k : Nat} (h : Sc B w b v sl k) (hk : k ≤ sl.length) (hl : sl.length ≤ 4294967296)
    (t : TypeId) (fr : Nat × Nat) (htab : ∀ W, Same w W → W.heap[0]? = some (.cells escCells t fr)) :
    Calls Tryd.prog 53 #[.pointer (some ⟨b, 0, none⟩)] w (RdPost B w b v sl (ef sl k)) := by
  unfold ef
  cases hx : sl[k]? with
  | none =>
    have hke : k = sl.length := by have := List.getElem?_eq_none_iff.1 hx; omega
    exact escape_none h (fun W s => (peek_end (s.sc h) hke hl).mono fun _ _ ⟨x, y⟩ => ⟨x, s.trans y⟩) (by decide) (by decide) (by decide) t fr htab
  | some c =>
    dsimp only
    by_cases h1 : c = 117
    · rw [if_pos h1]; exact escape_u4 h hl (h1 ▸ hx)
    rw [if_neg h1]
    by_cases h2 : c = 85
    · rw [if_pos h2]; exact escape_u8 h hl (h2 ▸ hx)
    rw [if_neg h2]
    by_cases h3 : 0 ≤ unl c
    · rw [if_pos h3]; exact escape_letter h hl hx rfl h3 t fr htab
    · rw [if_neg h3]
      exact escape_none h (fun W s => (peek_sign (s.sc h) hx hl).mono fun _ _ ⟨x, y⟩ => ⟨x, s.trans y⟩) (unl_m c h3) h1 h2 t fr htab
theorem rd_le : ∀ (m : Nat) (S : Int) (l : List Int) (p : Nat), p - 1 ≤ (rd m S l p).1 ∧ (rd m S l p).1 ≤ p + l.length
  | 0, S, l, p => by rw [rd_zero]; split <;> simp <;> omega
  | m + 1, S, [], p => by rw [rd_end]; simp
  | m + 1, S, d :: l, p => by
    rw [rd_cons]
    have := rd_le m (S * 16 + hexv d) l (p + 1)
    split <;> simp <;> omega
theorem rd_sgn : ∀ (m : Nat) (S : Int) (l : List Int) (p : Nat) (n : Int), (rd m S l p).2 = some n → sgn n = true ∧ p ≤ (rd m S l p).1
  | 0, S, l, p, n => by rw [rd_zero]; split <;> simp <;> rintro rfl <;> assumption
  | m + 1, S, [], p, n => by rw [rd_end]; simp
  | m + 1, S, d :: l, p, n => by
    rw [rd_cons]
    split
    · simp
    · intro h
      have := rd_sgn m (S * 16 + hexv d) l (p + 1) n h
      exact ⟨this.1, by omega⟩
end Go.Proofs.YtjkjobgmeimknaaDoor
