/-
  MERGED (a claim has at most 60 files): TTerm, TEqualB, TRirA.
-/
import Derived.Test.YtehechbiajbobaaZ08
import Derived.Deep.RegionHeld3
/-
  THE LAW'S TERMS: short, plain, Real.
-/
namespace Go.Proofs.Ytehechbiajbobaa
open Go.RowKit
set_option linter.unusedVariables false

/-- The term that the law makes of one. -/
def tmOf (k : Int) (a b c : ByteArray) : Tm := if k % 4 = 0 then .blank a else if k % 4 = 1 then .iri a else if k % 4 = 2 then .lit a b c else .odd 0
abbrev T4 (t : Tm) : Value := F4 t.kind t.ta t.tb t.tc
set_option maxHeartbeats 2000000 in
theorem real_any (t : Tm) (ht : t = tmOf 0 t.ta t.tb t.tc ∨ t = tmOf 1 t.ta t.tb t.tc ∨ t = tmOf 2 t.ta t.tb t.tc ∨ t = .odd 0) (w : World) : Calls Try.prog 8 #[T4 t] w fun e w' => e = .returned t.val ∧ Below w.heap.size w w' := by
  match t, ht with
  | .blank s, _ =>
    simp only [T4, Tm.kind, Tm.ta, Tm.tb, Tm.tc, Tm.val]
    go_enter Try.func8, Try.ntmps8
    go_wp2
    go_ret
    exact ⟨rfl, (Below.refl _ _).alloc (Nat.le_refl _) _⟩
  | .iri s, _ =>
    simp only [T4, Tm.kind, Tm.ta, Tm.tb, Tm.tc, Tm.val]
    go_enter Try.func8, Try.ntmps8
    go_wp2
    go_ret
    exact ⟨rfl, (Below.refl _ _).alloc (Nat.le_refl _) _⟩
  | .lit a b c, _ =>
    simp only [T4, Tm.kind, Tm.ta, Tm.tb, Tm.tc, Tm.val]
    go_enter Try.func8, Try.ntmps8
    go_wp2
    go_ret
    exact ⟨rfl, (Below.refl _ _).alloc (Nat.le_refl _) _⟩
  | .odd n, h =>
    obtain rfl : n = 0 := by
      rcases h with h | h | h | h
      · simp [tmOf] at h
      · simp [tmOf] at h
      · simp [tmOf] at h
      · simpa using h
    simp only [T4, Tm.kind, Tm.ta, Tm.tb, Tm.tc, Tm.val]
    go_enter Try.func8, Try.ntmps8
    go_wp2
    go_ret
    exact ⟨rfl, (Below.refl _ _).alloc (Nat.le_refl _) _⟩
  | .none, h =>
    exfalso
    rcases h with h | h | h | h <;> simp [tmOf] at h
end Go.Proofs.Ytehechbiajbobaa

/-
  TermEquals: its words; being of one value is handed on; terms that are long.
-/
namespace Go.Proofs.Ytehechbiajbobaa
open Go.RowKit
set_option linter.unusedVariables false

theorem bytes_ext {a b : ByteArray} (h : (a.toList == b.toList) = true) : a = b := by
  rw [beq_iff_eq, ByteArray.toList_eq, ByteArray.toList_eq] at h
  exact ByteArray.ext (Array.ext' h)
/-- Three terms' boxes. -/
abbrev R4 (k : Int) (a b c : ByteArray) : Array Value := #[.int .i64 k, .string a, .string b, .string c]
def Cells4 (W : World) (g : Nat) (k : Int) (a b c : ByteArray) : Prop := W.cell? ⟨g, 0, none⟩ = some (.int .i64 k) ∧ W.cell? ⟨g, 1, none⟩ = some (.string a) ∧ W.cell? ⟨g, 2, none⟩ = some (.string b) ∧ W.cell? ⟨g, 3, none⟩ = some (.string c)
theorem Fb.four {W : World} {g : Nat} {k : Int} {a b c : ByteArray} (h : Fb W g 32 (R4 k a b c)) : Cells4 W g k a b c := ⟨h.cell 0, h.cell 1, h.cell 2, h.cell 3⟩
end Go.Proofs.Ytehechbiajbobaa

/-
  THE DOCUMENT's 'iri', whatever the text; its 'Good' of a literal without a language.
-/
namespace Go.Proofs.Ytehechbiajbobaa
open Go.RowKit
set_option linter.unusedVariables false

set_option maxHeartbeats 4000000 in
set_option maxRecDepth 100000 in
theorem riri_any (s : ByteArray) (sl : List Int) (rest : List UInt8) (hp : Parts s.data.toList sl rest) (hs : s.size ≤ 4294967296) (w : World) :
    Calls Try.prog 33 #[.string s] w fun e w' => e = .returned (.bool (iriB s.size sl rest)) ∧ Below w.heap.size w w' := by
  by_cases h1 : rest = []
  · by_cases h2 : s.size ≤ 4096
    · subst h1
      have := riri_yes s sl hp h2 w
      unfold iriB
      rw [decide_eq_true h2]
      exact this
    · rw [iriB_no (.inr (.inl (by omega)))]
      exact riri_no s sl rest hp hs (.inr (by omega)) w
  · rw [iriB_no (.inl h1)]
    exact riri_no s sl rest hp hs (.inl h1) w
set_option maxHeartbeats 4000000 in
set_option maxRecDepth 100000 in
theorem rgood_lit (a b : ByteArray) (sl tl : List Int) (rest rest' : List UInt8) (hp : Parts a.data.toList sl rest) (hq : Parts b.data.toList tl rest') (hs : a.size ≤ 4294967296) (hs' : b.size ≤ 4294967296) (w : World) :
    Calls Try.prog 26 #[F4 2 a b mt] w fun e w' => e = .returned (.bool (litB a.size (decide (rest = [])) (b.toList == lL) (iriB b.size tl rest'))) ∧ Below w.heap.size w w' := by
  have cG : ∀ W, Calls Try.prog 34 #[.string a] W (SignsPost W sl (decide (rest = []))) := fun W => signs_any a sl rest hp hs W
  have cI := riri_any b tl rest' hq hs'
  obtain ⟨ok, hok⟩ : ∃ k, k = decide (rest = []) := ⟨_, rfl⟩
  obtain ⟨i, hi⟩ : ∃ k, k = iriB b.size tl rest' := ⟨_, rfl⟩
  rw [← hok] at cG
  rw [← hi] at cI
  rw [← hok, ← hi]
  obtain ⟨r, hr⟩ : ∃ k, k = litB a.size ok (b.toList == lL) i := ⟨_, rfl⟩
  rw [← hr]
  unfold litB at hr
  clear hok hi hp hq hs hs'
  cases ok
  · have HR : Hid (r = false) := Lib.hid (by rw [hr]; simp)
    clear hr cI
    go_enter Try.func26, Try.ntmps26
    go_wp2_with (go_at_call 34; (with_reducible refine (cG _).mono ?_); rintro e w2 ⟨vI, rfl, hI2, hb2⟩; have hc := (Fb.new w 32 #[.int .i64 2, .string a, .string b, .string mt]).below hb2; have c1 := hc.cell 1; have c2 := hc.cell 2; have c3 := hc.cell 3; simp at c1 c2 c3; clear hI2)
    go_ret
    exact ⟨ret_bool HR.out.symm, ((Below.refl _ _).alloc (Nat.le_refl _) _).trans (hb2.mono (by simp))⟩
  · rw [Bool.true_and] at hr
    by_cases h1 : 4096 < a.size
    · have hz : (4096 : Int) < (a.size : Int) := by omega
      have HR : Hid (r = false) := Lib.hid (by rw [hr, decide_eq_false (show ¬ a.size ≤ 4096 by omega)]; rfl)
      clear hr h1 cI
      go_enter Try.func26, Try.ntmps26
      go_wp2_with (go_at_call 34; (with_reducible refine (cG _).mono ?_); rintro e w2 ⟨vI, rfl, hI2, hb2⟩; have hc := (Fb.new w 32 #[.int .i64 2, .string a, .string b, .string mt]).below hb2; have c1 := hc.cell 1; have c2 := hc.cell 2; have c3 := hc.cell 3; simp at c1 c2 c3; clear hI2)
      go_ret
      exact ⟨ret_bool HR.out.symm, ((Below.refl _ _).alloc (Nat.le_refl _) _).trans (hb2.mono (by simp))⟩
    · have hz : ¬ (4096 : Int) < (a.size : Int) := by omega
      rw [decide_eq_true (show a.size ≤ 4096 by omega), Bool.true_and] at hr
      clear h1
      cases i
      · have HR : Hid (r = false) := Lib.hid (by rw [hr]; simp)
        clear hr
        go_enter Try.func26, Try.ntmps26
        go_wp2_with (first
          | (go_at_call 34; (with_reducible refine (cG _).mono ?_); rintro e w2 ⟨vI, rfl, hI2, hb2⟩; have hc := (Fb.new w 32 #[.int .i64 2, .string a, .string b, .string mt]).below hb2; have c1 := hc.cell 1; have c2 := hc.cell 2; have c3 := hc.cell 3; simp at c1 c2 c3; clear hI2)
          | (go_at_call 33; (with_reducible refine (cI _).mono ?_); rintro e w3 ⟨rfl, hb3⟩; have hc3 := hc.below hb3; have d1 := hc3.cell 1; have d2 := hc3.cell 2; have d3 := hc3.cell 3; simp at d1 d2 d3))
        go_ret
        exact ⟨ret_bool HR.out.symm, (((Below.refl _ _).alloc (Nat.le_refl _) _).trans (hb2.mono (by simp))).trans (hb3.mono (by have := hb2.size; simp at this; omega))⟩
      · rw [Bool.and_true] at hr
        cases hx : (b.toList == lL)
        all_goals
          rw [hx] at hr
          have HR := Lib.hid hr
          clear hr
          go_enter Try.func26, Try.ntmps26
          go_wp2_with (first
            | (go_at_call 34; (with_reducible refine (cG _).mono ?_); rintro e w2 ⟨vI, rfl, hI2, hb2⟩; have hc := (Fb.new w 32 #[.int .i64 2, .string a, .string b, .string mt]).below hb2; have c1 := hc.cell 1; have c2 := hc.cell 2; have c3 := hc.cell 3; simp at c1 c2 c3; clear hI2)
            | (go_at_call 33; (with_reducible refine (cI _).mono ?_); rintro e w3 ⟨rfl, hb3⟩; have hc3 := hc.below hb3; have d1 := hc3.cell 1; have d2 := hc3.cell 2; have d3 := hc3.cell 3; simp at d1 d2 d3))
          go_ret
          exact ⟨ret_bool HR.out.symm, (((Below.refl _ _).alloc (Nat.le_refl _) _).trans (hb2.mono (by simp))).trans (hb3.mono (by have := hb2.size; simp at this; omega))⟩
end Go.Proofs.Ytehechbiajbobaa
