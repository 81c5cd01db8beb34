/-
  THE DOCUMENT's 'Good', asked for a literal without a language; an integer's and a truth's literal are good.
-/
import Derived.Test.YtfgjddljgpbgeaaDoorTRiri
import Derived.Test.YtfgjddljgpbgeaaDoorTTerm
namespace Go.Proofs.YtfgjddljgpbgeaaDoor
open Go.RowKit
set_option linter.unusedVariables false

/-- The text of an integer; of a truth. -/
def tx (n : Int) : ByteArray := ⟨(textZ n).toArray⟩
def bx (x : Bool) : ByteArray := if x then ⟨wTrue.toArray⟩ else ⟨wFalse.toArray⟩
theorem tx_list (n : Int) : (tx n).data.toList = textZ n := by simp [tx]
theorem kXI : known XI = true := by unfold known; rw [ByteArray.toList_eq]; decide
theorem kXB : known XB = true := by unfold known; rw [ByteArray.toList_eq]; decide
theorem iXI : (XI.toList == lI) = true := by rw [ByteArray.toList_eq]; decide
theorem iXB : (XB.toList == lI) = false := by rw [ByteArray.toList_eq]; decide
theorem bXI : (XI.toList == lB) = false := by rw [ByteArray.toList_eq]; decide
theorem bXB : (XB.toList == lB) = true := by rw [ByteArray.toList_eq]; decide
theorem prs_tx (n : Int) (h0 : -9223372036854775808 ≤ n) (h1 : n ≤ 9223372036854775807) : prs (tx n) = (n, 0) := by
  unfold prs
  rw [tx_list, (textZ_numT n).1, (textZ_numT n).2, if_pos rfl, if_pos ⟨h0, h1⟩]
theorem asI_tx (n : Int) (h0 : -9223372036854775808 ≤ n) (h1 : n ≤ 9223372036854775807) : asI (.lit (tx n) XI mt) = (n, 0) := by
  unfold asI asT
  simp only [Tm.isLit, Tm.tb, Tm.la, Tm.ta, iXI, if_true, prs_tx n h0 h1]
  rfl
set_option maxHeartbeats 4000000 in
set_option maxRecDepth 100000 in
theorem riri_any (s : ByteArray) (sl : List Int) (rest : List UInt8) (hp : Parts s.data.toList sl rest) (hs : s.size ≤ 4294967296) (w : World) :
    Calls Tryd.prog 49 #[.string s] w fun e w' => e = .returned (.bool (iriB s.size sl rest)) ∧ Below w.heap.size w w' := by
  by_cases h1 : rest = []
  · by_cases h2 : s.size ≤ 4096
    · subst h1
      have := riri_yes s sl hp h2 w
      unfold iriB
      rw [decide_eq_true h2]
      exact this
    · rw [iriB_no (.inr (.inl (by omega)))]
      exact riri_no s sl rest hp hs (.inr (by omega)) w
  · rw [iriB_no (.inl h1)]
    exact riri_no s sl rest hp hs (.inl h1) w
set_option maxHeartbeats 4000000 in
set_option maxRecDepth 100000 in
theorem rgood_lit (a b : ByteArray) (sl tl : List Int) (rest rest' : List UInt8) (hp : Parts a.data.toList sl rest) (hq : Parts b.data.toList tl rest') (hs : a.size ≤ 4294967296) (hs' : b.size ≤ 4294967296) (w : World) :
    Calls Tryd.prog 24 #[F4 2 a b mt] w fun e w' => e = .returned (.bool (litB a.size (decide (rest = [])) (b.toList == lL) (iriB b.size tl rest'))) ∧ Below w.heap.size w w' := by
  have cG : ∀ W, Calls Tryd.prog 50 #[.string a] W (SignsPost W sl (decide (rest = []))) := fun W => signs_any a sl rest hp hs W
  have cI := riri_any b tl rest' hq hs'
  obtain ⟨ok, hok⟩ : ∃ k, k = decide (rest = []) := ⟨_, rfl⟩
  obtain ⟨i, hi⟩ : ∃ k, k = iriB b.size tl rest' := ⟨_, rfl⟩
  rw [← hok] at cG
  rw [← hi] at cI
  rw [← hok, ← hi]
  obtain ⟨r, hr⟩ : ∃ k, k = litB a.size ok (b.toList == lL) i := ⟨_, rfl⟩
  rw [← hr]
  unfold litB at hr
  clear hok hi hp hq hs hs'
  cases ok
  · have HR : Hid (r = false) := Lib.hid (by rw [hr]; simp)
    clear hr cI
    go_enter Tryd.func24, Tryd.ntmps24
    go_wp2_with (go_at_call 50; (with_reducible refine (cG _).mono ?_); rintro e w2 ⟨vI, rfl, hI2, hb2⟩; have hc := (Fb.new w 23 #[.int .i64 2, .string a, .string b, .string mt]).below hb2; have c1 := hc.cell 1; have c2 := hc.cell 2; have c3 := hc.cell 3; simp at c1 c2 c3; clear hI2)
    go_ret
    exact ⟨ret_bool HR.out.symm, ((Below.refl _ _).alloc (Nat.le_refl _) _).trans (hb2.mono (by simp))⟩
  · rw [Bool.true_and] at hr
    by_cases h1 : 4096 < a.size
    · have hz : (4096 : Int) < (a.size : Int) := by omega
      have HR : Hid (r = false) := Lib.hid (by rw [hr, decide_eq_false (show ¬ a.size ≤ 4096 by omega)]; rfl)
      clear hr h1 cI
      go_enter Tryd.func24, Tryd.ntmps24
      go_wp2_with (go_at_call 50; (with_reducible refine (cG _).mono ?_); rintro e w2 ⟨vI, rfl, hI2, hb2⟩; have hc := (Fb.new w 23 #[.int .i64 2, .string a, .string b, .string mt]).below hb2; have c1 := hc.cell 1; have c2 := hc.cell 2; have c3 := hc.cell 3; simp at c1 c2 c3; clear hI2)
      go_ret
      exact ⟨ret_bool HR.out.symm, ((Below.refl _ _).alloc (Nat.le_refl _) _).trans (hb2.mono (by simp))⟩
    · have hz : ¬ (4096 : Int) < (a.size : Int) := by omega
      rw [decide_eq_true (show a.size ≤ 4096 by omega), Bool.true_and] at hr
      clear h1
      cases i
      · have HR : Hid (r = false) := Lib.hid (by rw [hr]; simp)
        clear hr
        go_enter Tryd.func24, Tryd.ntmps24
        go_wp2_with (first
          | (go_at_call 50; (with_reducible refine (cG _).mono ?_); rintro e w2 ⟨vI, rfl, hI2, hb2⟩; have hc := (Fb.new w 23 #[.int .i64 2, .string a, .string b, .string mt]).below hb2; have c1 := hc.cell 1; have c2 := hc.cell 2; have c3 := hc.cell 3; simp at c1 c2 c3; clear hI2)
          | (go_at_call 49; (with_reducible refine (cI _).mono ?_); rintro e w3 ⟨rfl, hb3⟩; have hc3 := hc.below hb3; have d1 := hc3.cell 1; have d2 := hc3.cell 2; have d3 := hc3.cell 3; simp at d1 d2 d3))
        go_ret
        exact ⟨ret_bool HR.out.symm, (((Below.refl _ _).alloc (Nat.le_refl _) _).trans (hb2.mono (by simp))).trans (hb3.mono (by have := hb2.size; simp at this; omega))⟩
      · rw [Bool.and_true] at hr
        cases hx : (b.toList == lL)
        all_goals
          rw [hx] at hr
          have HR := Lib.hid hr
          clear hr
          go_enter Tryd.func24, Tryd.ntmps24
          go_wp2_with (first
            | (go_at_call 50; (with_reducible refine (cG _).mono ?_); rintro e w2 ⟨vI, rfl, hI2, hb2⟩; have hc := (Fb.new w 23 #[.int .i64 2, .string a, .string b, .string mt]).below hb2; have c1 := hc.cell 1; have c2 := hc.cell 2; have c3 := hc.cell 3; simp at c1 c2 c3; clear hI2)
            | (go_at_call 49; (with_reducible refine (cI _).mono ?_); rintro e w3 ⟨rfl, hb3⟩; have hc3 := hc.below hb3; have d1 := hc3.cell 1; have d2 := hc3.cell 2; have d3 := hc3.cell 3; simp at d1 d2 d3))
          go_ret
          exact ⟨ret_bool HR.out.symm, (((Below.refl _ _).alloc (Nat.le_refl _) _).trans (hb2.mono (by simp))).trans (hb3.mono (by have := hb2.size; simp at this; omega))⟩
theorem xs_parts : Parts XS.data.toList (sigs lS) [] := ascii_parts _ _ (by decide) (by decide)
theorem xb_parts : Parts XB.data.toList (sigs lB) [] := ascii_parts _ _ (by decide) (by decide)
theorem xs_iri : iriB XS.size (sigs lS) [] = true := by decide
theorem xb_iri : iriB XB.size (sigs lB) [] = true := by decide
theorem xi_iri : iriB XI.size (sigs lI) [] = true := by decide
theorem xs_l : (XS.toList == lL) = false := by rw [ByteArray.toList_eq]; decide
theorem xb_l : (XB.toList == lL) = false := by rw [ByteArray.toList_eq]; decide
theorem xi_l : (XI.toList == lL) = false := by rw [ByteArray.toList_eq]; decide
theorem litB_ok {n : Nat} (h : n ≤ 4096) : litB n true false true = true := by unfold litB; rw [decide_eq_true h]; rfl
theorem sigs_parts (s : ByteArray) (l : List UInt8) (he : s.data.toList = l) (h : ∀ c ∈ l, c.toNat ≤ 127) : Parts s.data.toList (sigs l) [] := by
  refine ascii_parts s (sigs l) ?_ ?_
  · unfold ascii sigs
    rw [List.all_eq_true]
    intro n hn
    obtain ⟨c, hc, rfl⟩ := List.mem_map.1 hn
    have := h c hc
    rw [decide_eq_true_eq]; omega
  · rw [he]
    unfold sigs
    rw [List.map_map]
    conv => lhs; rw [← List.map_id l]
    apply List.map_congr_left
    intro c hc
    show c = ((c.toNat : Int).toNat).toUInt8
    rw [Int.toNat_natCast]
    exact (UInt8.ofNat_toNat).symm
theorem textZ_ascii (n : Int) : ∀ c ∈ textZ n, c.toNat ≤ 127 := by
  intro c hc
  by_cases h : n < 0
  · rw [textZ_negT h] at hc
    rcases List.mem_cons.1 hc with rfl | hc
    · decide
    · have := List.all_eq_true.1 (chars_all (digs_dig n.natAbs)) c hc
      have : 48 ≤ c.toNat ∧ c.toNat ≤ 57 := of_decide_eq_true this
      omega
  · have := List.all_eq_true.1 (textZ_posT (show 0 ≤ n by omega)).1 c hc
    have : 48 ≤ c.toNat ∧ c.toNat ≤ 57 := of_decide_eq_true this
    omega
theorem goodA (n : Int) (h0 : -9223372036854775808 ≤ n) (h1 : n ≤ 9223372036854775807) (w : World) :
    Calls Tryd.prog 25 #[.agg #[.string (tx n), .string XI, .string mt]] w fun e w' => e = .returned (.bool true) ∧ Below w.heap.size w w' := by
  have hl := textZ_lenT h0 h1
  have hz : (tx n).size = (textZ n).length := by simp [tx, ByteArray.size]
  have := litGood_any (tx n) XI _ _ _ _ (sigs_parts (tx n) (textZ n) (tx_list n) (textZ_ascii n)) int_parts (by omega) (by decide) w
  rw [xi_l, xi_iri, show decide (([] : List UInt8) = []) = true from rfl, litB_ok (by omega)] at this
  exact this
theorem goodB (x : Bool) (w : World) : Calls Tryd.prog 25 #[.agg #[.string (bx x), .string XB, .string mt]] w fun e w' => e = .returned (.bool true) ∧ Below w.heap.size w w' := by
  have hp : Parts (bx x).data.toList (sigs (if x then wTrue else wFalse)) [] := by cases x <;> exact ascii_parts _ _ (by decide) (by decide)
  have hz : (bx x).size ≤ 4096 := by cases x <;> decide
  have := litGood_any (bx x) XB _ _ _ _ hp xb_parts (by omega) (by decide) w
  rw [xb_l, xb_iri, show decide (([] : List UInt8) = []) = true from rfl, litB_ok hz] at this
  exact this
end Go.Proofs.YtfgjddljgpbgeaaDoor
