/-
  WHETHER ANYTHING IS A TERM: the program's Good and the document's, one Bool.
-/
import Derived.Test.YtaoelnfflkkeeaaGreatDoorTBlank
import Derived.Test.YtaoelnfflkkeeaaGreatDoorTRLang
import Derived.Test.YtaoelnfflkkeeaaGreatDoorTRirA
namespace Go.Proofs.YtaoelnfflkkeeaaGreatDoor
open Go.RowKit
set_option linter.unusedVariables false

theorem parts_ex (s : ByteArray) : ∃ p : List Int × List UInt8, Parts s.data.toList p.1 p.2 := by
  obtain ⟨a, b, h⟩ := parts_of s.data.toList
  exact ⟨(a, b), h⟩
noncomputable def sgP (s : ByteArray) : List Int × List UInt8 := Classical.choose (parts_ex s)
theorem sgP_parts (s : ByteArray) : Parts s.data.toList (sgP s).1 (sgP s).2 := Classical.choose_spec (parts_ex s)
noncomputable def iriG (s : ByteArray) : Bool := iriB s.size (sgP s).1 (sgP s).2
noncomputable def textG (s : ByteArray) : Bool := decide (s.size ≤ 4096) && decide ((sgP s).2 = [])
theorem sgP_one {s : ByteArray} {sl : List Int} {rest : List UInt8} (h : Parts s.data.toList sl rest) : (sgP s).1 = sl ∧ (sgP s).2 = rest := (sgP_parts s).one h
theorem iriG_of {s : ByteArray} {sl : List Int} {rest : List UInt8} (h : Parts s.data.toList sl rest) : iriG s = iriB s.size sl rest := by
  obtain ⟨a, b⟩ := sgP_one h
  unfold iriG
  rw [a, b]
theorem textG_of {s : ByteArray} {sl : List Int} {rest : List UInt8} (h : Parts s.data.toList sl rest) : textG s = (decide (s.size ≤ 4096) && decide (rest = [])) := by
  obtain ⟨a, b⟩ := sgP_one h
  unfold textG
  rw [b]
noncomputable def litG (a b c : ByteArray) : Bool := textG a && (if c.size = 0 then (!(b.toList == lL) && iriG b) else ((b.toList == lL) && langB c))
noncomputable def goodT : Tm → Bool
  | .blank s => labelG s
  | .iri s => iriG s
  | .lit a b c => litG a b c
  | _ => false
/-! ### A blank node's label -/
theorem labSG_all : ∀ (l : List Int) (i : Nat), labSG i l = allI (fun i n => labS (i == 0) n) i l
  | [], _ => rfl
  | n :: l, i => by simp only [labSG, allI, labSG_all l (i + 1)]
theorem labG_all : ∀ (l : List UInt8) (i : Nat), labG i l = allU (fun i c => labC (i == 0) (c.toNat : Int)) i l
  | [], _ => rfl
  | n :: l, i => by simp only [labG, allU, labG_all l (i + 1)]
theorem blankB_label {s : ByteArray} {sl : List Int} {rest : List UInt8} (hp : Parts s.data.toList sl rest) : blankB s.size sl rest = labelG s := by
  have := all_same (fun i n => labS (i == 0) n) (fun i c => labC (i == 0) (c.toNat : Int)) (fun i n h => by
      have h1 : (cls n == 1) = false := by rw [beq_eq_false_iff_ne, Ne, cls_1]; omega
      have h2 : (cls n == 2) = false := by rw [beq_eq_false_iff_ne, Ne, cls_2]; omega
      have h3 : (n == 95) = false := by rw [beq_eq_false_iff_ne]; omega
      have h4 : (n == 45) = false := by rw [beq_eq_false_iff_ne]; omega
      show labS _ n = false
      unfold labS
      rw [h1, h2, h3, h4]; simp) (fun i c h => by
      have h1 : letB (c.toNat : Int) = false := by unfold letB; rw [decide_eq_false_iff_not]; omega
      have h2 : digB (c.toNat : Int) = false := by unfold digB; rw [decide_eq_false_iff_not]; omega
      have h3 : ((c.toNat : Int) == 95) = false := by rw [beq_eq_false_iff_ne]; omega
      have h4 : ((c.toNat : Int) == 45) = false := by rw [beq_eq_false_iff_ne]; omega
      show labC _ (c.toNat : Int) = false
      unfold labC
      rw [h1, h2, h3, h4]; simp) (fun i c h => by
      show labS _ (c.toNat : Int) = labC _ (c.toNat : Int)
      unfold labS labC
      rw [letB_U, digB_U, cls_let, cls_dig]) rest hp.bad sl hp.all 0
  unfold blankB labelG
  rw [labSG_all, labG_all, hp.eq, ← this, Bool.and_assoc]
/-! ### The program's -/
theorem methBlank (v : Value) (w : World) : (method 257 58 v "Good").run Tryz.prog w = .ok (114, v) w := by kernel_rfl
theorem methIRI (v : Value) (w : World) : (method 257 50 v "Good").run Tryz.prog w = .ok (88, v) w := by kernel_rfl
def Tm.few (t : Tm) : Prop := t.ta.size ≤ 1000000 ∧ t.tb.size ≤ 1000000 ∧ t.tc.size ≤ 1000000
set_option maxHeartbeats 4000000 in
set_option maxRecDepth 100000 in
theorem litGoodL_any (a b c : ByteArray) (ha : a.size ≤ 1000000) (hc : c.size ≤ 1000000) (h0 : ¬ c.size = 0) (w : World) :
    Calls Tryz.prog 104 #[.agg #[.string a, .string b, .string c]] w fun e w' => e = .returned (.bool (textG a && ((b.toList == lL) && langB c))) ∧ Below w.heap.size w w' := by
  have cG := good_any a _ _ (sgP_parts a) (by omega)
  have cL := isLang_any c (by omega)
  have hne : ¬ c.toList = [] := by
    rw [ByteArray.toList_eq]
    intro h
    have := congrArg List.length h
    rw [Array.length_toList] at this
    exact h0 this
  have hem : (!c.toList.isEmpty) = true := by
    cases h : c.toList
    · exact absurd h hne
    · rfl
  obtain ⟨ok, hok⟩ : ∃ k, k = decide ((sgP a).2 = []) := ⟨_, rfl⟩
  obtain ⟨i, hi⟩ : ∃ k, k = langB c := ⟨_, rfl⟩
  obtain ⟨r, hr⟩ : ∃ r, r = (textG a && ((b.toList == lL) && langB c)) := ⟨_, rfl⟩
  rw [← hr]
  unfold textG at hr
  rw [← hok] at cG hr
  rw [← hi] at cL hr
  clear hok hi hc h0 ha
  by_cases h1 : 4096 < a.size
  · have hz : (4096 : Int) < (a.size : Int) := by omega
    have HR : Hid (r = false) := Lib.hid (by rw [hr, decide_eq_false (show ¬ a.size ≤ 4096 by omega)]; rfl)
    clear hr h1 cG cL
    go_enter Tryz.func104, Tryz.ntmps104
    go_wp2
    go_ret
    exact ⟨ret_bool HR.out.symm, (Below.refl _ _).alloc (Nat.le_refl _) _⟩
  · have hz : ¬ (4096 : Int) < (a.size : Int) := by omega
    rw [decide_eq_true (show a.size ≤ 4096 by omega), Bool.true_and] at hr
    clear h1
    cases ok
    · rw [Bool.false_and] at hr
      have HR := Lib.hid hr
      clear hr cL
      go_enter Tryz.func104, Tryz.ntmps104
      go_wp2_with (go_at_call 89; (with_reducible refine (cG _).mono ?_); rintro e w2 ⟨rfl, hb2⟩)
      go_ret
      exact ⟨ret_bool HR.out.symm, ((Below.refl _ _).alloc (Nat.le_refl _) _).trans (hb2.mono (by simp))⟩
    · rw [Bool.true_and] at hr
      cases hx : (b.toList == lL)
      · rw [hx, Bool.false_and] at hr
        have HR := Lib.hid hr
        clear hr cL
        go_enter Tryz.func104, Tryz.ntmps104
        go_wp2_with (go_at_call 89; (with_reducible refine (cG _).mono ?_); rintro e w2 ⟨rfl, hb2⟩; have hz2 := hb2.size; have hc := (Fb.new w 53 #[.string a, .string b, .string c]).below hb2; have c0 := hc.cell 0; have c1 := hc.cell 1; have c2 := hc.cell 2; simp at c0 c1 c2)
        go_ret
        exact ⟨ret_bool HR.out.symm, ((Below.refl _ _).alloc (Nat.le_refl _) _).trans (hb2.mono (by simp))⟩
      · rw [hx, Bool.true_and] at hr
        have HR := Lib.hid hr
        clear hr
        go_enter Tryz.func104, Tryz.ntmps104
        go_wp2_with (first
          | (go_at_call 89; (with_reducible refine (cG _).mono ?_); rintro e w2 ⟨rfl, hb2⟩; have hz2 := hb2.size; have hc := (Fb.new w 53 #[.string a, .string b, .string c]).below hb2; have c0 := hc.cell 0; have c1 := hc.cell 1; have c2 := hc.cell 2; simp at c0 c1 c2)
          | (go_at_call 105; (with_reducible refine (cL _).mono ?_); rintro e w3 ⟨rfl, hb3⟩))
        go_ret
        exact ⟨ret_bool HR.out.symm, (((Below.refl _ _).alloc (Nat.le_refl _) _).trans (hb2.mono (by simp))).trans (hb3.mono (by have := hb2.size; simp at this; omega))⟩
theorem size0 {c : ByteArray} (h : c.size = 0) : c = mt := by
  apply ByteArray.ext
  have : c.size = c.data.size := rfl
  exact Array.eq_empty_of_size_eq_zero (by omega)
theorem litGoodA_any (a b c : ByteArray) (ha : a.size ≤ 1000000) (hb : b.size ≤ 1000000) (hc : c.size ≤ 1000000) (w : World) :
    Calls Tryz.prog 104 #[.agg #[.string a, .string b, .string c]] w fun e w' => e = .returned (.bool (litG a b c)) ∧ Below w.heap.size w w' := by
  unfold litG
  by_cases h0 : c.size = 0
  · rw [if_pos h0, size0 h0]
    have := litGood_any a b _ _ _ _ (sgP_parts a) (sgP_parts b) (by omega) (by omega) w
    unfold litB at this
    unfold textG iriG
    rw [Bool.and_assoc]
    exact this
  · rw [if_neg h0]
    exact litGoodL_any a b c ha hc h0 w
set_option maxRecDepth 100000 in
set_option maxHeartbeats 2000000 in
theorem goodT_any (t : Tm) (hz : t.few) (w : World) : Calls Tryz.prog 12 #[t.val] w fun e w' => e = .returned (.bool (goodT t)) ∧ Below w.heap.size w w' := by
  match t, hz with
  | .blank s, hz =>
    have cG : ∀ W, Calls Tryz.prog 114 #[.agg #[.string s]] W fun e w' => e = .returned (.bool (labelG s)) ∧ Below W.heap.size W w' := fun W => by
      have := blankGood_any s _ _ (sgP_parts s) (by have := hz.1; simp only [Tm.ta] at this; omega) W
      rw [blankB_label (sgP_parts s)] at this
      exact this
    have cK : ∀ W, Calls Tryz.prog 14 #[(Tm.blank s).val] W _ := kind_any (.blank s)
    simp only [Tm.val, Tm.kind] at cK ⊢
    simp only [goodT]
    have hM := methBlank
    clear hz
    go_enter Tryz.func12, Tryz.ntmps12
    go_wp2_with (first
      | (go_at_call 14; (with_reducible refine (cK _).mono ?_); rintro e w1 ⟨rfl, hb1⟩)
      | (go_at_call 114; (with_reducible refine (cG _).mono ?_); rintro e w2 ⟨rfl, hb2⟩))
    go_ret
    exact ⟨rfl, hb1.trans (hb2.mono hb1.size)⟩
  | .iri s, hz =>
    have cG : ∀ W, Calls Tryz.prog 88 #[.agg #[.string s]] W fun e w' => e = .returned (.bool (iriG s)) ∧ Below W.heap.size W w' := fun W => iriGood_any s _ _ (sgP_parts s) (by have := hz.1; simp only [Tm.ta] at this; omega) W
    have cK : ∀ W, Calls Tryz.prog 14 #[(Tm.iri s).val] W _ := kind_any (.iri s)
    simp only [Tm.val, Tm.kind] at cK ⊢
    simp only [goodT]
    have hM := methIRI
    clear hz
    go_enter Tryz.func12, Tryz.ntmps12
    go_wp2_with (first
      | (go_at_call 14; (with_reducible refine (cK _).mono ?_); rintro e w1 ⟨rfl, hb1⟩)
      | (go_at_call 88; (with_reducible refine (cG _).mono ?_); rintro e w2 ⟨rfl, hb2⟩))
    go_ret
    exact ⟨rfl, hb1.trans (hb2.mono hb1.size)⟩
  | .lit a b c, hz =>
    have cG : ∀ W, Calls Tryz.prog 104 #[.agg #[.string a, .string b, .string c]] W fun e w' => e = .returned (.bool (litG a b c)) ∧ Below W.heap.size W w' := fun W => litGoodA_any a b c hz.1 hz.2.1 hz.2.2 W
    have cK : ∀ W, Calls Tryz.prog 14 #[(Tm.lit a b c).val] W _ := kind_any (.lit a b c)
    simp only [Tm.val, Tm.kind] at cK ⊢
    simp only [goodT]
    have hM := methLit
    clear hz
    go_enter Tryz.func12, Tryz.ntmps12
    go_wp2_with (first
      | (go_at_call 14; (with_reducible refine (cK _).mono ?_); rintro e w1 ⟨rfl, hb1⟩)
      | (go_at_call 104; (with_reducible refine (cG _).mono ?_); rintro e w2 ⟨rfl, hb2⟩))
    go_ret
    exact ⟨rfl, hb1.trans (hb2.mono hb1.size)⟩
  | .odd n, _ =>
    have cK : ∀ W, Calls Tryz.prog 14 #[(Tm.odd n).val] W _ := kind_any (.odd n)
    simp only [Tm.val, Tm.kind] at cK ⊢
    simp only [goodT]
    go_enter Tryz.func12, Tryz.ntmps12
    go_wp2_with (go_at_call 14; (with_reducible refine (cK _).mono ?_); rintro e w1 ⟨rfl, hb1⟩)
    go_ret
    exact ⟨rfl, hb1⟩
  | .none, _ =>
    have cK : ∀ W, Calls Tryz.prog 14 #[Tm.none.val] W _ := kind_any .none
    simp only [Tm.val, Tm.kind] at cK ⊢
    simp only [goodT]
    go_enter Tryz.func12, Tryz.ntmps12
    go_wp2_with (go_at_call 14; (with_reducible refine (cK _).mono ?_); rintro e w1 ⟨rfl, hb1⟩)
    go_ret
    exact ⟨rfl, hb1⟩
/-! ### The document's -/
theorem xl_iri : iriG XL = true := by
  rw [iriG_of (ascii_parts XL (sigs lL) (by decide) (by decide))]
  decide
set_option maxHeartbeats 4000000 in
set_option maxRecDepth 100000 in
theorem rgoodL_any (a b c : ByteArray) (ha : a.size ≤ 1000000) (hb : b.size ≤ 1000000) (h0 : ¬ c.size = 0) (w : World) :
    Calls Tryz.prog 13 #[F4 2 a b c] w fun e w' => e = .returned (.bool (textG a && ((b.toList == lL) && langB c))) ∧ Below w.heap.size w w' := by
  have cG : ∀ W, Calls Tryz.prog 27 #[.string a] W (SignsPost W (sgP a).1 (decide ((sgP a).2 = []))) := fun W => signs_any a _ _ (sgP_parts a) (by omega) W
  have cI : ∀ W, Calls Tryz.prog 26 #[.string b] W fun e w' => e = .returned (.bool (iriG b)) ∧ Below W.heap.size W w' := fun W => riri_any b _ _ (sgP_parts b) (by omega) W
  have cL := rlang_any c
  have hne : ¬ c.toList = [] := by
    rw [ByteArray.toList_eq]
    intro h
    have := congrArg List.length h
    rw [Array.length_toList] at this
    exact h0 this
  have hem : c.toList.isEmpty = false := by
    cases h : c.toList
    · exact absurd h hne
    · rfl
  have hxl : (b.toList == lL) = true → iriG b = true := fun h => by
    have e : b = XL := bytes_ext (by rw [beq_iff_eq] at h ⊢; rw [h, ByteArray.toList_eq])
    rw [e]; exact xl_iri
  obtain ⟨ok, hok⟩ : ∃ k, k = decide ((sgP a).2 = []) := ⟨_, rfl⟩
  obtain ⟨i, hi⟩ : ∃ k, k = langB c := ⟨_, rfl⟩
  obtain ⟨j, hj⟩ : ∃ k, k = iriG b := ⟨_, rfl⟩
  obtain ⟨r, hr⟩ : ∃ r, r = (textG a && ((b.toList == lL) && langB c)) := ⟨_, rfl⟩
  rw [← hr]
  unfold textG at hr
  rw [← hok] at cG hr
  rw [← hi] at cL hr
  rw [← hj] at cI hxl
  clear hok hi hj ha hb h0
  cases ok
  · have HR : Hid (r = false) := Lib.hid (by rw [hr]; simp)
    clear hr cI cL hxl
    go_enter Tryz.func13, Tryz.ntmps13
    go_wp2_with (go_at_call 27; (with_reducible refine (cG _).mono ?_); rintro e w2 ⟨vI, rfl, hI2, hb2⟩; have hc := (Fb.new w 23 #[.int .i64 2, .string a, .string b, .string c]).below hb2; have c1 := hc.cell 1; have c2 := hc.cell 2; have c3 := hc.cell 3; simp at c1 c2 c3; clear hI2)
    go_ret
    exact ⟨ret_bool HR.out.symm, ((Below.refl _ _).alloc (Nat.le_refl _) _).trans (hb2.mono (by simp))⟩
  · rw [Bool.and_true] at hr
    by_cases h1 : 4096 < a.size
    · have hz : (4096 : Int) < (a.size : Int) := by omega
      have HR : Hid (r = false) := Lib.hid (by rw [hr, decide_eq_false (show ¬ a.size ≤ 4096 by omega)]; rfl)
      clear hr h1 cI cL hxl
      go_enter Tryz.func13, Tryz.ntmps13
      go_wp2_with (go_at_call 27; (with_reducible refine (cG _).mono ?_); rintro e w2 ⟨vI, rfl, hI2, hb2⟩; have hc := (Fb.new w 23 #[.int .i64 2, .string a, .string b, .string c]).below hb2; have c1 := hc.cell 1; have c2 := hc.cell 2; have c3 := hc.cell 3; simp at c1 c2 c3; clear hI2)
      go_ret
      exact ⟨ret_bool HR.out.symm, ((Below.refl _ _).alloc (Nat.le_refl _) _).trans (hb2.mono (by simp))⟩
    · have hz : ¬ (4096 : Int) < (a.size : Int) := by omega
      rw [decide_eq_true (show a.size ≤ 4096 by omega), Bool.true_and] at hr
      clear h1
      cases j
      · have HR : Hid (r = false) := Lib.hid (by
          rw [hr]
          cases h : (b.toList == lL)
          · rfl
          · exact absurd (hxl h) (by decide))
        clear hr cL hxl
        go_enter Tryz.func13, Tryz.ntmps13
        go_wp2_with (first
          | (go_at_call 27; (with_reducible refine (cG _).mono ?_); rintro e w2 ⟨vI, rfl, hI2, hb2⟩; have hc := (Fb.new w 23 #[.int .i64 2, .string a, .string b, .string c]).below hb2; have c1 := hc.cell 1; have c2 := hc.cell 2; have c3 := hc.cell 3; simp at c1 c2 c3; clear hI2)
          | (go_at_call 26; (with_reducible refine (cI _).mono ?_); rintro e w3 ⟨rfl, hb3⟩; have hc3 := hc.below hb3; have d1 := hc3.cell 1; have d2 := hc3.cell 2; have d3 := hc3.cell 3; simp at d1 d2 d3))
        go_ret
        exact ⟨ret_bool HR.out.symm, (((Below.refl _ _).alloc (Nat.le_refl _) _).trans (hb2.mono (by simp))).trans (hb3.mono (by have := hb2.size; simp at this; omega))⟩
      · clear hxl
        cases hx : (b.toList == lL)
        all_goals
          rw [hx] at hr
          have HR := Lib.hid hr
          clear hr
          go_enter Tryz.func13, Tryz.ntmps13
          go_wp2_with (first
            | (go_at_call 27; (with_reducible refine (cG _).mono ?_); rintro e w2 ⟨vI, rfl, hI2, hb2⟩; have hc := (Fb.new w 23 #[.int .i64 2, .string a, .string b, .string c]).below hb2; have c1 := hc.cell 1; have c2 := hc.cell 2; have c3 := hc.cell 3; simp at c1 c2 c3; clear hI2)
            | (go_at_call 26; (with_reducible refine (cI _).mono ?_); rintro e w3 ⟨rfl, hb3⟩; have hc3 := hc.below hb3; have d1 := hc3.cell 1; have d2 := hc3.cell 2; have d3 := hc3.cell 3; simp at d1 d2 d3)
            | (go_at_call 28; (with_reducible refine (cL _).mono ?_); rintro e w' ⟨rfl, rfl⟩))
          go_ret
          exact ⟨ret_bool (by rw [HR.out]; rfl), (((Below.refl _ _).alloc (Nat.le_refl _) _).trans (hb2.mono (by simp))).trans (hb3.mono (by have := hb2.size; simp at this; omega))⟩
set_option maxRecDepth 100000 in
set_option maxHeartbeats 2000000 in
theorem rgoodT_any (t : Tm) (hz : t.few) (w : World) : Calls Tryz.prog 13 #[T4 t] w fun e w' => e = .returned (.bool (goodT t)) ∧ Below w.heap.size w w' := by
  match t, hz with
  | .blank s, hz =>
    have cG := rlabel_any s
    simp only [T4, Tm.kind, Tm.ta, Tm.tb, Tm.tc, goodT]
    clear hz
    go_enter Tryz.func13, Tryz.ntmps13
    go_wp2_with (go_at_call 25; (with_reducible refine (cG _).mono ?_); rintro e w' ⟨rfl, rfl⟩)
    go_ret
    exact ⟨rfl, (Below.refl _ _).alloc (Nat.le_refl _) _⟩
  | .iri s, hz =>
    have cG : ∀ W, Calls Tryz.prog 26 #[.string s] W fun e w' => e = .returned (.bool (iriG s)) ∧ Below W.heap.size W w' := fun W => riri_any s _ _ (sgP_parts s) (by have := hz.1; simp only [Tm.ta] at this; omega) W
    simp only [T4, Tm.kind, Tm.ta, Tm.tb, Tm.tc, goodT]
    clear hz
    go_enter Tryz.func13, Tryz.ntmps13
    go_wp2_with (go_at_call 26; (with_reducible refine (cG _).mono ?_); rintro e w2 ⟨rfl, hb2⟩)
    go_ret
    exact ⟨rfl, ((Below.refl _ _).alloc (Nat.le_refl _) _).trans (hb2.mono (by simp))⟩
  | .lit a b c, hz =>
    simp only [T4, Tm.kind, Tm.ta, Tm.tb, Tm.tc, goodT]
    unfold litG
    by_cases h0 : c.size = 0
    · rw [if_pos h0, size0 h0]
      have := rgood_lit a b _ _ _ _ (sgP_parts a) (sgP_parts b) (by have := hz.1; simp only [Tm.ta] at this; omega) (by have := hz.2.1; simp only [Tm.tb] at this; omega) w
      unfold litB at this
      unfold textG iriG
      rw [Bool.and_assoc]
      exact this
    · rw [if_neg h0]
      exact rgoodL_any a b c hz.1 hz.2.1 h0 w
  | .odd n, _ =>
    simp only [T4, Tm.kind, Tm.ta, Tm.tb, Tm.tc, goodT]
    go_enter Tryz.func13, Tryz.ntmps13
    go_wp2
    go_ret
    exact ⟨rfl, (Below.refl _ _).alloc (Nat.le_refl _) _⟩
  | .none, _ =>
    simp only [T4, Tm.kind, Tm.ta, Tm.tb, Tm.tc, goodT]
    go_enter Tryz.func13, Tryz.ntmps13
    go_wp2
    go_ret
    exact ⟨rfl, (Below.refl _ _).alloc (Nat.le_refl _) _⟩
end Go.Proofs.YtaoelnfflkkeeaaGreatDoor
