/-
  MERGED (a claim has at most 60 files): NGood, NSem.
-/
import Derived.Test.YtjalhcbomjgkoaaDoorZ13
import Derived.Test.YtjalhcbomjgkoaaDoorZ14
import Derived.Test.YtjalhcbomjgkoaaDoorZ23
import Derived.Test.YtjalhcbomjgkoaaDoorZ11
/-
  WHETHER ANYTHING IS A TERM: the program's Good and the document's, one Bool.
-/
namespace Go.Proofs.YtjalhcbomjgkoaaDoor
open Go.RowKit
set_option linter.unusedVariables false

theorem parts_ex (s : ByteArray) : ∃ p : List Int × List UInt8, Parts s.data.toList p.1 p.2 := by
  obtain ⟨a, b, h⟩ := parts_of s.data.toList
  exact ⟨(a, b), h⟩
noncomputable def sgP (s : ByteArray) : List Int × List UInt8 := Classical.choose (parts_ex s)
theorem sgP_parts (s : ByteArray) : Parts s.data.toList (sgP s).1 (sgP s).2 := Classical.choose_spec (parts_ex s)
noncomputable def iriG (s : ByteArray) : Bool := iriB s.size (sgP s).1 (sgP s).2
noncomputable def textG (s : ByteArray) : Bool := decide (s.size ≤ 4096) && decide ((sgP s).2 = [])
theorem sgP_one {s : ByteArray} {sl : List Int} {rest : List UInt8} (h : Parts s.data.toList sl rest) : (sgP s).1 = sl ∧ (sgP s).2 = rest := (sgP_parts s).one h
theorem iriG_of {s : ByteArray} {sl : List Int} {rest : List UInt8} (h : Parts s.data.toList sl rest) : iriG s = iriB s.size sl rest := by
  obtain ⟨a, b⟩ := sgP_one h
  unfold iriG
  rw [a, b]
theorem textG_of {s : ByteArray} {sl : List Int} {rest : List UInt8} (h : Parts s.data.toList sl rest) : textG s = (decide (s.size ≤ 4096) && decide (rest = [])) := by
  obtain ⟨a, b⟩ := sgP_one h
  unfold textG
  rw [b]
noncomputable def litG (a b c : ByteArray) : Bool := textG a && (if c.size = 0 then (!(b.toList == lL) && iriG b) else ((b.toList == lL) && langB c))
noncomputable def goodT : Tm → Bool
  | .blank s => labelG s
  | .iri s => iriG s
  | .lit a b c => litG a b c
  | _ => false
/-! ### A blank node's label -/
theorem labSG_all : ∀ (l : List Int) (i : Nat), labSG i l = allI (fun i n => labS (i == 0) n) i l
  | [], _ => rfl
  | n :: l, i => by simp only [labSG, allI, labSG_all l (i + 1)]
theorem labG_all : ∀ (l : List UInt8) (i : Nat), labG i l = allU (fun i c => labC (i == 0) (c.toNat : Int)) i l
  | [], _ => rfl
  | n :: l, i => by simp only [labG, allU, labG_all l (i + 1)]
theorem blankB_label {s : ByteArray} {sl : List Int} {rest : List UInt8} (hp : Parts s.data.toList sl rest) : blankB s.size sl rest = labelG s := by
  have := all_same (fun i n => labS (i == 0) n) (fun i c => labC (i == 0) (c.toNat : Int)) (fun i n h => by
      have h1 : (cls n == 1) = false := by rw [beq_eq_false_iff_ne, Ne, cls_1]; omega
      have h2 : (cls n == 2) = false := by rw [beq_eq_false_iff_ne, Ne, cls_2]; omega
      have h3 : (n == 95) = false := by rw [beq_eq_false_iff_ne]; omega
      have h4 : (n == 45) = false := by rw [beq_eq_false_iff_ne]; omega
      show labS _ n = false
      unfold labS
      rw [h1, h2, h3, h4]; simp) (fun i c h => by
      have h1 : letB (c.toNat : Int) = false := by unfold letB; rw [decide_eq_false_iff_not]; omega
      have h2 : digB (c.toNat : Int) = false := by unfold digB; rw [decide_eq_false_iff_not]; omega
      have h3 : ((c.toNat : Int) == 95) = false := by rw [beq_eq_false_iff_ne]; omega
      have h4 : ((c.toNat : Int) == 45) = false := by rw [beq_eq_false_iff_ne]; omega
      show labC _ (c.toNat : Int) = false
      unfold labC
      rw [h1, h2, h3, h4]; simp) (fun i c h => by
      show labS _ (c.toNat : Int) = labC _ (c.toNat : Int)
      unfold labS labC
      rw [letB_U, digB_U, cls_let, cls_dig]) rest hp.bad sl hp.all 0
  unfold blankB labelG
  rw [labSG_all, labG_all, hp.eq, ← this, Bool.and_assoc]
/-! ### The program's -/
theorem methBlank (v : Value) (w : World) : (method 342 96 v "Good").run Tryd.prog w = .ok (186, v) w := by kernel_rfl
theorem methIRI (v : Value) (w : World) : (method 342 98 v "Good").run Tryd.prog w = .ok (168, v) w := by kernel_rfl
def Tm.few (t : Tm) : Prop := t.ta.size ≤ 1000000 ∧ t.tb.size ≤ 1000000 ∧ t.tc.size ≤ 1000000
set_option maxHeartbeats 4000000 in
set_option maxRecDepth 100000 in
theorem litGoodL_any (a b c : ByteArray) (ha : a.size ≤ 1000000) (hc : c.size ≤ 1000000) (h0 : ¬ c.size = 0) (w : World) :
    Calls Tryd.prog 166 #[.agg #[.string a, .string b, .string c]] w fun e w' => e = .returned (.bool (textG a && ((b.toList == lL) && langB c))) ∧ Below w.heap.size w w' := by
  have cG := good_any a _ _ (sgP_parts a) (by omega)
  have cL := isLang_any c (by omega)
  have hne : ¬ c.toList = [] := by
    rw [ByteArray.toList_eq]
    intro h
    have := congrArg List.length h
    rw [Array.length_toList] at this
    exact h0 this
  have hem : (!c.toList.isEmpty) = true := by
    cases h : c.toList
    · exact absurd h hne
    · rfl
  obtain ⟨ok, hok⟩ : ∃ k, k = decide ((sgP a).2 = []) := ⟨_, rfl⟩
  obtain ⟨i, hi⟩ : ∃ k, k = langB c := ⟨_, rfl⟩
  obtain ⟨r, hr⟩ : ∃ r, r = (textG a && ((b.toList == lL) && langB c)) := ⟨_, rfl⟩
  rw [← hr]
  unfold textG at hr
  rw [← hok] at cG hr
  rw [← hi] at cL hr
  clear hok hi hc h0 ha
  by_cases h1 : 4096 < a.size
  · have hz : (4096 : Int) < (a.size : Int) := by omega
    have HR : Hid (r = false) := Lib.hid (by rw [hr, decide_eq_false (show ¬ a.size ≤ 4096 by omega)]; rfl)
    clear hr h1 cG cL
    go_enter Tryd.func166, Tryd.ntmps166
    go_wp2
    go_ret
    exact ⟨ret_bool HR.out.symm, (Below.refl _ _).alloc (Nat.le_refl _) _⟩
  · have hz : ¬ (4096 : Int) < (a.size : Int) := by omega
    rw [decide_eq_true (show a.size ≤ 4096 by omega), Bool.true_and] at hr
    clear h1
    cases ok
    · rw [Bool.false_and] at hr
      have HR := Lib.hid hr
      clear hr cL
      go_enter Tryd.func166, Tryd.ntmps166
      go_wp2_with (go_at_call 45; (with_reducible refine (cG _).mono ?_); rintro e w2 ⟨rfl, hb2⟩)
      go_ret
      exact ⟨ret_bool HR.out.symm, ((Below.refl _ _).alloc (Nat.le_refl _) _).trans (hb2.mono (by simp))⟩
    · rw [Bool.true_and] at hr
      cases hx : (b.toList == lL)
      · rw [hx, Bool.false_and] at hr
        have HR := Lib.hid hr
        clear hr cL
        go_enter Tryd.func166, Tryd.ntmps166
        go_wp2_with (go_at_call 45; (with_reducible refine (cG _).mono ?_); rintro e w2 ⟨rfl, hb2⟩; have hz2 := hb2.size; have hc := (Fb.new w 92 #[.string a, .string b, .string c]).below hb2; have c0 := hc.cell 0; have c1 := hc.cell 1; have c2 := hc.cell 2; simp at c0 c1 c2)
        go_ret
        exact ⟨ret_bool HR.out.symm, ((Below.refl _ _).alloc (Nat.le_refl _) _).trans (hb2.mono (by simp))⟩
      · rw [hx, Bool.true_and] at hr
        have HR := Lib.hid hr
        clear hr
        go_enter Tryd.func166, Tryd.ntmps166
        go_wp2_with (first
          | (go_at_call 45; (with_reducible refine (cG _).mono ?_); rintro e w2 ⟨rfl, hb2⟩; have hz2 := hb2.size; have hc := (Fb.new w 92 #[.string a, .string b, .string c]).below hb2; have c0 := hc.cell 0; have c1 := hc.cell 1; have c2 := hc.cell 2; simp at c0 c1 c2)
          | (go_at_call 167; (with_reducible refine (cL _).mono ?_); rintro e w3 ⟨rfl, hb3⟩))
        go_ret
        exact ⟨ret_bool HR.out.symm, (((Below.refl _ _).alloc (Nat.le_refl _) _).trans (hb2.mono (by simp))).trans (hb3.mono (by have := hb2.size; simp at this; omega))⟩
theorem size0 {c : ByteArray} (h : c.size = 0) : c = mt := by
  apply ByteArray.ext
  have : c.size = c.data.size := rfl
  exact Array.eq_empty_of_size_eq_zero (by omega)
theorem litGoodA_any (a b c : ByteArray) (ha : a.size ≤ 1000000) (hb : b.size ≤ 1000000) (hc : c.size ≤ 1000000) (w : World) :
    Calls Tryd.prog 166 #[.agg #[.string a, .string b, .string c]] w fun e w' => e = .returned (.bool (litG a b c)) ∧ Below w.heap.size w w' := by
  unfold litG
  by_cases h0 : c.size = 0
  · rw [if_pos h0, size0 h0]
    have := litGood_any a b _ _ _ _ (sgP_parts a) (sgP_parts b) (by omega) (by omega) w
    unfold litB at this
    unfold textG iriG
    rw [Bool.and_assoc]
    exact this
  · rw [if_neg h0]
    exact litGoodL_any a b c ha hc h0 w
set_option maxRecDepth 100000 in
set_option maxHeartbeats 2000000 in
theorem goodT_any (t : Tm) (hz : t.few) (w : World) : Calls Tryd.prog 49 #[t.val] w fun e w' => e = .returned (.bool (goodT t)) ∧ Below w.heap.size w w' := by
  match t, hz with
  | .blank s, hz =>
    have cG : ∀ W, Calls Tryd.prog 186 #[.agg #[.string s]] W fun e w' => e = .returned (.bool (labelG s)) ∧ Below W.heap.size W w' := fun W => by
      have := blankGood_any s _ _ (sgP_parts s) (by have := hz.1; simp only [Tm.ta] at this; omega) W
      rw [blankB_label (sgP_parts s)] at this
      exact this
    have cK : ∀ W, Calls Tryd.prog 80 #[(Tm.blank s).val] W _ := kind_any (.blank s)
    simp only [Tm.val, Tm.kind] at cK ⊢
    simp only [goodT]
    have hM := methBlank
    clear hz
    go_enter Tryd.func49, Tryd.ntmps49
    go_wp2_with (first
      | (go_at_call 80; (with_reducible refine (cK _).mono ?_); rintro e w1 ⟨rfl, hb1⟩)
      | (go_at_call 186; (with_reducible refine (cG _).mono ?_); rintro e w2 ⟨rfl, hb2⟩))
    go_ret
    exact ⟨rfl, hb1.trans (hb2.mono hb1.size)⟩
  | .iri s, hz =>
    have cG : ∀ W, Calls Tryd.prog 168 #[.agg #[.string s]] W fun e w' => e = .returned (.bool (iriG s)) ∧ Below W.heap.size W w' := fun W => iriGood_any s _ _ (sgP_parts s) (by have := hz.1; simp only [Tm.ta] at this; omega) W
    have cK : ∀ W, Calls Tryd.prog 80 #[(Tm.iri s).val] W _ := kind_any (.iri s)
    simp only [Tm.val, Tm.kind] at cK ⊢
    simp only [goodT]
    have hM := methIRI
    clear hz
    go_enter Tryd.func49, Tryd.ntmps49
    go_wp2_with (first
      | (go_at_call 80; (with_reducible refine (cK _).mono ?_); rintro e w1 ⟨rfl, hb1⟩)
      | (go_at_call 168; (with_reducible refine (cG _).mono ?_); rintro e w2 ⟨rfl, hb2⟩))
    go_ret
    exact ⟨rfl, hb1.trans (hb2.mono hb1.size)⟩
  | .lit a b c, hz =>
    have cG : ∀ W, Calls Tryd.prog 166 #[.agg #[.string a, .string b, .string c]] W fun e w' => e = .returned (.bool (litG a b c)) ∧ Below W.heap.size W w' := fun W => litGoodA_any a b c hz.1 hz.2.1 hz.2.2 W
    have cK : ∀ W, Calls Tryd.prog 80 #[(Tm.lit a b c).val] W _ := kind_any (.lit a b c)
    simp only [Tm.val, Tm.kind] at cK ⊢
    simp only [goodT]
    have hM := methLit
    clear hz
    go_enter Tryd.func49, Tryd.ntmps49
    go_wp2_with (first
      | (go_at_call 80; (with_reducible refine (cK _).mono ?_); rintro e w1 ⟨rfl, hb1⟩)
      | (go_at_call 166; (with_reducible refine (cG _).mono ?_); rintro e w2 ⟨rfl, hb2⟩))
    go_ret
    exact ⟨rfl, hb1.trans (hb2.mono hb1.size)⟩
  | .odd n, _ =>
    have cK : ∀ W, Calls Tryd.prog 80 #[(Tm.odd n).val] W _ := kind_any (.odd n)
    simp only [Tm.val, Tm.kind] at cK ⊢
    simp only [goodT]
    go_enter Tryd.func49, Tryd.ntmps49
    go_wp2_with (go_at_call 80; (with_reducible refine (cK _).mono ?_); rintro e w1 ⟨rfl, hb1⟩)
    go_ret
    exact ⟨rfl, hb1⟩
  | .none, _ =>
    have cK : ∀ W, Calls Tryd.prog 80 #[Tm.none.val] W _ := kind_any .none
    simp only [Tm.val, Tm.kind] at cK ⊢
    simp only [goodT]
    go_enter Tryd.func49, Tryd.ntmps49
    go_wp2_with (go_at_call 80; (with_reducible refine (cK _).mono ?_); rintro e w1 ⟨rfl, hb1⟩)
    go_ret
    exact ⟨rfl, hb1⟩
/-! ### The document's -/
theorem xl_iri : iriG XL = true := by
  rw [iriG_of (ascii_parts XL (sigs lL) (by decide) (by decide))]
  decide
set_option maxHeartbeats 4000000 in
set_option maxRecDepth 100000 in
theorem rgoodL_any (a b c : ByteArray) (ha : a.size ≤ 1000000) (hb : b.size ≤ 1000000) (h0 : ¬ c.size = 0) (w : World) :
    Calls Tryd.prog 67 #[F4 2 a b c] w fun e w' => e = .returned (.bool (textG a && ((b.toList == lL) && langB c))) ∧ Below w.heap.size w w' := by
  have cG : ∀ W, Calls Tryd.prog 9 #[.string a] W (SignsPost W (sgP a).1 (decide ((sgP a).2 = []))) := fun W => signs_any a _ _ (sgP_parts a) (by omega) W
  have cI : ∀ W, Calls Tryd.prog 90 #[.string b] W fun e w' => e = .returned (.bool (iriG b)) ∧ Below W.heap.size W w' := fun W => riri_any b _ _ (sgP_parts b) (by omega) W
  have cL := rlang_any c
  have hne : ¬ c.toList = [] := by
    rw [ByteArray.toList_eq]
    intro h
    have := congrArg List.length h
    rw [Array.length_toList] at this
    exact h0 this
  have hem : c.toList.isEmpty = false := by
    cases h : c.toList
    · exact absurd h hne
    · rfl
  have hxl : (b.toList == lL) = true → iriG b = true := fun h => by
    have e : b = XL := bytes_ext (by rw [beq_iff_eq] at h ⊢; rw [h, ByteArray.toList_eq])
    rw [e]; exact xl_iri
  obtain ⟨ok, hok⟩ : ∃ k, k = decide ((sgP a).2 = []) := ⟨_, rfl⟩
  obtain ⟨i, hi⟩ : ∃ k, k = langB c := ⟨_, rfl⟩
  obtain ⟨j, hj⟩ : ∃ k, k = iriG b := ⟨_, rfl⟩
  obtain ⟨r, hr⟩ : ∃ r, r = (textG a && ((b.toList == lL) && langB c)) := ⟨_, rfl⟩
  rw [← hr]
  unfold textG at hr
  rw [← hok] at cG hr
  rw [← hi] at cL hr
  rw [← hj] at cI hxl
  clear hok hi hj ha hb h0
  cases ok
  · have HR : Hid (r = false) := Lib.hid (by rw [hr]; simp)
    clear hr cI cL hxl
    go_enter Tryd.func67, Tryd.ntmps67
    go_wp2_with (go_at_call 9; (with_reducible refine (cG _).mono ?_); rintro e w2 ⟨vI, rfl, hI2, hb2⟩; have hc := (Fb.new w 45 #[.int .i64 2, .string a, .string b, .string c]).below hb2; have c1 := hc.cell 1; have c2 := hc.cell 2; have c3 := hc.cell 3; simp at c1 c2 c3; clear hI2)
    go_ret
    exact ⟨ret_bool HR.out.symm, ((Below.refl _ _).alloc (Nat.le_refl _) _).trans (hb2.mono (by simp))⟩
  · rw [Bool.and_true] at hr
    by_cases h1 : 4096 < a.size
    · have hz : (4096 : Int) < (a.size : Int) := by omega
      have HR : Hid (r = false) := Lib.hid (by rw [hr, decide_eq_false (show ¬ a.size ≤ 4096 by omega)]; rfl)
      clear hr h1 cI cL hxl
      go_enter Tryd.func67, Tryd.ntmps67
      go_wp2_with (go_at_call 9; (with_reducible refine (cG _).mono ?_); rintro e w2 ⟨vI, rfl, hI2, hb2⟩; have hc := (Fb.new w 45 #[.int .i64 2, .string a, .string b, .string c]).below hb2; have c1 := hc.cell 1; have c2 := hc.cell 2; have c3 := hc.cell 3; simp at c1 c2 c3; clear hI2)
      go_ret
      exact ⟨ret_bool HR.out.symm, ((Below.refl _ _).alloc (Nat.le_refl _) _).trans (hb2.mono (by simp))⟩
    · have hz : ¬ (4096 : Int) < (a.size : Int) := by omega
      rw [decide_eq_true (show a.size ≤ 4096 by omega), Bool.true_and] at hr
      clear h1
      cases j
      · have HR : Hid (r = false) := Lib.hid (by
          rw [hr]
          cases h : (b.toList == lL)
          · rfl
          · exact absurd (hxl h) (by decide))
        clear hr cL hxl
        go_enter Tryd.func67, Tryd.ntmps67
        go_wp2_with (first
          | (go_at_call 9; (with_reducible refine (cG _).mono ?_); rintro e w2 ⟨vI, rfl, hI2, hb2⟩; have hc := (Fb.new w 45 #[.int .i64 2, .string a, .string b, .string c]).below hb2; have c1 := hc.cell 1; have c2 := hc.cell 2; have c3 := hc.cell 3; simp at c1 c2 c3; clear hI2)
          | (go_at_call 90; (with_reducible refine (cI _).mono ?_); rintro e w3 ⟨rfl, hb3⟩; have hc3 := hc.below hb3; have d1 := hc3.cell 1; have d2 := hc3.cell 2; have d3 := hc3.cell 3; simp at d1 d2 d3))
        go_ret
        exact ⟨ret_bool HR.out.symm, (((Below.refl _ _).alloc (Nat.le_refl _) _).trans (hb2.mono (by simp))).trans (hb3.mono (by have := hb2.size; simp at this; omega))⟩
      · clear hxl
        cases hx : (b.toList == lL)
        all_goals
          rw [hx] at hr
          have HR := Lib.hid hr
          clear hr
          go_enter Tryd.func67, Tryd.ntmps67
          go_wp2_with (first
            | (go_at_call 9; (with_reducible refine (cG _).mono ?_); rintro e w2 ⟨vI, rfl, hI2, hb2⟩; have hc := (Fb.new w 45 #[.int .i64 2, .string a, .string b, .string c]).below hb2; have c1 := hc.cell 1; have c2 := hc.cell 2; have c3 := hc.cell 3; simp at c1 c2 c3; clear hI2)
            | (go_at_call 90; (with_reducible refine (cI _).mono ?_); rintro e w3 ⟨rfl, hb3⟩; have hc3 := hc.below hb3; have d1 := hc3.cell 1; have d2 := hc3.cell 2; have d3 := hc3.cell 3; simp at d1 d2 d3)
            | (go_at_call 91; (with_reducible refine (cL _).mono ?_); rintro e w' ⟨rfl, rfl⟩))
          go_ret
          exact ⟨ret_bool (by rw [HR.out]; rfl), (((Below.refl _ _).alloc (Nat.le_refl _) _).trans (hb2.mono (by simp))).trans (hb3.mono (by have := hb2.size; simp at this; omega))⟩
set_option maxRecDepth 100000 in
set_option maxHeartbeats 2000000 in
theorem rgoodT_any (t : Tm) (hz : t.few) (w : World) : Calls Tryd.prog 67 #[T4 t] w fun e w' => e = .returned (.bool (goodT t)) ∧ Below w.heap.size w w' := by
  match t, hz with
  | .blank s, hz =>
    have cG := rlabel_any s
    simp only [T4, Tm.kind, Tm.ta, Tm.tb, Tm.tc, goodT]
    clear hz
    go_enter Tryd.func67, Tryd.ntmps67
    go_wp2_with (go_at_call 89; (with_reducible refine (cG _).mono ?_); rintro e w' ⟨rfl, rfl⟩)
    go_ret
    exact ⟨rfl, (Below.refl _ _).alloc (Nat.le_refl _) _⟩
  | .iri s, hz =>
    have cG : ∀ W, Calls Tryd.prog 90 #[.string s] W fun e w' => e = .returned (.bool (iriG s)) ∧ Below W.heap.size W w' := fun W => riri_any s _ _ (sgP_parts s) (by have := hz.1; simp only [Tm.ta] at this; omega) W
    simp only [T4, Tm.kind, Tm.ta, Tm.tb, Tm.tc, goodT]
    clear hz
    go_enter Tryd.func67, Tryd.ntmps67
    go_wp2_with (go_at_call 90; (with_reducible refine (cG _).mono ?_); rintro e w2 ⟨rfl, hb2⟩)
    go_ret
    exact ⟨rfl, ((Below.refl _ _).alloc (Nat.le_refl _) _).trans (hb2.mono (by simp))⟩
  | .lit a b c, hz =>
    simp only [T4, Tm.kind, Tm.ta, Tm.tb, Tm.tc, goodT]
    unfold litG
    by_cases h0 : c.size = 0
    · rw [if_pos h0, size0 h0]
      have := rgood_lit a b _ _ _ _ (sgP_parts a) (sgP_parts b) (by have := hz.1; simp only [Tm.ta] at this; omega) (by have := hz.2.1; simp only [Tm.tb] at this; omega) w
      unfold litB at this
      unfold textG iriG
      rw [Bool.and_assoc]
      exact this
    · rw [if_neg h0]
      exact rgoodL_any a b c hz.1 hz.2.1 h0 w
  | .odd n, _ =>
    simp only [T4, Tm.kind, Tm.ta, Tm.tb, Tm.tc, goodT]
    go_enter Tryd.func67, Tryd.ntmps67
    go_wp2
    go_ret
    exact ⟨rfl, (Below.refl _ _).alloc (Nat.le_refl _) _⟩
  | .none, _ =>
    simp only [T4, Tm.kind, Tm.ta, Tm.tb, Tm.tc, goodT]
    go_enter Tryd.func67, Tryd.ntmps67
    go_wp2
    go_ret
    exact ⟨rfl, (Below.refl _ _).alloc (Nat.le_refl _) _⟩
end Go.Proofs.YtjalhcbomjgkoaaDoor

/-
  WHAT TERMS' TEXTS ARE, sign by sign: plain functions that the program's readers and the document's are both held against.
-/
namespace Go.Proofs.YtjalhcbomjgkoaaDoor
set_option linter.unusedVariables false

/-- The marks of a blank node's label, of a language. -/
abbrev msB : List Int := [95, 45]
abbrev msL : List Int := [45]
/-- Behind a quoted text l: p is the place behind it. -/
def tailP (sl : List Int) (l : List Int) (p : Nat) : Nat × Option Tm :=
  if sl[p]? = some 94 ∧ sl[p + 1]? = some 94 then ((irP sl (p + 2)).1, (irP sl (p + 2)).2.map fun t => Tm.lit (textOf l) (textOf t) mt)
  else if sl[p]? = some 64 then (p + 1 + (wmL msL (sl.drop (p + 1))).length, some (.lit (textOf l) XL (textOf (wmL msL (sl.drop (p + 1))))))
  else (p, some (.lit (textOf l) XS mt))
/-- A literal at a place. -/
def litP (sl : List Int) (k : Nat) : Nat × Option Tm :=
  match (qd sl k).2 with
  | none => ((qd sl k).1, none)
  | some l => tailP sl l (qd sl k).1
/-- What has a term's form at a place. -/
def formP (sl : List Int) (k : Nat) : Nat × Option Tm :=
  if sl[k]? = some 60 then ((irP sl k).1, (irP sl k).2.map fun t => Tm.iri (textOf t))
  else if sl[k]? = some 34 then litP sl k
  else if sl[k]? = some 95 then (if sl[k + 1]? = some 58 then (k + 2 + (wmL msB (sl.drop (k + 2))).length, some (.blank (textOf (wmL msB (sl.drop (k + 2)))))) else (k + 1, none))
  else (k, none)
/-- The term at a place; the place behind it, or the error's; the error. -/
noncomputable def readP (sl : List Int) (k : Nat) : Option Tm × Nat × Int :=
  match (formP sl k).2 with
  | none => (none, (formP sl k).1, 1)
  | some t => if goodT t = true then (some t, (formP sl k).1, 0) else (none, k, 3)
theorem irf_le (sl : List Int) : ∀ (f p : Nat) (acc : List Int), p ≤ sl.length → (irf sl f p acc).1 ≤ sl.length ∧ p ≤ (irf sl f p acc).1 ∧ ∀ l, (irf sl f p acc).2 = some l → AllS acc → AllS sl → AllS l ∧ l.length ≤ acc.length + f
  | 0, p, acc, h => ⟨h, Nat.le_refl _, fun l hl => by cases hl⟩
  | f + 1, p, acc, h => by
    unfold irf
    cases hx : sl[p]? with
    | none => exact ⟨h, Nat.le_refl _, fun l hl => by cases hl⟩
    | some c =>
      have hp := (List.getElem?_eq_some_iff.1 hx).1
      dsimp only
      split
      · exact ⟨hp, by dsimp only; omega, fun l hl ha _ => by simp at hl; subst hl; exact ⟨ha, by omega⟩⟩
      split
      · exact ⟨h, Nat.le_refl _, fun l hl => by cases hl⟩
      split
      · have hn := nef_le sl (p + 1) (by omega)
        cases ho : (nef sl (p + 1)).2 with
        | none => exact ⟨hn.1, by dsimp only; omega, fun l hl => by cases hl⟩
        | some n =>
          have ih := irf_le sl f (nef sl (p + 1)).1 (acc ++ [n]) hn.1
          refine ⟨ih.1, by dsimp only; omega, fun l hl ha hs => ?_⟩
          have hsn := nef_sgn sl (p + 1) n ho
          obtain ⟨a, b⟩ := ih.2.2 l hl (fun x hx => by
            rcases List.mem_append.1 hx with hx | hx
            · exact ha x hx
            · simp at hx; subst hx; exact hsn) hs
          exact ⟨a, by simp at b; omega⟩
      · have ih := irf_le sl f (p + 1) (acc ++ [c]) (by omega)
        refine ⟨ih.1, by omega, fun l hl ha hs => ?_⟩
        obtain ⟨a, b⟩ := ih.2.2 l hl (fun x hx' => by
            rcases List.mem_append.1 hx' with hx' | hx'
            · exact ha x hx'
            · simp at hx'; subst hx'; exact hs x (List.mem_of_getElem? hx)) hs
        exact ⟨a, by simp at b; omega⟩
theorem irP_le (sl : List Int) (k : Nat) (h : k ≤ sl.length) : (irP sl k).1 ≤ sl.length ∧ k ≤ (irP sl k).1 ∧ ∀ l, (irP sl k).2 = some l → AllS sl → AllS l ∧ l.length ≤ sl.length := by
  unfold irP
  split
  · rename_i hx
    have hk := (List.getElem?_eq_some_iff.1 hx).1
    have := irf_le sl (sl.length - (k + 1)) (k + 1) [] (by omega)
    exact ⟨this.1, by omega, fun l hl hs => by obtain ⟨a, b⟩ := this.2.2 l hl allS_nil hs; exact ⟨a, by simp at b; omega⟩⟩
  · exact ⟨h, Nat.le_refl _, fun l hl => by cases hl⟩
theorem qf_le (sl : List Int) : ∀ (f p : Nat) (acc : List Int), p ≤ sl.length → (qf sl f p acc).1 ≤ sl.length ∧ p ≤ (qf sl f p acc).1 ∧ ∀ l, (qf sl f p acc).2 = some l → AllS acc → AllS sl → AllS l ∧ l.length ≤ acc.length + f
  | 0, p, acc, h => ⟨h, Nat.le_refl _, fun l hl => by cases hl⟩
  | f + 1, p, acc, h => by
    unfold qf
    cases hx : sl[p]? with
    | none => exact ⟨h, Nat.le_refl _, fun l hl => by cases hl⟩
    | some c =>
      have hp := (List.getElem?_eq_some_iff.1 hx).1
      dsimp only
      split
      · exact ⟨hp, by dsimp only; omega, fun l hl ha _ => by simp at hl; subst hl; exact ⟨ha, by omega⟩⟩
      split
      · exact ⟨h, Nat.le_refl _, fun l hl => by cases hl⟩
      split
      · have hn := ef_le sl (p + 1) (by omega)
        cases ho : (ef sl (p + 1)).2 with
        | none => exact ⟨hn.1, by dsimp only; omega, fun l hl => by cases hl⟩
        | some n =>
          have ih := qf_le sl f (ef sl (p + 1)).1 (acc ++ [n]) hn.1
          refine ⟨ih.1, by dsimp only; omega, fun l hl ha hs => ?_⟩
          have hsn := ef_sgn sl (p + 1) n ho
          obtain ⟨a, b⟩ := ih.2.2 l hl (fun x hx => by
            rcases List.mem_append.1 hx with hx | hx
            · exact ha x hx
            · simp at hx; subst hx; exact hsn) hs
          exact ⟨a, by simp at b; omega⟩
      · have ih := qf_le sl f (p + 1) (acc ++ [c]) (by omega)
        refine ⟨ih.1, by omega, fun l hl ha hs => ?_⟩
        obtain ⟨a, b⟩ := ih.2.2 l hl (fun x hx' => by
            rcases List.mem_append.1 hx' with hx' | hx'
            · exact ha x hx'
            · simp at hx'; subst hx'; exact hs x (List.mem_of_getElem? hx)) hs
        exact ⟨a, by simp at b; omega⟩
theorem qd_le (sl : List Int) (k : Nat) (h : k ≤ sl.length) : (qd sl k).1 ≤ sl.length ∧ k ≤ (qd sl k).1 ∧ ∀ l, (qd sl k).2 = some l → AllS sl → AllS l ∧ l.length ≤ sl.length := by
  unfold qd
  split
  · rename_i hx
    have hk := (List.getElem?_eq_some_iff.1 hx).1
    have := qf_le sl (sl.length - (k + 1)) (k + 1) [] (by omega)
    exact ⟨this.1, by omega, fun l hl hs => by obtain ⟨a, b⟩ := this.2.2 l hl allS_nil hs; exact ⟨a, by simp at b; omega⟩⟩
  · exact ⟨h, Nat.le_refl _, fun l hl => by cases hl⟩
theorem wmL_le (ms l : List Int) : (wmL ms l).length ≤ l.length := takeWhile_len _ _
theorem mem_takeWhile {f : Int → Bool} {n : Int} : ∀ {l : List Int}, n ∈ l.takeWhile f → n ∈ l
  | [], h => h
  | m :: l, h => by
    rw [List.takeWhile_cons] at h
    split at h
    · rcases List.mem_cons.1 h with rfl | h
      · exact List.mem_cons_self
      · exact List.mem_cons_of_mem _ (mem_takeWhile h)
    · cases h
theorem wmL_all {ms l : List Int} (h : AllS l) : AllS (wmL ms l) := fun n hn => h n (mem_takeWhile hn)
theorem AllS.drop {l : List Int} (h : AllS l) (k : Nat) : AllS (l.drop k) := fun n hn => h n (List.mem_of_mem_drop hn)
/-- A text of so many signs isn't long. -/
theorem text_size (l : List Int) : (textOf l).size ≤ 4 * l.length := by
  have := (encL_len l).2
  rw [Lib.size_eq, textOf_list]; exact this
/-- What is read is of texts of signs, none long. -/
def Tm.soft (N : Nat) (t : Tm) : Prop := (t.ta.size ≤ 4 * N ∧ t.tb.size ≤ 4 * N + 100 ∧ t.tc.size ≤ 4 * N) ∧ t.kind < 3
theorem tailP_le (sl l : List Int) (p : Nat) (h : p ≤ sl.length) (hl : l.length ≤ sl.length) (hs : AllS sl) : (tailP sl l p).1 ≤ sl.length ∧ p ≤ (tailP sl l p).1 ∧ ∀ t, (tailP sl l p).2 = some t → t.soft sl.length := by
  have z1 := text_size l
  unfold tailP
  split
  · rename_i hx
    have hk := (List.getElem?_eq_some_iff.1 hx.2).1
    have hi := irP_le sl (p + 2) (by omega)
    refine ⟨hi.1, by dsimp only; omega, fun t ht => ?_⟩
    cases ho : (irP sl (p + 2)).2 with
    | none => rw [ho] at ht; cases ht
    | some u =>
      rw [ho] at ht
      simp at ht
      subst ht
      have hu := (hi.2.2 u ho hs).2
      have := text_size u
      exact ⟨⟨by simp only [Tm.ta]; omega, by simp only [Tm.tb]; omega, by simp only [Tm.tc]; exact Nat.zero_le _⟩, by simp only [Tm.kind]; decide⟩
  split
  · rename_i hx
    have hk := (List.getElem?_eq_some_iff.1 hx).1
    have hw := wmL_le msL (sl.drop (p + 1))
    rw [List.length_drop] at hw
    refine ⟨by dsimp only; omega, by dsimp only; omega, fun t ht => ?_⟩
    simp at ht
    subst ht
    have := text_size (wmL msL (sl.drop (p + 1)))
    exact ⟨⟨by simp only [Tm.ta]; omega, by simp only [Tm.tb]; exact Nat.le_trans (show XL.size ≤ 100 by decide) (by omega), by simp only [Tm.tc]; omega⟩, by simp only [Tm.kind]; decide⟩
  · refine ⟨h, Nat.le_refl _, fun t ht => ?_⟩
    simp at ht
    subst ht
    exact ⟨⟨by simp only [Tm.ta]; omega, by simp only [Tm.tb]; exact Nat.le_trans (show XS.size ≤ 100 by decide) (by omega), Nat.zero_le _⟩, by simp only [Tm.kind]; decide⟩
theorem formP_le (sl : List Int) (k : Nat) (h : k ≤ sl.length) (hs : AllS sl) : (formP sl k).1 ≤ sl.length ∧ k ≤ (formP sl k).1 ∧ ∀ t, (formP sl k).2 = some t → t.soft sl.length ∧ k < (formP sl k).1 := by
  unfold formP
  split
  · rename_i hx
    have hi := irP_le sl k h
    refine ⟨hi.1, hi.2.1, fun t ht => ?_⟩
    cases ho : (irP sl k).2 with
    | none => rw [ho] at ht; cases ht
    | some u =>
      rw [ho] at ht
      simp at ht
      subst ht
      have hu := (hi.2.2 u ho hs).2
      have := text_size u
      refine ⟨⟨⟨by simp only [Tm.ta]; omega, Nat.zero_le _, Nat.zero_le _⟩, by simp only [Tm.kind]; decide⟩, ?_⟩
      have hk := (List.getElem?_eq_some_iff.1 hx).1
      have := (irf_le sl (sl.length - (k + 1)) (k + 1) [] (by omega)).2.1
      show k < (irP sl k).1
      unfold irP
      rw [if_pos hx]; omega
  split
  · rename_i hx
    have hq := qd_le sl k h
    have hk := (List.getElem?_eq_some_iff.1 hx).1
    have hlt : k < (qd sl k).1 := by
      have := (qf_le sl (sl.length - (k + 1)) (k + 1) [] (by omega)).2.1
      unfold qd
      rw [if_pos hx]; omega
    unfold litP
    cases ho : (qd sl k).2 with
    | none => exact ⟨hq.1, hq.2.1, fun t ht => by cases ht⟩
    | some l =>
      have ht := tailP_le sl l (qd sl k).1 hq.1 ((hq.2.2 l ho hs).2) hs
      exact ⟨ht.1, by dsimp only; omega, fun t h => ⟨ht.2.2 t h, by dsimp only; omega⟩⟩
  split
  · rename_i hx
    have hk := (List.getElem?_eq_some_iff.1 hx).1
    split
    · rename_i hy
      have hk2 := (List.getElem?_eq_some_iff.1 hy).1
      have hw := wmL_le msB (sl.drop (k + 2))
      rw [List.length_drop] at hw
      refine ⟨by dsimp only; omega, by dsimp only; omega, fun t ht => ?_⟩
      simp at ht
      subst ht
      have := text_size (wmL msB (sl.drop (k + 2)))
      exact ⟨⟨⟨by simp only [Tm.ta]; omega, Nat.zero_le _, Nat.zero_le _⟩, by simp only [Tm.kind]; decide⟩, by dsimp only; omega⟩
    · exact ⟨by dsimp only; omega, by dsimp only; omega, fun t ht => by cases ht⟩
  · exact ⟨h, Nat.le_refl _, fun t ht => by cases ht⟩
theorem Tm.soft.few {N : Nat} {t : Tm} (h : t.soft N) (hN : N ≤ 100000) : t.few := ⟨by have := h.1.1; omega, by have := h.1.2.1; omega, by have := h.1.2.2; omega⟩
theorem readP_le (sl : List Int) (k : Nat) (h : k ≤ sl.length) (hs : AllS sl) : (readP sl k).2.1 ≤ sl.length ∧ k ≤ (readP sl k).2.1 ∧ ∀ t, (readP sl k).1 = some t → t.soft sl.length ∧ k < (readP sl k).2.1 ∧ goodT t = true ∧ (readP sl k).2.2 = 0 := by
  have hf := formP_le sl k h hs
  unfold readP
  cases ho : (formP sl k).2 with
  | none => exact ⟨hf.1, hf.2.1, fun t ht => by cases ht⟩
  | some t =>
    dsimp only
    by_cases hg : goodT t = true
    · rw [if_pos hg]
      refine ⟨hf.1, hf.2.1, fun u hu => ?_⟩
      simp at hu
      subst hu
      exact ⟨(hf.2.2 t ho).1, (hf.2.2 t ho).2, hg, rfl⟩
    · rw [if_neg hg]
      exact ⟨h, Nat.le_refl _, fun u hu => by cases hu⟩
end Go.Proofs.YtjalhcbomjgkoaaDoor
