/-
  MERGED (a claim has at most 60 files): NGood, NSem, NBack.
-/
import Derived.Test.YtpnfjjgihkmjmaaGreatDoorZ13
import Derived.Test.YtpnfjjgihkmjmaaGreatDoorZ14
import Derived.Test.YtpnfjjgihkmjmaaGreatDoorZ18
import Derived.Test.YtpnfjjgihkmjmaaGreatDoorZ12
import Derived.Test.YtpnfjjgihkmjmaaGreatDoorZ05
import Derived.Test.YtpnfjjgihkmjmaaGreatDoorZ17
/-
  WHETHER ANYTHING IS A TERM: the program's Good and the document's, one Bool.
-/
namespace Go.Proofs.YtpnfjjgihkmjmaaGreatDoor
open Go.RowKit
set_option linter.unusedVariables false

theorem parts_ex (s : ByteArray) : ∃ p : List Int × List UInt8, Parts s.data.toList p.1 p.2 := by
  obtain ⟨a, b, h⟩ := parts_of s.data.toList
  exact ⟨(a, b), h⟩
noncomputable def sgP (s : ByteArray) : List Int × List UInt8 := Classical.choose (parts_ex s)
theorem sgP_parts (s : ByteArray) : Parts s.data.toList (sgP s).1 (sgP s).2 := Classical.choose_spec (parts_ex s)
noncomputable def iriG (s : ByteArray) : Bool := iriB s.size (sgP s).1 (sgP s).2
noncomputable def textG (s : ByteArray) : Bool := decide (s.size ≤ 4096) && decide ((sgP s).2 = [])
theorem sgP_one {s : ByteArray} {sl : List Int} {rest : List UInt8} (h : Parts s.data.toList sl rest) : (sgP s).1 = sl ∧ (sgP s).2 = rest := (sgP_parts s).one h
theorem iriG_of {s : ByteArray} {sl : List Int} {rest : List UInt8} (h : Parts s.data.toList sl rest) : iriG s = iriB s.size sl rest := by
  obtain ⟨a, b⟩ := sgP_one h
  unfold iriG
  rw [a, b]
theorem textG_of {s : ByteArray} {sl : List Int} {rest : List UInt8} (h : Parts s.data.toList sl rest) : textG s = (decide (s.size ≤ 4096) && decide (rest = [])) := by
  obtain ⟨a, b⟩ := sgP_one h
  unfold textG
  rw [b]
noncomputable def litG (a b c : ByteArray) : Bool := textG a && (if c.size = 0 then (!(b.toList == lL) && iriG b) else ((b.toList == lL) && langB c))
noncomputable def goodT : Tm → Bool
  | .blank s => labelG s
  | .iri s => iriG s
  | .lit a b c => litG a b c
  | _ => false
/-! ### A blank node's label -/
theorem labSG_all : ∀ (l : List Int) (i : Nat), labSG i l = allI (fun i n => labS (i == 0) n) i l
  | [], _ => rfl
  | n :: l, i => by simp only [labSG, allI, labSG_all l (i + 1)]
theorem labG_all : ∀ (l : List UInt8) (i : Nat), labG i l = allU (fun i c => labC (i == 0) (c.toNat : Int)) i l
  | [], _ => rfl
  | n :: l, i => by simp only [labG, allU, labG_all l (i + 1)]
theorem blankB_label {s : ByteArray} {sl : List Int} {rest : List UInt8} (hp : Parts s.data.toList sl rest) : blankB s.size sl rest = labelG s := by
  have := all_same (fun i n => labS (i == 0) n) (fun i c => labC (i == 0) (c.toNat : Int)) (fun i n h => by
      have h1 : (cls n == 1) = false := by rw [beq_eq_false_iff_ne, Ne, cls_1]; omega
      have h2 : (cls n == 2) = false := by rw [beq_eq_false_iff_ne, Ne, cls_2]; omega
      have h3 : (n == 95) = false := by rw [beq_eq_false_iff_ne]; omega
      have h4 : (n == 45) = false := by rw [beq_eq_false_iff_ne]; omega
      show labS _ n = false
      unfold labS
      rw [h1, h2, h3, h4]; simp) (fun i c h => by
      have h1 : letB (c.toNat : Int) = false := by unfold letB; rw [decide_eq_false_iff_not]; omega
      have h2 : digB (c.toNat : Int) = false := by unfold digB; rw [decide_eq_false_iff_not]; omega
      have h3 : ((c.toNat : Int) == 95) = false := by rw [beq_eq_false_iff_ne]; omega
      have h4 : ((c.toNat : Int) == 45) = false := by rw [beq_eq_false_iff_ne]; omega
      show labC _ (c.toNat : Int) = false
      unfold labC
      rw [h1, h2, h3, h4]; simp) (fun i c h => by
      show labS _ (c.toNat : Int) = labC _ (c.toNat : Int)
      unfold labS labC
      rw [letB_U, digB_U, cls_let, cls_dig]) rest hp.bad sl hp.all 0
  unfold blankB labelG
  rw [labSG_all, labG_all, hp.eq, ← this, Bool.and_assoc]
/-! ### The program's -/
theorem methBlank (v : Value) (w : World) : (method 339 107 v "Good").run Tryz.prog w = .ok (183, v) w := by kernel_rfl
theorem methIRI (v : Value) (w : World) : (method 339 68 v "Good").run Tryz.prog w = .ok (161, v) w := by kernel_rfl
def Tm.few (t : Tm) : Prop := t.ta.size ≤ 1000000 ∧ t.tb.size ≤ 1000000 ∧ t.tc.size ≤ 1000000
set_option maxHeartbeats 4000000 in
set_option maxRecDepth 100000 in
theorem litGoodL_any (a b c : ByteArray) (ha : a.size ≤ 1000000) (hc : c.size ≤ 1000000) (h0 : ¬ c.size = 0) (w : World) :
    Calls Tryz.prog 171 #[.agg #[.string a, .string b, .string c]] w fun e w' => e = .returned (.bool (textG a && ((b.toList == lL) && langB c))) ∧ Below w.heap.size w w' := by
  have cG := good_any a _ _ (sgP_parts a) (by omega)
  have cL := isLang_any c (by omega)
  have hne : ¬ c.toList = [] := by
    rw [ByteArray.toList_eq]
    intro h
    have := congrArg List.length h
    rw [Array.length_toList] at this
    exact h0 this
  have hem : (!c.toList.isEmpty) = true := by
    cases h : c.toList
    · exact absurd h hne
    · rfl
  obtain ⟨ok, hok⟩ : ∃ k, k = decide ((sgP a).2 = []) := ⟨_, rfl⟩
  obtain ⟨i, hi⟩ : ∃ k, k = langB c := ⟨_, rfl⟩
  obtain ⟨r, hr⟩ : ∃ r, r = (textG a && ((b.toList == lL) && langB c)) := ⟨_, rfl⟩
  rw [← hr]
  unfold textG at hr
  rw [← hok] at cG hr
  rw [← hi] at cL hr
  clear hok hi hc h0 ha
  by_cases h1 : 4096 < a.size
  · have hz : (4096 : Int) < (a.size : Int) := by omega
    have HR : Hid (r = false) := Lib.hid (by rw [hr, decide_eq_false (show ¬ a.size ≤ 4096 by omega)]; rfl)
    clear hr h1 cG cL
    go_enter Tryz.func171, Tryz.ntmps171
    go_wp2
    go_ret
    exact ⟨ret_bool HR.out.symm, (Below.refl _ _).alloc (Nat.le_refl _) _⟩
  · have hz : ¬ (4096 : Int) < (a.size : Int) := by omega
    rw [decide_eq_true (show a.size ≤ 4096 by omega), Bool.true_and] at hr
    clear h1
    cases ok
    · rw [Bool.false_and] at hr
      have HR := Lib.hid hr
      clear hr cL
      go_enter Tryz.func171, Tryz.ntmps171
      go_wp2_with (go_at_call 90; (with_reducible refine (cG _).mono ?_); rintro e w2 ⟨rfl, hb2⟩)
      go_ret
      exact ⟨ret_bool HR.out.symm, ((Below.refl _ _).alloc (Nat.le_refl _) _).trans (hb2.mono (by simp))⟩
    · rw [Bool.true_and] at hr
      cases hx : (b.toList == lL)
      · rw [hx, Bool.false_and] at hr
        have HR := Lib.hid hr
        clear hr cL
        go_enter Tryz.func171, Tryz.ntmps171
        go_wp2_with (go_at_call 90; (with_reducible refine (cG _).mono ?_); rintro e w2 ⟨rfl, hb2⟩; have hz2 := hb2.size; have hc := (Fb.new w 74 #[.string a, .string b, .string c]).below hb2; have c0 := hc.cell 0; have c1 := hc.cell 1; have c2 := hc.cell 2; simp at c0 c1 c2)
        go_ret
        exact ⟨ret_bool HR.out.symm, ((Below.refl _ _).alloc (Nat.le_refl _) _).trans (hb2.mono (by simp))⟩
      · rw [hx, Bool.true_and] at hr
        have HR := Lib.hid hr
        clear hr
        go_enter Tryz.func171, Tryz.ntmps171
        go_wp2_with (first
          | (go_at_call 90; (with_reducible refine (cG _).mono ?_); rintro e w2 ⟨rfl, hb2⟩; have hz2 := hb2.size; have hc := (Fb.new w 74 #[.string a, .string b, .string c]).below hb2; have c0 := hc.cell 0; have c1 := hc.cell 1; have c2 := hc.cell 2; simp at c0 c1 c2)
          | (go_at_call 172; (with_reducible refine (cL _).mono ?_); rintro e w3 ⟨rfl, hb3⟩))
        go_ret
        exact ⟨ret_bool HR.out.symm, (((Below.refl _ _).alloc (Nat.le_refl _) _).trans (hb2.mono (by simp))).trans (hb3.mono (by have := hb2.size; simp at this; omega))⟩
theorem size0 {c : ByteArray} (h : c.size = 0) : c = mt := by
  apply ByteArray.ext
  have : c.size = c.data.size := rfl
  exact Array.eq_empty_of_size_eq_zero (by omega)
theorem litGoodA_any (a b c : ByteArray) (ha : a.size ≤ 1000000) (hb : b.size ≤ 1000000) (hc : c.size ≤ 1000000) (w : World) :
    Calls Tryz.prog 171 #[.agg #[.string a, .string b, .string c]] w fun e w' => e = .returned (.bool (litG a b c)) ∧ Below w.heap.size w w' := by
  unfold litG
  by_cases h0 : c.size = 0
  · rw [if_pos h0, size0 h0]
    have := litGood_any a b _ _ _ _ (sgP_parts a) (sgP_parts b) (by omega) (by omega) w
    unfold litB at this
    unfold textG iriG
    rw [Bool.and_assoc]
    exact this
  · rw [if_neg h0]
    exact litGoodL_any a b c ha hc h0 w
set_option maxRecDepth 100000 in
set_option maxHeartbeats 2000000 in
theorem goodT_any (t : Tm) (hz : t.few) (w : World) : Calls Tryz.prog 23 #[t.val] w fun e w' => e = .returned (.bool (goodT t)) ∧ Below w.heap.size w w' := by
  match t, hz with
  | .blank s, hz =>
    have cG : ∀ W, Calls Tryz.prog 183 #[.agg #[.string s]] W fun e w' => e = .returned (.bool (labelG s)) ∧ Below W.heap.size W w' := fun W => by
      have := blankGood_any s _ _ (sgP_parts s) (by have := hz.1; simp only [Tm.ta] at this; omega) W
      rw [blankB_label (sgP_parts s)] at this
      exact this
    have cK : ∀ W, Calls Tryz.prog 25 #[(Tm.blank s).val] W _ := kind_any (.blank s)
    simp only [Tm.val, Tm.kind] at cK ⊢
    simp only [goodT]
    have hM := methBlank
    clear hz
    go_enter Tryz.func23, Tryz.ntmps23
    go_wp2_with (first
      | (go_at_call 25; (with_reducible refine (cK _).mono ?_); rintro e w1 ⟨rfl, hb1⟩)
      | (go_at_call 183; (with_reducible refine (cG _).mono ?_); rintro e w2 ⟨rfl, hb2⟩))
    go_ret
    exact ⟨rfl, hb1.trans (hb2.mono hb1.size)⟩
  | .iri s, hz =>
    have cG : ∀ W, Calls Tryz.prog 161 #[.agg #[.string s]] W fun e w' => e = .returned (.bool (iriG s)) ∧ Below W.heap.size W w' := fun W => iriGood_any s _ _ (sgP_parts s) (by have := hz.1; simp only [Tm.ta] at this; omega) W
    have cK : ∀ W, Calls Tryz.prog 25 #[(Tm.iri s).val] W _ := kind_any (.iri s)
    simp only [Tm.val, Tm.kind] at cK ⊢
    simp only [goodT]
    have hM := methIRI
    clear hz
    go_enter Tryz.func23, Tryz.ntmps23
    go_wp2_with (first
      | (go_at_call 25; (with_reducible refine (cK _).mono ?_); rintro e w1 ⟨rfl, hb1⟩)
      | (go_at_call 161; (with_reducible refine (cG _).mono ?_); rintro e w2 ⟨rfl, hb2⟩))
    go_ret
    exact ⟨rfl, hb1.trans (hb2.mono hb1.size)⟩
  | .lit a b c, hz =>
    have cG : ∀ W, Calls Tryz.prog 171 #[.agg #[.string a, .string b, .string c]] W fun e w' => e = .returned (.bool (litG a b c)) ∧ Below W.heap.size W w' := fun W => litGoodA_any a b c hz.1 hz.2.1 hz.2.2 W
    have cK : ∀ W, Calls Tryz.prog 25 #[(Tm.lit a b c).val] W _ := kind_any (.lit a b c)
    simp only [Tm.val, Tm.kind] at cK ⊢
    simp only [goodT]
    have hM := methLit
    clear hz
    go_enter Tryz.func23, Tryz.ntmps23
    go_wp2_with (first
      | (go_at_call 25; (with_reducible refine (cK _).mono ?_); rintro e w1 ⟨rfl, hb1⟩)
      | (go_at_call 171; (with_reducible refine (cG _).mono ?_); rintro e w2 ⟨rfl, hb2⟩))
    go_ret
    exact ⟨rfl, hb1.trans (hb2.mono hb1.size)⟩
  | .odd n, _ =>
    have cK : ∀ W, Calls Tryz.prog 25 #[(Tm.odd n).val] W _ := kind_any (.odd n)
    simp only [Tm.val, Tm.kind] at cK ⊢
    simp only [goodT]
    go_enter Tryz.func23, Tryz.ntmps23
    go_wp2_with (go_at_call 25; (with_reducible refine (cK _).mono ?_); rintro e w1 ⟨rfl, hb1⟩)
    go_ret
    exact ⟨rfl, hb1⟩
  | .none, _ =>
    have cK : ∀ W, Calls Tryz.prog 25 #[Tm.none.val] W _ := kind_any .none
    simp only [Tm.val, Tm.kind] at cK ⊢
    simp only [goodT]
    go_enter Tryz.func23, Tryz.ntmps23
    go_wp2_with (go_at_call 25; (with_reducible refine (cK _).mono ?_); rintro e w1 ⟨rfl, hb1⟩)
    go_ret
    exact ⟨rfl, hb1⟩
/-! ### The document's -/
theorem xl_iri : iriG XL = true := by
  rw [iriG_of (ascii_parts XL (sigs lL) (by decide) (by decide))]
  decide
set_option maxHeartbeats 4000000 in
set_option maxRecDepth 100000 in
theorem rgoodL_any (a b c : ByteArray) (ha : a.size ≤ 1000000) (hb : b.size ≤ 1000000) (h0 : ¬ c.size = 0) (w : World) :
    Calls Tryz.prog 24 #[F4 2 a b c] w fun e w' => e = .returned (.bool (textG a && ((b.toList == lL) && langB c))) ∧ Below w.heap.size w w' := by
  have cG : ∀ W, Calls Tryz.prog 14 #[.string a] W (SignsPost W (sgP a).1 (decide ((sgP a).2 = []))) := fun W => signs_any a _ _ (sgP_parts a) (by omega) W
  have cI : ∀ W, Calls Tryz.prog 56 #[.string b] W fun e w' => e = .returned (.bool (iriG b)) ∧ Below W.heap.size W w' := fun W => riri_any b _ _ (sgP_parts b) (by omega) W
  have cL := rlang_any c
  have hne : ¬ c.toList = [] := by
    rw [ByteArray.toList_eq]
    intro h
    have := congrArg List.length h
    rw [Array.length_toList] at this
    exact h0 this
  have hem : c.toList.isEmpty = false := by
    cases h : c.toList
    · exact absurd h hne
    · rfl
  have hxl : (b.toList == lL) = true → iriG b = true := fun h => by
    have e : b = XL := bytes_ext (by rw [beq_iff_eq] at h ⊢; rw [h, ByteArray.toList_eq])
    rw [e]; exact xl_iri
  obtain ⟨ok, hok⟩ : ∃ k, k = decide ((sgP a).2 = []) := ⟨_, rfl⟩
  obtain ⟨i, hi⟩ : ∃ k, k = langB c := ⟨_, rfl⟩
  obtain ⟨j, hj⟩ : ∃ k, k = iriG b := ⟨_, rfl⟩
  obtain ⟨r, hr⟩ : ∃ r, r = (textG a && ((b.toList == lL) && langB c)) := ⟨_, rfl⟩
  rw [← hr]
  unfold textG at hr
  rw [← hok] at cG hr
  rw [← hi] at cL hr
  rw [← hj] at cI hxl
  clear hok hi hj ha hb h0
  cases ok
  · have HR : Hid (r = false) := Lib.hid (by rw [hr]; simp)
    clear hr cI cL hxl
    go_enter Tryz.func24, Tryz.ntmps24
    go_wp2_with (go_at_call 14; (with_reducible refine (cG _).mono ?_); rintro e w2 ⟨vI, rfl, hI2, hb2⟩; have hc := (Fb.new w 36 #[.int .i64 2, .string a, .string b, .string c]).below hb2; have c1 := hc.cell 1; have c2 := hc.cell 2; have c3 := hc.cell 3; simp at c1 c2 c3; clear hI2)
    go_ret
    exact ⟨ret_bool HR.out.symm, ((Below.refl _ _).alloc (Nat.le_refl _) _).trans (hb2.mono (by simp))⟩
  · rw [Bool.and_true] at hr
    by_cases h1 : 4096 < a.size
    · have hz : (4096 : Int) < (a.size : Int) := by omega
      have HR : Hid (r = false) := Lib.hid (by rw [hr, decide_eq_false (show ¬ a.size ≤ 4096 by omega)]; rfl)
      clear hr h1 cI cL hxl
      go_enter Tryz.func24, Tryz.ntmps24
      go_wp2_with (go_at_call 14; (with_reducible refine (cG _).mono ?_); rintro e w2 ⟨vI, rfl, hI2, hb2⟩; have hc := (Fb.new w 36 #[.int .i64 2, .string a, .string b, .string c]).below hb2; have c1 := hc.cell 1; have c2 := hc.cell 2; have c3 := hc.cell 3; simp at c1 c2 c3; clear hI2)
      go_ret
      exact ⟨ret_bool HR.out.symm, ((Below.refl _ _).alloc (Nat.le_refl _) _).trans (hb2.mono (by simp))⟩
    · have hz : ¬ (4096 : Int) < (a.size : Int) := by omega
      rw [decide_eq_true (show a.size ≤ 4096 by omega), Bool.true_and] at hr
      clear h1
      cases j
      · have HR : Hid (r = false) := Lib.hid (by
          rw [hr]
          cases h : (b.toList == lL)
          · rfl
          · exact absurd (hxl h) (by decide))
        clear hr cL hxl
        go_enter Tryz.func24, Tryz.ntmps24
        go_wp2_with (first
          | (go_at_call 14; (with_reducible refine (cG _).mono ?_); rintro e w2 ⟨vI, rfl, hI2, hb2⟩; have hc := (Fb.new w 36 #[.int .i64 2, .string a, .string b, .string c]).below hb2; have c1 := hc.cell 1; have c2 := hc.cell 2; have c3 := hc.cell 3; simp at c1 c2 c3; clear hI2)
          | (go_at_call 56; (with_reducible refine (cI _).mono ?_); rintro e w3 ⟨rfl, hb3⟩; have hc3 := hc.below hb3; have d1 := hc3.cell 1; have d2 := hc3.cell 2; have d3 := hc3.cell 3; simp at d1 d2 d3))
        go_ret
        exact ⟨ret_bool HR.out.symm, (((Below.refl _ _).alloc (Nat.le_refl _) _).trans (hb2.mono (by simp))).trans (hb3.mono (by have := hb2.size; simp at this; omega))⟩
      · clear hxl
        cases hx : (b.toList == lL)
        all_goals
          rw [hx] at hr
          have HR := Lib.hid hr
          clear hr
          go_enter Tryz.func24, Tryz.ntmps24
          go_wp2_with (first
            | (go_at_call 14; (with_reducible refine (cG _).mono ?_); rintro e w2 ⟨vI, rfl, hI2, hb2⟩; have hc := (Fb.new w 36 #[.int .i64 2, .string a, .string b, .string c]).below hb2; have c1 := hc.cell 1; have c2 := hc.cell 2; have c3 := hc.cell 3; simp at c1 c2 c3; clear hI2)
            | (go_at_call 56; (with_reducible refine (cI _).mono ?_); rintro e w3 ⟨rfl, hb3⟩; have hc3 := hc.below hb3; have d1 := hc3.cell 1; have d2 := hc3.cell 2; have d3 := hc3.cell 3; simp at d1 d2 d3)
            | (go_at_call 57; (with_reducible refine (cL _).mono ?_); rintro e w' ⟨rfl, rfl⟩))
          go_ret
          exact ⟨ret_bool (by rw [HR.out]; rfl), (((Below.refl _ _).alloc (Nat.le_refl _) _).trans (hb2.mono (by simp))).trans (hb3.mono (by have := hb2.size; simp at this; omega))⟩
set_option maxRecDepth 100000 in
set_option maxHeartbeats 2000000 in
theorem rgoodT_any (t : Tm) (hz : t.few) (w : World) : Calls Tryz.prog 24 #[T4 t] w fun e w' => e = .returned (.bool (goodT t)) ∧ Below w.heap.size w w' := by
  match t, hz with
  | .blank s, hz =>
    have cG := rlabel_any s
    simp only [T4, Tm.kind, Tm.ta, Tm.tb, Tm.tc, goodT]
    clear hz
    go_enter Tryz.func24, Tryz.ntmps24
    go_wp2_with (go_at_call 55; (with_reducible refine (cG _).mono ?_); rintro e w' ⟨rfl, rfl⟩)
    go_ret
    exact ⟨rfl, (Below.refl _ _).alloc (Nat.le_refl _) _⟩
  | .iri s, hz =>
    have cG : ∀ W, Calls Tryz.prog 56 #[.string s] W fun e w' => e = .returned (.bool (iriG s)) ∧ Below W.heap.size W w' := fun W => riri_any s _ _ (sgP_parts s) (by have := hz.1; simp only [Tm.ta] at this; omega) W
    simp only [T4, Tm.kind, Tm.ta, Tm.tb, Tm.tc, goodT]
    clear hz
    go_enter Tryz.func24, Tryz.ntmps24
    go_wp2_with (go_at_call 56; (with_reducible refine (cG _).mono ?_); rintro e w2 ⟨rfl, hb2⟩)
    go_ret
    exact ⟨rfl, ((Below.refl _ _).alloc (Nat.le_refl _) _).trans (hb2.mono (by simp))⟩
  | .lit a b c, hz =>
    simp only [T4, Tm.kind, Tm.ta, Tm.tb, Tm.tc, goodT]
    unfold litG
    by_cases h0 : c.size = 0
    · rw [if_pos h0, size0 h0]
      have := rgood_lit a b _ _ _ _ (sgP_parts a) (sgP_parts b) (by have := hz.1; simp only [Tm.ta] at this; omega) (by have := hz.2.1; simp only [Tm.tb] at this; omega) w
      unfold litB at this
      unfold textG iriG
      rw [Bool.and_assoc]
      exact this
    · rw [if_neg h0]
      exact rgoodL_any a b c hz.1 hz.2.1 h0 w
  | .odd n, _ =>
    simp only [T4, Tm.kind, Tm.ta, Tm.tb, Tm.tc, goodT]
    go_enter Tryz.func24, Tryz.ntmps24
    go_wp2
    go_ret
    exact ⟨rfl, (Below.refl _ _).alloc (Nat.le_refl _) _⟩
  | .none, _ =>
    simp only [T4, Tm.kind, Tm.ta, Tm.tb, Tm.tc, goodT]
    go_enter Tryz.func24, Tryz.ntmps24
    go_wp2
    go_ret
    exact ⟨rfl, (Below.refl _ _).alloc (Nat.le_refl _) _⟩
end Go.Proofs.YtpnfjjgihkmjmaaGreatDoor

/-
  WHAT TERMS' TEXTS ARE, sign by sign: plain functions that the program's readers and the document's are both held against.
-/
namespace Go.Proofs.YtpnfjjgihkmjmaaGreatDoor
set_option linter.unusedVariables false

/-- The marks of a blank node's label, of a language. -/
abbrev msB : List Int := [95, 45]
abbrev msL : List Int := [45]
/-- Behind a quoted text l: p is the place behind it. -/
def tailP (sl : List Int) (l : List Int) (p : Nat) : Nat × Option Tm :=
  if sl[p]? = some 94 ∧ sl[p + 1]? = some 94 then ((irP sl (p + 2)).1, (irP sl (p + 2)).2.map fun t => Tm.lit (textOf l) (textOf t) mt)
  else if sl[p]? = some 64 then (p + 1 + (wmL msL (sl.drop (p + 1))).length, some (.lit (textOf l) XL (textOf (wmL msL (sl.drop (p + 1))))))
  else (p, some (.lit (textOf l) XS mt))
/-- A literal at a place. -/
def litP (sl : List Int) (k : Nat) : Nat × Option Tm :=
  match (qd sl k).2 with
  | none => ((qd sl k).1, none)
  | some l => tailP sl l (qd sl k).1
/-- What has a term's form at a place. -/
def formP (sl : List Int) (k : Nat) : Nat × Option Tm :=
  if sl[k]? = some 60 then ((irP sl k).1, (irP sl k).2.map fun t => Tm.iri (textOf t))
  else if sl[k]? = some 34 then litP sl k
  else if sl[k]? = some 95 then (if sl[k + 1]? = some 58 then (k + 2 + (wmL msB (sl.drop (k + 2))).length, some (.blank (textOf (wmL msB (sl.drop (k + 2)))))) else (k + 1, none))
  else (k, none)
/-- The term at a place; the place behind it, or the error's; the error. -/
noncomputable def readP (sl : List Int) (k : Nat) : Option Tm × Nat × Int :=
  match (formP sl k).2 with
  | none => (none, (formP sl k).1, 1)
  | some t => if goodT t = true then (some t, (formP sl k).1, 0) else (none, k, 3)
theorem irf_le (sl : List Int) : ∀ (f p : Nat) (acc : List Int), p ≤ sl.length → (irf sl f p acc).1 ≤ sl.length ∧ p ≤ (irf sl f p acc).1 ∧ ∀ l, (irf sl f p acc).2 = some l → AllS acc → AllS sl → AllS l ∧ l.length ≤ acc.length + f
  | 0, p, acc, h => ⟨h, Nat.le_refl _, fun l hl => by cases hl⟩
  | f + 1, p, acc, h => by
    unfold irf
    cases hx : sl[p]? with
    | none => exact ⟨h, Nat.le_refl _, fun l hl => by cases hl⟩
    | some c =>
      have hp := (List.getElem?_eq_some_iff.1 hx).1
      dsimp only
      split
      · exact ⟨hp, by dsimp only; omega, fun l hl ha _ => by simp at hl; subst hl; exact ⟨ha, by omega⟩⟩
      split
      · exact ⟨h, Nat.le_refl _, fun l hl => by cases hl⟩
      split
      · have hn := nef_le sl (p + 1) (by omega)
        cases ho : (nef sl (p + 1)).2 with
        | none => exact ⟨hn.1, by dsimp only; omega, fun l hl => by cases hl⟩
        | some n =>
          have ih := irf_le sl f (nef sl (p + 1)).1 (acc ++ [n]) hn.1
          refine ⟨ih.1, by dsimp only; omega, fun l hl ha hs => ?_⟩
          have hsn := nef_sgn sl (p + 1) n ho
          obtain ⟨a, b⟩ := ih.2.2 l hl (fun x hx => by
            rcases List.mem_append.1 hx with hx | hx
            · exact ha x hx
            · simp at hx; subst hx; exact hsn) hs
          exact ⟨a, by simp at b; omega⟩
      · have ih := irf_le sl f (p + 1) (acc ++ [c]) (by omega)
        refine ⟨ih.1, by omega, fun l hl ha hs => ?_⟩
        obtain ⟨a, b⟩ := ih.2.2 l hl (fun x hx' => by
            rcases List.mem_append.1 hx' with hx' | hx'
            · exact ha x hx'
            · simp at hx'; subst hx'; exact hs x (List.mem_of_getElem? hx)) hs
        exact ⟨a, by simp at b; omega⟩
theorem irP_le (sl : List Int) (k : Nat) (h : k ≤ sl.length) : (irP sl k).1 ≤ sl.length ∧ k ≤ (irP sl k).1 ∧ ∀ l, (irP sl k).2 = some l → AllS sl → AllS l ∧ l.length ≤ sl.length := by
  unfold irP
  split
  · rename_i hx
    have hk := (List.getElem?_eq_some_iff.1 hx).1
    have := irf_le sl (sl.length - (k + 1)) (k + 1) [] (by omega)
    exact ⟨this.1, by omega, fun l hl hs => by obtain ⟨a, b⟩ := this.2.2 l hl allS_nil hs; exact ⟨a, by simp at b; omega⟩⟩
  · exact ⟨h, Nat.le_refl _, fun l hl => by cases hl⟩
theorem qf_le (sl : List Int) : ∀ (f p : Nat) (acc : List Int), p ≤ sl.length → (qf sl f p acc).1 ≤ sl.length ∧ p ≤ (qf sl f p acc).1 ∧ ∀ l, (qf sl f p acc).2 = some l → AllS acc → AllS sl → AllS l ∧ l.length ≤ acc.length + f
  | 0, p, acc, h => ⟨h, Nat.le_refl _, fun l hl => by cases hl⟩
  | f + 1, p, acc, h => by
    unfold qf
    cases hx : sl[p]? with
    | none => exact ⟨h, Nat.le_refl _, fun l hl => by cases hl⟩
    | some c =>
      have hp := (List.getElem?_eq_some_iff.1 hx).1
      dsimp only
      split
      · exact ⟨hp, by dsimp only; omega, fun l hl ha _ => by simp at hl; subst hl; exact ⟨ha, by omega⟩⟩
      split
      · exact ⟨h, Nat.le_refl _, fun l hl => by cases hl⟩
      split
      · have hn := ef_le sl (p + 1) (by omega)
        cases ho : (ef sl (p + 1)).2 with
        | none => exact ⟨hn.1, by dsimp only; omega, fun l hl => by cases hl⟩
        | some n =>
          have ih := qf_le sl f (ef sl (p + 1)).1 (acc ++ [n]) hn.1
          refine ⟨ih.1, by dsimp only; omega, fun l hl ha hs => ?_⟩
          have hsn := ef_sgn sl (p + 1) n ho
          obtain ⟨a, b⟩ := ih.2.2 l hl (fun x hx => by
            rcases List.mem_append.1 hx with hx | hx
            · exact ha x hx
            · simp at hx; subst hx; exact hsn) hs
          exact ⟨a, by simp at b; omega⟩
      · have ih := qf_le sl f (p + 1) (acc ++ [c]) (by omega)
        refine ⟨ih.1, by omega, fun l hl ha hs => ?_⟩
        obtain ⟨a, b⟩ := ih.2.2 l hl (fun x hx' => by
            rcases List.mem_append.1 hx' with hx' | hx'
            · exact ha x hx'
            · simp at hx'; subst hx'; exact hs x (List.mem_of_getElem? hx)) hs
        exact ⟨a, by simp at b; omega⟩
theorem qd_le (sl : List Int) (k : Nat) (h : k ≤ sl.length) : (qd sl k).1 ≤ sl.length ∧ k ≤ (qd sl k).1 ∧ ∀ l, (qd sl k).2 = some l → AllS sl → AllS l ∧ l.length ≤ sl.length := by
  unfold qd
  split
  · rename_i hx
    have hk := (List.getElem?_eq_some_iff.1 hx).1
    have := qf_le sl (sl.length - (k + 1)) (k + 1) [] (by omega)
    exact ⟨this.1, by omega, fun l hl hs => by obtain ⟨a, b⟩ := this.2.2 l hl allS_nil hs; exact ⟨a, by simp at b; omega⟩⟩
  · exact ⟨h, Nat.le_refl _, fun l hl => by cases hl⟩
theorem wmL_le (ms l : List Int) : (wmL ms l).length ≤ l.length := takeWhile_len _ _
theorem mem_takeWhile {f : Int → Bool} {n : Int} : ∀ {l : List Int}, n ∈ l.takeWhile f → n ∈ l
  | [], h => h
  | m :: l, h => by
    rw [List.takeWhile_cons] at h
    split at h
    · rcases List.mem_cons.1 h with rfl | h
      · exact List.mem_cons_self
      · exact List.mem_cons_of_mem _ (mem_takeWhile h)
    · cases h
theorem wmL_all {ms l : List Int} (h : AllS l) : AllS (wmL ms l) := fun n hn => h n (mem_takeWhile hn)
theorem AllS.drop {l : List Int} (h : AllS l) (k : Nat) : AllS (l.drop k) := fun n hn => h n (List.mem_of_mem_drop hn)
/-- A text of so many signs isn't long. -/
theorem text_size (l : List Int) : (textOf l).size ≤ 4 * l.length := by
  have := (encL_len l).2
  rw [Lib.size_eq, textOf_list]; exact this
/-- What is read is of texts of signs, none long. -/
def Tm.soft (N : Nat) (t : Tm) : Prop := (t.ta.size ≤ 4 * N ∧ t.tb.size ≤ 4 * N + 100 ∧ t.tc.size ≤ 4 * N) ∧ t.kind < 3
theorem tailP_le (sl l : List Int) (p : Nat) (h : p ≤ sl.length) (hl : l.length ≤ sl.length) (hs : AllS sl) : (tailP sl l p).1 ≤ sl.length ∧ p ≤ (tailP sl l p).1 ∧ ∀ t, (tailP sl l p).2 = some t → t.soft sl.length := by
  have z1 := text_size l
  unfold tailP
  split
  · rename_i hx
    have hk := (List.getElem?_eq_some_iff.1 hx.2).1
    have hi := irP_le sl (p + 2) (by omega)
    refine ⟨hi.1, by dsimp only; omega, fun t ht => ?_⟩
    cases ho : (irP sl (p + 2)).2 with
    | none => rw [ho] at ht; cases ht
    | some u =>
      rw [ho] at ht
      simp at ht
      subst ht
      have hu := (hi.2.2 u ho hs).2
      have := text_size u
      exact ⟨⟨by simp only [Tm.ta]; omega, by simp only [Tm.tb]; omega, by simp only [Tm.tc]; exact Nat.zero_le _⟩, by simp only [Tm.kind]; decide⟩
  split
  · rename_i hx
    have hk := (List.getElem?_eq_some_iff.1 hx).1
    have hw := wmL_le msL (sl.drop (p + 1))
    rw [List.length_drop] at hw
    refine ⟨by dsimp only; omega, by dsimp only; omega, fun t ht => ?_⟩
    simp at ht
    subst ht
    have := text_size (wmL msL (sl.drop (p + 1)))
    exact ⟨⟨by simp only [Tm.ta]; omega, by simp only [Tm.tb]; exact Nat.le_trans (show XL.size ≤ 100 by decide) (by omega), by simp only [Tm.tc]; omega⟩, by simp only [Tm.kind]; decide⟩
  · refine ⟨h, Nat.le_refl _, fun t ht => ?_⟩
    simp at ht
    subst ht
    exact ⟨⟨by simp only [Tm.ta]; omega, by simp only [Tm.tb]; exact Nat.le_trans (show XS.size ≤ 100 by decide) (by omega), Nat.zero_le _⟩, by simp only [Tm.kind]; decide⟩
theorem formP_le (sl : List Int) (k : Nat) (h : k ≤ sl.length) (hs : AllS sl) : (formP sl k).1 ≤ sl.length ∧ k ≤ (formP sl k).1 ∧ ∀ t, (formP sl k).2 = some t → t.soft sl.length ∧ k < (formP sl k).1 := by
  unfold formP
  split
  · rename_i hx
    have hi := irP_le sl k h
    refine ⟨hi.1, hi.2.1, fun t ht => ?_⟩
    cases ho : (irP sl k).2 with
    | none => rw [ho] at ht; cases ht
    | some u =>
      rw [ho] at ht
      simp at ht
      subst ht
      have hu := (hi.2.2 u ho hs).2
      have := text_size u
      refine ⟨⟨⟨by simp only [Tm.ta]; omega, Nat.zero_le _, Nat.zero_le _⟩, by simp only [Tm.kind]; decide⟩, ?_⟩
      have hk := (List.getElem?_eq_some_iff.1 hx).1
      have := (irf_le sl (sl.length - (k + 1)) (k + 1) [] (by omega)).2.1
      show k < (irP sl k).1
      unfold irP
      rw [if_pos hx]; omega
  split
  · rename_i hx
    have hq := qd_le sl k h
    have hk := (List.getElem?_eq_some_iff.1 hx).1
    have hlt : k < (qd sl k).1 := by
      have := (qf_le sl (sl.length - (k + 1)) (k + 1) [] (by omega)).2.1
      unfold qd
      rw [if_pos hx]; omega
    unfold litP
    cases ho : (qd sl k).2 with
    | none => exact ⟨hq.1, hq.2.1, fun t ht => by cases ht⟩
    | some l =>
      have ht := tailP_le sl l (qd sl k).1 hq.1 ((hq.2.2 l ho hs).2) hs
      exact ⟨ht.1, by dsimp only; omega, fun t h => ⟨ht.2.2 t h, by dsimp only; omega⟩⟩
  split
  · rename_i hx
    have hk := (List.getElem?_eq_some_iff.1 hx).1
    split
    · rename_i hy
      have hk2 := (List.getElem?_eq_some_iff.1 hy).1
      have hw := wmL_le msB (sl.drop (k + 2))
      rw [List.length_drop] at hw
      refine ⟨by dsimp only; omega, by dsimp only; omega, fun t ht => ?_⟩
      simp at ht
      subst ht
      have := text_size (wmL msB (sl.drop (k + 2)))
      exact ⟨⟨⟨by simp only [Tm.ta]; omega, Nat.zero_le _, Nat.zero_le _⟩, by simp only [Tm.kind]; decide⟩, by dsimp only; omega⟩
    · exact ⟨by dsimp only; omega, by dsimp only; omega, fun t ht => by cases ht⟩
  · exact ⟨h, Nat.le_refl _, fun t ht => by cases ht⟩
theorem Tm.soft.few {N : Nat} {t : Tm} (h : t.soft N) (hN : N ≤ 100000) : t.few := ⟨by have := h.1.1; omega, by have := h.1.2.1; omega, by have := h.1.2.2; omega⟩
theorem readP_le (sl : List Int) (k : Nat) (h : k ≤ sl.length) (hs : AllS sl) : (readP sl k).2.1 ≤ sl.length ∧ k ≤ (readP sl k).2.1 ∧ ∀ t, (readP sl k).1 = some t → t.soft sl.length ∧ k < (readP sl k).2.1 ∧ goodT t = true ∧ (readP sl k).2.2 = 0 := by
  have hf := formP_le sl k h hs
  unfold readP
  cases ho : (formP sl k).2 with
  | none => exact ⟨hf.1, hf.2.1, fun t ht => by cases ht⟩
  | some t =>
    dsimp only
    by_cases hg : goodT t = true
    · rw [if_pos hg]
      refine ⟨hf.1, hf.2.1, fun u hu => ?_⟩
      simp at hu
      subst hu
      exact ⟨(hf.2.2 t ho).1, (hf.2.2 t ho).2, hg, rfl⟩
    · rw [if_neg hg]
      exact ⟨h, Nat.le_refl _, fun u hu => by cases hu⟩
end Go.Proofs.YtpnfjjgihkmjmaaGreatDoor

/-
  PLAIN LEAN, NO RUN: a good term's text, sign by sign; read again it is the term.
-/
namespace Go.Proofs.YtpnfjjgihkmjmaaGreatDoor
set_option linter.unusedVariables false
set_option linter.unusedSimpArgs false

theorem drop_two {l t : List Int} {p : Nat} {c : Int} (h : l.drop p = c :: t) : l[p]? = some c ∧ l.drop (p + 1) = t := by
  have h1 : l[p]? = (l.drop p)[0]? := by rw [List.getElem?_drop, Nat.add_zero]
  refine ⟨by rw [h1, h]; rfl, ?_⟩
  rw [← List.drop_drop, h]; rfl
theorem drop_more {l a t : List Int} {p : Nat} (h : l.drop p = a ++ t) : l.drop (p + a.length) = t := by
  rw [← List.drop_drop, h, List.drop_left]
theorem drop_lt {l a t : List Int} {p : Nat} (h : l.drop p = a ++ t) : a.length + t.length = l.length - p := by
  rw [← List.length_append, ← h, List.length_drop]
theorem drop_at {l a t : List Int} {p : Nat} (j : Nat) (h : l.drop p = a ++ t) (hj : j < a.length) : l[p + j]? = a[j]? := by
  rw [← List.getElem?_drop, h, List.getElem?_append_left hj]
/-- An IRI's signs, read. -/
theorem irf_body (sl r : List Int) : ∀ (u : List Int) (f p : Nat) (acc : List Int), sl.drop p = u ++ 62 :: r → (∀ n ∈ u, n ≠ 62 ∧ n ≠ 10 ∧ n ≠ 92) → u.length < f → irf sl f p acc = (p + u.length + 1, some (acc ++ u))
  | [], 0, p, acc, _, _, hf => by simp at hf
  | [], f + 1, p, acc, h, _, _ => by
    unfold irf
    rw [(drop_two h).1]
    simp
  | n :: u, 0, p, acc, _, _, hf => by simp at hf
  | n :: u, f + 1, p, acc, h, hu, hf => by
    obtain ⟨h1, h2⟩ := drop_two h
    obtain ⟨a, b, c⟩ := hu n List.mem_cons_self
    unfold irf
    rw [h1]
    dsimp only
    rw [if_neg a, if_neg b, if_neg c, irf_body sl r u f (p + 1) (acc ++ [n]) h2 (fun m hm => hu m (List.mem_cons_of_mem _ hm)) (by simp at hf; omega)]
    rw [List.length_cons, List.append_assoc]
    congr 1
    omega
theorem irP_text (sl u r : List Int) (k : Nat) (h : sl.drop k = 60 :: (u ++ 62 :: r)) (hu : ∀ n ∈ u, n ≠ 62 ∧ n ≠ 10 ∧ n ≠ 92) : irP sl k = (k + u.length + 2, some u) := by
  obtain ⟨h1, h2⟩ := drop_two h
  have hl := drop_lt h2
  rw [List.length_cons] at hl
  unfold irP
  rw [if_pos h1, irf_body sl r u _ _ [] h2 hu (by omega)]
  rw [List.nil_append]
  congr 1
  omega
/-! ### A quoted text -/
theorem hexv_hxx (x : Int) (h0 : 0 ≤ x) (h1 : x < 16) : hexv (hx x) = x := by unfold hexv hx; omega
theorem escS_len (n : Int) : 1 ≤ (escS n).length := by unfold escS; split <;> (try split) <;> simp
theorem bodyS_cons (n : Int) (l : List Int) : bodyS (n :: l) = escS n ++ bodyS l := by unfold bodyS; rw [List.flatMap_cons]
theorem body_len : ∀ l : List Int, l.length ≤ (bodyS l).length
  | [] => by simp
  | n :: l => by rw [bodyS_cons, List.length_append, List.length_cons]; have := escS_len n; have := body_len l; omega
theorem qf_one (sl r : List Int) (n : Int) (hn : sgn n = true) (f p : Nat) (acc : List Int) (h : sl.drop p = escS n ++ r) : qf sl (f + 1) p acc = qf sl f (p + (escS n).length) (acc ++ [n]) := by
  unfold escS at h ⊢
  by_cases hl : lett n ≠ 0
  · rw [if_pos hl] at h ⊢
    obtain ⟨h1, h2⟩ := drop_two h
    obtain ⟨h3, h4⟩ := drop_two h2
    have he : ef sl (p + 1) = (p + 2, some n) := by
      have e1 : lett n ≠ 117 := by unfold lett at *; omega
      have e2 : lett n ≠ 85 := by unfold lett at *; omega
      have e3 : unl (lett n) = n := by unfold lett unl at *; omega
      have e4 : 0 ≤ n := by unfold lett at *; omega
      unfold ef
      rw [h3]
      dsimp only
      rw [if_neg e1, if_neg e2, e3, if_pos e4]
    conv => lhs; unfold qf
    rw [h1]
    dsimp only
    rw [if_neg (by decide), if_neg (by decide), if_pos rfl, he]
    rfl
  rw [if_neg hl] at h ⊢
  by_cases h4 : cls n = 4
  · rw [if_pos h4] at h ⊢
    obtain ⟨h1, h2⟩ := drop_two h
    obtain ⟨h3, h5⟩ := drop_two h2
    have hr := cls4_range n h4
    have he : ef sl (p + 1) = (p + 6, some n) := by
      have x1 := hexv_hxx (n / 16) (by omega) (by omega)
      have x2 := hexv_hxx (n % 16) (by omega) (by omega)
      unfold ef
      rw [h3]
      dsimp only
      rw [if_pos rfl, h5]
      show rd 4 0 (48 :: 48 :: hx (n / 16) :: hx (n % 16) :: r) (p + 1 + 1) = _
      rw [rd_cons, if_neg (by decide), rd_cons, if_neg (by decide), rd_cons, if_neg (by rw [x1]; omega), rd_cons, if_neg (by rw [x2]; omega), rd_zero, x1, x2]
      have e : ((0 * 16 + hexv 48) * 16 + hexv 48) * 16 + n / 16 = n / 16 := by
        have : hexv 48 = 0 := by decide
        rw [this]; omega
      rw [e, show n / 16 * 16 + n % 16 = n by omega, if_pos hn]
    conv => lhs; unfold qf
    rw [h1]
    dsimp only
    rw [if_neg (by decide), if_neg (by decide), if_pos rfl, he]
    rfl
  · rw [if_neg h4] at h ⊢
    obtain ⟨h1, h2⟩ := drop_two h
    have e1 : n ≠ 34 := by intro e; apply hl; unfold lett; omega
    have e2 : ¬ (n = 10 ∨ n = 13) := by intro e; apply hl; unfold lett; omega
    have e3 : n ≠ 92 := by intro e; apply hl; unfold lett; omega
    conv => lhs; unfold qf
    rw [h1]
    dsimp only
    rw [if_neg e1, if_neg e2, if_neg e3]
    rfl
theorem qf_body (sl r : List Int) : ∀ (l : List Int) (f p : Nat) (acc : List Int), sl.drop p = bodyS l ++ 34 :: r → AllS l → l.length < f → qf sl f p acc = (p + (bodyS l).length + 1, some (acc ++ l))
  | [], 0, p, acc, _, _, hf => by simp at hf
  | [], f + 1, p, acc, h, _, _ => by
    unfold qf
    rw [(drop_two h).1]
    simp [bodyS]
  | n :: l, 0, p, acc, _, _, hf => by simp at hf
  | n :: l, f + 1, p, acc, h, ha, hf => by
    rw [bodyS_cons, List.append_assoc] at h
    rw [qf_one sl _ n (ha n List.mem_cons_self) f p acc h, qf_body sl r l f _ (acc ++ [n]) (drop_more h) (fun m hm => ha m (List.mem_cons_of_mem _ hm)) (by simp at hf; omega)]
    rw [bodyS_cons, List.length_append, List.append_assoc]
    congr 1
    omega
theorem quoS_len (l : List Int) : (quoS l).length = (bodyS l).length + 2 := by unfold quoS; simp
theorem qd_text (sl l r : List Int) (k : Nat) (h : sl.drop k = quoS l ++ r) (ha : AllS l) : qd sl k = (k + (quoS l).length, some l) := by
  unfold quoS at h
  have h' : sl.drop k = 34 :: (bodyS l ++ 34 :: r) := by rw [h]; simp
  obtain ⟨h1, h2⟩ := drop_two h'
  have hl := drop_lt h2
  have hb := body_len l
  rw [List.length_cons] at hl
  unfold qd
  rw [if_pos h1, qf_body sl r l _ _ [] h2 ha (by omega), quoS_len, List.nil_append]
  congr 1
  omega
/-! ### A word -/
theorem wmL_word (ms u r : List Int) (hu : ∀ n ∈ u, wms ms n = true) (h32 : wms ms 32 = false) : wmL ms (u ++ 32 :: r) = u := by
  unfold wmL
  induction u with
  | nil => rw [List.nil_append, List.takeWhile_cons, h32]; rfl
  | cons n u ih =>
    rw [List.cons_append, List.takeWhile_cons, hu n List.mem_cons_self, if_pos rfl, ih (fun m hm => hu m (List.mem_cons_of_mem _ hm))]
/-! ### What good terms' texts are of -/
theorem sg_text {s : ByteArray} (h : (sgP s).2 = []) : textOf (sgP s).1 = s := by
  have := sgP_parts s
  rw [h] at this
  exact this.text.symm
theorem iri_signs {s : ByteArray} (h : iriG s = true) : (sgP s).2 = [] ∧ ∀ n ∈ (sgP s).1, n ≠ 62 ∧ n ≠ 10 ∧ n ≠ 92 := by
  unfold iriG iriB at h
  rw [Bool.and_eq_true, Bool.and_eq_true, Bool.and_eq_true, decide_eq_true_eq, decide_eq_true_eq, List.all_eq_true] at h
  refine ⟨h.1, fun n hn => ?_⟩
  have := h.2.2.2 n hn
  unfold okS at this
  rw [decide_eq_true_eq] at this
  refine ⟨by omega, fun e => this.2.1 ?_, by omega⟩
  rw [e]; decide
theorem lab_signs : ∀ (l : List Int) (i : Nat), labSG i l = true → ∀ n ∈ l, wms msB n = true
  | [], _, _, n, hn => by cases hn
  | m :: l, i, h, n, hn => by
    unfold labSG at h
    rw [Bool.and_eq_true] at h
    rcases List.mem_cons.1 hn with rfl | hn
    · have := h.1
      unfold labS at this
      unfold wms
      simp only [Bool.or_eq_true, Bool.and_eq_true, beq_iff_eq] at this ⊢
      rcases this with a | a | ⟨_, a⟩
      · exact .inl a
      · exact .inr (.inl a)
      · exact .inr (.inr (by simp; omega))
    · exact lab_signs l (i + 1) h.2 n hn
theorem label_signs {s : ByteArray} (h : labelG s = true) : (sgP s).2 = [] ∧ ∀ n ∈ (sgP s).1, wms msB n = true := by
  rw [← blankB_label (sgP_parts s)] at h
  unfold blankB at h
  rw [Bool.and_eq_true, Bool.and_eq_true, decide_eq_true_eq] at h
  exact ⟨h.1, lab_signs _ 0 h.2.1⟩
theorem mach_bytes : ∀ (l : List UInt8) (p g : Nat), mach p g l = true → ∀ c ∈ l, c = 45 ∨ letU c = true ∨ digU c = true
  | [], _, _, _, c, hc => by cases hc
  | d :: l, p, g, h, c, hc => by
    unfold mach at h
    by_cases h45 : d = 45
    · rw [if_pos h45] at h
      by_cases hg : g = 0
      · rw [if_pos hg] at h; cases h
      · rw [if_neg hg] at h
        rcases List.mem_cons.1 hc with rfl | hc
        · exact .inl h45
        · exact mach_bytes l _ _ h c hc
    · rw [if_neg h45] at h
      by_cases ho : okc p d = true
      · rw [if_pos ho] at h
        by_cases hg : 8 < g + 1
        · rw [if_pos hg] at h; cases h
        · rw [if_neg hg] at h
          rcases List.mem_cons.1 hc with rfl | hc
          · unfold okc at ho
            rw [Bool.or_eq_true, Bool.and_eq_true] at ho
            rcases ho with a | a
            · exact .inr (.inl a)
            · exact .inr (.inr a.2)
          · exact mach_bytes l _ _ h c hc
      · rw [if_neg ho] at h; cases h
theorem lang_signs {s : ByteArray} (h : langB s = true) : (sgP s).2 = [] ∧ ∀ n ∈ (sgP s).1, wms msL n = true := by
  unfold langB at h
  rw [Bool.and_eq_true] at h
  have hb := mach_bytes _ _ _ h.2
  have hc : ∀ c ∈ s.data.toList, c.toNat < 128 ∧ wms msL (c.toNat : Int) = true := fun c hc => by
    rcases hb c hc with rfl | a | a
    · exact ⟨by decide, by decide⟩
    · unfold letU at a
      rw [decide_eq_true_eq] at a
      refine ⟨by omega, ?_⟩
      have e : cls (c.toNat : Int) = 1 := by unfold cls; omega
      unfold wms
      rw [e]; rfl
    · unfold digU at a
      rw [decide_eq_true_eq] at a
      refine ⟨by omega, ?_⟩
      have e : cls (c.toNat : Int) = 2 := by unfold cls; omega
      unfold wms
      rw [e]; rfl
  have hp : Parts s.data.toList (sigs s.data.toList) [] := by
    refine ascii_parts s _ ?_ ?_
    · unfold ascii sigs
      rw [List.all_eq_true]
      intro n hn
      obtain ⟨c, hc1, rfl⟩ := List.mem_map.1 hn
      have := (hc c hc1).1
      simp; omega
    · unfold sigs
      rw [List.map_map]
      conv => lhs; rw [← List.map_id s.data.toList]
      exact List.map_congr_left fun c _ => by simp
  obtain ⟨e1, e2⟩ := sgP_one hp
  refine ⟨e2, fun n hn => ?_⟩
  rw [e1] at hn
  obtain ⟨c, hc1, rfl⟩ := List.mem_map.1 hn
  exact (hc c hc1).2
theorem mt_of {c : ByteArray} (h : c.size = 0) : c = mt := by
  obtain ⟨⟨l⟩⟩ := c
  have : l = [] := List.length_eq_zero_iff.1 h
  subst this
  rfl
theorem xl_of {b : ByteArray} (h : (b.toList == lL) = true) : b = XL := by
  rw [beq_iff_eq, ByteArray.toList_eq] at h
  obtain ⟨⟨l⟩⟩ := b
  have : l = lL := h
  subst this
  rfl
/-- The signs of a term's text. -/
noncomputable def tailS (b c : ByteArray) : List Int := if c.size = 0 then (if b = XS then [] else 94 :: 94 :: 60 :: ((sgP b).1 ++ [62])) else 64 :: (sgP c).1
noncomputable def tS : Tm → List Int
  | .iri s => 60 :: ((sgP s).1 ++ [62])
  | .blank s => 95 :: 58 :: (sgP s).1
  | .lit a b c => quoS (sgP a).1 ++ tailS b c
  | _ => []
theorem allS_cons {n : Int} {l : List Int} (h : sgn n = true) (hl : AllS l) : AllS (n :: l) := fun m hm => by
  rcases List.mem_cons.1 hm with rfl | hm
  · exact h
  · exact hl m hm
theorem allS_app {a b : List Int} (ha : AllS a) (hb : AllS b) : AllS (a ++ b) := fun m hm => by
  rcases List.mem_append.1 hm with hm | hm
  · exact ha m hm
  · exact hb m hm
theorem tS_all (t : Tm) : AllS (tS t) := by
  have one : ∀ c : Int, sgn c = true → AllS [c] := fun c hc => allS_cons hc allS_nil
  cases t with
  | iri s => exact allS_cons (by decide) (allS_app (sgP_parts s).all (one 62 (by decide)))
  | blank s => exact allS_cons (by decide) (allS_cons (by decide) (sgP_parts s).all)
  | lit a b c =>
    refine allS_app (fun n hn => (quoS_ok _ (sgP_parts a).all n hn).1) ?_
    unfold tailS
    split
    · split
      · exact allS_nil
      · exact allS_cons (by decide) (allS_cons (by decide) (allS_cons (by decide) (allS_app (sgP_parts b).all (one 62 (by decide)))))
    · exact allS_cons (by decide) (sgP_parts c).all
  | odd n => exact allS_nil
  | none => exact allS_nil
theorem formP_text (sl r : List Int) (k : Nat) (t : Tm) (hg : goodT t = true) (h : sl.drop k = tS t ++ 32 :: r) : formP sl k = (k + (tS t).length, some t) := by
  cases t with
  | iri s =>
    obtain ⟨e, hu⟩ := iri_signs (s := s) hg
    have h' : sl.drop k = 60 :: ((sgP s).1 ++ 62 :: (32 :: r)) := by rw [h]; unfold tS; simp
    have h1 := (drop_two h').1
    unfold formP
    rw [if_pos h1, irP_text sl _ _ k h' hu]
    simp only [Option.map_some, sg_text e]
    congr 1
    unfold tS
    simp
    omega
  | blank s =>
    obtain ⟨e, hu⟩ := label_signs (s := s) hg
    have h' : sl.drop k = 95 :: (58 :: ((sgP s).1 ++ 32 :: r)) := by rw [h]; unfold tS; simp
    obtain ⟨h1, h2⟩ := drop_two h'
    obtain ⟨h3, h4⟩ := drop_two h2
    have hw := wmL_word msB (sgP s).1 r hu (by decide)
    unfold formP
    rw [if_neg (by rw [h1]; decide), if_neg (by rw [h1]; decide), if_pos h1, if_pos h3, show k + 2 = k + 1 + 1 from rfl, h4, hw]
    simp only [sg_text e]
    congr 1
    unfold tS
    simp
    omega
  | lit a b c =>
    have hg' : litG a b c = true := hg
    unfold litG at hg'
    rw [Bool.and_eq_true] at hg'
    have ea : (sgP a).2 = [] := by
      have := hg'.1
      unfold textG at this
      rw [Bool.and_eq_true, decide_eq_true_eq, decide_eq_true_eq] at this
      exact this.2
    have h' : sl.drop k = quoS (sgP a).1 ++ (tailS b c ++ 32 :: r) := by rw [h]; unfold tS; simp
    have h1 : sl[k]? = some 34 := (drop_two (show sl.drop k = 34 :: (bodyS (sgP a).1 ++ 34 :: (tailS b c ++ 32 :: r)) by rw [h']; simp [quoS])).1
    have hd := drop_more h'
    obtain ⟨p, hp⟩ : ∃ p, p = k + (quoS (sgP a).1).length := ⟨_, rfl⟩
    rw [← hp] at hd
    have hk : k + (tS (.lit a b c)).length = p + (tailS b c).length := by unfold tS; rw [List.length_append]; omega
    unfold formP litP
    rw [if_neg (by rw [h1]; decide), if_pos h1, qd_text sl _ _ k h' (sgP_parts a).all, hk, ← hp]
    dsimp only
    unfold tailP tailS
    unfold tailS at hd
    by_cases hc : c.size = 0
    · rw [if_pos hc] at hd ⊢
      rw [if_pos hc, Bool.and_eq_true] at hg'
      have hcm := mt_of hc
      subst hcm
      by_cases hb : b = XS
      · subst hb
        rw [if_pos rfl] at hd ⊢
        obtain ⟨h2, _⟩ := drop_two (show sl.drop p = 32 :: r from hd)
        rw [if_neg (by rw [h2]; intro e; exact absurd e.1 (by decide)), if_neg (by rw [h2]; decide), sg_text ea]
        rfl
      · rw [if_neg hb] at hd ⊢
        obtain ⟨e, hu⟩ := iri_signs hg'.2.2
        obtain ⟨h2, h3⟩ := drop_two (show sl.drop p = 94 :: (94 :: (60 :: ((sgP b).1 ++ 62 :: (32 :: r)))) by rw [hd]; simp)
        obtain ⟨h4, h5⟩ := drop_two h3
        rw [if_pos ⟨h2, h4⟩, irP_text sl _ _ (p + 2) h5 hu]
        simp only [Option.map_some, sg_text ea, sg_text e]
        congr 1
        simp
        omega
    · rw [if_neg hc] at hd ⊢
      rw [if_neg hc, Bool.and_eq_true] at hg'
      have hbx := xl_of hg'.2.1
      subst hbx
      obtain ⟨e, hu⟩ := lang_signs hg'.2.2
      obtain ⟨h2, h3⟩ := drop_two (show sl.drop p = 64 :: ((sgP c).1 ++ 32 :: r) by rw [hd]; simp)
      rw [if_neg (by rw [h2]; intro e; exact absurd e.1 (by decide)), if_pos h2, h3, wmL_word msL _ r hu (by decide)]
      simp only [sg_text ea, sg_text e]
      congr 1
      simp
      omega
  | odd n => cases hg
  | none => cases hg
theorem readP_text (sl r : List Int) (k : Nat) (t : Tm) (hg : goodT t = true) (h : sl.drop k = tS t ++ 32 :: r) : readP sl k = (some t, k + (tS t).length, 0) := by
  unfold readP
  rw [formP_text sl r k t hg h]
  dsimp only
  rw [if_pos hg]
end Go.Proofs.YtpnfjjgihkmjmaaGreatDoor
