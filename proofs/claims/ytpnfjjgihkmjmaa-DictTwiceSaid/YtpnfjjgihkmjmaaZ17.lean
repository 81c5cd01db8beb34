/-
  MERGED (a claim has at most 60 files): NGood, DFind, NArg.
-/
import Derived.Test.YtpnfjjgihkmjmaaZ10
import Derived.Test.YtpnfjjgihkmjmaaZ12
import Derived.Test.YtpnfjjgihkmjmaaZ16
import Derived.Test.YtpnfjjgihkmjmaaZ03
import Derived.Test.YtpnfjjgihkmjmaaZ00
import Derived.Test.YtpnfjjgihkmjmaaRows
import Derived.WalkKit
import Derived.ProofKit
import Derived.OpenShut
import Derived.Deep.Slices
import Derived.Lib.SmallJoins
/-
  WHETHER ANYTHING IS A TERM: the program's Good and the document's, one Bool.
-/
namespace Go.Proofs.Ytpnfjjgihkmjmaa
open Go.RowKit
set_option linter.unusedVariables false

theorem parts_ex (s : ByteArray) : ∃ p : List Int × List UInt8, Parts s.data.toList p.1 p.2 := by
  obtain ⟨a, b, h⟩ := parts_of s.data.toList
  exact ⟨(a, b), h⟩
noncomputable def sgP (s : ByteArray) : List Int × List UInt8 := Classical.choose (parts_ex s)
theorem sgP_parts (s : ByteArray) : Parts s.data.toList (sgP s).1 (sgP s).2 := Classical.choose_spec (parts_ex s)
noncomputable def iriG (s : ByteArray) : Bool := iriB s.size (sgP s).1 (sgP s).2
noncomputable def textG (s : ByteArray) : Bool := decide (s.size ≤ 4096) && decide ((sgP s).2 = [])
theorem sgP_one {s : ByteArray} {sl : List Int} {rest : List UInt8} (h : Parts s.data.toList sl rest) : (sgP s).1 = sl ∧ (sgP s).2 = rest := (sgP_parts s).one h
theorem iriG_of {s : ByteArray} {sl : List Int} {rest : List UInt8} (h : Parts s.data.toList sl rest) : iriG s = iriB s.size sl rest := by
  obtain ⟨a, b⟩ := sgP_one h
  unfold iriG
  rw [a, b]
theorem textG_of {s : ByteArray} {sl : List Int} {rest : List UInt8} (h : Parts s.data.toList sl rest) : textG s = (decide (s.size ≤ 4096) && decide (rest = [])) := by
  obtain ⟨a, b⟩ := sgP_one h
  unfold textG
  rw [b]
noncomputable def litG (a b c : ByteArray) : Bool := textG a && (if c.size = 0 then (!(b.toList == lL) && iriG b) else ((b.toList == lL) && langB c))
noncomputable def goodT : Tm → Bool
  | .blank s => labelG s
  | .iri s => iriG s
  | .lit a b c => litG a b c
  | _ => false
/-! ### A blank node's label -/
theorem labSG_all : ∀ (l : List Int) (i : Nat), labSG i l = allI (fun i n => labS (i == 0) n) i l
  | [], _ => rfl
  | n :: l, i => by simp only [labSG, allI, labSG_all l (i + 1)]
theorem labG_all : ∀ (l : List UInt8) (i : Nat), labG i l = allU (fun i c => labC (i == 0) (c.toNat : Int)) i l
  | [], _ => rfl
  | n :: l, i => by simp only [labG, allU, labG_all l (i + 1)]
theorem blankB_label {s : ByteArray} {sl : List Int} {rest : List UInt8} (hp : Parts s.data.toList sl rest) : blankB s.size sl rest = labelG s := by
  have := all_same (fun i n => labS (i == 0) n) (fun i c => labC (i == 0) (c.toNat : Int)) (fun i n h => by
      have h1 : (cls n == 1) = false := by rw [beq_eq_false_iff_ne, Ne, cls_1]; omega
      have h2 : (cls n == 2) = false := by rw [beq_eq_false_iff_ne, Ne, cls_2]; omega
      have h3 : (n == 95) = false := by rw [beq_eq_false_iff_ne]; omega
      have h4 : (n == 45) = false := by rw [beq_eq_false_iff_ne]; omega
      show labS _ n = false
      unfold labS
      rw [h1, h2, h3, h4]; simp) (fun i c h => by
      have h1 : letB (c.toNat : Int) = false := by unfold letB; rw [decide_eq_false_iff_not]; omega
      have h2 : digB (c.toNat : Int) = false := by unfold digB; rw [decide_eq_false_iff_not]; omega
      have h3 : ((c.toNat : Int) == 95) = false := by rw [beq_eq_false_iff_ne]; omega
      have h4 : ((c.toNat : Int) == 45) = false := by rw [beq_eq_false_iff_ne]; omega
      show labC _ (c.toNat : Int) = false
      unfold labC
      rw [h1, h2, h3, h4]; simp) (fun i c h => by
      show labS _ (c.toNat : Int) = labC _ (c.toNat : Int)
      unfold labS labC
      rw [letB_U, digB_U, cls_let, cls_dig]) rest hp.bad sl hp.all 0
  unfold blankB labelG
  rw [labSG_all, labG_all, hp.eq, ← this, Bool.and_assoc]
/-! ### The program's -/
theorem methBlank (v : Value) (w : World) : (method 252 92 v "Good").run Try.prog w = .ok (101, v) w := by kernel_rfl
theorem methIRI (v : Value) (w : World) : (method 252 94 v "Good").run Try.prog w = .ok (78, v) w := by kernel_rfl
def Tm.few (t : Tm) : Prop := t.ta.size ≤ 1000000 ∧ t.tb.size ≤ 1000000 ∧ t.tc.size ≤ 1000000
set_option maxHeartbeats 4000000 in
set_option maxRecDepth 100000 in
theorem litGoodL_any (a b c : ByteArray) (ha : a.size ≤ 1000000) (hc : c.size ≤ 1000000) (h0 : ¬ c.size = 0) (w : World) :
    Calls Try.prog 75 #[.agg #[.string a, .string b, .string c]] w fun e w' => e = .returned (.bool (textG a && ((b.toList == lL) && langB c))) ∧ Below w.heap.size w w' := by
  have cG := good_any a _ _ (sgP_parts a) (by omega)
  have cL := isLang_any c (by omega)
  have hne : ¬ c.toList = [] := by
    rw [ByteArray.toList_eq]
    intro h
    have := congrArg List.length h
    rw [Array.length_toList] at this
    exact h0 this
  have hem : (!c.toList.isEmpty) = true := by
    cases h : c.toList
    · exact absurd h hne
    · rfl
  obtain ⟨ok, hok⟩ : ∃ k, k = decide ((sgP a).2 = []) := ⟨_, rfl⟩
  obtain ⟨i, hi⟩ : ∃ k, k = langB c := ⟨_, rfl⟩
  obtain ⟨r, hr⟩ : ∃ r, r = (textG a && ((b.toList == lL) && langB c)) := ⟨_, rfl⟩
  rw [← hr]
  unfold textG at hr
  rw [← hok] at cG hr
  rw [← hi] at cL hr
  clear hok hi hc h0 ha
  by_cases h1 : 4096 < a.size
  · have hz : (4096 : Int) < (a.size : Int) := by omega
    have HR : Hid (r = false) := Lib.hid (by rw [hr, decide_eq_false (show ¬ a.size ≤ 4096 by omega)]; rfl)
    clear hr h1 cG cL
    go_enter Try.func75, Try.ntmps75
    go_wp2
    go_ret
    exact ⟨ret_bool HR.out.symm, (Below.refl _ _).alloc (Nat.le_refl _) _⟩
  · have hz : ¬ (4096 : Int) < (a.size : Int) := by omega
    rw [decide_eq_true (show a.size ≤ 4096 by omega), Bool.true_and] at hr
    clear h1
    cases ok
    · rw [Bool.false_and] at hr
      have HR := Lib.hid hr
      clear hr cL
      go_enter Try.func75, Try.ntmps75
      go_wp2_with (go_at_call 76; (with_reducible refine (cG _).mono ?_); rintro e w2 ⟨rfl, hb2⟩)
      go_ret
      exact ⟨ret_bool HR.out.symm, ((Below.refl _ _).alloc (Nat.le_refl _) _).trans (hb2.mono (by simp))⟩
    · rw [Bool.true_and] at hr
      cases hx : (b.toList == lL)
      · rw [hx, Bool.false_and] at hr
        have HR := Lib.hid hr
        clear hr cL
        go_enter Try.func75, Try.ntmps75
        go_wp2_with (go_at_call 76; (with_reducible refine (cG _).mono ?_); rintro e w2 ⟨rfl, hb2⟩; have hz2 := hb2.size; have hc := (Fb.new w 84 #[.string a, .string b, .string c]).below hb2; have c0 := hc.cell 0; have c1 := hc.cell 1; have c2 := hc.cell 2; simp at c0 c1 c2)
        go_ret
        exact ⟨ret_bool HR.out.symm, ((Below.refl _ _).alloc (Nat.le_refl _) _).trans (hb2.mono (by simp))⟩
      · rw [hx, Bool.true_and] at hr
        have HR := Lib.hid hr
        clear hr
        go_enter Try.func75, Try.ntmps75
        go_wp2_with (first
          | (go_at_call 76; (with_reducible refine (cG _).mono ?_); rintro e w2 ⟨rfl, hb2⟩; have hz2 := hb2.size; have hc := (Fb.new w 84 #[.string a, .string b, .string c]).below hb2; have c0 := hc.cell 0; have c1 := hc.cell 1; have c2 := hc.cell 2; simp at c0 c1 c2)
          | (go_at_call 77; (with_reducible refine (cL _).mono ?_); rintro e w3 ⟨rfl, hb3⟩))
        go_ret
        exact ⟨ret_bool HR.out.symm, (((Below.refl _ _).alloc (Nat.le_refl _) _).trans (hb2.mono (by simp))).trans (hb3.mono (by have := hb2.size; simp at this; omega))⟩
theorem size0 {c : ByteArray} (h : c.size = 0) : c = mt := by
  apply ByteArray.ext
  have : c.size = c.data.size := rfl
  exact Array.eq_empty_of_size_eq_zero (by omega)
theorem litGoodA_any (a b c : ByteArray) (ha : a.size ≤ 1000000) (hb : b.size ≤ 1000000) (hc : c.size ≤ 1000000) (w : World) :
    Calls Try.prog 75 #[.agg #[.string a, .string b, .string c]] w fun e w' => e = .returned (.bool (litG a b c)) ∧ Below w.heap.size w w' := by
  unfold litG
  by_cases h0 : c.size = 0
  · rw [if_pos h0, size0 h0]
    have := litGood_any a b _ _ _ _ (sgP_parts a) (sgP_parts b) (by omega) (by omega) w
    unfold litB at this
    unfold textG iriG
    rw [Bool.and_assoc]
    exact this
  · rw [if_neg h0]
    exact litGoodL_any a b c ha hc h0 w
set_option maxRecDepth 100000 in
set_option maxHeartbeats 2000000 in
theorem goodT_any (t : Tm) (hz : t.few) (w : World) : Calls Try.prog 36 #[t.val] w fun e w' => e = .returned (.bool (goodT t)) ∧ Below w.heap.size w w' := by
  match t, hz with
  | .blank s, hz =>
    have cG : ∀ W, Calls Try.prog 101 #[.agg #[.string s]] W fun e w' => e = .returned (.bool (labelG s)) ∧ Below W.heap.size W w' := fun W => by
      have := blankGood_any s _ _ (sgP_parts s) (by have := hz.1; simp only [Tm.ta] at this; omega) W
      rw [blankB_label (sgP_parts s)] at this
      exact this
    have cK : ∀ W, Calls Try.prog 46 #[(Tm.blank s).val] W _ := kind_any (.blank s)
    simp only [Tm.val, Tm.kind] at cK ⊢
    simp only [goodT]
    have hM := methBlank
    clear hz
    go_enter Try.func36, Try.ntmps36
    go_wp2_with (first
      | (go_at_call 46; (with_reducible refine (cK _).mono ?_); rintro e w1 ⟨rfl, hb1⟩)
      | (go_at_call 101; (with_reducible refine (cG _).mono ?_); rintro e w2 ⟨rfl, hb2⟩))
    go_ret
    exact ⟨rfl, hb1.trans (hb2.mono hb1.size)⟩
  | .iri s, hz =>
    have cG : ∀ W, Calls Try.prog 78 #[.agg #[.string s]] W fun e w' => e = .returned (.bool (iriG s)) ∧ Below W.heap.size W w' := fun W => iriGood_any s _ _ (sgP_parts s) (by have := hz.1; simp only [Tm.ta] at this; omega) W
    have cK : ∀ W, Calls Try.prog 46 #[(Tm.iri s).val] W _ := kind_any (.iri s)
    simp only [Tm.val, Tm.kind] at cK ⊢
    simp only [goodT]
    have hM := methIRI
    clear hz
    go_enter Try.func36, Try.ntmps36
    go_wp2_with (first
      | (go_at_call 46; (with_reducible refine (cK _).mono ?_); rintro e w1 ⟨rfl, hb1⟩)
      | (go_at_call 78; (with_reducible refine (cG _).mono ?_); rintro e w2 ⟨rfl, hb2⟩))
    go_ret
    exact ⟨rfl, hb1.trans (hb2.mono hb1.size)⟩
  | .lit a b c, hz =>
    have cG : ∀ W, Calls Try.prog 75 #[.agg #[.string a, .string b, .string c]] W fun e w' => e = .returned (.bool (litG a b c)) ∧ Below W.heap.size W w' := fun W => litGoodA_any a b c hz.1 hz.2.1 hz.2.2 W
    have cK : ∀ W, Calls Try.prog 46 #[(Tm.lit a b c).val] W _ := kind_any (.lit a b c)
    simp only [Tm.val, Tm.kind] at cK ⊢
    simp only [goodT]
    have hM := methLit
    clear hz
    go_enter Try.func36, Try.ntmps36
    go_wp2_with (first
      | (go_at_call 46; (with_reducible refine (cK _).mono ?_); rintro e w1 ⟨rfl, hb1⟩)
      | (go_at_call 75; (with_reducible refine (cG _).mono ?_); rintro e w2 ⟨rfl, hb2⟩))
    go_ret
    exact ⟨rfl, hb1.trans (hb2.mono hb1.size)⟩
  | .odd n, _ =>
    have cK : ∀ W, Calls Try.prog 46 #[(Tm.odd n).val] W _ := kind_any (.odd n)
    simp only [Tm.val, Tm.kind] at cK ⊢
    simp only [goodT]
    go_enter Try.func36, Try.ntmps36
    go_wp2_with (go_at_call 46; (with_reducible refine (cK _).mono ?_); rintro e w1 ⟨rfl, hb1⟩)
    go_ret
    exact ⟨rfl, hb1⟩
  | .none, _ =>
    have cK : ∀ W, Calls Try.prog 46 #[Tm.none.val] W _ := kind_any .none
    simp only [Tm.val, Tm.kind] at cK ⊢
    simp only [goodT]
    go_enter Try.func36, Try.ntmps36
    go_wp2_with (go_at_call 46; (with_reducible refine (cK _).mono ?_); rintro e w1 ⟨rfl, hb1⟩)
    go_ret
    exact ⟨rfl, hb1⟩
/-! ### The document's -/
theorem xl_iri : iriG XL = true := by
  rw [iriG_of (ascii_parts XL (sigs lL) (by decide) (by decide))]
  decide
set_option maxHeartbeats 4000000 in
set_option maxRecDepth 100000 in
theorem rgoodL_any (a b c : ByteArray) (ha : a.size ≤ 1000000) (hb : b.size ≤ 1000000) (h0 : ¬ c.size = 0) (w : World) :
    Calls Try.prog 35 #[F4 2 a b c] w fun e w' => e = .returned (.bool (textG a && ((b.toList == lL) && langB c))) ∧ Below w.heap.size w w' := by
  have cG : ∀ W, Calls Try.prog 44 #[.string a] W (SignsPost W (sgP a).1 (decide ((sgP a).2 = []))) := fun W => signs_any a _ _ (sgP_parts a) (by omega) W
  have cI : ∀ W, Calls Try.prog 43 #[.string b] W fun e w' => e = .returned (.bool (iriG b)) ∧ Below W.heap.size W w' := fun W => riri_any b _ _ (sgP_parts b) (by omega) W
  have cL := rlang_any c
  have hne : ¬ c.toList = [] := by
    rw [ByteArray.toList_eq]
    intro h
    have := congrArg List.length h
    rw [Array.length_toList] at this
    exact h0 this
  have hem : c.toList.isEmpty = false := by
    cases h : c.toList
    · exact absurd h hne
    · rfl
  have hxl : (b.toList == lL) = true → iriG b = true := fun h => by
    have e : b = XL := bytes_ext (by rw [beq_iff_eq] at h ⊢; rw [h, ByteArray.toList_eq])
    rw [e]; exact xl_iri
  obtain ⟨ok, hok⟩ : ∃ k, k = decide ((sgP a).2 = []) := ⟨_, rfl⟩
  obtain ⟨i, hi⟩ : ∃ k, k = langB c := ⟨_, rfl⟩
  obtain ⟨j, hj⟩ : ∃ k, k = iriG b := ⟨_, rfl⟩
  obtain ⟨r, hr⟩ : ∃ r, r = (textG a && ((b.toList == lL) && langB c)) := ⟨_, rfl⟩
  rw [← hr]
  unfold textG at hr
  rw [← hok] at cG hr
  rw [← hi] at cL hr
  rw [← hj] at cI hxl
  clear hok hi hj ha hb h0
  cases ok
  · have HR : Hid (r = false) := Lib.hid (by rw [hr]; simp)
    clear hr cI cL hxl
    go_enter Try.func35, Try.ntmps35
    go_wp2_with (go_at_call 44; (with_reducible refine (cG _).mono ?_); rintro e w2 ⟨vI, rfl, hI2, hb2⟩; have hc := (Fb.new w 32 #[.int .i64 2, .string a, .string b, .string c]).below hb2; have c1 := hc.cell 1; have c2 := hc.cell 2; have c3 := hc.cell 3; simp at c1 c2 c3; clear hI2)
    go_ret
    exact ⟨ret_bool HR.out.symm, ((Below.refl _ _).alloc (Nat.le_refl _) _).trans (hb2.mono (by simp))⟩
  · rw [Bool.and_true] at hr
    by_cases h1 : 4096 < a.size
    · have hz : (4096 : Int) < (a.size : Int) := by omega
      have HR : Hid (r = false) := Lib.hid (by rw [hr, decide_eq_false (show ¬ a.size ≤ 4096 by omega)]; rfl)
      clear hr h1 cI cL hxl
      go_enter Try.func35, Try.ntmps35
      go_wp2_with (go_at_call 44; (with_reducible refine (cG _).mono ?_); rintro e w2 ⟨vI, rfl, hI2, hb2⟩; have hc := (Fb.new w 32 #[.int .i64 2, .string a, .string b, .string c]).below hb2; have c1 := hc.cell 1; have c2 := hc.cell 2; have c3 := hc.cell 3; simp at c1 c2 c3; clear hI2)
      go_ret
      exact ⟨ret_bool HR.out.symm, ((Below.refl _ _).alloc (Nat.le_refl _) _).trans (hb2.mono (by simp))⟩
    · have hz : ¬ (4096 : Int) < (a.size : Int) := by omega
      rw [decide_eq_true (show a.size ≤ 4096 by omega), Bool.true_and] at hr
      clear h1
      cases j
      · have HR : Hid (r = false) := Lib.hid (by
          rw [hr]
          cases h : (b.toList == lL)
          · rfl
          · exact absurd (hxl h) (by decide))
        clear hr cL hxl
        go_enter Try.func35, Try.ntmps35
        go_wp2_with (first
          | (go_at_call 44; (with_reducible refine (cG _).mono ?_); rintro e w2 ⟨vI, rfl, hI2, hb2⟩; have hc := (Fb.new w 32 #[.int .i64 2, .string a, .string b, .string c]).below hb2; have c1 := hc.cell 1; have c2 := hc.cell 2; have c3 := hc.cell 3; simp at c1 c2 c3; clear hI2)
          | (go_at_call 43; (with_reducible refine (cI _).mono ?_); rintro e w3 ⟨rfl, hb3⟩; have hc3 := hc.below hb3; have d1 := hc3.cell 1; have d2 := hc3.cell 2; have d3 := hc3.cell 3; simp at d1 d2 d3))
        go_ret
        exact ⟨ret_bool HR.out.symm, (((Below.refl _ _).alloc (Nat.le_refl _) _).trans (hb2.mono (by simp))).trans (hb3.mono (by have := hb2.size; simp at this; omega))⟩
      · clear hxl
        cases hx : (b.toList == lL)
        all_goals
          rw [hx] at hr
          have HR := Lib.hid hr
          clear hr
          go_enter Try.func35, Try.ntmps35
          go_wp2_with (first
            | (go_at_call 44; (with_reducible refine (cG _).mono ?_); rintro e w2 ⟨vI, rfl, hI2, hb2⟩; have hc := (Fb.new w 32 #[.int .i64 2, .string a, .string b, .string c]).below hb2; have c1 := hc.cell 1; have c2 := hc.cell 2; have c3 := hc.cell 3; simp at c1 c2 c3; clear hI2)
            | (go_at_call 43; (with_reducible refine (cI _).mono ?_); rintro e w3 ⟨rfl, hb3⟩; have hc3 := hc.below hb3; have d1 := hc3.cell 1; have d2 := hc3.cell 2; have d3 := hc3.cell 3; simp at d1 d2 d3)
            | (go_at_call 45; (with_reducible refine (cL _).mono ?_); rintro e w' ⟨rfl, rfl⟩))
          go_ret
          exact ⟨ret_bool (by rw [HR.out]; rfl), (((Below.refl _ _).alloc (Nat.le_refl _) _).trans (hb2.mono (by simp))).trans (hb3.mono (by have := hb2.size; simp at this; omega))⟩
set_option maxRecDepth 100000 in
set_option maxHeartbeats 2000000 in
theorem rgoodT_any (t : Tm) (hz : t.few) (w : World) : Calls Try.prog 35 #[T4 t] w fun e w' => e = .returned (.bool (goodT t)) ∧ Below w.heap.size w w' := by
  match t, hz with
  | .blank s, hz =>
    have cG := rlabel_any s
    simp only [T4, Tm.kind, Tm.ta, Tm.tb, Tm.tc, goodT]
    clear hz
    go_enter Try.func35, Try.ntmps35
    go_wp2_with (go_at_call 42; (with_reducible refine (cG _).mono ?_); rintro e w' ⟨rfl, rfl⟩)
    go_ret
    exact ⟨rfl, (Below.refl _ _).alloc (Nat.le_refl _) _⟩
  | .iri s, hz =>
    have cG : ∀ W, Calls Try.prog 43 #[.string s] W fun e w' => e = .returned (.bool (iriG s)) ∧ Below W.heap.size W w' := fun W => riri_any s _ _ (sgP_parts s) (by have := hz.1; simp only [Tm.ta] at this; omega) W
    simp only [T4, Tm.kind, Tm.ta, Tm.tb, Tm.tc, goodT]
    clear hz
    go_enter Try.func35, Try.ntmps35
    go_wp2_with (go_at_call 43; (with_reducible refine (cG _).mono ?_); rintro e w2 ⟨rfl, hb2⟩)
    go_ret
    exact ⟨rfl, ((Below.refl _ _).alloc (Nat.le_refl _) _).trans (hb2.mono (by simp))⟩
  | .lit a b c, hz =>
    simp only [T4, Tm.kind, Tm.ta, Tm.tb, Tm.tc, goodT]
    unfold litG
    by_cases h0 : c.size = 0
    · rw [if_pos h0, size0 h0]
      have := rgood_lit a b _ _ _ _ (sgP_parts a) (sgP_parts b) (by have := hz.1; simp only [Tm.ta] at this; omega) (by have := hz.2.1; simp only [Tm.tb] at this; omega) w
      unfold litB at this
      unfold textG iriG
      rw [Bool.and_assoc]
      exact this
    · rw [if_neg h0]
      exact rgoodL_any a b c hz.1 hz.2.1 h0 w
  | .odd n, _ =>
    simp only [T4, Tm.kind, Tm.ta, Tm.tb, Tm.tc, goodT]
    go_enter Try.func35, Try.ntmps35
    go_wp2
    go_ret
    exact ⟨rfl, (Below.refl _ _).alloc (Nat.le_refl _) _⟩
  | .none, _ =>
    simp only [T4, Tm.kind, Tm.ta, Tm.tb, Tm.tc, goodT]
    go_enter Try.func35, Try.ntmps35
    go_wp2
    go_ret
    exact ⟨rfl, (Below.refl _ _).alloc (Nat.le_refl _) _⟩
end Go.Proofs.Ytpnfjjgihkmjmaa

/-
  A DICTIONARY's CALLS: Put, Find: of any term.
-/
namespace Go.Proofs.Ytpnfjjgihkmjmaa
open Go.RowKit
set_option linter.unusedVariables false
set_option linter.unusedSimpArgs false
set_option maxRecDepth 100000

theorem d_good_kind {t : Tm} (h : goodT t = true) : t.kind < 3 := by cases t <;> simp_all [Tm.kind, goodT]
/-- A term put. -/
noncomputable def putP (room : Int) (L : List Tm) (t : Tm) : List Tm × Int × Int := if goodT t = true then putG room L t else (L, 0, 3)
/-- Its number. -/
noncomputable def findP (L : List Tm) (t : Tm) : Option Nat := if goodT t = true then nm t L else none
theorem putP_len {room : Int} {L : List Tm} {t : Tm} : (putP room L t).1.length ≤ L.length + 1 := by
  unfold putP
  split
  · exact putG_len.2
  · exact Nat.le_succ _
section
variable {B d m : Nat} {room : Int} {v : Value} {L : List Tm}
set_option maxHeartbeats 4000000 in
theorem dput_any {W : World} (h : Dc B d m room v L W) (hB : B ≤ W.heap.size) (hl : L.length ≤ 100000) (t : Tm) (hz : t.few) :
    Calls Try.prog 14 #[.pointer (some ⟨d, 0, none⟩), t.val] W (PutPost B d m room v W (putP room L t)) := by
  have cG := goodT_any t hz W
  unfold putP
  cases hg : goodT t with
  | false =>
    rw [hg] at cG
    rw [if_neg (by decide)]
    obtain ⟨tv, htv⟩ : ∃ x, x = t.val := ⟨_, rfl⟩
    rw [← htv] at cG ⊢
    have HD := Lib.hid h
    clear h htv hg hl hz hB
    go_enter Try.func14, Try.ntmps14
    go_wp2_with (go_at_call 36; (with_reducible refine cG.mono ?_); rintro e w1 ⟨rfl, hb1⟩)
    go_ret2
    exact ⟨_, rfl, HD.out.below hb1, Tn.of hb1⟩
  | true =>
    rw [hg] at cG
    rw [if_pos rfl]
    have cP : ∀ {w1 : World}, Below W.heap.size W w1 → Calls Try.prog 37 #[.pointer (some ⟨d, 0, none⟩), t.val] w1 (PutPost B d m room v w1 (putG room L t)) := fun {w1} hb => dputGood_any (h.below hb) (Nat.le_trans hB hb.size) hl t (d_good_kind hg)
    obtain ⟨tv, htv⟩ : ∃ x, x = t.val := ⟨_, rfl⟩
    rw [← htv] at cG cP ⊢
    obtain ⟨r, hr⟩ : ∃ r, r = putG room L t := ⟨_, rfl⟩
    rw [← hr] at cP ⊢
    obtain ⟨r1, r2, r3⟩ := r
    clear h htv hg hl hz hB hr
    go_enter Try.func14, Try.ntmps14
    go_wp2_with (first
      | (go_at_call 36; (with_reducible refine cG.mono ?_); rintro e w1 ⟨rfl, hb1⟩)
      | (go_at_call 37; (with_reducible refine (cP hb1).mono ?_); rintro e w2 ⟨v2, rfl, hD2, hT2⟩))
    go_ret2
    exact ⟨_, rfl, hD2, (Tn.of hb1).trans hT2⟩
/-- Its number, or none. -/
def numI : Option Nat → Int
  | some j => j
  | none => 0
def numE : Option Nat → Int
  | some _ => 0
  | none => 4
set_option maxHeartbeats 4000000 in
theorem dfind_any {W : World} (h : Dc B d m room v L W) (hl : L.length ≤ 100000) (t : Tm) (hz : t.few) :
    Calls Try.prog 15 #[.pointer (some ⟨d, 0, none⟩), t.val] W fun e w' => e = .returned (.tuple #[.int .i64 (numI (findP L t)), .int .i64 (numE (findP L t))]) ∧ Below W.heap.size W w' := by
  have cG := goodT_any t hz W
  unfold findP
  cases hg : goodT t with
  | false =>
    rw [hg] at cG
    rw [if_neg (by decide)]
    obtain ⟨tv, htv⟩ : ∃ x, x = t.val := ⟨_, rfl⟩
    rw [← htv] at cG ⊢
    unfold numI numE
    clear h htv hg hl hz
    go_enter Try.func15, Try.ntmps15
    go_wp2_with (go_at_call 36; (with_reducible refine cG.mono ?_); rintro e w1 ⟨rfl, hb1⟩)
    go_ret2
    exact ⟨rfl, hb1⟩
  | true =>
    rw [hg] at cG
    rw [if_pos rfl]
    have ht := d_good_kind hg
    have hK := fun (w1 : World) (hb : Below W.heap.size W w1) => (h.below hb).look t ht
    have hC := fun (w1 : World) (hb : Below W.heap.size W w1) => (h.below hb).cells
    obtain ⟨ty, x, hv⟩ := val_iface t ht
    rw [hv] at cG hK ⊢
    have HK := Lib.hid hK
    have HC := Lib.hid hC
    clear h hg hl hz ht hK hC
    cases hn : nm t L with
    | none =>
      have HN := Lib.hid hn
      unfold numI numE
      clear hn
      go_enter Try.func15, Try.ntmps15
      go_wp2_with (go_at_call 36; (with_reducible refine cG.mono ?_); rintro e w1 ⟨rfl, hb1⟩; have hlk := HK.out _ hb1; rw [HN.out] at hlk; dsimp only [Option.isSome] at hlk; obtain ⟨c0, c1, c2⟩ := HC.out _ hb1)
      go_ret2
      exact ⟨rfl, hb1⟩
    | some j =>
      have HN := Lib.hid hn
      unfold numI numE
      clear hn
      go_enter Try.func15, Try.ntmps15
      go_wp2_with (go_at_call 36; (with_reducible refine cG.mono ?_); rintro e w1 ⟨rfl, hb1⟩; have hlk := HK.out _ hb1; rw [HN.out] at hlk; dsimp only [Option.isSome] at hlk; obtain ⟨c0, c1, c2⟩ := HC.out _ hb1)
      go_ret2
      exact ⟨rfl, hb1⟩
end
end Go.Proofs.Ytpnfjjgihkmjmaa

/-
  A SLICE AS THE CALL GETS IT, CELL BY CELL; terms and triples of the document's, as they come.
-/
namespace Go.Proofs.Ytpnfjjgihkmjmaa
open Go.ChangeShapes Go.WideShapes Go.ChangeAt Go.RowKit
set_option linter.unusedVariables false
set_option maxRecDepth 100000

/-- A slice's elements, n cells each. -/
def SlAt (W : World) (A : Option Addr) (n : Nat) (l : List (List Value)) : Prop := ∀ (j : Nat) (cs : List Value), l[j]? = some cs → ∃ g o, A = some ⟨g, o, none⟩ ∧ g < W.heap.size ∧ ∀ (i : Nat) (v : Value), cs[i]? = some v → W.cell? ⟨g, o + j * n + i, none⟩ = some v
theorem SlAt.below {W W' : World} {A : Option Addr} {n : Nat} {l : List (List Value)} (h : SlAt W A n l) (hb : Below W.heap.size W W') : SlAt W' A n l := fun j cs hj => by
  obtain ⟨g, o, e, hg, hc⟩ := h j cs hj
  exact ⟨g, o, e, Nat.lt_of_lt_of_le hg hb.size, fun i v hv => (hb.cell (p := ⟨g, o + j * n + i, none⟩) hg).trans (hc i v hv)⟩
theorem at_add (g o j : Nat) : (⟨g, o, none⟩ : Addr).add j = ⟨g, o + j, none⟩ := by
  by_cases h : j = 0
  · subst h; simp [Addr.add]
  · simp [Addr.add, h]
theorem cells_map {α : Type} {p : α → Prop} {f : α → List Value} : ∀ l : List (List Value), (∀ cs ∈ l, ∃ t, p t ∧ cs = f t) → ∃ ts : List α, l = ts.map f ∧ ∀ t ∈ ts, p t
  | [], _ => ⟨[], rfl, fun t h => by cases h⟩
  | c :: l, h => by
    obtain ⟨t, h1, h2⟩ := h c List.mem_cons_self
    obtain ⟨ts, h3, h4⟩ := cells_map l fun cs hc => h cs (List.mem_cons_of_mem _ hc)
    refine ⟨t :: ts, by rw [h2, h3]; rfl, fun u hu => ?_⟩
    rcases List.mem_cons.1 hu with rfl | hu
    · exact h1
    · exact h4 u hu
section
variable {H : Type} {enc : TypeId × Value → H} {W : World}
theorem slice_opened {t e : TypeId} {n0 : Nat} {fuel : Nat} {v : Value} {y : DataW H × List MemPlace} (ht : Try.prog.underlying t = some (.slice e)) (hn : Try.prog.cellsOf e = n0) (hpos : 0 < n0)
    (h : DataW.trod enc Try.prog W 0 (fun _ => true) true fuel t [v] = some y) (hlt : ∀ z ∈ y.2, z.block < W.heap.size) :
    ∃ A l cap, v = .slice A (List.length (α := List Value) l) cap ∧ l.length ≤ cap ∧ cap ≤ maxLen ∧ SlAt W A n0 l ∧ ∀ cs ∈ l, ∃ fu z, DataW.trod enc Try.prog W 0 (fun _ => true) true fu e cs = some z := by
  rcases Go.Deep.open_slice ht h with ⟨hcs, hx⟩ | ⟨a, len, cap, m, n, D, Pl, hcs, _, hl, hm, hmm, hx, hi⟩
  · simp at hcs
    exact ⟨none, [], 0, hcs, Nat.le_refl _, by decide, fun j x hx => by simp at hx, fun cs h => by cases h⟩
  · simp at hcs
    simp only [if_true] at hmm
    rw [hn] at hx hi
    subst hmm
    by_cases h0 : len = 0
    · subst h0
      exact ⟨some a, [], m, hcs, by simp, hm, fun j x hx => by simp at hx, fun cs h => by cases h⟩
    · obtain ⟨g, o, spot⟩ := a
      obtain ⟨cs0, hc0, _⟩ := hi 0 (by omega)
      have hz := (World.cells?_some hc0).2.2 0 hpos
      have hl0 := (World.cells?_some hc0).2.1
      obtain ⟨u, hu⟩ : ∃ u, cs0[0]? = some u := ⟨_, List.getElem?_eq_getElem (by omega)⟩
      rw [hu] at hz
      have hspot : spot = none := by simpa [Addr.add] using World.cell?_spot hz
      subst hspot
      have hg : g < W.heap.size := hlt (.cell g o) (by rw [hx]; exact List.mem_append_left _ (MemPlace.mem_row.2 ⟨0, Nat.mul_pos (by omega) hpos, by simp⟩))
      have each : ∀ i, i < len → ∃ cs, (∀ (d : Nat) (v : Value), cs[d]? = some v → W.cell? ⟨g, o + i * n0 + d, none⟩ = some v) ∧ ∃ z, DataW.trod enc Try.prog W 0 (fun _ => true) true n e cs = some z := fun i him => by
        obtain ⟨cs', hc', ht'⟩ := hi i (by omega)
        rw [at_add] at hc'
        have hcl := (World.cells?_some hc').2.1
        refine ⟨cs', fun d v hv => ?_, _, ht'⟩
        have hd := (List.getElem?_eq_some_iff.1 hv).1
        have := (World.cells?_some hc').2.2 d (by omega)
        rw [at_add] at this
        rw [this, hv]
      obtain ⟨V, hV⟩ := Go.Deep.choose_lt (α := List Value) (p := fun i cs => (∀ (d : Nat) (v : Value), cs[d]? = some v → W.cell? ⟨g, o + i * n0 + d, none⟩ = some v) ∧ ∃ z, DataW.trod enc Try.prog W 0 (fun _ => true) true n e cs = some z) each
      refine ⟨some ⟨g, o, none⟩, (List.range len).map V, m, by rw [hcs]; simp, by simpa using hl, hm, fun j a ha => ?_, fun cs hcs => ?_⟩
      · have hj : j < len := by have := (List.getElem?_eq_some_iff.1 ha).1; simpa using this
        refine ⟨g, o, rfl, hg, ?_⟩
        rw [List.getElem?_map, List.getElem?_range hj] at ha
        obtain rfl : V j = a := by simpa using ha
        exact (hV j hj).1
      · obtain ⟨i, hi, rfl⟩ := List.mem_map.1 hcs
        exact ⟨n, (hV i (List.mem_range.1 hi)).2⟩
end
/-! ### Terms and triples -/
structure Dw where
  k : Int
  a : ByteArray
  b : ByteArray
  c : ByteArray
def Dw.ok (r : Dw) : Prop := (-9223372036854775808 ≤ r.k ∧ r.k ≤ 9223372036854775807) ∧ r.a.size ≤ maxLen ∧ r.b.size ≤ maxLen ∧ r.c.size ≤ maxLen
def Dw.cells (r : Dw) : List Value := [.int .i64 r.k, .string r.a, .string r.b, .string r.c]
structure Dt where
  s : Dw
  p : Dw
  o : Dw
def Dt.ok (t : Dt) : Prop := t.s.ok ∧ t.p.ok ∧ t.o.ok
def Dt.cells (t : Dt) : List Value := t.s.cells ++ (t.p.cells ++ t.o.cells)
theorem cellsT_four : Try.prog.cellsOf 32 = 4 := by kernel_rfl
section
variable {H : Type} {enc : TypeId × Value → H} {W : World}
set_option maxRecDepth 100000 in
theorem rw_opened {fuel : Nat} {cs : List Value} {z : DataW H × List MemPlace} (h : DataW.trod enc Try.prog W 0 (fun _ => true) true fuel 32 cs = some z) : ∃ r : Dw, r.ok ∧ cs = r.cells := by
  obtain ⟨xs, n, _, hx, hlen, hxl, hf⟩ := DataW.trod_struct Try.underlying32 h
  rw [cellsT_four] at hlen
  match xs, hxl with
  | [y0, y1, y2, y3], _ =>
    match cs, hlen with
    | [v0, v1, v2, v3], _ =>
      have t0 := hf 0 _ rfl
      have t1 := hf 1 _ rfl
      have t2 := hf 2 _ rfl
      have t3 := hf 3 _ rfl
      have hI : Try.prog.cellsOf 3 = 1 := by kernel_rfl
      have hS : Try.prog.cellsOf 9 = 1 := by kernel_rfl
      simp [hI, hS] at t0 t1 t2 t3
      obtain ⟨k, e0, _, w0⟩ := DataW.trod_int Try.underlying3 t0
      obtain ⟨a, e1, _, w1⟩ := DataW.trod_string Try.underlying9 t1
      obtain ⟨b, e2, _, w2⟩ := DataW.trod_string Try.underlying9 t2
      obtain ⟨c, e3, _, w3⟩ := DataW.trod_string Try.underlying9 t3
      simp at e0 e1 e2 e3
      subst e0 e1 e2 e3
      exact ⟨⟨k, a, b, c⟩, ⟨bounds_i64 w0, w1, w2, w3⟩, rfl⟩
end
end Go.Proofs.Ytpnfjjgihkmjmaa
