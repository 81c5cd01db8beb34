/-
  TermPlains, WHATEVER THE TWO TEXTS: a plain text is true just if it isn't empty, of one value with itself alone, and no integer: the law returns true, and its arguments read as before. The listed variables of the standard library start as their text lays them (tied).
-/
import Derived.Test.YtfgjddljgpbgeaaDoorTMake
import Derived.Test.YtfgjddljgpbgeaaDoorVLaid
import Derived.Test.YtfgjddljgpbgeaaDoorRows
import Derived.Test.YtfgjddljgpbgeaaDoorCards
import Derived.Test.YtfgjddljgpbgeaaDoorTie
import Derived.ProofKit
import Derived.OpenShut
namespace Go.Proofs.YtfgjddljgpbgeaaDoor
open Go.ChangeShapes Go.WideShapes Go.ChangeAt Go.RowKit
set_option linter.unusedVariables false

/-- Two boxes. -/
def Px (w : World) (g : Nat) (s t : ByteArray) (W : World) : Prop := Below w.heap.size w W ∧ Fb W g 38 #[.string s, .string XS, .string mt] ∧ Fb W (g + 1) 38 #[.string t, .string XS, .string mt]
theorem Px.drew {w : World} {g : Nat} {s t : ByteArray} {W : World} (h : Px w g s t W) : Px w g s t W.drew := ⟨Below.drew h.1, h.2⟩
theorem Px.below {w : World} {g : Nat} {s t : ByteArray} {W W' : World} (h : Px w g s t W) (hb : Below W.heap.size W W') : Px w g s t W' := ⟨h.1.trans (hb.mono h.1.size), h.2.1.below hb, h.2.2.below hb⟩
theorem Px.all {w : World} {g : Nat} {s t : ByteArray} {W : World} (h : Px w g s t W) :
    W.cell? ⟨g, 0, none⟩ = some (.string s) ∧ W.cell? ⟨g, 1, none⟩ = some (.string XS) ∧ W.cell? ⟨g, 2, none⟩ = some (.string mt) ∧ W.cell? ⟨g + 1, 0, none⟩ = some (.string t) ∧ W.cell? ⟨g + 1, 1, none⟩ = some (.string XS) ∧ W.cell? ⟨g + 1, 2, none⟩ = some (.string mt) ∧ Px w g s t W :=
  ⟨h.2.1.cell 0, h.2.1.cell 1, h.2.1.cell 2, h.2.2.cell 0, h.2.2.cell 1, h.2.2.cell 2, h⟩
theorem Px.mk {w w2 : World} (hb : Below w.heap.size w w2) (s t : ByteArray) : Px w w2.heap.size s t ((w2.alloc (.cells #[.string s, .string XS, .string mt] 38)).alloc (.cells #[.string t, .string XS, .string mt] 38)) :=
  ⟨(hb.alloc hb.size _).alloc (by have := hb.size; simp; omega) _, (Fb.new _ _ _).alloc _, by simpa using Fb.new (w2.alloc (.cells #[.string s, .string XS, .string mt] 38)) 38 #[.string t, .string XS, .string mt]⟩
theorem px_of {w : World} {g : Nat} {s t : ByteArray} {W : World} {f : Nat} {args : Array Value} {v : Value} (h : Px w g s t W) (c : Calls Tryd.prog f args W fun e w' => e = .returned v ∧ Below W.heap.size W w') :
    Calls Tryd.prog f args W fun e w' => e = .returned v ∧ Px w g s t w' := c.mono fun _ _ ⟨a, b⟩ => ⟨a, h.below b⟩
theorem Px.lv {w : World} {g : Nat} {s t : ByteArray} {W : World} (h : Px w g s t W) (hv : LV w) : LV W := hv.below h.1
theorem asI_plain (s : ByteArray) : asI (.lit s XS mt) = (0, 10) := by
  unfold asI
  simp only [Tm.isLit, Tm.tb, ByteArray.toList_eq]
  rfl
theorem asB_plain (s : ByteArray) : asB (.lit s XS mt) = (false, 10) := by
  unfold asB
  simp only [Tm.isLit, Tm.tb, ByteArray.toList_eq]
  rfl
theorem eff_plain (s : ByteArray) : eff (.lit s XS mt) = if (!s.toList.isEmpty) = true then 1 else 0 := by
  unfold eff
  have h1 : (XS.toList == lB) = false := by rw [ByteArray.toList_eq]; decide
  have h2 : (XS.toList == lI) = false := by rw [ByteArray.toList_eq]; decide
  have h3 : (XS.toList == lS) = true := by rw [ByteArray.toList_eq]; decide
  simp only [Tm.isLit, Tm.tb, h1, h2, h3, Bool.true_or, if_true, Bool.false_eq_true, if_false, Tm.la, Tm.ta]
theorem eqv_plain (s t : ByteArray) : eqv (.lit s XS mt) (.lit t XS mt) = if (s.toList == t.toList) = true then 1 else 0 := by
  have h1 : (XS.toList == lB) = false := by rw [ByteArray.toList_eq]; decide
  have h2 : (XS.toList == lI) = false := by rw [ByteArray.toList_eq]; decide
  have h3 : known XS = true := by unfold known; rw [ByteArray.toList_eq]; decide
  have hs : sameB (.lit s XS mt) (.lit t XS mt) = (s.toList == t.toList) := by
    unfold sameB same4
    simp only [Tm.kind, Tm.ta, Tm.tb, Tm.tc]
    simp
  unfold eqv
  rw [hs]
  cases h : (s.toList == t.toList)
  · simp only [Bool.false_eq_true, if_false, Tm.isLit, Tm.tb, h1, h2, h3, Bool.and_self, if_true]
  · rfl
theorem eqv_int (s u : ByteArray) : eqv (.lit s XS mt) (.lit u XI mt) = 0 := by
  have h1 : (XS.toList == lB) = false := by rw [ByteArray.toList_eq]; decide
  have h2 : (XS.toList == lI) = false := by rw [ByteArray.toList_eq]; decide
  have h3 : known XS = true := by unfold known; rw [ByteArray.toList_eq]; decide
  have h4 : known XI = true := by unfold known; rw [ByteArray.toList_eq]; decide
  have h5 : (XS.toList == XI.toList) = false := by rw [ByteArray.toList_eq, ByteArray.toList_eq]; decide
  have hs : sameB (.lit s XS mt) (.lit u XI mt) = false := by
    unfold sameB same4
    simp only [Tm.kind, Tm.ta, Tm.tb, Tm.tc, h5, Bool.false_and, Bool.and_false]
  unfold eqv
  rw [hs]
  simp only [Bool.false_eq_true, if_false, Tm.isLit, Tm.tb, h1, h2, h3, h4, Bool.and_self, Bool.false_and, if_true]
theorem eqv_iri (s u : ByteArray) : eqv (.lit s XS mt) (.iri u) = 0 := by
  unfold eqv
  have hs : sameB (.lit s XS mt) (.iri u) = false := by
    unfold sameB same4
    simp [Tm.kind]
  rw [hs]
  simp only [Bool.false_eq_true, if_false, Tm.isLit, Bool.and_false]
set_option maxHeartbeats 4000000 in
theorem plains_long (s t : ByteArray) (h : 300 < s.size ∨ 300 < t.size) (w : World) (hv : LV w) : Calls Tryd.prog 9 #[.string s, .string t] w fun e w' => e = .returned (.bool true) ∧ Below w.heap.size w w' := by
  have hb0 : Below w.heap.size w w := Below.refl _ _
  have hLV := Lib.hid hv
  clear hv
  have ways : (300 : Int) < (s.size : Int) ∨ (¬ (300 : Int) < (s.size : Int) ∧ (300 : Int) < (t.size : Int)) := by omega
  clear h
  rcases ways with h1 | ⟨h1, h2⟩
  all_goals
    go_enter Tryd.func9, Tryd.ntmps9
    go_wp2_with (first
      | (go_at_call 10; (with_reducible refine (awake_b hLV.out (by assumption)).mono ?_); rintro e w1 ⟨rfl, hb1⟩; clear hb0; have hb0 := hb1; clear hb1))
    go_ret
    exact ⟨rfl, by assumption⟩
set_option maxRecDepth 100000 in
set_option maxHeartbeats 16000000 in
theorem plains_short (s t : ByteArray) (h : s.size ≤ 300) (h' : t.size ≤ 300) (w : World) (hv : LV w) : Calls Tryd.prog 9 #[.string s, .string t] w fun e w' => e = .returned (.bool true) ∧ Below w.heap.size w w' := by
  have hb0 : Below w.heap.size w w := Below.refl _ _
  have hLV := Lib.hid hv
  have hs : ¬ (300 : Int) < (s.size : Int) := by omega
  have ht : ¬ (300 : Int) < (t.size : Int) := by omega
  obtain ⟨u, hu, hus⟩ : ∃ u : ByteArray, (∀ W, LV W → Calls Tryd.prog 19 #[.int .i64 1] W fun e w' => e = .returned (.agg #[.string u, .string XI, .string mt]) ∧ Below W.heap.size W w') ∧ u.size ≤ 1000000 := ⟨_, fun W hW => int_any 1 (by decide) (by decide) W hW, text_size 1 (by decide) (by decide)⟩
  obtain ⟨e1, he1⟩ : ∃ k : Int, k = if (!s.toList.isEmpty) = true then 1 else 0 := ⟨_, rfl⟩
  obtain ⟨e2, he2⟩ : ∃ k : Int, k = if (s.toList == t.toList) = true then 1 else 0 := ⟨_, rfl⟩
  have cI : ∀ {g : Nat} {W : World}, Px w g s t W → Calls Tryd.prog 22 #[(Tm.lit s XS mt).val] W fun e w' => e = .returned (twoP 0 10) ∧ Px w g s t w' := fun {g W} hB => px_of hB (by have := asInt_any (.lit s XS mt) (by simp [Tm.la, Tm.isLit, Tm.ta]; omega) W (hB.lv hv); rw [asI_plain] at this; exact this)
  have cB : ∀ {g : Nat} {W : World}, Px w g s t W → Calls Tryd.prog 23 #[(Tm.lit s XS mt).val] W fun e w' => e = .returned (oT false 10) ∧ Px w g s t w' := fun {g W} hB => px_of hB (by have := asBool_any (.lit s XS mt) W; rw [asB_plain] at this; exact this)
  have cE : ∀ {g : Nat} {W : World}, Px w g s t W → Calls Tryd.prog 30 #[(Tm.lit s XS mt).val] W fun e w' => e = .returned (.int .u8 e1) ∧ Px w g s t w' := fun {g W} hB => px_of hB (by have := eff_any (.lit s XS mt) (by simp [Tm.la, Tm.isLit, Tm.ta]; omega) W (hB.lv hv); rw [eff_plain, ← he1] at this; exact this)
  have c1 : ∀ {g : Nat} {W : World}, Px w g s t W → Calls Tryd.prog 17 #[(Tm.lit s XS mt).val, (Tm.lit t XS mt).val] W fun e w' => e = .returned (.int .u8 e2) ∧ Px w g s t w' := fun {g W} hB => px_of hB (by have := equal_any (.lit s XS mt) (.lit t XS mt) (by simp [Tm.la, Tm.isLit, Tm.ta]; omega) (by simp [Tm.la, Tm.isLit, Tm.ta]; omega) W (hB.lv hv); rw [eqv_plain, ← he2] at this; exact this)
  have c2 : ∀ {g : Nat} {W : World}, Px w g s t W → Calls Tryd.prog 17 #[(Tm.lit s XS mt).val, (Tm.lit u XI mt).val] W fun e w' => e = .returned (.int .u8 0) ∧ Px w g s t w' := fun {g W} hB => px_of hB (by have := equal_any (.lit s XS mt) (.lit u XI mt) (by simp [Tm.la, Tm.isLit, Tm.ta]; omega) (by simpa [Tm.la, Tm.isLit, Tm.ta] using hus) W (hB.lv hv); rw [eqv_int] at this; exact this)
  have c3 : ∀ {g : Nat} {W : World}, Px w g s t W → Calls Tryd.prog 17 #[(Tm.lit s XS mt).val, (Tm.iri s).val] W fun e w' => e = .returned (.int .u8 0) ∧ Px w g s t w' := fun {g W} hB => px_of hB (by have := equal_any (.lit s XS mt) (.iri s) (by simp [Tm.la, Tm.isLit, Tm.ta]; omega) (show mt.size ≤ 1000000 by decide) W (hB.lv hv); rw [eqv_iri] at this; exact this)
  have cU : ∀ {g : Nat} {W : World}, Px w g s t W → Calls Tryd.prog 19 #[.int .i64 1] W fun e w' => e = .returned (.agg #[.string u, .string XI, .string mt]) ∧ Px w g s t w' := fun {g W} hB => px_of hB (hu W (hB.lv hv))
  have cO1 := of_any (!s.toList.isEmpty)
  have cO2 := of_any (s.toList == t.toList)
  rw [← he1] at cO1
  rw [← he2] at cO2
  have cP := plain_any s
  have cQ := plain_any t
  simp only [Tm.val] at cI cB cE c1 c2 c3
  clear he1 he2 hu hus hv h h'
  go_enter Tryd.func9, Tryd.ntmps9
  go_wp2_with (first
    | (go_at_call 10; (with_reducible refine (awake_b hLV.out (by assumption)).mono ?_); rintro e w1 ⟨rfl, hb1⟩)
    | (go_at_call 21; (with_reducible refine (cP _).mono ?_); rintro e w2 ⟨rfl, hb2⟩)
    | (go_at_call 21; (with_reducible refine (cQ _).mono ?_); rintro e w3 ⟨rfl, hb3⟩; have hb4 := (hb1.trans (hb2.mono hb1.size)).trans (hb3.mono (Nat.le_trans hb1.size hb2.size)); have hS := Px.mk hb4 s t; clear hb1 hb2 hb3)
    | (go_at_call 22; (with_reducible refine (cI hS).mono ?_); rintro e w5 ⟨rfl, hS5⟩; obtain ⟨p0, p1, p2, p3, p4, p5, _⟩ := Px.all hS5)
    | (go_at_call 23; (with_reducible refine (cB hS5).mono ?_); rintro e w6 ⟨rfl, hS6⟩))
  clear p0 p1 p2 p3 p4 p5 hS hS5 hb4 hb0
  first
    | (go_region_held3 (fun W => W.cell? ⟨w3.heap.size, 0, none⟩ = some (.string s) ∧ W.cell? ⟨w3.heap.size, 1, none⟩ = some (.string XS) ∧ W.cell? ⟨w3.heap.size, 2, none⟩ = some (.string mt) ∧ W.cell? ⟨w3.heap.size + 1, 0, none⟩ = some (.string t) ∧ W.cell? ⟨w3.heap.size + 1, 1, none⟩ = some (.string XS) ∧ W.cell? ⟨w3.heap.size + 1, 2, none⟩ = some (.string mt) ∧ Px w w3.heap.size s t W)
        (first | exact Px.all (by assumption) | exact Px.all (Px.drew (by assumption)))
        (first
          | (go_at_call 30; (with_reducible refine (cE (by first | assumption | exact Px.drew (by assumption))).mono ?_); rintro e w7 ⟨rfl, hS7⟩)
          | (go_at_call 29; (with_reducible refine (cO1 _).mono ?_); rintro e w' ⟨rfl, rfl⟩)
          | (go_at_call 29; (with_reducible refine (cO2 _).mono ?_); rintro e w' ⟨rfl, rfl⟩)
          | (go_at_call 19; (with_reducible refine (cU (by first | assumption | exact Px.drew (by assumption))).mono ?_); rintro e w7 ⟨rfl, hS7⟩)
          | (go_at_call 17; (with_reducible refine (c1 (by first | assumption | exact Px.drew (by assumption))).mono ?_); rintro e w7 ⟨rfl, hS7⟩)
          | (go_at_call 17; (with_reducible refine (c2 (by first | assumption | exact Px.drew (by assumption))).mono ?_); rintro e w7 ⟨rfl, hS7⟩)
          | (go_at_call 17; (with_reducible refine (c3 (by first | assumption | exact Px.drew (by assumption))).mono ?_); rintro e w7 ⟨rfl, hS7⟩)))
    | fail
  have HB := Lib.hid hS7.1
  clear hS7
  go_wp2
  go_ret
  exact ⟨rfl, HB.out⟩
theorem plains_walk (s : ByteArray) (_hs : s.size ≤ maxLen) (t : ByteArray) (_ht : t.size ≤ maxLen) (w : World) (hv : LV w) : Calls Tryd.prog 9 #[.string s, .string t] w fun e w' => e = .returned (.bool true) ∧ Below w.heap.size w w' := by
  by_cases h : 300 < s.size ∨ 300 < t.size
  · exact plains_long s t h w hv
  · exact plains_short s t (by omega) (by omega) w hv

namespace TermPlainsF
set_option maxRecDepth 100000 in
theorem contract (H : Type) (enc : TypeId × Value → H) (W : World) (base : Nat) (args : Array Value) (ds gs : List (DataW H)) (before : List MemPlace)
    (hval : ∀ (j : Nat) t v, Tryd.f9.params[j]? = some t → args[j]? = some v → Value.okWide Tryd.prog W .any base t v)
    (hW : DataW.Whole enc Tryd.prog Tryd.f9.params.toList Rows.termPlainsSpec.vars false W args.toList ds gs before) (hL : laidMetH Tryd.prog Rows.termPlainsRow.laid W) :
    Calls Tryd.prog 9 args W fun e W' => ∃ v, e = .returned v ∧ Rows.termPlainsSpec.post enc Tryd.prog Tryd.f9 false true false false W args v W' := by
  have hW' := hW
  obtain ⟨p, q, hA0, hV, rfl, hfz, hnd⟩ := hW
  have hA : DataW.TrodAll enc Tryd.prog W 0 (fun _ => true) true Tryd.f9.params.toList args.toList ds p := hA0
  rw [Tryd.params9] at hA hval
  obtain ⟨v0, vs0, d0, ds0, p0, q0, hargs, rfl, rfl, h0, r0⟩ := trodAll_cons hA
  obtain ⟨v1, vs1, d1, ds1, p1, q1, rfl, rfl, rfl, h1, r1⟩ := trodAll_cons r0
  obtain ⟨rfl, rfl, rfl⟩ := trodAll_nil r1
  obtain rfl : args = #[v0, v1] := by cases args; simp_all
  obtain ⟨rfl, rfl⟩ := trodVars_none hV
  obtain ⟨x0, rfl, rfl, rfl, w0⟩ := Go.ChangeMaps.open_string Tryd.underlying9 (hval 0 9 v0 rfl rfl) h0
  obtain ⟨x1, rfl, rfl, rfl, w1⟩ := Go.ChangeMaps.open_string Tryd.underlying9 (hval 1 9 v1 rfl rfl) h1
  clear hA0
  simp only [List.append_nil] at hW'
  have hlv := lv_of hL
  refine (plains_walk x0 w0 x1 w1 W hlv).mono fun e W' ⟨he, hb⟩ => ?_
  subst he
  exact ⟨_, rfl, _, _, _, [], [], [], hW', trodAll_mk1 (shut_bool Tryd.underlying4 _), trodAll_cons_mk (Go.ChangeMaps.shut_string Tryd.underlying9 w0) (trodAll_cons_mk (Go.ChangeMaps.shut_string Tryd.underlying9 w1) (trodAll_mk0)), rfl, hb.frame _, fun h => by cases h⟩

theorem reads (os : Os) {H : Type} (enc : TypeId × Value → H) : ∃ places, DataW.whole enc Tryd.prog ((laidWorld os).forCall (fun _ _ => 0) ⟨#[], #[.string ⟨#[]⟩, .string ⟨#[]⟩], []⟩).memory Tryd.f9.params.toList Rows.termPlainsSpec.vars false (#[.string ⟨#[]⟩, .string ⟨#[]⟩] : Array Value).toList 8 = some ([.lit (.string []), .lit (.string [])], [], places) :=
  ⟨[], by kernel_rfl⟩

set_option maxRecDepth 100000 in
theorem lifted (os : Os) (started : os.Started) (H : Type) (enc : TypeId × Value → H) (F : Stop.Interp) :
    ReturnsInHanded {} Tryd.checked os 9 .any ((OpenSpec.ofChange Rows.termPlainsSpec).preRow enc Tryd.prog Tryd.f9 Rows.termPlainsRow.domain false Rows.termPlainsRow.laid) (((OpenSpec.ofChange Rows.termPlainsSpec).at F).post enc Tryd.prog Tryd.f9 false true false false) := by
  obtain ⟨places, hx⟩ := reads os enc
  refine returnsInHanded_of_row (C := Tryd.checked) (s := OpenSpec.ofChange Rows.termPlainsSpec) own started (by kernel_rfl) Tryd.func9
    (witness_row_at (enc := enc) (C := Tryd.checked) false (laidWorld os) #[.string ⟨#[]⟩, .string ⟨#[]⟩] rfl (by kernel_rfl) (by kernel_rfl) (by kernel_rfl)
      (OpenSpec.preRow_of_cond 8 hx (by kernel_rfl) (fun k hk => by cases hk) (by kernel_rfl) (laid_met os _))) ?_
  intro W base args ds gs before hval hW _ _ _ hL _ _
  exact contract H enc W base args ds gs before hval hW hL

theorem said : Rows.TermPlainsSaid :=
  OpenClaim.holds_of_cond 9 Tryd.f9 rfl rfl rfl rfl rfl rfl rfl ⟨rfl, rfl, rfl, rfl, rfl⟩ rfl rfl rfl rfl rfl (by kernel_rfl) Tryd.func9 (by kernel_rfl)
    (of_decide_eq_true (by kernel_rfl)) (by unfold Func.isWrapper; first | (rw [if_pos (by decide +kernel)]; kernel_rfl) | (rw [if_neg (by decide +kernel)]; exact ⟨rfl, rfl⟩))
    (fun os started H enc _ F => by rw [OpenClaim.pre_eq_preRow]; exact lifted os started H enc F)

theorem plain (f : FuncId) (fn : Func) (hf : Tryd.pinned.checked.prog.funcNamed "beck/becklaw03.TermPlains" = some f) (hfn : Tryd.pinned.checked.prog.funcs[f]? = some fn) :
    true = Tryd.pinned.checked.prog.looks [] ∧ ∀ (j : Nat) t, fn.params[j]? = some t → Tryd.pinned.checked.prog.wantsStandIn t = false := by
  obtain rfl : f = 9 := Option.some.inj ((show Tryd.prog.funcNamed "beck/becklaw03.TermPlains" = some 9 by kernel_rfl).symm.trans hf) |>.symm
  obtain rfl : fn = Tryd.f9 := (Option.some.inj (Tryd.func9.symm.trans hfn)).symm
  refine ⟨by kernel_rfl, fun j t ht => ?_⟩
  rw [Tryd.params9] at ht
  have hm : t ∈ [9, 9] := by simpa using Array.mem_of_getElem? ht
  have hall : ([9, 9].all fun u => !Tryd.prog.wantsStandIn u) = true := by kernel_rfl
  exact (show Tryd.prog.wantsStandIn t = false by simpa using List.all_eq_true.1 hall t hm)
end TermPlainsF
theorem termPlains_card : Rows.TermPlainsCardSaid :=
  Claim7.holds_tied_plain_at .later [] _ _ _ _ TermPlainsF.said (fun _ h => by cases h) (by kernel_rfl) (fun _ h => by cases h) termPlains_row_tie rfl ⟨rfl, rfl⟩ (by kernel_rfl) rfl TermPlainsF.plain (by kernel_rfl)
end Go.Proofs.YtfgjddljgpbgeaaDoor
