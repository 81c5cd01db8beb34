/-
  ScanQuotes, FOR ANY TWO BYTE STRINGS: any text, quoted, is the document's, and is read as it, whatever stands behind: the law returns true, and its arguments read as before. The table 'escapes' starts as the program's text lays it (tied).
-/
import Derived.Test.YtomgiicepjakcaaDoorRQuote
import Derived.Test.YtomgiicepjakcaaDoorReadC
import Derived.Test.YtomgiicepjakcaaDoorKit2
import Derived.Test.YtomgiicepjakcaaDoorCards
import Derived.Test.YtomgiicepjakcaaDoorTie
namespace Go.Proofs.YtomgiicepjakcaaDoor
open Go.ChangeShapes Go.WideShapes Go.ChangeAt Go.RowKit
set_option linter.unusedVariables false

/-- The document's signs are there, nothing older is turned. -/
def QS (w : World) (v : Value) (l : List Int) (W : World) : Prop := Below w.heap.size w W ∧ Ints w.heap.size W v l
theorem QS.below {w W W' : World} {v : Value} {l : List Int} (h : QS w v l W) (hb : Below W.heap.size W W') : QS w v l W' := ⟨h.1.trans (hb.mono h.1.size), ints_below h.2 hb⟩
/-- A scanner at a place, nothing older turned. -/
def ZS (w : World) (b : Nat) (v : Value) (sl : List Int) (k : Nat) (W : World) : Prop := Sc w.heap.size W b v sl k ∧ Below w.heap.size w W
theorem ZS.below {w W W' : World} {b k : Nat} {v : Value} {sl : List Int} (h : ZS w b v sl k W) (hb : Below W.heap.size W W') : ZS w b v sl k W' := ⟨h.1.below3 hb, h.2.trans (hb.mono h.2.size)⟩
theorem ZS.moves {w W W' : World} {b k k' : Nat} {v : Value} {sl : List Int} (h : ZS w b v sl k W) (m : Moves w.heap.size W b v sl k' W') : ZS w b v sl k' W' :=
  ⟨m.1, h.2.grown m.2 h.2.size (fun j hj => by cases hj; exact h.1.ge)⟩

set_option maxHeartbeats 8000000 in
set_option maxRecDepth 100000 in
theorem quotes_walk (s : ByteArray) (_hs : s.size ≤ maxLen) (more : ByteArray) (_hm : more.size ≤ maxLen) (w : World) (t : TypeId) (fr : Nat × Nat) (htab : w.heap[0]? = some (.cells escCells t fr)) :
    Calls Tryd.prog 5 #[.string s, .string more] w fun e w' => e = .returned (.bool true) ∧ Below w.heap.size w w' := by
  have cA := ever_awake htab
  have hb0 : Below w.heap.size w w := Below.refl _ _
  by_cases hlen : 300 < s.size ∨ 100 < more.size
  · clear htab
    go_enter Tryd.func5, Tryd.ntmps5
    go_wp2_with (go_at_call 13; (with_reducible refine (cA.at (by assumption)).mono ?_); rintro e w1 ⟨rfl, hb1⟩)
    all_goals (first | (go_ret; exact ⟨rfl, by assumption⟩) | (exfalso; omega))
  · have h1 : s.size ≤ 300 := by omega
    have h2 : more.size ≤ 100 := by omega
    clear hlen
    obtain ⟨la, ra, hpa⟩ := parts_of s.data.toList
    obtain ⟨lm, rm, hpm⟩ := parts_of more.data.toList
    have hl : la.length ≤ 300 := by have := hpa.size; have := encL_len la; omega
    have hl2 : lm.length ≤ 100 := by have := hpm.size; have := encL_len lm; omega
    have sA : ∀ W, Calls Tryd.prog 14 #[.string s] W (SignsPost W la (decide (ra = []))) := fun W => signs_any s la ra hpa (by omega) W
    have hG : ∀ v, ∀ {W : World}, QS w v la W → Calls Tryd.prog 15 #[.string more] W fun e w' => e = .returned (.bool (decide (rm = []))) ∧ QS w v la w' := fun v {W} h => (good_any _ _ _ hpm (by omega) W).mono fun _ _ ⟨a, c⟩ => ⟨a, h.below c⟩
    by_cases hr : ra = []
    · subst hr
      have hd : decide (([] : List UInt8) = []) = true := rfl
      rw [hd] at sA
      by_cases hrm : rm = []
      · subst hrm
        rw [hd] at hG
        have h0 : 0 < w.heap.size := (Array.getElem?_eq_some_iff.1 htab).1
        have hT : ∀ W, Below w.heap.size w W → W.heap[0]? = some (.cells escCells t fr) := fun W hb => tab_below htab hb h0
        have hQ : ∀ v, ∀ {W : World}, QS w v la W → Calls Tryd.prog 26 #[.string s] W fun e w' => e = .returned (.string (quo la)) ∧ QS w v la w' := fun v {W} h => (quote_any s la W hpa.nil hpa.all (by omega) t fr (hT W h.1)).mono fun _ _ ⟨a, c⟩ => ⟨a, h.below c⟩
        have hR : ∀ v, ∀ {W : World}, QS w v la W → Calls Tryd.prog 27 #[v] W fun e w' => e = .returned (.string (quo la)) ∧ Below w.heap.size w w' := fun v {W} h => by
          rcases h.2.2 with ⟨rfl, hl0⟩ | ⟨g, cap, cur, rfl, _⟩
          · have := rquote_any la hpa.all (by omega) none 0 0 0 W (fun hh => by omega) (fun j x hx => by rw [List.length_eq_zero_iff.1 hl0] at hx; simp at hx)
            rw [hl0] at this
            exact this.mono fun _ _ ⟨a, c⟩ => ⟨a, h.1.trans (c.mono h.1.size)⟩
          · refine (rquote_any la hpa.all (by omega) (some ⟨g, 0, none⟩) g 0 cap W (fun _ => ⟨rfl, (World.ownsRow.lt h.2 g rfl).2⟩) ?_).mono fun _ _ ⟨a, c⟩ => ⟨a, h.1.trans (c.mono h.1.size)⟩
            intro j x hx
            have := World.ownsRow.cells h.2 (g := g) rfl j (.int .i64 x) (by simp [intRow, hx])
            rw [addr_add] at this
            rw [Nat.zero_add]
            exact this
        have hpj := (quoS_parts la hpa.all).join hpm
        have hqs : (quo la).size ≤ 2000 := by rw [quo_size]; have := quoteL_len la; omega
        have hql : (quoS la ++ lm).length ≤ 100000 := by have := (quoS_parts la hpa.all).size; have := encL_len (quoS la); simp; omega
        have hN : ∀ W, Calls Tryd.prog 17 #[.string (quo la ++ more)] W (NewPost W (quoS la ++ lm)) := fun W => new_good _ _ hpj (by rw [ByteArray.size_append]; omega) W
        have hst := hpa.text
        have hZQ : ∀ b v, ∀ {W : World}, ZS w b v (quoS la ++ lm) 0 W → Calls Tryd.prog 28 #[.pointer (some ⟨b, 0, none⟩)] W fun e w' => e = .returned (.tuple #[.string s, .int .i64 (quoS la).length, .int .i64 0]) ∧ ZS w b v (quoS la ++ lm) (quoS la).length w' := fun b v {W} h => by
          have := quoted_good la lm (quoS la ++ lm) rfl h.1 hpa.all hql t fr (hT W h.2)
          rw [← hst] at this
          exact this.mono fun _ _ ⟨a, c⟩ => ⟨a, h.moves c⟩
        have hZL : ∀ b v k, ∀ {W : World}, ZS w b v (quoS la ++ lm) k W → Calls Tryd.prog 16 #[.string (quo la)] W fun e w' => e = .returned (.int .i64 (quoS la).length) ∧ ZS w b v (quoS la ++ lm) k w' := fun b v k {W} h => (len_any _ _ _ (quoS_parts la hpa.all) (by omega) W).mono fun _ _ ⟨a, c⟩ => ⟨a, h.below c⟩
        have hZP : ∀ b v k, ∀ {W : World}, ZS w b v (quoS la ++ lm) k W → Calls Tryd.prog 19 #[.pointer (some ⟨b, 0, none⟩)] W fun e w' => e = .returned (.int .i64 k) ∧ ZS w b v (quoS la ++ lm) k w' := fun b v k {W} h => (place_any h.1).mono fun _ _ ⟨a, c⟩ => ⟨a, c.sc h.1, c.below h.2⟩
        have hadd : ∀ W, (Op.stringOp .add (quo la) more).run Tryd.prog W = .ok (.string (quo la ++ more)) W := fun W => run_string_add_sum W _ _ (by omega)
        obtain ⟨p, hp⟩ : ∃ p, p = quo la := ⟨_, rfl⟩
        obtain ⟨sl, hsl⟩ : ∃ sl, sl = quoS la ++ lm := ⟨_, rfl⟩
        obtain ⟨K, hK⟩ : ∃ K, K = (quoS la).length := ⟨_, rfl⟩
        rw [← hp, ← hsl] at hN
        rw [← hp] at hadd
        simp only [← hp, ← hsl, ← hK] at hQ hR hZQ hZL hZP
        clear hp hsl hK hst hpj hqs hql hpa hpm htab hT hd
        go_enter Tryd.func5, Tryd.ntmps5
        go_wp2_with (first
          | (go_at_call 13; (with_reducible refine (cA.at (by assumption)).mono ?_); rintro e w1 ⟨rfl, hb1⟩)
          | (go_at_call 14; (with_reducible refine (sA _).mono ?_); rintro e w2 ⟨vI, rfl, hI2, hb2⟩; have hS2 : QS w vI la w2 := ⟨hb1.trans (hb2.mono hb1.size), ints_mono hI2 hb1.size⟩; clear hI2 hb2)
          | (go_at_call 15; (with_reducible refine (hG _ (by assumption)).mono ?_); rintro e w3 ⟨rfl, hS3⟩)
          | (go_at_call 26; (with_reducible refine (hQ _ (by assumption)).mono ?_); rintro e w4 ⟨rfl, hS4⟩)
          | (go_at_call 27; (with_reducible refine (hR _ (by assumption)).mono ?_); rintro e w5 ⟨rfl, hb5⟩)
          | (go_at_call 17; (with_reducible refine (hN _).mono ?_); rintro e w6 ⟨b, v, rfl, hsc6, hb6⟩; have hZ6 : ZS w b v sl 0 w6 := ⟨hsc6.mono hb5.size, hb5.trans (hb6.mono hb5.size)⟩; clear hsc6 hb6)
          | (go_at_call 28; (with_reducible refine (hZQ _ _ (by assumption)).mono ?_); rintro e w7 ⟨rfl, hZ7⟩)
          | (go_at_call 16; (with_reducible refine (hZL _ _ _ (by assumption)).mono ?_); rintro e w8 ⟨rfl, hZ8⟩)
          | (go_at_call 19; (with_reducible refine (hZP _ _ _ (by assumption)).mono ?_); rintro e w9 ⟨rfl, hZ9⟩))
        go_ret
        exact ⟨ret_bool (by first | rfl | simp), hZ9.2⟩
      · rw [decide_eq_false hrm] at hG
        clear htab hpa hpm hrm hd
        go_enter Tryd.func5, Tryd.ntmps5
        go_wp2_with (first
          | (go_at_call 13; (with_reducible refine (cA.at (by assumption)).mono ?_); rintro e w1 ⟨rfl, hb1⟩)
          | (go_at_call 14; (with_reducible refine (sA _).mono ?_); rintro e w2 ⟨vI, rfl, hI2, hb2⟩; have hS2 : QS w vI la w2 := ⟨hb1.trans (hb2.mono hb1.size), ints_mono hI2 hb1.size⟩; clear hI2 hb2)
          | (go_at_call 15; (with_reducible refine (hG _ (by assumption)).mono ?_); rintro e w3 ⟨rfl, hS3⟩))
        go_ret
        exact ⟨rfl, hS3.1⟩
    · rw [decide_eq_false hr] at sA
      clear htab hpa hpm hr hG
      go_enter Tryd.func5, Tryd.ntmps5
      go_wp2_with (first
        | (go_at_call 13; (with_reducible refine (cA.at (by assumption)).mono ?_); rintro e w1 ⟨rfl, hb1⟩)
        | (go_at_call 14; (with_reducible refine (sA _).mono ?_); rintro e w2 ⟨vI, rfl, hI2, hb2⟩; have hb3 := hb1.trans (hb2.mono hb1.size); clear hI2 hb2))
      go_ret
      exact ⟨rfl, hb3⟩

namespace ScanQuotesF
theorem contract (H : Type) (enc : TypeId × Value → H) (W : World) (base : Nat) (args : Array Value) (ds gs : List (DataW H)) (before : List MemPlace)
    (hval : ∀ (j : Nat) t v, Tryd.f5.params[j]? = some t → args[j]? = some v → Value.okWide Tryd.prog W .any base t v)
    (hW : DataW.Whole enc Tryd.prog Tryd.f5.params.toList Rows.scanQuotesSpec.vars false W args.toList ds gs before) (hL : laidMetH Tryd.prog Rows.scanQuotesRow.laid W) :
    Calls Tryd.prog 5 args W fun e W' => ∃ v, e = .returned v ∧ Rows.scanQuotesSpec.post enc Tryd.prog Tryd.f5 false true false false W args v W' := by
  have hW' := hW
  obtain ⟨p, q, hA0, hV, rfl, hfz, hnd⟩ := hW
  have hA : DataW.TrodAll enc Tryd.prog W 0 (fun _ => true) true Tryd.f5.params.toList args.toList ds p := hA0
  rw [Tryd.params5] at hA hval
  obtain ⟨v0, vs0, d0, ds0, p0, q0, hargs, rfl, rfl, h0, r0⟩ := trodAll_cons hA
  obtain ⟨v1, vs1, d1, ds1, p1, q1, rfl, rfl, rfl, h1, r1⟩ := trodAll_cons r0
  obtain ⟨rfl, rfl, rfl⟩ := trodAll_nil r1
  obtain rfl : args = #[v0, v1] := by cases args; simp_all
  obtain ⟨rfl, rfl⟩ := trodVars_none hV
  obtain ⟨x0, rfl, rfl, rfl, w0⟩ := Go.ChangeMaps.open_string Tryd.underlying9 (hval 0 9 v0 rfl rfl) h0
  obtain ⟨x1, rfl, rfl, rfl, w1⟩ := Go.ChangeMaps.open_string Tryd.underlying9 (hval 1 9 v1 rfl rfl) h1
  clear hA0
  simp only [List.append_nil] at hW'
  obtain ⟨t, fr, htab⟩ := table hL
  refine (quotes_walk x0 w0 x1 w1 W t fr htab).mono fun e W' ⟨he, hb⟩ => ?_
  subst he
  exact ⟨_, rfl, _, _, _, [], [], [], hW', trodAll_mk1 (shut_bool Tryd.underlying4 _), trodAll_cons_mk (Go.ChangeMaps.shut_string Tryd.underlying9 w0) (trodAll_cons_mk (Go.ChangeMaps.shut_string Tryd.underlying9 w1) (trodAll_mk0)), rfl, hb.frame _, fun h => by cases h⟩

noncomputable def laidWorld (os : Os) : World :=
  { World.holding Tryd.prog os ⟨#[], #[], []⟩ with heap := (World.holding Tryd.prog os ⟨#[], #[], []⟩).heap.modify 0 fun
      | .cells _ t frozen => .cells escCells t frozen
      | o => o }
theorem laid_met (os : Os) : laidMet Tryd.prog Rows.scanQuotesRow.laid ((laidWorld os).forCall (fun _ _ => 0) ⟨#[], #[.string ⟨#[]⟩, .string ⟨#[]⟩], []⟩).memory :=
  laidMet_of_run' 8 (by kernel_rfl) (by kernel_rfl)
theorem reads (os : Os) {H : Type} (enc : TypeId × Value → H) : ∃ places, DataW.whole enc Tryd.prog ((laidWorld os).forCall (fun _ _ => 0) ⟨#[], #[.string ⟨#[]⟩, .string ⟨#[]⟩], []⟩).memory Tryd.f5.params.toList Rows.scanQuotesSpec.vars false (#[.string ⟨#[]⟩, .string ⟨#[]⟩] : Array Value).toList 8 = some ([.lit (.string []), .lit (.string [])], [], places) :=
  ⟨[], by kernel_rfl⟩

set_option maxRecDepth 100000 in
theorem lifted (os : Os) (started : os.Started) (H : Type) (enc : TypeId × Value → H) (F : Stop.Interp) :
    ReturnsInHanded {} Tryd.checked os 5 .any ((OpenSpec.ofChange Rows.scanQuotesSpec).preRow enc Tryd.prog Tryd.f5 Rows.scanQuotesRow.domain false Rows.scanQuotesRow.laid) (((OpenSpec.ofChange Rows.scanQuotesSpec).at F).post enc Tryd.prog Tryd.f5 false true false false) := by
  obtain ⟨places, hx⟩ := reads os enc
  refine returnsInHanded_of_row (C := Tryd.checked) (s := OpenSpec.ofChange Rows.scanQuotesSpec) own started (by kernel_rfl) Tryd.func5
    (witness_row_at (enc := enc) (C := Tryd.checked) false (laidWorld os) #[.string ⟨#[]⟩, .string ⟨#[]⟩] rfl (by kernel_rfl) (by kernel_rfl) (by kernel_rfl)
      (OpenSpec.preRow_of_cond 8 hx (by kernel_rfl) (fun k hk => by cases hk) (by kernel_rfl) (laid_met os))) ?_
  intro W base args ds gs before hval hW _ _ _ hL _ _
  exact contract H enc W base args ds gs before hval hW hL

theorem said : Rows.ScanQuotesSaid :=
  OpenClaim.holds_of_cond 5 Tryd.f5 rfl rfl rfl rfl rfl rfl rfl ⟨rfl, rfl, rfl, rfl, rfl⟩ rfl rfl rfl rfl rfl (by kernel_rfl) Tryd.func5 (by kernel_rfl)
    (of_decide_eq_true (by kernel_rfl)) (by unfold Func.isWrapper; first | (rw [if_pos (by decide +kernel)]; kernel_rfl) | (rw [if_neg (by decide +kernel)]; exact ⟨rfl, rfl⟩))
    (fun os started H enc _ F => by rw [OpenClaim.pre_eq_preRow]; exact lifted os started H enc F)

theorem plain (f : FuncId) (fn : Func) (hf : Tryd.pinned.checked.prog.funcNamed "beck/becklaw01.ScanQuotes" = some f) (hfn : Tryd.pinned.checked.prog.funcs[f]? = some fn) :
    false = Tryd.pinned.checked.prog.looks [] ∧ ∀ (j : Nat) t, fn.params[j]? = some t → Tryd.pinned.checked.prog.wantsStandIn t = false := by
  obtain rfl : f = 5 := Option.some.inj ((show Tryd.prog.funcNamed "beck/becklaw01.ScanQuotes" = some 5 by kernel_rfl).symm.trans hf) |>.symm
  obtain rfl : fn = Tryd.f5 := (Option.some.inj (Tryd.func5.symm.trans hfn)).symm
  refine ⟨by kernel_rfl, fun j t ht => ?_⟩
  rw [Tryd.params5] at ht
  have hm : t ∈ [9, 9] := by simpa using Array.mem_of_getElem? ht
  have hall : ([9, 9].all fun u => !Tryd.prog.wantsStandIn u) = true := by kernel_rfl
  exact (show Tryd.prog.wantsStandIn t = false by simpa using List.all_eq_true.1 hall t hm)
end ScanQuotesF
theorem scanQuotes_card : Rows.ScanQuotesCardSaid :=
  Claim7.holds_tied_plain_at .later [] _ _ _ _ ScanQuotesF.said (fun _ h => by cases h) (by kernel_rfl) (fun _ h => by cases h) scanQuotes_row_tie rfl ⟨rfl, rfl⟩ (by kernel_rfl) rfl ScanQuotesF.plain (by kernel_rfl)

end Go.Proofs.YtomgiicepjakcaaDoor
