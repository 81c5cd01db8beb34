/-
  MERGED (a claim has at most 60 files): NgRo.
-/
import Derived.Test.YtghlajfalgdkfaaZ23
/-
  The reference's form.
-/
namespace Go.Proofs.Ytghlajfalgdkfaa
open Go.RowKit
set_option linter.unusedVariables false
set_option linter.unusedSimpArgs false
set_option maxRecDepth 100000

def RoR (W : World) (ts : List PT) (gk : Nat) (s63 : Value) (wr : World) : Prop := ∃ j : Nat, j + gk = ts.length ∧ s63 = .int .i64 (j : Int) ∧ Below W.heap.size W wr ∧ ∀ i t, i < j → ts[i]? = some t → frm t = true
def RoQ (W : World) (t : PT) (e : Ending) (w' : World) : Prop := e = .returned (.bool (frm t)) ∧ Below W.heap.size W w'
set_option maxHeartbeats 32000000 in
theorem rform_gen {g len c : Nat} {T : List PT} (hlen : len ≤ 1000) : ∀ t : PT, Wd t → ∀ (W : World) (at_ : Nat), Rf W g len T → T[at_]? = some t →
    Calls Try.prog 34 #[.slice (some ⟨g, 0, none⟩) len c, .int .i64 (at_ : Int)] W (RoQ W t) := by
  refine PT.ind fun k n ts ih hw W at_ hR hat => ?_
  unfold Wd at hw
  obtain ⟨hl, hws⟩ := hw
  obtain ⟨A', c', x0, x1, x2, hp⟩ := hR.2 at_ k n ts hat
  have hal : at_ < len := by have := (List.getElem?_eq_some_iff.1 hat).1; have := hR.1; omega
  obtain ⟨m, hm⟩ : ∃ m, m = ts.length := ⟨_, rfl⟩
  rw [← hm] at x2
  obtain ⟨W1, hW1⟩ : ∃ W1, W1 = W.alloc (.cells #[.int .i64 k, .int .i64 n, .slice A' m c'] 62) := ⟨_, rfl⟩
  have hb1 : Below W.heap.size W W1 := by rw [hW1]; exact (Below.refl _ _).alloc (Nat.le_refl _) _
  have hF : Fb W1 W.heap.size 62 #[.int .i64 k, .int .i64 n, .slice A' m c'] := by rw [hW1]; exact Fb.new W _ _
  have he : frm (.mk k n ts) = (fitB k n m && frms ts) := by rw [frm, hm]
  have q0 := hF.cell 0
  have q1 := hF.cell 1
  have q2 := hF.cell 2
  have HF := Lib.hid hF
  have HB := Lib.hid hb1
  have HR := Lib.hid (fun (w : World) (hb : Below W.heap.size W w) => (hR.below hb : Rf w g len T))
  have HP := Lib.hid hp
  have HIH := Lib.hid (fun (t : PT) (ht : t ∈ ts) => ih t ht (Wds.mem hws t ht))
  have HM := Lib.hid hm
  have HE := Lib.hid he
  have a0 : (0 : Int) ≤ (at_ : Int) := by omega
  have a1 : (at_ : Int) < (len : Int) := by omega
  have l1 : (len : Int) ≤ 1000 := by omega
  have m0 : (0 : Int) ≤ (m : Int) := by omega
  have m1 : (m : Int) ≤ 1000 := by omega
  have bad : fitB k n m = false → RoQ W (.mk k n ts) (.returned (.bool false)) W1 := fun h => ⟨by rw [HE.out, h]; rfl, HB.out⟩
  have HBad := Lib.hid bad
  clear hp ih hws hl hal hat hm hR hlen hb1 hF he bad
  by_cases hfit : fitB k n m = true
  · have hk : (k = 0 ∨ k = 1 ∨ k = 2 ∨ k = 3 ∨ k = 4 ∨ k = 5 ∨ k = 6) ∧ (k < 2 → m = 0 ∧ 0 ≤ n) ∧ (k = 2 ∨ k = 3 → 1 ≤ m) ∧ (3 < k → m = 1) := by
      unfold fitB at hfit
      by_cases c0 : k = 0 ∨ k = 1
      · rw [if_pos c0, Bool.and_eq_true] at hfit
        have := of_decide_eq_true hfit.1
        have := of_decide_eq_true hfit.2
        omega
      · rw [if_neg c0] at hfit
        by_cases c2 : k = 2 ∨ k = 3
        · rw [if_pos c2] at hfit
          have := of_decide_eq_true hfit
          omega
        · rw [if_neg c2] at hfit
          by_cases c4 : k = 4 ∨ k = 5 ∨ k = 6
          · rw [if_pos c4] at hfit
            have := of_decide_eq_true hfit
            omega
          · rw [if_neg c4] at hfit; cases hfit
    have HFit := Lib.hid hfit
    obtain ⟨hk, hk0, hk2, hk4⟩ := hk
    clear hfit HBad
    rcases hk with rfl | rfl | rfl | rfl | rfl | rfl | rfl
    · -- 0
      obtain ⟨hm0, hn0⟩ := hk0 (by decide)
      have zn : ¬ (n < 0) := by omega
      subst hm0
      clear hk0 hk2 hk4
      go_enter Try.func34, Try.ntmps34
      go_wp2
      rw [← hW1]
      clear hW1
      go_loopg [63] ts.length (fun gk s63 wr => RoR W1 ts gk s63 wr)
      case atStart => exact ⟨0, by omega, rfl, Below.refl _ _, fun i t h => absurd h (Nat.not_lt_zero _)⟩
      case round =>
        obtain ⟨j, hj, rfl, hb, hno⟩ := hrel
        have hmm := HM.out
        have hts : ts = [] := List.length_eq_zero_iff.1 hmm.symm
        have hj0 : j = 0 := by omega
        subst hj0
        have HEnd := Lib.hid (show RoQ W (.mk 0 n ts) (.returned (.bool true)) wr from ⟨by rw [HE.out, HFit.out, hts]; rfl, HB.out.trans (hb.mono HB.out.size)⟩)
        clear hj hno hb hmm hts
        go_wp2
        go_ret
        exact HEnd.out
    · -- 1
      obtain ⟨hm0, hn0⟩ := hk0 (by decide)
      have zn : ¬ (n < 0) := by omega
      subst hm0
      clear hk0 hk2 hk4
      go_enter Try.func34, Try.ntmps34
      go_wp2
      rw [← hW1]
      clear hW1
      go_loopg [63] ts.length (fun gk s63 wr => RoR W1 ts gk s63 wr)
      case atStart => exact ⟨0, by omega, rfl, Below.refl _ _, fun i t h => absurd h (Nat.not_lt_zero _)⟩
      case round =>
        obtain ⟨j, hj, rfl, hb, hno⟩ := hrel
        have hmm := HM.out
        have hts : ts = [] := List.length_eq_zero_iff.1 hmm.symm
        have hj0 : j = 0 := by omega
        subst hj0
        have HEnd := Lib.hid (show RoQ W (.mk 1 n ts) (.returned (.bool true)) wr from ⟨by rw [HE.out, HFit.out, hts]; rfl, HB.out.trans (hb.mono HB.out.size)⟩)
        clear hj hno hb hmm hts
        go_wp2
        go_ret
        exact HEnd.out
    · -- 2
      have hm1 := hk2 (by decide)
      have zm : ¬ (m = 0) := by omega
      have zi : ¬ ((m : Int) = 0) := by omega
      have zb : ((m : Int) == 0) = false := by rw [beq_eq_false_iff_ne]; omega
      clear hk0 hk2 hk4
      go_enter Try.func34, Try.ntmps34
      go_wp2
      rw [← hW1]
      clear hW1
      go_loopg [63] ts.length (fun gk s63 wr => RoR W1 ts gk s63 wr)
      case atStart => exact ⟨0, by omega, rfl, Below.refl _ _, fun i t h => absurd h (Nat.not_lt_zero _)⟩
      case round =>
        obtain ⟨j, hj, rfl, hb, hno⟩ := hrel
        have hmm := HM.out
        by_cases hlt : j < ts.length
        · obtain ⟨t, ht⟩ : ∃ t, ts[j]? = some t := ⟨_, List.getElem?_eq_getElem hlt⟩
          obtain ⟨g', q, hA, y0, hq⟩ := HP.out j t ht
          subst hA
          have hbW := HB.out.trans (hb.mono HB.out.size)
          have cS := HIH.out t (List.mem_of_getElem? ht) wr q (HR.out wr hbW) hq
          have r0 := cell_below y0 hbW
          have r2 := (HF.out.below hb).cell 2
          have j0 : (0 : Int) ≤ (j : Int) := by omega
          have j1 : (j : Int) < (m : Int) := by omega
          have HJ := Lib.hid (And.intro hj (And.intro hlt (And.intro ht hno)))
          have HBw := Lib.hid hb
          have HBW := Lib.hid hbW
          unfold RoQ at cS
          obtain ⟨b, hbb⟩ : ∃ b, b = frm t := ⟨_, rfl⟩
          rw [← hbb] at cS
          have HBB := Lib.hid hbb
          clear hj hlt ht hno hb hbW hq hmm hbb y0
          cases b with
          | true =>
            go_wp2_with (go_at_call 34; (with_reducible refine cS.mono ?_); rintro e w5 ⟨rfl, hb5⟩; have HB5 := Lib.hid hb5; clear hb5 cS)
            go_roundg (ts.length - (j + 1))
            case measure => have := HJ.out; omega
            case rel =>
              obtain ⟨h1, h2, h3, h4⟩ := HJ.out
              refine ⟨j + 1, by omega, by rw [Int.natCast_add]; rfl, HBw.out.trans (HB5.out.mono HBw.out.size), fun i u hi hu => ?_⟩
              rcases Nat.lt_or_ge i j with h | h
              · exact h4 i u h hu
              · obtain rfl : i = j := by omega
                rw [h3] at hu
                injection hu with hu
                rw [← hu]; exact HBB.out.symm
          | false =>
            go_wp2_with (go_at_call 34; (with_reducible refine cS.mono ?_); rintro e w5 ⟨rfl, hb5⟩; have HB5 := Lib.hid hb5; clear hb5 cS)
            go_ret
            refine ⟨?_, HBW.out.trans (HB5.out.mono HBW.out.size)⟩
            have hf : frms ts = false := by
              cases hf : frms ts with
              | false => rfl
              | true =>
                have := (frms_iff ts).1 hf t (List.mem_of_getElem? HJ.out.2.2.1)
                rw [← HBB.out] at this
                cases this
            rw [HE.out, hf, Bool.and_false]
            rfl
        · have hje : j = ts.length := by omega
          have j1 : ¬ ((j : Int) < (m : Int)) := by omega
          have HEnd := Lib.hid (show RoQ W (.mk 2 n ts) (.returned (.bool true)) wr from ⟨by
            have : frms ts = true := (frms_iff ts).2 fun t ht => by
              obtain ⟨i, hi⟩ := List.mem_iff_getElem?.1 ht
              exact hno i t (by rw [hje]; exact (List.getElem?_eq_some_iff.1 hi).1) hi
            rw [HE.out, this, HFit.out]; rfl, HB.out.trans (hb.mono HB.out.size)⟩)
          clear hj hlt hno hb hje hmm
          go_wp2
          go_ret
          exact HEnd.out
    · -- 3
      have hm1 := hk2 (by decide)
      have zm : ¬ (m = 0) := by omega
      have zi : ¬ ((m : Int) = 0) := by omega
      have zb : ((m : Int) == 0) = false := by rw [beq_eq_false_iff_ne]; omega
      clear hk0 hk2 hk4
      go_enter Try.func34, Try.ntmps34
      go_wp2
      rw [← hW1]
      clear hW1
      go_loopg [63] ts.length (fun gk s63 wr => RoR W1 ts gk s63 wr)
      case atStart => exact ⟨0, by omega, rfl, Below.refl _ _, fun i t h => absurd h (Nat.not_lt_zero _)⟩
      case round =>
        obtain ⟨j, hj, rfl, hb, hno⟩ := hrel
        have hmm := HM.out
        by_cases hlt : j < ts.length
        · obtain ⟨t, ht⟩ : ∃ t, ts[j]? = some t := ⟨_, List.getElem?_eq_getElem hlt⟩
          obtain ⟨g', q, hA, y0, hq⟩ := HP.out j t ht
          subst hA
          have hbW := HB.out.trans (hb.mono HB.out.size)
          have cS := HIH.out t (List.mem_of_getElem? ht) wr q (HR.out wr hbW) hq
          have r0 := cell_below y0 hbW
          have r2 := (HF.out.below hb).cell 2
          have j0 : (0 : Int) ≤ (j : Int) := by omega
          have j1 : (j : Int) < (m : Int) := by omega
          have HJ := Lib.hid (And.intro hj (And.intro hlt (And.intro ht hno)))
          have HBw := Lib.hid hb
          have HBW := Lib.hid hbW
          unfold RoQ at cS
          obtain ⟨b, hbb⟩ : ∃ b, b = frm t := ⟨_, rfl⟩
          rw [← hbb] at cS
          have HBB := Lib.hid hbb
          clear hj hlt ht hno hb hbW hq hmm hbb y0
          cases b with
          | true =>
            go_wp2_with (go_at_call 34; (with_reducible refine cS.mono ?_); rintro e w5 ⟨rfl, hb5⟩; have HB5 := Lib.hid hb5; clear hb5 cS)
            go_roundg (ts.length - (j + 1))
            case measure => have := HJ.out; omega
            case rel =>
              obtain ⟨h1, h2, h3, h4⟩ := HJ.out
              refine ⟨j + 1, by omega, by rw [Int.natCast_add]; rfl, HBw.out.trans (HB5.out.mono HBw.out.size), fun i u hi hu => ?_⟩
              rcases Nat.lt_or_ge i j with h | h
              · exact h4 i u h hu
              · obtain rfl : i = j := by omega
                rw [h3] at hu
                injection hu with hu
                rw [← hu]; exact HBB.out.symm
          | false =>
            go_wp2_with (go_at_call 34; (with_reducible refine cS.mono ?_); rintro e w5 ⟨rfl, hb5⟩; have HB5 := Lib.hid hb5; clear hb5 cS)
            go_ret
            refine ⟨?_, HBW.out.trans (HB5.out.mono HBW.out.size)⟩
            have hf : frms ts = false := by
              cases hf : frms ts with
              | false => rfl
              | true =>
                have := (frms_iff ts).1 hf t (List.mem_of_getElem? HJ.out.2.2.1)
                rw [← HBB.out] at this
                cases this
            rw [HE.out, hf, Bool.and_false]
            rfl
        · have hje : j = ts.length := by omega
          have j1 : ¬ ((j : Int) < (m : Int)) := by omega
          have HEnd := Lib.hid (show RoQ W (.mk 3 n ts) (.returned (.bool true)) wr from ⟨by
            have : frms ts = true := (frms_iff ts).2 fun t ht => by
              obtain ⟨i, hi⟩ := List.mem_iff_getElem?.1 ht
              exact hno i t (by rw [hje]; exact (List.getElem?_eq_some_iff.1 hi).1) hi
            rw [HE.out, this, HFit.out]; rfl, HB.out.trans (hb.mono HB.out.size)⟩)
          clear hj hlt hno hb hje hmm
          go_wp2
          go_ret
          exact HEnd.out
    · -- 4
      obtain rfl := hk4 (by decide)
      clear hk0 hk2 hk4
      go_enter Try.func34, Try.ntmps34
      go_wp2
      rw [← hW1]
      clear hW1
      go_loopg [63] ts.length (fun gk s63 wr => RoR W1 ts gk s63 wr)
      case atStart => exact ⟨0, by omega, rfl, Below.refl _ _, fun i t h => absurd h (Nat.not_lt_zero _)⟩
      case round =>
        obtain ⟨j, hj, rfl, hb, hno⟩ := hrel
        have hmm := HM.out
        by_cases hlt : j < ts.length
        · obtain ⟨t, ht⟩ : ∃ t, ts[j]? = some t := ⟨_, List.getElem?_eq_getElem hlt⟩
          obtain ⟨g', q, hA, y0, hq⟩ := HP.out j t ht
          subst hA
          have hbW := HB.out.trans (hb.mono HB.out.size)
          have cS := HIH.out t (List.mem_of_getElem? ht) wr q (HR.out wr hbW) hq
          have r0 := cell_below y0 hbW
          have r2 := (HF.out.below hb).cell 2
          have j0 : (0 : Int) ≤ (j : Int) := by omega
          have j1 : (j : Int) < (1 : Int) := by omega
          have HJ := Lib.hid (And.intro hj (And.intro hlt (And.intro ht hno)))
          have HBw := Lib.hid hb
          have HBW := Lib.hid hbW
          unfold RoQ at cS
          obtain ⟨b, hbb⟩ : ∃ b, b = frm t := ⟨_, rfl⟩
          rw [← hbb] at cS
          have HBB := Lib.hid hbb
          clear hj hlt ht hno hb hbW hq hmm hbb y0
          cases b with
          | true =>
            go_wp2_with (go_at_call 34; (with_reducible refine cS.mono ?_); rintro e w5 ⟨rfl, hb5⟩; have HB5 := Lib.hid hb5; clear hb5 cS)
            go_roundg (ts.length - (j + 1))
            case measure => have := HJ.out; omega
            case rel =>
              obtain ⟨h1, h2, h3, h4⟩ := HJ.out
              refine ⟨j + 1, by omega, by rw [Int.natCast_add]; rfl, HBw.out.trans (HB5.out.mono HBw.out.size), fun i u hi hu => ?_⟩
              rcases Nat.lt_or_ge i j with h | h
              · exact h4 i u h hu
              · obtain rfl : i = j := by omega
                rw [h3] at hu
                injection hu with hu
                rw [← hu]; exact HBB.out.symm
          | false =>
            go_wp2_with (go_at_call 34; (with_reducible refine cS.mono ?_); rintro e w5 ⟨rfl, hb5⟩; have HB5 := Lib.hid hb5; clear hb5 cS)
            go_ret
            refine ⟨?_, HBW.out.trans (HB5.out.mono HBW.out.size)⟩
            have hf : frms ts = false := by
              cases hf : frms ts with
              | false => rfl
              | true =>
                have := (frms_iff ts).1 hf t (List.mem_of_getElem? HJ.out.2.2.1)
                rw [← HBB.out] at this
                cases this
            rw [HE.out, hf, Bool.and_false]
            rfl
        · have hje : j = ts.length := by omega
          have j1 : ¬ ((j : Int) < (1 : Int)) := by omega
          have HEnd := Lib.hid (show RoQ W (.mk 4 n ts) (.returned (.bool true)) wr from ⟨by
            have : frms ts = true := (frms_iff ts).2 fun t ht => by
              obtain ⟨i, hi⟩ := List.mem_iff_getElem?.1 ht
              exact hno i t (by rw [hje]; exact (List.getElem?_eq_some_iff.1 hi).1) hi
            rw [HE.out, this, HFit.out]; rfl, HB.out.trans (hb.mono HB.out.size)⟩)
          clear hj hlt hno hb hje hmm
          go_wp2
          go_ret
          exact HEnd.out
    · -- 5
      obtain rfl := hk4 (by decide)
      clear hk0 hk2 hk4
      go_enter Try.func34, Try.ntmps34
      go_wp2
      rw [← hW1]
      clear hW1
      go_loopg [63] ts.length (fun gk s63 wr => RoR W1 ts gk s63 wr)
      case atStart => exact ⟨0, by omega, rfl, Below.refl _ _, fun i t h => absurd h (Nat.not_lt_zero _)⟩
      case round =>
        obtain ⟨j, hj, rfl, hb, hno⟩ := hrel
        have hmm := HM.out
        by_cases hlt : j < ts.length
        · obtain ⟨t, ht⟩ : ∃ t, ts[j]? = some t := ⟨_, List.getElem?_eq_getElem hlt⟩
          obtain ⟨g', q, hA, y0, hq⟩ := HP.out j t ht
          subst hA
          have hbW := HB.out.trans (hb.mono HB.out.size)
          have cS := HIH.out t (List.mem_of_getElem? ht) wr q (HR.out wr hbW) hq
          have r0 := cell_below y0 hbW
          have r2 := (HF.out.below hb).cell 2
          have j0 : (0 : Int) ≤ (j : Int) := by omega
          have j1 : (j : Int) < (1 : Int) := by omega
          have HJ := Lib.hid (And.intro hj (And.intro hlt (And.intro ht hno)))
          have HBw := Lib.hid hb
          have HBW := Lib.hid hbW
          unfold RoQ at cS
          obtain ⟨b, hbb⟩ : ∃ b, b = frm t := ⟨_, rfl⟩
          rw [← hbb] at cS
          have HBB := Lib.hid hbb
          clear hj hlt ht hno hb hbW hq hmm hbb y0
          cases b with
          | true =>
            go_wp2_with (go_at_call 34; (with_reducible refine cS.mono ?_); rintro e w5 ⟨rfl, hb5⟩; have HB5 := Lib.hid hb5; clear hb5 cS)
            go_roundg (ts.length - (j + 1))
            case measure => have := HJ.out; omega
            case rel =>
              obtain ⟨h1, h2, h3, h4⟩ := HJ.out
              refine ⟨j + 1, by omega, by rw [Int.natCast_add]; rfl, HBw.out.trans (HB5.out.mono HBw.out.size), fun i u hi hu => ?_⟩
              rcases Nat.lt_or_ge i j with h | h
              · exact h4 i u h hu
              · obtain rfl : i = j := by omega
                rw [h3] at hu
                injection hu with hu
                rw [← hu]; exact HBB.out.symm
          | false =>
            go_wp2_with (go_at_call 34; (with_reducible refine cS.mono ?_); rintro e w5 ⟨rfl, hb5⟩; have HB5 := Lib.hid hb5; clear hb5 cS)
            go_ret
            refine ⟨?_, HBW.out.trans (HB5.out.mono HBW.out.size)⟩
            have hf : frms ts = false := by
              cases hf : frms ts with
              | false => rfl
              | true =>
                have := (frms_iff ts).1 hf t (List.mem_of_getElem? HJ.out.2.2.1)
                rw [← HBB.out] at this
                cases this
            rw [HE.out, hf, Bool.and_false]
            rfl
        · have hje : j = ts.length := by omega
          have j1 : ¬ ((j : Int) < (1 : Int)) := by omega
          have HEnd := Lib.hid (show RoQ W (.mk 5 n ts) (.returned (.bool true)) wr from ⟨by
            have : frms ts = true := (frms_iff ts).2 fun t ht => by
              obtain ⟨i, hi⟩ := List.mem_iff_getElem?.1 ht
              exact hno i t (by rw [hje]; exact (List.getElem?_eq_some_iff.1 hi).1) hi
            rw [HE.out, this, HFit.out]; rfl, HB.out.trans (hb.mono HB.out.size)⟩)
          clear hj hlt hno hb hje hmm
          go_wp2
          go_ret
          exact HEnd.out
    · -- 6
      obtain rfl := hk4 (by decide)
      clear hk0 hk2 hk4
      go_enter Try.func34, Try.ntmps34
      go_wp2
      rw [← hW1]
      clear hW1
      go_loopg [63] ts.length (fun gk s63 wr => RoR W1 ts gk s63 wr)
      case atStart => exact ⟨0, by omega, rfl, Below.refl _ _, fun i t h => absurd h (Nat.not_lt_zero _)⟩
      case round =>
        obtain ⟨j, hj, rfl, hb, hno⟩ := hrel
        have hmm := HM.out
        by_cases hlt : j < ts.length
        · obtain ⟨t, ht⟩ : ∃ t, ts[j]? = some t := ⟨_, List.getElem?_eq_getElem hlt⟩
          obtain ⟨g', q, hA, y0, hq⟩ := HP.out j t ht
          subst hA
          have hbW := HB.out.trans (hb.mono HB.out.size)
          have cS := HIH.out t (List.mem_of_getElem? ht) wr q (HR.out wr hbW) hq
          have r0 := cell_below y0 hbW
          have r2 := (HF.out.below hb).cell 2
          have j0 : (0 : Int) ≤ (j : Int) := by omega
          have j1 : (j : Int) < (1 : Int) := by omega
          have HJ := Lib.hid (And.intro hj (And.intro hlt (And.intro ht hno)))
          have HBw := Lib.hid hb
          have HBW := Lib.hid hbW
          unfold RoQ at cS
          obtain ⟨b, hbb⟩ : ∃ b, b = frm t := ⟨_, rfl⟩
          rw [← hbb] at cS
          have HBB := Lib.hid hbb
          clear hj hlt ht hno hb hbW hq hmm hbb y0
          cases b with
          | true =>
            go_wp2_with (go_at_call 34; (with_reducible refine cS.mono ?_); rintro e w5 ⟨rfl, hb5⟩; have HB5 := Lib.hid hb5; clear hb5 cS)
            go_roundg (ts.length - (j + 1))
            case measure => have := HJ.out; omega
            case rel =>
              obtain ⟨h1, h2, h3, h4⟩ := HJ.out
              refine ⟨j + 1, by omega, by rw [Int.natCast_add]; rfl, HBw.out.trans (HB5.out.mono HBw.out.size), fun i u hi hu => ?_⟩
              rcases Nat.lt_or_ge i j with h | h
              · exact h4 i u h hu
              · obtain rfl : i = j := by omega
                rw [h3] at hu
                injection hu with hu
                rw [← hu]; exact HBB.out.symm
          | false =>
            go_wp2_with (go_at_call 34; (with_reducible refine cS.mono ?_); rintro e w5 ⟨rfl, hb5⟩; have HB5 := Lib.hid hb5; clear hb5 cS)
            go_ret
            refine ⟨?_, HBW.out.trans (HB5.out.mono HBW.out.size)⟩
            have hf : frms ts = false := by
              cases hf : frms ts with
              | false => rfl
              | true =>
                have := (frms_iff ts).1 hf t (List.mem_of_getElem? HJ.out.2.2.1)
                rw [← HBB.out] at this
                cases this
            rw [HE.out, hf, Bool.and_false]
            rfl
        · have hje : j = ts.length := by omega
          have j1 : ¬ ((j : Int) < (1 : Int)) := by omega
          have HEnd := Lib.hid (show RoQ W (.mk 6 n ts) (.returned (.bool true)) wr from ⟨by
            have : frms ts = true := (frms_iff ts).2 fun t ht => by
              obtain ⟨i, hi⟩ := List.mem_iff_getElem?.1 ht
              exact hno i t (by rw [hje]; exact (List.getElem?_eq_some_iff.1 hi).1) hi
            rw [HE.out, this, HFit.out]; rfl, HB.out.trans (hb.mono HB.out.size)⟩)
          clear hj hlt hno hb hje hmm
          go_wp2
          go_ret
          exact HEnd.out
  · have hff : fitB k n m = false := by simpa using hfit
    have HQ := Lib.hid (HBad.out hff)
    have HFF := Lib.hid hff
    clear hfit hff HBad HIH HP HR HE
    subst hW1
    by_cases c1 : k < 0
    · clear HFF
      go_enter Try.func34, Try.ntmps34
      go_wp2
      go_ret
      exact HQ.out
    · by_cases c2 : 6 < k
      · clear HFF
        go_enter Try.func34, Try.ntmps34
        go_wp2
        go_ret
        exact HQ.out
      · have hk : k = 0 ∨ k = 1 ∨ k = 2 ∨ k = 3 ∨ k = 4 ∨ k = 5 ∨ k = 6 := by omega
        clear c1 c2
        rcases hk with rfl | rfl | rfl | rfl | rfl | rfl | rfl
        · by_cases hm0 : m = 0
          · subst hm0
            have hn : n < 0 := by
              rcases Int.lt_or_le n 0 with h | h
              · exact h
              · have := HFF.out
                simp [fitB, h] at this
            clear HFF
            go_enter Try.func34, Try.ntmps34
            go_wp2
            go_ret
            exact HQ.out
          · have zm : (0 : Int) < (m : Int) := by omega
            have zn : 0 < m := by omega
            clear HFF hm0
            go_enter Try.func34, Try.ntmps34
            go_wp2
            go_ret
            exact HQ.out
        · by_cases hm0 : m = 0
          · subst hm0
            have hn : n < 0 := by
              rcases Int.lt_or_le n 0 with h | h
              · exact h
              · have := HFF.out
                simp [fitB, h] at this
            clear HFF
            go_enter Try.func34, Try.ntmps34
            go_wp2
            go_ret
            exact HQ.out
          · have zm : (0 : Int) < (m : Int) := by omega
            have zn : 0 < m := by omega
            clear HFF hm0
            go_enter Try.func34, Try.ntmps34
            go_wp2
            go_ret
            exact HQ.out
        · have hm0 : m = 0 := by
            rcases Nat.eq_zero_or_pos m with h | h
            · exact h
            · have := HFF.out
              have h1 : 1 ≤ m := h
              simp [fitB, h1] at this
          subst hm0
          clear HFF
          go_enter Try.func34, Try.ntmps34
          go_wp2
          go_ret
          exact HQ.out
        · have hm0 : m = 0 := by
            rcases Nat.eq_zero_or_pos m with h | h
            · exact h
            · have := HFF.out
              have h1 : 1 ≤ m := h
              simp [fitB, h1] at this
          subst hm0
          clear HFF
          go_enter Try.func34, Try.ntmps34
          go_wp2
          go_ret
          exact HQ.out
        · have hm0 : ¬ m = 1 := fun h => by
            have := HFF.out
            simp [fitB, h] at this
          have zi : ¬ ((m : Int) = 1) := by omega
          have zb : ((m : Int) == 1) = false := by rw [beq_eq_false_iff_ne]; omega
          clear HFF
          go_enter Try.func34, Try.ntmps34
          go_wp2
          go_ret
          exact HQ.out
        · have hm0 : ¬ m = 1 := fun h => by
            have := HFF.out
            simp [fitB, h] at this
          have zi : ¬ ((m : Int) = 1) := by omega
          have zb : ((m : Int) == 1) = false := by rw [beq_eq_false_iff_ne]; omega
          clear HFF
          go_enter Try.func34, Try.ntmps34
          go_wp2
          go_ret
          exact HQ.out
        · have hm0 : ¬ m = 1 := fun h => by
            have := HFF.out
            simp [fitB, h] at this
          have zi : ¬ ((m : Int) = 1) := by omega
          have zb : ((m : Int) == 1) = false := by rw [beq_eq_false_iff_ne]; omega
          clear HFF
          go_enter Try.func34, Try.ntmps34
          go_wp2
          go_ret
          exact HQ.out
end Go.Proofs.Ytghlajfalgdkfaa
