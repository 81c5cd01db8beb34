/-
  MERGED (a claim has at most 60 files): NgRo, NgRc, NgLC.
-/
import Derived.Test.YtghlajfalgdkfaaZ10
import Derived.Test.YtghlajfalgdkfaaZ06
import Derived.Test.YtghlajfalgdkfaaZ09
/-
  The reference's form.
-/
namespace Go.Proofs.Ytghlajfalgdkfaa
open Go.RowKit
set_option linter.unusedVariables false
set_option linter.unusedSimpArgs false
set_option maxRecDepth 100000

def RoR (W : World) (ts : List PT) (gk : Nat) (s63 : Value) (wr : World) : Prop := ∃ j : Nat, j + gk = ts.length ∧ s63 = .int .i64 (j : Int) ∧ Below W.heap.size W wr ∧ ∀ i t, i < j → ts[i]? = some t → frm t = true
def RoQ (W : World) (t : PT) (e : Ending) (w' : World) : Prop := e = .returned (.bool (frm t)) ∧ Below W.heap.size W w'
set_option maxHeartbeats 32000000 in
theorem rform_gen {g len c : Nat} {T : List PT} (hlen : len ≤ 1000) : ∀ t : PT, Wd t → ∀ (W : World) (at_ : Nat), Rf W g len T → T[at_]? = some t →
    Calls Try.prog 34 #[.slice (some ⟨g, 0, none⟩) len c, .int .i64 (at_ : Int)] W (RoQ W t) := by
  refine PT.ind fun k n ts ih hw W at_ hR hat => ?_
  unfold Wd at hw
  obtain ⟨hl, hws⟩ := hw
  obtain ⟨A', c', x0, x1, x2, hp⟩ := hR.2 at_ k n ts hat
  have hal : at_ < len := by have := (List.getElem?_eq_some_iff.1 hat).1; have := hR.1; omega
  obtain ⟨m, hm⟩ : ∃ m, m = ts.length := ⟨_, rfl⟩
  rw [← hm] at x2
  obtain ⟨W1, hW1⟩ : ∃ W1, W1 = W.alloc (.cells #[.int .i64 k, .int .i64 n, .slice A' m c'] 62) := ⟨_, rfl⟩
  have hb1 : Below W.heap.size W W1 := by rw [hW1]; exact (Below.refl _ _).alloc (Nat.le_refl _) _
  have hF : Fb W1 W.heap.size 62 #[.int .i64 k, .int .i64 n, .slice A' m c'] := by rw [hW1]; exact Fb.new W _ _
  have he : frm (.mk k n ts) = (fitB k n m && frms ts) := by rw [frm, hm]
  have q0 := hF.cell 0
  have q1 := hF.cell 1
  have q2 := hF.cell 2
  have HF := Lib.hid hF
  have HB := Lib.hid hb1
  have HR := Lib.hid (fun (w : World) (hb : Below W.heap.size W w) => (hR.below hb : Rf w g len T))
  have HP := Lib.hid hp
  have HIH := Lib.hid (fun (t : PT) (ht : t ∈ ts) => ih t ht (Wds.mem hws t ht))
  have HM := Lib.hid hm
  have HE := Lib.hid he
  have a0 : (0 : Int) ≤ (at_ : Int) := by omega
  have a1 : (at_ : Int) < (len : Int) := by omega
  have l1 : (len : Int) ≤ 1000 := by omega
  have m0 : (0 : Int) ≤ (m : Int) := by omega
  have m1 : (m : Int) ≤ 1000 := by omega
  have bad : fitB k n m = false → RoQ W (.mk k n ts) (.returned (.bool false)) W1 := fun h => ⟨by rw [HE.out, h]; rfl, HB.out⟩
  have HBad := Lib.hid bad
  clear hp ih hws hl hal hat hm hR hlen hb1 hF he bad
  by_cases hfit : fitB k n m = true
  · have hk : (k = 0 ∨ k = 1 ∨ k = 2 ∨ k = 3 ∨ k = 4 ∨ k = 5 ∨ k = 6) ∧ (k < 2 → m = 0 ∧ 0 ≤ n) ∧ (k = 2 ∨ k = 3 → 1 ≤ m) ∧ (3 < k → m = 1) := by
      unfold fitB at hfit
      by_cases c0 : k = 0 ∨ k = 1
      · rw [if_pos c0, Bool.and_eq_true] at hfit
        have := of_decide_eq_true hfit.1
        have := of_decide_eq_true hfit.2
        omega
      · rw [if_neg c0] at hfit
        by_cases c2 : k = 2 ∨ k = 3
        · rw [if_pos c2] at hfit
          have := of_decide_eq_true hfit
          omega
        · rw [if_neg c2] at hfit
          by_cases c4 : k = 4 ∨ k = 5 ∨ k = 6
          · rw [if_pos c4] at hfit
            have := of_decide_eq_true hfit
            omega
          · rw [if_neg c4] at hfit; cases hfit
    have HFit := Lib.hid hfit
    obtain ⟨hk, hk0, hk2, hk4⟩ := hk
    clear hfit HBad
    rcases hk with rfl | rfl | rfl | rfl | rfl | rfl | rfl
    · -- 0
      obtain ⟨hm0, hn0⟩ := hk0 (by decide)
      have zn : ¬ (n < 0) := by omega
      subst hm0
      clear hk0 hk2 hk4
      go_enter Try.func34, Try.ntmps34
      go_wp2
      rw [← hW1]
      clear hW1
      go_loopg [63] ts.length (fun gk s63 wr => RoR W1 ts gk s63 wr)
      case atStart => exact ⟨0, by omega, rfl, Below.refl _ _, fun i t h => absurd h (Nat.not_lt_zero _)⟩
      case round =>
        obtain ⟨j, hj, rfl, hb, hno⟩ := hrel
        have hmm := HM.out
        have hts : ts = [] := List.length_eq_zero_iff.1 hmm.symm
        have hj0 : j = 0 := by omega
        subst hj0
        have HEnd := Lib.hid (show RoQ W (.mk 0 n ts) (.returned (.bool true)) wr from ⟨by rw [HE.out, HFit.out, hts]; rfl, HB.out.trans (hb.mono HB.out.size)⟩)
        clear hj hno hb hmm hts
        go_wp2
        go_ret
        exact HEnd.out
    · -- 1
      obtain ⟨hm0, hn0⟩ := hk0 (by decide)
      have zn : ¬ (n < 0) := by omega
      subst hm0
      clear hk0 hk2 hk4
      go_enter Try.func34, Try.ntmps34
      go_wp2
      rw [← hW1]
      clear hW1
      go_loopg [63] ts.length (fun gk s63 wr => RoR W1 ts gk s63 wr)
      case atStart => exact ⟨0, by omega, rfl, Below.refl _ _, fun i t h => absurd h (Nat.not_lt_zero _)⟩
      case round =>
        obtain ⟨j, hj, rfl, hb, hno⟩ := hrel
        have hmm := HM.out
        have hts : ts = [] := List.length_eq_zero_iff.1 hmm.symm
        have hj0 : j = 0 := by omega
        subst hj0
        have HEnd := Lib.hid (show RoQ W (.mk 1 n ts) (.returned (.bool true)) wr from ⟨by rw [HE.out, HFit.out, hts]; rfl, HB.out.trans (hb.mono HB.out.size)⟩)
        clear hj hno hb hmm hts
        go_wp2
        go_ret
        exact HEnd.out
    · -- 2
      have hm1 := hk2 (by decide)
      have zm : ¬ (m = 0) := by omega
      have zi : ¬ ((m : Int) = 0) := by omega
      have zb : ((m : Int) == 0) = false := by rw [beq_eq_false_iff_ne]; omega
      clear hk0 hk2 hk4
      go_enter Try.func34, Try.ntmps34
      go_wp2
      rw [← hW1]
      clear hW1
      go_loopg [63] ts.length (fun gk s63 wr => RoR W1 ts gk s63 wr)
      case atStart => exact ⟨0, by omega, rfl, Below.refl _ _, fun i t h => absurd h (Nat.not_lt_zero _)⟩
      case round =>
        obtain ⟨j, hj, rfl, hb, hno⟩ := hrel
        have hmm := HM.out
        by_cases hlt : j < ts.length
        · obtain ⟨t, ht⟩ : ∃ t, ts[j]? = some t := ⟨_, List.getElem?_eq_getElem hlt⟩
          obtain ⟨g', q, hA, y0, hq⟩ := HP.out j t ht
          subst hA
          have hbW := HB.out.trans (hb.mono HB.out.size)
          have cS := HIH.out t (List.mem_of_getElem? ht) wr q (HR.out wr hbW) hq
          have r0 := cell_below y0 hbW
          have r2 := (HF.out.below hb).cell 2
          have j0 : (0 : Int) ≤ (j : Int) := by omega
          have j1 : (j : Int) < (m : Int) := by omega
          have HJ := Lib.hid (And.intro hj (And.intro hlt (And.intro ht hno)))
          have HBw := Lib.hid hb
          have HBW := Lib.hid hbW
          unfold RoQ at cS
          obtain ⟨b, hbb⟩ : ∃ b, b = frm t := ⟨_, rfl⟩
          rw [← hbb] at cS
          have HBB := Lib.hid hbb
          clear hj hlt ht hno hb hbW hq hmm hbb y0
          cases b with
          | true =>
            go_wp2_with (go_at_call 34; (with_reducible refine cS.mono ?_); rintro e w5 ⟨rfl, hb5⟩; have HB5 := Lib.hid hb5; clear hb5 cS)
            go_roundg (ts.length - (j + 1))
            case measure => have := HJ.out; omega
            case rel =>
              obtain ⟨h1, h2, h3, h4⟩ := HJ.out
              refine ⟨j + 1, by omega, by rw [Int.natCast_add]; rfl, HBw.out.trans (HB5.out.mono HBw.out.size), fun i u hi hu => ?_⟩
              rcases Nat.lt_or_ge i j with h | h
              · exact h4 i u h hu
              · obtain rfl : i = j := by omega
                rw [h3] at hu
                injection hu with hu
                rw [← hu]; exact HBB.out.symm
          | false =>
            go_wp2_with (go_at_call 34; (with_reducible refine cS.mono ?_); rintro e w5 ⟨rfl, hb5⟩; have HB5 := Lib.hid hb5; clear hb5 cS)
            go_ret
            refine ⟨?_, HBW.out.trans (HB5.out.mono HBW.out.size)⟩
            have hf : frms ts = false := by
              cases hf : frms ts with
              | false => rfl
              | true =>
                have := (frms_iff ts).1 hf t (List.mem_of_getElem? HJ.out.2.2.1)
                rw [← HBB.out] at this
                cases this
            rw [HE.out, hf, Bool.and_false]
            rfl
        · have hje : j = ts.length := by omega
          have j1 : ¬ ((j : Int) < (m : Int)) := by omega
          have HEnd := Lib.hid (show RoQ W (.mk 2 n ts) (.returned (.bool true)) wr from ⟨by
            have : frms ts = true := (frms_iff ts).2 fun t ht => by
              obtain ⟨i, hi⟩ := List.mem_iff_getElem?.1 ht
              exact hno i t (by rw [hje]; exact (List.getElem?_eq_some_iff.1 hi).1) hi
            rw [HE.out, this, HFit.out]; rfl, HB.out.trans (hb.mono HB.out.size)⟩)
          clear hj hlt hno hb hje hmm
          go_wp2
          go_ret
          exact HEnd.out
    · -- 3
      have hm1 := hk2 (by decide)
      have zm : ¬ (m = 0) := by omega
      have zi : ¬ ((m : Int) = 0) := by omega
      have zb : ((m : Int) == 0) = false := by rw [beq_eq_false_iff_ne]; omega
      clear hk0 hk2 hk4
      go_enter Try.func34, Try.ntmps34
      go_wp2
      rw [← hW1]
      clear hW1
      go_loopg [63] ts.length (fun gk s63 wr => RoR W1 ts gk s63 wr)
      case atStart => exact ⟨0, by omega, rfl, Below.refl _ _, fun i t h => absurd h (Nat.not_lt_zero _)⟩
      case round =>
        obtain ⟨j, hj, rfl, hb, hno⟩ := hrel
        have hmm := HM.out
        by_cases hlt : j < ts.length
        · obtain ⟨t, ht⟩ : ∃ t, ts[j]? = some t := ⟨_, List.getElem?_eq_getElem hlt⟩
          obtain ⟨g', q, hA, y0, hq⟩ := HP.out j t ht
          subst hA
          have hbW := HB.out.trans (hb.mono HB.out.size)
          have cS := HIH.out t (List.mem_of_getElem? ht) wr q (HR.out wr hbW) hq
          have r0 := cell_below y0 hbW
          have r2 := (HF.out.below hb).cell 2
          have j0 : (0 : Int) ≤ (j : Int) := by omega
          have j1 : (j : Int) < (m : Int) := by omega
          have HJ := Lib.hid (And.intro hj (And.intro hlt (And.intro ht hno)))
          have HBw := Lib.hid hb
          have HBW := Lib.hid hbW
          unfold RoQ at cS
          obtain ⟨b, hbb⟩ : ∃ b, b = frm t := ⟨_, rfl⟩
          rw [← hbb] at cS
          have HBB := Lib.hid hbb
          clear hj hlt ht hno hb hbW hq hmm hbb y0
          cases b with
          | true =>
            go_wp2_with (go_at_call 34; (with_reducible refine cS.mono ?_); rintro e w5 ⟨rfl, hb5⟩; have HB5 := Lib.hid hb5; clear hb5 cS)
            go_roundg (ts.length - (j + 1))
            case measure => have := HJ.out; omega
            case rel =>
              obtain ⟨h1, h2, h3, h4⟩ := HJ.out
              refine ⟨j + 1, by omega, by rw [Int.natCast_add]; rfl, HBw.out.trans (HB5.out.mono HBw.out.size), fun i u hi hu => ?_⟩
              rcases Nat.lt_or_ge i j with h | h
              · exact h4 i u h hu
              · obtain rfl : i = j := by omega
                rw [h3] at hu
                injection hu with hu
                rw [← hu]; exact HBB.out.symm
          | false =>
            go_wp2_with (go_at_call 34; (with_reducible refine cS.mono ?_); rintro e w5 ⟨rfl, hb5⟩; have HB5 := Lib.hid hb5; clear hb5 cS)
            go_ret
            refine ⟨?_, HBW.out.trans (HB5.out.mono HBW.out.size)⟩
            have hf : frms ts = false := by
              cases hf : frms ts with
              | false => rfl
              | true =>
                have := (frms_iff ts).1 hf t (List.mem_of_getElem? HJ.out.2.2.1)
                rw [← HBB.out] at this
                cases this
            rw [HE.out, hf, Bool.and_false]
            rfl
        · have hje : j = ts.length := by omega
          have j1 : ¬ ((j : Int) < (m : Int)) := by omega
          have HEnd := Lib.hid (show RoQ W (.mk 3 n ts) (.returned (.bool true)) wr from ⟨by
            have : frms ts = true := (frms_iff ts).2 fun t ht => by
              obtain ⟨i, hi⟩ := List.mem_iff_getElem?.1 ht
              exact hno i t (by rw [hje]; exact (List.getElem?_eq_some_iff.1 hi).1) hi
            rw [HE.out, this, HFit.out]; rfl, HB.out.trans (hb.mono HB.out.size)⟩)
          clear hj hlt hno hb hje hmm
          go_wp2
          go_ret
          exact HEnd.out
    · -- 4
      obtain rfl := hk4 (by decide)
      clear hk0 hk2 hk4
      go_enter Try.func34, Try.ntmps34
      go_wp2
      rw [← hW1]
      clear hW1
      go_loopg [63] ts.length (fun gk s63 wr => RoR W1 ts gk s63 wr)
      case atStart => exact ⟨0, by omega, rfl, Below.refl _ _, fun i t h => absurd h (Nat.not_lt_zero _)⟩
      case round =>
        obtain ⟨j, hj, rfl, hb, hno⟩ := hrel
        have hmm := HM.out
        by_cases hlt : j < ts.length
        · obtain ⟨t, ht⟩ : ∃ t, ts[j]? = some t := ⟨_, List.getElem?_eq_getElem hlt⟩
          obtain ⟨g', q, hA, y0, hq⟩ := HP.out j t ht
          subst hA
          have hbW := HB.out.trans (hb.mono HB.out.size)
          have cS := HIH.out t (List.mem_of_getElem? ht) wr q (HR.out wr hbW) hq
          have r0 := cell_below y0 hbW
          have r2 := (HF.out.below hb).cell 2
          have j0 : (0 : Int) ≤ (j : Int) := by omega
          have j1 : (j : Int) < (1 : Int) := by omega
          have HJ := Lib.hid (And.intro hj (And.intro hlt (And.intro ht hno)))
          have HBw := Lib.hid hb
          have HBW := Lib.hid hbW
          unfold RoQ at cS
          obtain ⟨b, hbb⟩ : ∃ b, b = frm t := ⟨_, rfl⟩
          rw [← hbb] at cS
          have HBB := Lib.hid hbb
          clear hj hlt ht hno hb hbW hq hmm hbb y0
          cases b with
          | true =>
            go_wp2_with (go_at_call 34; (with_reducible refine cS.mono ?_); rintro e w5 ⟨rfl, hb5⟩; have HB5 := Lib.hid hb5; clear hb5 cS)
            go_roundg (ts.length - (j + 1))
            case measure => have := HJ.out; omega
            case rel =>
              obtain ⟨h1, h2, h3, h4⟩ := HJ.out
              refine ⟨j + 1, by omega, by rw [Int.natCast_add]; rfl, HBw.out.trans (HB5.out.mono HBw.out.size), fun i u hi hu => ?_⟩
              rcases Nat.lt_or_ge i j with h | h
              · exact h4 i u h hu
              · obtain rfl : i = j := by omega
                rw [h3] at hu
                injection hu with hu
                rw [← hu]; exact HBB.out.symm
          | false =>
            go_wp2_with (go_at_call 34; (with_reducible refine cS.mono ?_); rintro e w5 ⟨rfl, hb5⟩; have HB5 := Lib.hid hb5; clear hb5 cS)
            go_ret
            refine ⟨?_, HBW.out.trans (HB5.out.mono HBW.out.size)⟩
            have hf : frms ts = false := by
              cases hf : frms ts with
              | false => rfl
              | true =>
                have := (frms_iff ts).1 hf t (List.mem_of_getElem? HJ.out.2.2.1)
                rw [← HBB.out] at this
                cases this
            rw [HE.out, hf, Bool.and_false]
            rfl
        · have hje : j = ts.length := by omega
          have j1 : ¬ ((j : Int) < (1 : Int)) := by omega
          have HEnd := Lib.hid (show RoQ W (.mk 4 n ts) (.returned (.bool true)) wr from ⟨by
            have : frms ts = true := (frms_iff ts).2 fun t ht => by
              obtain ⟨i, hi⟩ := List.mem_iff_getElem?.1 ht
              exact hno i t (by rw [hje]; exact (List.getElem?_eq_some_iff.1 hi).1) hi
            rw [HE.out, this, HFit.out]; rfl, HB.out.trans (hb.mono HB.out.size)⟩)
          clear hj hlt hno hb hje hmm
          go_wp2
          go_ret
          exact HEnd.out
    · -- 5
      obtain rfl := hk4 (by decide)
      clear hk0 hk2 hk4
      go_enter Try.func34, Try.ntmps34
      go_wp2
      rw [← hW1]
      clear hW1
      go_loopg [63] ts.length (fun gk s63 wr => RoR W1 ts gk s63 wr)
      case atStart => exact ⟨0, by omega, rfl, Below.refl _ _, fun i t h => absurd h (Nat.not_lt_zero _)⟩
      case round =>
        obtain ⟨j, hj, rfl, hb, hno⟩ := hrel
        have hmm := HM.out
        by_cases hlt : j < ts.length
        · obtain ⟨t, ht⟩ : ∃ t, ts[j]? = some t := ⟨_, List.getElem?_eq_getElem hlt⟩
          obtain ⟨g', q, hA, y0, hq⟩ := HP.out j t ht
          subst hA
          have hbW := HB.out.trans (hb.mono HB.out.size)
          have cS := HIH.out t (List.mem_of_getElem? ht) wr q (HR.out wr hbW) hq
          have r0 := cell_below y0 hbW
          have r2 := (HF.out.below hb).cell 2
          have j0 : (0 : Int) ≤ (j : Int) := by omega
          have j1 : (j : Int) < (1 : Int) := by omega
          have HJ := Lib.hid (And.intro hj (And.intro hlt (And.intro ht hno)))
          have HBw := Lib.hid hb
          have HBW := Lib.hid hbW
          unfold RoQ at cS
          obtain ⟨b, hbb⟩ : ∃ b, b = frm t := ⟨_, rfl⟩
          rw [← hbb] at cS
          have HBB := Lib.hid hbb
          clear hj hlt ht hno hb hbW hq hmm hbb y0
          cases b with
          | true =>
            go_wp2_with (go_at_call 34; (with_reducible refine cS.mono ?_); rintro e w5 ⟨rfl, hb5⟩; have HB5 := Lib.hid hb5; clear hb5 cS)
            go_roundg (ts.length - (j + 1))
            case measure => have := HJ.out; omega
            case rel =>
              obtain ⟨h1, h2, h3, h4⟩ := HJ.out
              refine ⟨j + 1, by omega, by rw [Int.natCast_add]; rfl, HBw.out.trans (HB5.out.mono HBw.out.size), fun i u hi hu => ?_⟩
              rcases Nat.lt_or_ge i j with h | h
              · exact h4 i u h hu
              · obtain rfl : i = j := by omega
                rw [h3] at hu
                injection hu with hu
                rw [← hu]; exact HBB.out.symm
          | false =>
            go_wp2_with (go_at_call 34; (with_reducible refine cS.mono ?_); rintro e w5 ⟨rfl, hb5⟩; have HB5 := Lib.hid hb5; clear hb5 cS)
            go_ret
            refine ⟨?_, HBW.out.trans (HB5.out.mono HBW.out.size)⟩
            have hf : frms ts = false := by
              cases hf : frms ts with
              | false => rfl
              | true =>
                have := (frms_iff ts).1 hf t (List.mem_of_getElem? HJ.out.2.2.1)
                rw [← HBB.out] at this
                cases this
            rw [HE.out, hf, Bool.and_false]
            rfl
        · have hje : j = ts.length := by omega
          have j1 : ¬ ((j : Int) < (1 : Int)) := by omega
          have HEnd := Lib.hid (show RoQ W (.mk 5 n ts) (.returned (.bool true)) wr from ⟨by
            have : frms ts = true := (frms_iff ts).2 fun t ht => by
              obtain ⟨i, hi⟩ := List.mem_iff_getElem?.1 ht
              exact hno i t (by rw [hje]; exact (List.getElem?_eq_some_iff.1 hi).1) hi
            rw [HE.out, this, HFit.out]; rfl, HB.out.trans (hb.mono HB.out.size)⟩)
          clear hj hlt hno hb hje hmm
          go_wp2
          go_ret
          exact HEnd.out
    · -- 6
      obtain rfl := hk4 (by decide)
      clear hk0 hk2 hk4
      go_enter Try.func34, Try.ntmps34
      go_wp2
      rw [← hW1]
      clear hW1
      go_loopg [63] ts.length (fun gk s63 wr => RoR W1 ts gk s63 wr)
      case atStart => exact ⟨0, by omega, rfl, Below.refl _ _, fun i t h => absurd h (Nat.not_lt_zero _)⟩
      case round =>
        obtain ⟨j, hj, rfl, hb, hno⟩ := hrel
        have hmm := HM.out
        by_cases hlt : j < ts.length
        · obtain ⟨t, ht⟩ : ∃ t, ts[j]? = some t := ⟨_, List.getElem?_eq_getElem hlt⟩
          obtain ⟨g', q, hA, y0, hq⟩ := HP.out j t ht
          subst hA
          have hbW := HB.out.trans (hb.mono HB.out.size)
          have cS := HIH.out t (List.mem_of_getElem? ht) wr q (HR.out wr hbW) hq
          have r0 := cell_below y0 hbW
          have r2 := (HF.out.below hb).cell 2
          have j0 : (0 : Int) ≤ (j : Int) := by omega
          have j1 : (j : Int) < (1 : Int) := by omega
          have HJ := Lib.hid (And.intro hj (And.intro hlt (And.intro ht hno)))
          have HBw := Lib.hid hb
          have HBW := Lib.hid hbW
          unfold RoQ at cS
          obtain ⟨b, hbb⟩ : ∃ b, b = frm t := ⟨_, rfl⟩
          rw [← hbb] at cS
          have HBB := Lib.hid hbb
          clear hj hlt ht hno hb hbW hq hmm hbb y0
          cases b with
          | true =>
            go_wp2_with (go_at_call 34; (with_reducible refine cS.mono ?_); rintro e w5 ⟨rfl, hb5⟩; have HB5 := Lib.hid hb5; clear hb5 cS)
            go_roundg (ts.length - (j + 1))
            case measure => have := HJ.out; omega
            case rel =>
              obtain ⟨h1, h2, h3, h4⟩ := HJ.out
              refine ⟨j + 1, by omega, by rw [Int.natCast_add]; rfl, HBw.out.trans (HB5.out.mono HBw.out.size), fun i u hi hu => ?_⟩
              rcases Nat.lt_or_ge i j with h | h
              · exact h4 i u h hu
              · obtain rfl : i = j := by omega
                rw [h3] at hu
                injection hu with hu
                rw [← hu]; exact HBB.out.symm
          | false =>
            go_wp2_with (go_at_call 34; (with_reducible refine cS.mono ?_); rintro e w5 ⟨rfl, hb5⟩; have HB5 := Lib.hid hb5; clear hb5 cS)
            go_ret
            refine ⟨?_, HBW.out.trans (HB5.out.mono HBW.out.size)⟩
            have hf : frms ts = false := by
              cases hf : frms ts with
              | false => rfl
              | true =>
                have := (frms_iff ts).1 hf t (List.mem_of_getElem? HJ.out.2.2.1)
                rw [← HBB.out] at this
                cases this
            rw [HE.out, hf, Bool.and_false]
            rfl
        · have hje : j = ts.length := by omega
          have j1 : ¬ ((j : Int) < (1 : Int)) := by omega
          have HEnd := Lib.hid (show RoQ W (.mk 6 n ts) (.returned (.bool true)) wr from ⟨by
            have : frms ts = true := (frms_iff ts).2 fun t ht => by
              obtain ⟨i, hi⟩ := List.mem_iff_getElem?.1 ht
              exact hno i t (by rw [hje]; exact (List.getElem?_eq_some_iff.1 hi).1) hi
            rw [HE.out, this, HFit.out]; rfl, HB.out.trans (hb.mono HB.out.size)⟩)
          clear hj hlt hno hb hje hmm
          go_wp2
          go_ret
          exact HEnd.out
  · have hff : fitB k n m = false := by simpa using hfit
    have HQ := Lib.hid (HBad.out hff)
    have HFF := Lib.hid hff
    clear hfit hff HBad HIH HP HR HE
    subst hW1
    by_cases c1 : k < 0
    · clear HFF
      go_enter Try.func34, Try.ntmps34
      go_wp2
      go_ret
      exact HQ.out
    · by_cases c2 : 6 < k
      · clear HFF
        go_enter Try.func34, Try.ntmps34
        go_wp2
        go_ret
        exact HQ.out
      · have hk : k = 0 ∨ k = 1 ∨ k = 2 ∨ k = 3 ∨ k = 4 ∨ k = 5 ∨ k = 6 := by omega
        clear c1 c2
        rcases hk with rfl | rfl | rfl | rfl | rfl | rfl | rfl
        · by_cases hm0 : m = 0
          · subst hm0
            have hn : n < 0 := by
              rcases Int.lt_or_le n 0 with h | h
              · exact h
              · have := HFF.out
                simp [fitB, h] at this
            clear HFF
            go_enter Try.func34, Try.ntmps34
            go_wp2
            go_ret
            exact HQ.out
          · have zm : (0 : Int) < (m : Int) := by omega
            have zn : 0 < m := by omega
            clear HFF hm0
            go_enter Try.func34, Try.ntmps34
            go_wp2
            go_ret
            exact HQ.out
        · by_cases hm0 : m = 0
          · subst hm0
            have hn : n < 0 := by
              rcases Int.lt_or_le n 0 with h | h
              · exact h
              · have := HFF.out
                simp [fitB, h] at this
            clear HFF
            go_enter Try.func34, Try.ntmps34
            go_wp2
            go_ret
            exact HQ.out
          · have zm : (0 : Int) < (m : Int) := by omega
            have zn : 0 < m := by omega
            clear HFF hm0
            go_enter Try.func34, Try.ntmps34
            go_wp2
            go_ret
            exact HQ.out
        · have hm0 : m = 0 := by
            rcases Nat.eq_zero_or_pos m with h | h
            · exact h
            · have := HFF.out
              have h1 : 1 ≤ m := h
              simp [fitB, h1] at this
          subst hm0
          clear HFF
          go_enter Try.func34, Try.ntmps34
          go_wp2
          go_ret
          exact HQ.out
        · have hm0 : m = 0 := by
            rcases Nat.eq_zero_or_pos m with h | h
            · exact h
            · have := HFF.out
              have h1 : 1 ≤ m := h
              simp [fitB, h1] at this
          subst hm0
          clear HFF
          go_enter Try.func34, Try.ntmps34
          go_wp2
          go_ret
          exact HQ.out
        · have hm0 : ¬ m = 1 := fun h => by
            have := HFF.out
            simp [fitB, h] at this
          have zi : ¬ ((m : Int) = 1) := by omega
          have zb : ((m : Int) == 1) = false := by rw [beq_eq_false_iff_ne]; omega
          clear HFF
          go_enter Try.func34, Try.ntmps34
          go_wp2
          go_ret
          exact HQ.out
        · have hm0 : ¬ m = 1 := fun h => by
            have := HFF.out
            simp [fitB, h] at this
          have zi : ¬ ((m : Int) = 1) := by omega
          have zb : ((m : Int) == 1) = false := by rw [beq_eq_false_iff_ne]; omega
          clear HFF
          go_enter Try.func34, Try.ntmps34
          go_wp2
          go_ret
          exact HQ.out
        · have hm0 : ¬ m = 1 := fun h => by
            have := HFF.out
            simp [fitB, h] at this
          have zi : ¬ ((m : Int) = 1) := by omega
          have zb : ((m : Int) == 1) = false := by rw [beq_eq_false_iff_ne]; omega
          clear HFF
          go_enter Try.func34, Try.ntmps34
          go_wp2
          go_ret
          exact HQ.out
end Go.Proofs.Ytghlajfalgdkfaa

/-
  The reference's Check is what Check answers.
-/
namespace Go.Proofs.Ytghlajfalgdkfaa
open Go.RowKit
set_option linter.unusedVariables false
set_option linter.unusedSimpArgs false
set_option maxRecDepth 100000

set_option maxHeartbeats 8000000 in
theorem rcheck_gen {W : World} {g len c : Nat} {T : List PT} (hR : Rf W g len T) (hlen : len ≤ 1000) {t : PT} (hs : sz t ≤ 1000) (hw : Wd t) {at_ : Nat} (hat : T[at_]? = some t) :
    Calls Try.prog 14 #[.slice (some ⟨g, 0, none⟩) len c, .int .i64 (at_ : Int)] W fun e w' => e = .returned (.int .i64 (chk t)) ∧ Below W.heap.size W w' := by
  have c1 := rdepth_gen (c := c) hR hlen t hs at_ hat
  have c2 := rsize_gen (c := c) hR hlen t hs at_ hat
  have c3 := rform_gen (c := c) hlen t hw W at_ hR hat
  unfold RoQ at c3
  have hsz := hgt_sz t
  unfold chk
  obtain ⟨a, ha⟩ : ∃ a, a = 1 + hgt t := ⟨_, rfl⟩
  obtain ⟨b, hb⟩ : ∃ b, b = sz t := ⟨_, rfl⟩
  obtain ⟨f, hf⟩ : ∃ f, f = frm t := ⟨_, rfl⟩
  rw [← ha] at c1
  rw [← hb] at c2 ⊢
  rw [← hf] at c3 ⊢
  have a0 : (0 : Int) ≤ (a : Int) := by omega
  have a9 : (a : Int) ≤ 1000 := by omega
  have b0 : (0 : Int) ≤ (b : Int) := by omega
  have b9 : (b : Int) ≤ 1000 := by omega
  by_cases h1 : 40 ≤ hgt t
  · rw [if_pos h1]
    have z1 : (40 : Int) < (a : Int) := by omega
    have z2 : 40 < a := by omega
    clear hR hlen hs hw hat c2 c3 hsz ha hb hf h1
    go_enter Try.func14, Try.ntmps14
    go_wp2_with (go_at_call 32; (with_reducible refine c1.mono ?_); rintro e w5 ⟨rfl, rfl⟩)
    go_ret
    exact ⟨rfl, Below.refl _ _⟩
  · rw [if_neg h1]
    have z1 : ¬ ((40 : Int) < (a : Int)) := by omega
    have z2 : ¬ (40 < a) := by omega
    by_cases h2 : 200 < b
    · rw [if_pos h2]
      have y1 : (200 : Int) < (b : Int) := by omega
      clear hR hlen hs hw hat c3 hsz ha hb hf h1
      go_enter Try.func14, Try.ntmps14
      go_wp2_with (first
        | (go_at_call 32; (with_reducible refine c1.mono ?_); rintro e w5 ⟨rfl, rfl⟩)
        | (go_at_call 33; (with_reducible refine c2.mono ?_); rintro e w6 ⟨rfl, rfl⟩))
      go_ret
      exact ⟨rfl, Below.refl _ _⟩
    · rw [if_neg h2]
      have y1 : ¬ ((200 : Int) < (b : Int)) := by omega
      clear hR hlen hs hw hat hsz ha hb hf h1
      cases f with
      | true =>
        go_enter Try.func14, Try.ntmps14
        go_wp2_with (first
          | (go_at_call 32; (with_reducible refine c1.mono ?_); rintro e w5 ⟨rfl, rfl⟩)
          | (go_at_call 33; (with_reducible refine c2.mono ?_); rintro e w6 ⟨rfl, rfl⟩)
          | (go_at_call 34; (with_reducible refine c3.mono ?_); rintro e w7 ⟨rfl, hb7⟩; have HB7 := Lib.hid hb7; clear hb7))
        go_ret
        exact ⟨rfl, HB7.out⟩
      | false =>
        go_enter Try.func14, Try.ntmps14
        go_wp2_with (first
          | (go_at_call 32; (with_reducible refine c1.mono ?_); rintro e w5 ⟨rfl, rfl⟩)
          | (go_at_call 33; (with_reducible refine c2.mono ?_); rintro e w6 ⟨rfl, rfl⟩)
          | (go_at_call 34; (with_reducible refine c3.mono ?_); rintro e w7 ⟨rfl, hb7⟩; have HB7 := Lib.hid hb7; clear hb7))
        go_ret
        exact ⟨rfl, HB7.out⟩
end Go.Proofs.Ytghlajfalgdkfaa

/-
  NfaChecks: its walk.
-/
namespace Go.Proofs.Ytghlajfalgdkfaa
open Go.RowKit
set_option linter.unusedVariables false
set_option linter.unusedSimpArgs false
set_option maxRecDepth 100000

def LcR (W : World) (len gk : Nat) (s20 : Value) (wr : World) : Prop := ∃ j : Nat, j + gk = len ∧ s20 = .int .i64 (j : Int) ∧ Below W.heap.size W wr
def LwQ (W : World) (e : Ending) (w' : World) : Prop := e = .returned (.bool true) ∧ Below W.heap.size W w'
theorem tree_q {W : World} {A : Option Addr} {c : Nat} {ns : List Nd} (hn : Nq W A ns) (hl : ns.length ≤ 300) :
    Calls Try.prog 11 #[.slice A ns.length c] W fun e w' => ∃ (g : Nat) (L : Nat) (kd nn : Int) (As : Option Addr) (ls cs : Nat) (t : PT), e = .returned (.tuple #[.slice (some ⟨g, 0, none⟩) L L, .agg #[.int .i64 kd, .int .i64 nn, .slice As ls cs]]) ∧ L ≤ 1000 ∧ Rf w' g L (trees (tops ns)) ∧ (trees (tops ns))[0]? = some t ∧ Pth w' t ⟨kd, nn, .slice As ls cs⟩ ∧ Below W.heap.size W w' ∧ Wd t ∧ sz t ≤ 300 := by
  refine (tree_any (c := c) hn hl).mono ?_
  rintro e w' ⟨g, p, t, he, hR, ht, hp, hb⟩
  obtain ⟨As, ls, cs, hs⟩ := hp.slice
  obtain ⟨kd, nn, s⟩ := p
  dsimp only at hs he
  subst hs
  refine ⟨g, _, kd, nn, As, ls, cs, t, he, ?_, hR, ht, hp, hb, trees_wd _ t (List.mem_of_getElem? ht), trees_sz _ t (List.mem_of_getElem? ht)⟩
  unfold tops
  split
  · simp
  · omega
set_option pp.deepTerms true in
set_option pp.maxSteps 1000000 in
set_option maxHeartbeats 32000000 in
theorem checks_walk (A : Option Addr) (len cap : Nat) (hl : len ≤ cap) (hm : cap ≤ maxLen) (W : World) (hn : NdI W A len) : Calls Try.prog 4 #[.slice A len cap] W (LwQ W) := by
  obtain ⟨ns, hnl, hq⟩ := hn.nq
  have HTree := Lib.hid (fun (w : World) (hb : Below W.heap.size W w) (h60 : len ≤ 60) => (by rw [← hnl]; exact tree_q (c := cap) (hq.below hb) (by omega) : Calls Try.prog 11 #[.slice A len cap] w _))
  have HN := Lib.hid hn
  have l0 : (0 : Int) ≤ (len : Int) := by omega
  have l1 : (len : Int) ≤ 9223372036854775807 := by unfold maxLen at hm; omega
  clear hl hm hn hq hnl
  have HBA := Lib.hid (Below.refl W.heap.size W)
  go_enter Try.func4, Try.ntmps4
  by_cases h60 : 60 < len
  · have z1 : (60 : Int) < (len : Int) := by omega
    have z1' : decide ((60 : Int) < (len : Int)) = true := decide_eq_true z1
    have z2' : decide (60 < len) = true := decide_eq_true h60
    clear h60
    go_wp2_with (go_at_call 10; (with_reducible refine (fawake_any _).mono ?_); rintro e w1 ⟨rfl, hb1⟩; have HBA := Lib.hid (HBA.out.trans (hb1.mono HBA.out.size)); clear hb1)
    go_ret
    exact ⟨rfl, HBA.out⟩
  · have z1 : ¬ ((60 : Int) < (len : Int)) := by omega
    have z1' : decide ((60 : Int) < (len : Int)) = false := decide_eq_false z1
    have z2' : decide (60 < len) = false := decide_eq_false h60
    have H60 := Lib.hid (show len ≤ 60 by omega)
    clear h60
    go_wp2_with (go_at_call 10; (with_reducible refine (fawake_any _).mono ?_); rintro e w1 ⟨rfl, hb1⟩; have HBA := Lib.hid (HBA.out.trans (hb1.mono HBA.out.size)); clear hb1)
    go_loopg [20] len (fun gk s20 wr => LcR W len gk s20 wr)
    case atStart => exact ⟨0, by omega, rfl, HBA.out⟩
    case round =>
      obtain ⟨j, hj, rfl, hb⟩ := hrel
      have j0 : (0 : Int) ≤ (j : Int) := by omega
      by_cases hjl : j < len
      · obtain ⟨g, o, kd, nn, A', m', c', l', hA, hg, x0, x1, x2, hme, hm9, hByt, hrest⟩ := HN.out j hjl
        subst hA
        have x0' := cell_below x0 hb
        have x1' := cell_below x1 hb
        have x2' := cell_below x2 hb
        have j1 : (j : Int) < (len : Int) := by omega
        have m0 : (0 : Int) ≤ (m' : Int) := by omega
        have m1 : (m' : Int) ≤ 9223372036854775807 := by unfold maxLen at hm9; omega
        have HJ := Lib.hid (And.intro hj hjl)
        have HB := Lib.hid (hb.alloc hb.size (.cells #[.int .i64 kd, .int .i64 nn, .slice A' m' c'] 48))
        clear hj hjl hb x0 x1 x2 hm9 hg hme hByt hrest
        by_cases h20 : 20 < m'
        · have y1 : (20 : Int) < (m' : Int) := by omega
          have y1' : decide ((20 : Int) < (m' : Int)) = true := decide_eq_true y1
          have y2' : decide (20 < m') = true := decide_eq_true h20
          clear h20
          go_wp2
          go_ret
          exact ⟨rfl, HB.out⟩
        · have y1 : ¬ ((20 : Int) < (m' : Int)) := by omega
          have y1' : decide ((20 : Int) < (m' : Int)) = false := decide_eq_false y1
          have y2' : decide (20 < m') = false := decide_eq_false h20
          clear h20
          go_wp2
          go_roundg (len - (j + 1))
          case measure => have := HJ.out; omega
          case rel => exact ⟨j + 1, by have := HJ.out; omega, by rw [Int.natCast_add]; rfl, HB.out⟩
      · have j1 : ¬ ((j : Int) < (len : Int)) := by omega
        have HB := Lib.hid hb
        have cT := HTree.out wr hb H60.out
        clear hj hjl hb
        go_upto_region 10 with (go_at_call 11; (with_reducible refine cT.mono ?_); rintro e w5 ⟨g, L, kd, nn, As, ls, cs, t, rfl, hL, hR, ht, hp, hb5, hw, hs⟩; have HT5 := Lib.hid (And.intro hL (And.intro hR (And.intro ht (And.intro hp (And.intro hw hs))))); have HB5 := Lib.hid (HB.out.trans (hb5.mono HB.out.size)); clear hL hR ht hp hb5 hw hs)
        obtain ⟨w6, hw6⟩ : ∃ w6, w6 = w5.alloc (.cells #[.int .i64 kd, .int .i64 nn, .slice As ls cs] 28) := ⟨_, rfl⟩
        rw [← hw6]
        have hb6 : Below w5.heap.size w5 w6 := by rw [hw6]; exact (Below.refl _ _).alloc (Nat.le_refl _) _
        have hF6 : Fb w6 w5.heap.size 28 #[.int .i64 kd, .int .i64 nn, .slice As ls cs] := by rw [hw6]; exact Fb.new _ _ _
        have HB6 := Lib.hid (HB5.out.trans (hb6.mono HB5.out.size))
        have HF := Lib.hid (fun (w : World) (hb : Below w6.heap.size w6 w) => (⟨(hF6.below hb).cell 0, (hF6.below hb).cell 1, (hF6.below hb).cell 2⟩ : w.cell? ⟨w5.heap.size, 0, none⟩ = some (.int .i64 kd) ∧ w.cell? ⟨w5.heap.size, 1, none⟩ = some (.int .i64 nn) ∧ w.cell? ⟨w5.heap.size, 2, none⟩ = some (.slice As ls cs)))
        obtain ⟨q0, q1, q2⟩ := HF.out w6 (Below.refl _ _)
        have cR : Calls Try.prog 14 #[.slice (some ⟨g, 0, none⟩) L L, .int .i64 0] w6 fun e w' => e = .returned (.int .i64 (chk t)) ∧ Below w6.heap.size w6 w' := rcheck_gen (c := L) (HT5.out.2.1.below hb6) HT5.out.1 (by have := HT5.out.2.2.2.2.2; omega) HT5.out.2.2.2.2.1 (at_ := 0) HT5.out.2.2.1
        have HP6 := Lib.hid (HT5.out.2.2.2.1.below hb6)
        have HK := Lib.hid (fun (w : World) (hb : Below w6.heap.size w6 w) => check_gen HT5.out.2.2.2.2.1 (HP6.out.below hb))
        clear hw6 hb6 hF6 cT
        by_cases hz : chk t = 0
        · have HC := Lib.hid (fun (w : World) (hb : Below w6.heap.size w6 w) => compile_ok HT5.out.2.2.2.2.1 hz (HP6.out.below hb))
          go_wp2_with (first
            | (go_at_call 14; (with_reducible refine cR.mono ?_); rintro e w7 ⟨rfl, hb7⟩; have HB7 := Lib.hid hb7; obtain ⟨r0, r1, r2⟩ := HF.out w7 hb7; clear hb7)
            | (go_at_call 13; (with_reducible refine (HC.out _ HB7.out).mono ?_); rintro e w8 ⟨d, rfl, _, hb8⟩; have HB8 := Lib.hid (HB7.out.trans (hb8.mono HB7.out.size)); obtain ⟨u0, u1, u2⟩ := HF.out w8 HB8.out; clear hb8)
            | (go_at_call 20; (with_reducible refine (HK.out _ HB8.out).mono ?_); rintro e w9 ⟨rfl, hb9⟩; have HB9 := Lib.hid (HB8.out.trans (hb9.mono HB8.out.size)); clear hb9))
          go_ret
          exact ⟨rfl, HB6.out.trans (HB9.out.mono HB6.out.size)⟩
        · have hz' : (chk t == 0) = false := beq_eq_false_iff_ne.2 hz
          have HC := Lib.hid (fun (w : World) (hb : Below w6.heap.size w6 w) => compile_no HT5.out.2.2.2.2.1 hz (HP6.out.below hb))
          go_wp2_with (first
            | (go_at_call 14; (with_reducible refine cR.mono ?_); rintro e w7 ⟨rfl, hb7⟩; have HB7 := Lib.hid hb7; obtain ⟨r0, r1, r2⟩ := HF.out w7 hb7; clear hb7)
            | (go_at_call 13; (with_reducible refine (HC.out _ HB7.out).mono ?_); rintro e w8 ⟨rfl, hb8⟩; have HB8 := Lib.hid (HB7.out.trans (hb8.mono HB7.out.size)); obtain ⟨u0, u1, u2⟩ := HF.out w8 HB8.out; clear hb8)
            | (go_at_call 20; (with_reducible refine (HK.out _ HB8.out).mono ?_); rintro e w9 ⟨rfl, hb9⟩; have HB9 := Lib.hid (HB8.out.trans (hb9.mono HB8.out.size)); clear hb9))
          go_ret
          exact ⟨rfl, HB6.out.trans (HB9.out.mono HB6.out.size)⟩
end Go.Proofs.Ytghlajfalgdkfaa
