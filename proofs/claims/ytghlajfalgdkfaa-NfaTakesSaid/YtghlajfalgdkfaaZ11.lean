/-
  MERGED (a claim has at most 60 files): NgFrm, NgCk.
-/
import Derived.Test.YtghlajfalgdkfaaZ09
import Derived.Shelf.Abstract
import Derived.Test.YtghlajfalgdkfaaZ10
/-
  formed: has any path the form of its kinds?
-/
namespace Go.Proofs.Ytghlajfalgdkfaa
open Go.RowKit
set_option linter.unusedVariables false
set_option linter.unusedSimpArgs false
set_option maxRecDepth 100000

def fitB (k n : Int) (m : Nat) : Bool := if k = 0 ∨ k = 1 then decide (0 ≤ n) && decide (m = 0) else if k = 2 ∨ k = 3 then decide (1 ≤ m) else if k = 4 ∨ k = 5 ∨ k = 6 then decide (m = 1) else false
mutual
/-- Have a path, and all its parts, the form of their kinds? -/
def frm : PT → Bool
  | .mk k n ts => fitB k n ts.length && frms ts
def frms : List PT → Bool
  | [] => true
  | t :: ts => frm t && frms ts
end
theorem frms_iff : ∀ ts : List PT, frms ts = true ↔ ∀ t ∈ ts, frm t = true
  | [] => by simp [frms]
  | t :: ts => by
    rw [frms, Bool.and_eq_true, frms_iff ts]
    simp
set_option maxHeartbeats 16000000 in
theorem fits_gen (k n : Int) (A : Option Addr) (m c : Nat) (W : World) (hm : m ≤ 1000) : Calls Try.prog 60 #[.agg #[.int .i64 k, .int .i64 n, .slice A m c]] W fun e w' => e = .returned (.bool (fitB k n m)) ∧ Below W.heap.size W w' := by
  have HB := Lib.hid (show Below W.heap.size W (W.alloc (.cells #[.int .i64 k, .int .i64 n, .slice A m c] 28)) from (Below.refl _ _).alloc (Nat.le_refl _) _)
  have m0 : (0 : Int) ≤ (m : Int) := by omega
  have m1 : (m : Int) ≤ 1000 := by omega
  unfold fitB
  by_cases h0 : k = 0 ∨ k = 1
  · rw [if_pos h0]
    by_cases hn : 0 ≤ n
    · have d1 : decide (0 ≤ n) = true := decide_eq_true hn
      by_cases hz : m = 0
      · subst hz
        rw [d1]
        rcases h0 with rfl | rfl
        all_goals
          go_enter Try.func60, Try.ntmps60
          go_wp2
          go_ret
          exact ⟨rfl, HB.out⟩
      · have z1 : ((m : Int) == 0) = false := by rw [beq_eq_false_iff_ne]; omega
        rw [d1, decide_eq_false hz]
        clear hz
        rcases h0 with rfl | rfl
        all_goals
          go_enter Try.func60, Try.ntmps60
          go_wp2
          go_ret
          exact ⟨rfl, HB.out⟩
    · have d1 : decide (0 ≤ n) = false := decide_eq_false hn
      rw [d1]
      rcases h0 with rfl | rfl
      all_goals
        go_enter Try.func60, Try.ntmps60
        go_wp2
        go_ret
        exact ⟨rfl, HB.out⟩
  · rw [if_neg h0]
    have n0 : ¬ k = 0 := fun e => h0 (.inl e)
    have n1 : ¬ k = 1 := fun e => h0 (.inr e)
    clear h0
    by_cases h2 : k = 2 ∨ k = 3
    · rw [if_pos h2]
      by_cases hz : 1 ≤ m
      · have z1 : (1 : Int) ≤ (m : Int) := by omega
        rw [decide_eq_true hz]
        clear hz
        rcases h2 with rfl | rfl
        all_goals
          go_enter Try.func60, Try.ntmps60
          go_wp2
          go_ret
          exact ⟨rfl, HB.out⟩
      · have z1 : ¬ ((1 : Int) ≤ (m : Int)) := by omega
        rw [decide_eq_false hz]
        clear hz
        rcases h2 with rfl | rfl
        all_goals
          go_enter Try.func60, Try.ntmps60
          go_wp2
          go_ret
          exact ⟨rfl, HB.out⟩
    · rw [if_neg h2]
      have n2 : ¬ k = 2 := fun e => h2 (.inl e)
      have n3 : ¬ k = 3 := fun e => h2 (.inr e)
      clear h2
      by_cases h4 : k = 4 ∨ k = 5 ∨ k = 6
      · rw [if_pos h4]
        by_cases hz : m = 1
        · subst hz
          rcases h4 with rfl | rfl | rfl
          all_goals
            go_enter Try.func60, Try.ntmps60
            go_wp2
            go_ret
            exact ⟨rfl, HB.out⟩
        · have z1 : ((m : Int) == 1) = false := by rw [beq_eq_false_iff_ne]; omega
          rw [decide_eq_false hz]
          clear hz
          rcases h4 with rfl | rfl | rfl
          all_goals
            go_enter Try.func60, Try.ntmps60
            go_wp2
            go_ret
            exact ⟨rfl, HB.out⟩
      · rw [if_neg h4]
        have n4 : ¬ k = 4 := fun e => h4 (.inl e)
        have n5 : ¬ k = 5 := fun e => h4 (.inr (.inl e))
        have n6 : ¬ k = 6 := fun e => h4 (.inr (.inr e))
        clear h4
        go_enter Try.func60, Try.ntmps60
        go_wp2
        go_ret
        exact ⟨rfl, HB.out⟩
theorem cf_f (args : Array Value) (w : World) : (callFunc 61 args).run Try.prog w = .ok (.enter 61 args) w := by
  first | rfl | kernel_rfl
def IpG (W : World) (ts : List PT) (gk : Nat) (s8 : Value) (wr : World) : Prop := ∃ a : Nat, a + gk = ts.length ∧ s8 = .int .i64 (a : Int) ∧ Below W.heap.size W wr ∧ ∀ j t, j < a → ts[j]? = some t → frm t = true
def FmAll (t : PT) : Prop := Wd t → ∀ (kd nn : Int) (A : Option Addr) (m c : Nat) (W : World), Pth W t ⟨kd, nn, .slice A m c⟩ → Calls Try.prog 40 #[.agg #[.int .i64 kd, .int .i64 nn, .slice A m c]] W fun e w' => e = .returned (.bool (frm t)) ∧ Below W.heap.size W w'
set_option maxHeartbeats 8000000 in
theorem formF_gen {t : PT} (h : FmAll t) (hw : Wd t) {kd nn : Int} {A : Option Addr} {m c : Nat} {W : World} (hp : Pth W t ⟨kd, nn, .slice A m c⟩) : Calls Try.prog 61 #[.agg #[.int .i64 kd, .int .i64 nn, .slice A m c]] W fun e w' => e = .returned (.bool (!frm t)) ∧ Below W.heap.size W w' := by
  have hB2 : Below W.heap.size W (W.alloc (.cells #[.int .i64 kd, .int .i64 nn, .slice A m c] 28)) := (Below.refl _ _).alloc (Nat.le_refl _) _
  have hC := h hw kd nn A m c _ (hp.below hB2)
  have HB := Lib.hid hB2
  generalize frm t = r at hC ⊢
  clear hB2 h hw hp
  go_enter Try.func61, Try.ntmps61
  go_wp2_with (go_at_call 40; (with_reducible refine hC.mono ?_); rintro e w5 ⟨rfl, hb5⟩; have HB5 := Lib.hid hb5; clear hb5)
  go_ret
  exact ⟨rfl, HB.out.trans (HB5.out.mono HB.out.size)⟩
def IpQ (W : World) (ts : List PT) (e : Ending) (w' : World) : Prop := ∃ r : Int, e = .returned (.int .i64 r) ∧ (0 ≤ r ↔ frms ts = false) ∧ Below W.heap.size W w'
set_option maxHeartbeats 16000000 in
theorem idxP_gen {k n kd nn : Int} {ts : List PT} {A : Option Addr} {m c : Nat} {W : World} (hp : Pth W (.mk k n ts) ⟨kd, nn, .slice A m c⟩) (hl : ts.length ≤ 1000) (hw : Wds ts) (ih : ∀ t ∈ ts, FmAll t) :
    Calls Try.prog 72 #[.slice A m c, .func (.func 61) #[] #[]] W (IpQ W ts) := by
  have eg := cf_f
  have hm := (pth_part hp).2.2.1
  have HPart := Lib.hid (fun (w : World) (hb : Below W.heap.size W w) => (pth_part (hp.below hb)).2.2.2)
  have HIH := Lib.hid (fun (t : PT) (ht : t ∈ ts) => And.intro (ih t ht) (Wds.mem hw t ht))
  have HM := Lib.hid hm
  have HL := Lib.hid hl
  have m1 : (m : Int) ≤ 1000 := by omega
  clear hp hl hw ih hm
  go_enter Try.func72, Try.ntmps72
  go_wp2
  go_loopg [5, 8] ts.length (fun gk s5 s8 wr => IpG W ts gk s8 wr)
  case atStart => exact ⟨0, by omega, rfl, Below.refl _ _, fun j t hj => absurd hj (Nat.not_lt_zero _)⟩
  case round =>
    obtain ⟨a, ha, rfl, hb, hno⟩ := hrel
    have hmm := HM.out
    have hll := HL.out
    by_cases hal : a < ts.length
    · obtain ⟨t, ht⟩ : ∃ t, ts[a]? = some t := ⟨_, List.getElem?_eq_getElem hal⟩
      obtain ⟨g, kd', nn', A', m', c', hA, hpt, x0, x1, x2⟩ := HPart.out wr hb a t ht
      subst hA
      have a0 : (0 : Int) ≤ (a : Int) := by omega
      have a1 : (a : Int) < (m : Int) := by omega
      obtain ⟨hi1, hi2⟩ := HIH.out t (List.mem_of_getElem? ht)
      have cF := formF_gen hi1 hi2 hpt
      have HA := Lib.hid (And.intro ha (And.intro hal (And.intro ht hno)))
      have HB := Lib.hid hb
      generalize hr : frm t = r at cF
      have HR := Lib.hid hr
      clear ha hal ht hno hb hmm hll hpt hi1 hi2 hr
      cases r with
      | false =>
        go_wp2_with (go_at_fn 61; refine cF.mono ?_; rintro e w5 ⟨rfl, hb5⟩; have HB5 := Lib.hid hb5; clear hb5 cF)
        go_ret
        exact ⟨a, rfl, ⟨(fun _ => by
          cases hf : frms ts with
          | false => rfl
          | true =>
            have := (frms_iff ts).1 hf t (List.mem_of_getElem? HA.out.2.2.1)
            rw [HR.out] at this
            cases this), fun _ => by omega⟩, HB.out.trans (HB5.out.mono HB.out.size)⟩
      | true =>
        go_wp2_with (go_at_fn 61; refine cF.mono ?_; rintro e w5 ⟨rfl, hb5⟩; have HB5 := Lib.hid hb5; clear hb5 cF)
        go_roundg (ts.length - (a + 1))
        case measure => obtain ⟨h1, h2, _⟩ := HA.out; omega
        case rel =>
          obtain ⟨h1, h2, h3, h4⟩ := HA.out
          refine ⟨a + 1, by omega, by rw [Int.natCast_add]; rfl, HB.out.trans (HB5.out.mono HB.out.size), fun j t' hj ht' => ?_⟩
          rcases Nat.lt_or_ge j a with h | h
          · exact h4 j t' h ht'
          · obtain rfl : j = a := by omega
            rw [h3] at ht'
            injection ht' with ht'
            rw [← ht']; exact HR.out
    · have hae : a = ts.length := by omega
      have a1 : ¬ ((a : Int) < (m : Int)) := by omega
      have HE := Lib.hid (show IpQ W ts (.returned (.int .i64 (-1))) wr from ⟨-1, rfl, ⟨fun h => absurd h (by decide), fun h => by
        have : frms ts = true := (frms_iff ts).2 fun t ht => by
          obtain ⟨j, hj⟩ := List.mem_iff_getElem?.1 ht
          exact hno j t (by rw [hae]; exact (List.getElem?_eq_some_iff.1 hj).1) hj
        rw [this] at h; cases h⟩, hb⟩)
      clear ha hal hno hae hb hmm hll
      go_wp2
      go_ret
      exact HE.out
set_option maxHeartbeats 16000000 in
theorem formed_gen : ∀ t : PT, FmAll t := by
  refine PT.ind fun k n ts ih hw kd nn A m c W hp => ?_
  unfold Wd at hw
  obtain ⟨hl, hws⟩ := hw
  have hm := (pth_part hp).2.2.1
  have hk := (pth_part hp).1
  have hn := (pth_part hp).2.1
  obtain ⟨W2, hW2⟩ : ∃ W2, W2 = W.alloc (.cells #[.int .i64 kd, .int .i64 nn, .slice A m c] 28) := ⟨_, rfl⟩
  have hF : Fb W2 W.heap.size 28 #[.int .i64 kd, .int .i64 nn, .slice A m c] := by rw [hW2]; exact Fb.new W _ _
  have hB2 : Below W.heap.size W W2 := by rw [hW2]; exact (Below.refl _ _).alloc (Nat.le_refl _) _
  have hFit := fits_gen kd nn A m c W2 (by omega)
  have HC := Lib.hid (fun (w : World) (hb : Below W.heap.size W w) => idxP_gen (hp.below hb) hl hws ih)
  have hcon : ∀ w, Below W.heap.size W w → Calls Try.prog 56 #[.slice A m c, .func (.func 61) #[] #[]] w fun e w' => e = .returned (.bool (!frms ts)) ∧ Below w.heap.size w w' := fun w hb => by
    have cI := HC.out w hb
    clear hFit hF hp hm hk hn hl hws ih
    go_enter Try.func56, Try.ntmps56
    go_wp2_with (go_at_call 72; (with_reducible refine cI.mono ?_); rintro e w5 ⟨r, rfl, hr, hb5⟩; have HR := Lib.hid hr; have HB5 := Lib.hid hb5; clear hr hb5 cI)
    go_ret
    refine ⟨?_, HB5.out⟩
    have := HR.out
    cases hf : frms ts with
    | false => simp [this, hf]
    | true => simp [this, hf]
  have HB := Lib.hid hB2
  have HFF := Lib.hid hF
  have HK := Lib.hid hcon
  have q0 := hF.cell 0
  have q1 := hF.cell 1
  have q2 := hF.cell 2
  have he : frm (.mk k n ts) = (fitB kd nn m && frms ts) := by rw [frm, hk, hn, hm]
  rw [he]
  generalize fitB kd nn m = b1 at hFit ⊢
  generalize frms ts = b2 at HK ⊢
  clear hF hB2 hcon he hp hk hn hm hl hws HC ih
  subst hW2
  cases b1 with
  | false =>
    go_enter Try.func40, Try.ntmps40
    go_wp2_with (go_at_call 60; (with_reducible refine hFit.mono ?_); rintro e w5 ⟨rfl, hb5⟩; have HB5 := Lib.hid hb5; clear hb5)
    go_ret
    exact ⟨rfl, HB.out.trans (HB5.out.mono HB.out.size)⟩
  | true =>
    go_enter Try.func40, Try.ntmps40
    go_wp2_with (first
      | (go_at_call 60; (with_reducible refine hFit.mono ?_); rintro e w5 ⟨rfl, hb5⟩; have r2 := (HFF.out.below hb5).cell 2; have hK := HK.out w5 (HB.out.trans (hb5.mono HB.out.size)); have HB5 := Lib.hid hb5; clear hb5)
      | (go_at_call 56; (with_reducible refine hK.mono ?_); rintro e w6 ⟨rfl, hb6⟩; have HB6 := Lib.hid hb6; clear hb6))
    go_ret
    exact ⟨by simp, HB.out.trans ((HB5.out.trans (HB6.out.mono HB5.out.size)).mono HB.out.size)⟩
end Go.Proofs.Ytghlajfalgdkfaa

/-
  Check, of any path.
-/
namespace Go.Proofs.Ytghlajfalgdkfaa
open Go.RowKit
set_option linter.unusedVariables false
set_option linter.unusedSimpArgs false
set_option maxRecDepth 100000

/-- What Check answers. -/
def chk (t : PT) : Int := if 40 ≤ hgt t then 15 else if 200 < sz t then 13 else if frm t then 0 else 1
set_option maxHeartbeats 8000000 in
theorem check_gen {t : PT} (hw : Wd t) {kd n : Int} {A : Option Addr} {m c : Nat} {W : World} (h : Pth W t ⟨kd, n, .slice A m c⟩) :
    Calls Try.prog 20 #[.agg #[.int .i64 kd, .int .i64 n, .slice A m c]] W fun e w' => e = .returned (.int .i64 (chk t)) ∧ Below W.heap.size W w' := by
  obtain ⟨W2, hW2⟩ : ∃ W2, W2 = W.alloc (.cells #[.int .i64 kd, .int .i64 n, .slice A m c] 28) := ⟨_, rfl⟩
  have hF : Fb W2 W.heap.size 28 #[.int .i64 kd, .int .i64 n, .slice A m c] := by rw [hW2]; exact Fb.new W _ _
  have hB2 : Below W.heap.size W W2 := by rw [hW2]; exact (Below.refl _ _).alloc (Nat.le_refl _) _
  have hc1 := deeper_gen (L := 40) hw (h.below hB2) (by omega)
  rw [show ((40 : Nat) : Int) = 40 from rfl] at hc1
  have HC2 := Lib.hid (fun (w : World) (hb : Below W.heap.size W w) => many_gen t hw kd n A m c w 200 (h.below hb) (by omega) (by omega))
  have HC3 := Lib.hid (fun (w : World) (hb : Below W.heap.size W w) => formed_gen t hw kd n A m c w (h.below hb))
  have q0 := hF.cell 0
  have q1 := hF.cell 1
  have q2 := hF.cell 2
  have HB := Lib.hid hB2
  have HFF := Lib.hid hF
  clear h hF hB2 hw
  unfold chk
  by_cases hd : 40 ≤ hgt t
  · rw [if_pos hd]
    rw [decide_eq_true hd] at hc1
    clear HC2 HC3 HFF hd
    subst hW2
    go_enter Try.func20, Try.ntmps20
    go_wp2_with (go_at_call 38; (with_reducible refine hc1.mono ?_); rintro e w5 ⟨rfl, hb5⟩; have HB5 := Lib.hid hb5; clear hb5)
    go_ret
    exact ⟨rfl, HB.out.trans (HB5.out.mono HB.out.size)⟩
  · rw [if_neg hd]
    rw [decide_eq_false hd] at hc1
    clear hd
    by_cases hs : 200 < sz t
    · rw [if_pos hs]
      have HS := Lib.hid hs
      clear HC3 hs
      subst hW2
      go_enter Try.func20, Try.ntmps20
      go_wp2_with (first
        | (go_at_call 38; (with_reducible refine hc1.mono ?_); rintro e w5 ⟨rfl, hb5⟩; have hf5 := HFF.out.below hb5; have r0 := hf5.cell 0; have r1 := hf5.cell 1; have r2 := hf5.cell 2; have hB5 := HB.out.trans (hb5.mono HB.out.size); have hc2 := HC2.out w5 hB5; have HB5 := Lib.hid hB5; clear hb5 hf5 hB5)
        | (go_at_call 39; (with_reducible refine hc2.mono ?_); rintro e w6 ⟨r, rfl, hr, hb6⟩; have z1 : (200 : Int) < r := hr.2.1 (by have := HS.out; omega); have HB6 := Lib.hid (HB5.out.trans (hb6.mono HB5.out.size)); clear hr hb6))
      go_ret
      exact ⟨rfl, HB6.out⟩
    · rw [if_neg hs]
      have HS := Lib.hid hs
      clear hs
      generalize frm t = b at HC3 ⊢
      subst hW2
      cases b with
      | true =>
        go_enter Try.func20, Try.ntmps20
        go_wp2_with (first
          | (go_at_call 38; (with_reducible refine hc1.mono ?_); rintro e w5 ⟨rfl, hb5⟩; have hf5 := HFF.out.below hb5; have r0 := hf5.cell 0; have r1 := hf5.cell 1; have r2 := hf5.cell 2; have hB5 := HB.out.trans (hb5.mono HB.out.size); have hc2 := HC2.out w5 hB5; have HF5 := Lib.hid hf5; have HB5 := Lib.hid hB5; clear hb5 hf5 hB5)
          | (go_at_call 39; (with_reducible refine hc2.mono ?_); rintro e w6 ⟨r, rfl, hr, hb6⟩; have hre := hr.1 (by have := HS.out; omega); have z1 : ¬ (200 : Int) < r := (by have := HS.out; omega); have hf6 := HF5.out.below hb6; have y0 := hf6.cell 0; have y1 := hf6.cell 1; have y2 := hf6.cell 2; have hB6 := HB5.out.trans (hb6.mono HB5.out.size); have hc3 := HC3.out w6 hB6; have HB6 := Lib.hid hB6; clear hb6 hf6 hB6 hr hre)
          | (go_at_call 40; (with_reducible refine hc3.mono ?_); rintro e w7 ⟨rfl, hb7⟩; have HB7 := Lib.hid hb7; clear hb7))
        go_ret
        exact ⟨rfl, HB6.out.trans (HB7.out.mono HB6.out.size)⟩
      | false =>
        go_enter Try.func20, Try.ntmps20
        go_wp2_with (first
          | (go_at_call 38; (with_reducible refine hc1.mono ?_); rintro e w5 ⟨rfl, hb5⟩; have hf5 := HFF.out.below hb5; have r0 := hf5.cell 0; have r1 := hf5.cell 1; have r2 := hf5.cell 2; have hB5 := HB.out.trans (hb5.mono HB.out.size); have hc2 := HC2.out w5 hB5; have HF5 := Lib.hid hf5; have HB5 := Lib.hid hB5; clear hb5 hf5 hB5)
          | (go_at_call 39; (with_reducible refine hc2.mono ?_); rintro e w6 ⟨r, rfl, hr, hb6⟩; have hre := hr.1 (by have := HS.out; omega); have z1 : ¬ (200 : Int) < r := (by have := HS.out; omega); have hf6 := HF5.out.below hb6; have y0 := hf6.cell 0; have y1 := hf6.cell 1; have y2 := hf6.cell 2; have hB6 := HB5.out.trans (hb6.mono HB5.out.size); have hc3 := HC3.out w6 hB6; have HB6 := Lib.hid hB6; clear hb6 hf6 hB6 hr hre)
          | (go_at_call 40; (with_reducible refine hc3.mono ?_); rintro e w7 ⟨rfl, hb7⟩; have HB7 := Lib.hid hb7; clear hb7))
        go_ret
        exact ⟨rfl, HB6.out.trans (HB7.out.mono HB6.out.size)⟩
end Go.Proofs.Ytghlajfalgdkfaa
