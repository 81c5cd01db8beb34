/-
  MERGED (a claim has at most 60 files): NgRu, NgEm, NgTn, NgTm.
-/
import Derived.Test.YtghlajfalgdkfaaZ28
import Derived.Test.YtghlajfalgdkfaaZ11
import Derived.Test.YtghlajfalgdkfaaZ16
import Derived.Test.YtghlajfalgdkfaaZ19
import Derived.Test.YtghlajfalgdkfaaZ20
/-
  The reference's Takes of any path that has its form.
-/
namespace Go.Proofs.Ytghlajfalgdkfaa
open Go.RowKit
set_option linter.unusedVariables false
set_option linter.unusedSimpArgs false
theorem wds_all : ∀ {ts : List PT}, Wds ts → ∀ t ∈ ts, Wd t
  | [], _, t, h => by cases h
  | s :: ts, hw, t, h => by
    unfold Wds at hw
    rcases List.mem_cons.1 h with rfl | h
    · exact hw.1
    · exact wds_all hw.2 t h
theorem rtakes_gen {g len c : Nat} {T : List PT} (hlen : len ≤ 1000) : ∀ t : PT, frm t = true → Wd t → ∀ N, N ≤ 1000 → RTk g len c T t N := by
  refine PT.ind fun k n ts ih hf hw => ?_
  rw [frm, Bool.and_eq_true] at hf
  obtain ⟨hfit, hfs⟩ := hf
  have hts := (frms_iff ts).1 hfs
  unfold Wd at hw
  have hT : ∀ t ∈ ts, ∀ N, N ≤ 1000 → RTk g len c T t N := fun t ht N hN => ih t ht (hts t ht) (wds_all hw.2 t ht) N hN
  intro N
  induction N using Nat.strongRecOn with
  | _ N ihN =>
    intro hN W at_ A nw cw ws b hR hC hat hW hwN hb
    have hws : ws.length ≤ 1000 := Nat.le_trans hwN hN
    unfold fitB at hfit
    by_cases c1 : k = 0 ∨ k = 1
    · rcases c1 with rfl | rfl
      · exact rt_step0 hlen hR hC hat hW hws hw.1 hb
      · exact rt_step1 hlen hR hC hat hW hws hw.1 hb
    · rw [if_neg c1] at hfit
      by_cases c2 : k = 2 ∨ k = 3
      · rw [if_pos c2] at hfit
        have hne : ts ≠ [] := fun e => by rw [e] at hfit; simp at hfit
        rcases c2 with rfl | rfl
        · exact rt_seq hlen hR hC hat hW hws hw.1 hb hN hwN hne fun t ht => hT t ht N hN
        · exact rt_alt hlen hR hC hat hW hws hw.1 hb hN hwN hne fun t ht => hT t ht N hN
      · rw [if_neg c2] at hfit
        by_cases c3 : k = 4 ∨ k = 5 ∨ k = 6
        · rw [if_pos c3] at hfit
          obtain ⟨p, rfl⟩ := List.length_eq_one_iff.1 (of_decide_eq_true hfit)
          have hp := hT p (List.mem_singleton.2 rfl) N hN
          rcases c3 with rfl | rfl | rfl
          · exact rt_again4 hlen hR hC hat hW hws hw.1 hb hN hwN hp fun M hM => ihN M hM (by omega)
          · exact rt_again5 hlen hR hC hat hW hws hw.1 hb hN hwN hp fun M hM => ihN M hM (by omega)
          · exact rt_opt hlen hR hC hat hW hws hw.1 hb hwN hp
        · rw [if_neg c3] at hfit
          cases hfit
end Go.Proofs.Ytghlajfalgdkfaa

/-
  Does a path take the empty word?
-/
namespace Go.Proofs.Ytghlajfalgdkfaa
open Go.RowKit
set_option linter.unusedVariables false
set_option linter.unusedSimpArgs false
set_option maxRecDepth 100000

def IeG (W : World) (ts : List PT) (β : PT → Bool) (gk : Nat) (s8 : Value) (wr : World) : Prop := ∃ a : Nat, a + gk = ts.length ∧ s8 = .int .i64 (a : Int) ∧ Below W.heap.size W wr ∧ ∀ j t, j < a → ts[j]? = some t → β t = false
def IeQ (W : World) (ts : List PT) (β : PT → Bool) (e : Ending) (w' : World) : Prop := ∃ r : Int, e = .returned (.int .i64 r) ∧ (0 ≤ r ↔ ∃ t ∈ ts, β t = true) ∧ Below W.heap.size W w'
theorem cf_emp (args : Array Value) (w : World) : (callFunc 36 args).run Try.prog w = .ok (.enter 36 args) w := by
  first | rfl | kernel_rfl
set_option maxHeartbeats 16000000 in
theorem idx_emp {k n kd nn : Int} {ts : List PT} {β : PT → Bool} {A : Option Addr} {m c : Nat} {W : World} (hp : Pth W (.mk k n ts) ⟨kd, nn, .slice A m c⟩) (hl : ts.length ≤ 1000) (ih : ∀ t ∈ ts, ∀ (kd nn : Int) (A : Option Addr) (m c : Nat) (W : World), Pth W t ⟨kd, nn, .slice A m c⟩ → Calls Try.prog 36 #[.agg #[.int .i64 kd, .int .i64 nn, .slice A m c]] W fun e w' => e = .returned (.bool (β t)) ∧ Below W.heap.size W w') :
    Calls Try.prog 72 #[.slice A m c, .func (.func 36) #[] #[]] W (IeQ W ts β) := by
  have eg := cf_emp
  have hm := (pth_part hp).2.2.1
  have HPart := Lib.hid (fun (w : World) (hb : Below W.heap.size W w) => (pth_part (hp.below hb)).2.2.2)
  have HIH := Lib.hid ih
  have HM := Lib.hid hm
  have HL := Lib.hid hl
  have m1 : (m : Int) ≤ 1000 := by omega
  clear hp hl ih hm
  go_enter Try.func72, Try.ntmps72
  go_wp2
  go_loopg [5, 8] ts.length (fun gk s5 s8 wr => IeG W ts β gk s8 wr)
  case atStart => exact ⟨0, by omega, rfl, Below.refl _ _, fun j t hj => absurd hj (Nat.not_lt_zero _)⟩
  case round =>
    obtain ⟨a, ha, rfl, hb, hno⟩ := hrel
    have hmm := HM.out
    have hll := HL.out
    by_cases hal : a < ts.length
    · obtain ⟨t, ht⟩ : ∃ t, ts[a]? = some t := ⟨_, List.getElem?_eq_getElem hal⟩
      obtain ⟨g, kd', nn', A', m', c', hA, hpt, x0, x1, x2⟩ := HPart.out wr hb a t ht
      subst hA
      have a0 : (0 : Int) ≤ (a : Int) := by omega
      have a1 : (a : Int) < (m : Int) := by omega
      have cF := HIH.out t (List.mem_of_getElem? ht) _ _ _ _ _ _ hpt
      have HA := Lib.hid (And.intro ha (And.intro hal (And.intro ht hno)))
      have HB := Lib.hid hb
      generalize hr : β t = r at cF
      have HR := Lib.hid hr
      clear ha hal ht hno hb hmm hll hpt hr
      cases r with
      | true =>
        go_wp2_with (go_at_fn 36; refine cF.mono ?_; rintro e w5 ⟨rfl, hb5⟩; have HB5 := Lib.hid hb5; clear hb5 cF)
        go_ret
        exact ⟨a, rfl, ⟨(fun _ => ⟨t, List.mem_of_getElem? HA.out.2.2.1, HR.out⟩), fun _ => by omega⟩, HB.out.trans (HB5.out.mono HB.out.size)⟩
      | false =>
        go_wp2_with (go_at_fn 36; refine cF.mono ?_; rintro e w5 ⟨rfl, hb5⟩; have HB5 := Lib.hid hb5; clear hb5 cF)
        go_roundg (ts.length - (a + 1))
        case measure => obtain ⟨h1, h2, _⟩ := HA.out; omega
        case rel =>
          obtain ⟨h1, h2, h3, h4⟩ := HA.out
          refine ⟨a + 1, by omega, by rw [Int.natCast_add]; rfl, HB.out.trans (HB5.out.mono HB.out.size), fun j t' hj ht' => ?_⟩
          rcases Nat.lt_or_ge j a with h | h
          · exact h4 j t' h ht'
          · obtain rfl : j = a := by omega
            rw [h3] at ht'
            injection ht' with ht'
            rw [← ht']; exact HR.out
    · have hae : a = ts.length := by omega
      have a1 : ¬ ((a : Int) < (m : Int)) := by omega
      have HE := Lib.hid (show IeQ W ts β (.returned (.int .i64 (-1))) wr from ⟨-1, rfl, ⟨fun h => absurd h (by decide), fun ⟨t, ht, hbt⟩ => by
        obtain ⟨j, hj⟩ := List.mem_iff_getElem?.1 ht
        have := hno j t (by rw [hae]; exact (List.getElem?_eq_some_iff.1 hj).1) hj
        rw [this] at hbt; cases hbt⟩, hb⟩)
      clear ha hal hno hae hb hmm hll
      go_wp2
      go_ret
      exact HE.out
set_option maxHeartbeats 16000000 in
theorem con_emp {k n kd nn : Int} {ts : List PT} {β : PT → Bool} {A : Option Addr} {m c : Nat} {W : World} (hp : Pth W (.mk k n ts) ⟨kd, nn, .slice A m c⟩) (hl : ts.length ≤ 1000) (ih : ∀ t ∈ ts, ∀ (kd nn : Int) (A : Option Addr) (m c : Nat) (W : World), Pth W t ⟨kd, nn, .slice A m c⟩ → Calls Try.prog 36 #[.agg #[.int .i64 kd, .int .i64 nn, .slice A m c]] W fun e w' => e = .returned (.bool (β t)) ∧ Below W.heap.size W w') :
    Calls Try.prog 56 #[.slice A m c, .func (.func 36) #[] #[]] W fun e w' => e = .returned (.bool (ts.any β)) ∧ Below W.heap.size W w' := by
  have cI := idx_emp hp hl ih
  clear hp hl ih
  go_enter Try.func56, Try.ntmps56
  go_wp2_with (go_at_call 72; (with_reducible refine cI.mono ?_); rintro e w5 ⟨r, rfl, hr, hb5⟩; have HR := Lib.hid hr; have HB5 := Lib.hid hb5; clear hr hb5 cI)
  go_ret
  refine ⟨?_, HB5.out⟩
  have := HR.out
  have ha : ts.any β = true ↔ ∃ t ∈ ts, β t = true := List.any_eq_true
  cases hf : ts.any β with
  | false =>
    have : ¬ 0 ≤ r := fun h => by have := ha.2 (this.1 h); rw [hf] at this; cases this
    simp; omega
  | true =>
    have : 0 ≤ r := this.2 (ha.1 hf)
    simp; omega
theorem cf_empF (args : Array Value) (w : World) : (callFunc 57 args).run Try.prog w = .ok (.enter 57 args) w := by
  first | rfl | kernel_rfl
set_option maxHeartbeats 16000000 in
theorem idx_empF {k n kd nn : Int} {ts : List PT} {β : PT → Bool} {A : Option Addr} {m c : Nat} {W : World} (hp : Pth W (.mk k n ts) ⟨kd, nn, .slice A m c⟩) (hl : ts.length ≤ 1000) (ih : ∀ t ∈ ts, ∀ (kd nn : Int) (A : Option Addr) (m c : Nat) (W : World), Pth W t ⟨kd, nn, .slice A m c⟩ → Calls Try.prog 57 #[.agg #[.int .i64 kd, .int .i64 nn, .slice A m c]] W fun e w' => e = .returned (.bool (β t)) ∧ Below W.heap.size W w') :
    Calls Try.prog 72 #[.slice A m c, .func (.func 57) #[] #[]] W (IeQ W ts β) := by
  have eg := cf_empF
  have hm := (pth_part hp).2.2.1
  have HPart := Lib.hid (fun (w : World) (hb : Below W.heap.size W w) => (pth_part (hp.below hb)).2.2.2)
  have HIH := Lib.hid ih
  have HM := Lib.hid hm
  have HL := Lib.hid hl
  have m1 : (m : Int) ≤ 1000 := by omega
  clear hp hl ih hm
  go_enter Try.func72, Try.ntmps72
  go_wp2
  go_loopg [5, 8] ts.length (fun gk s5 s8 wr => IeG W ts β gk s8 wr)
  case atStart => exact ⟨0, by omega, rfl, Below.refl _ _, fun j t hj => absurd hj (Nat.not_lt_zero _)⟩
  case round =>
    obtain ⟨a, ha, rfl, hb, hno⟩ := hrel
    have hmm := HM.out
    have hll := HL.out
    by_cases hal : a < ts.length
    · obtain ⟨t, ht⟩ : ∃ t, ts[a]? = some t := ⟨_, List.getElem?_eq_getElem hal⟩
      obtain ⟨g, kd', nn', A', m', c', hA, hpt, x0, x1, x2⟩ := HPart.out wr hb a t ht
      subst hA
      have a0 : (0 : Int) ≤ (a : Int) := by omega
      have a1 : (a : Int) < (m : Int) := by omega
      have cF := HIH.out t (List.mem_of_getElem? ht) _ _ _ _ _ _ hpt
      have HA := Lib.hid (And.intro ha (And.intro hal (And.intro ht hno)))
      have HB := Lib.hid hb
      generalize hr : β t = r at cF
      have HR := Lib.hid hr
      clear ha hal ht hno hb hmm hll hpt hr
      cases r with
      | true =>
        go_wp2_with (go_at_fn 57; refine cF.mono ?_; rintro e w5 ⟨rfl, hb5⟩; have HB5 := Lib.hid hb5; clear hb5 cF)
        go_ret
        exact ⟨a, rfl, ⟨(fun _ => ⟨t, List.mem_of_getElem? HA.out.2.2.1, HR.out⟩), fun _ => by omega⟩, HB.out.trans (HB5.out.mono HB.out.size)⟩
      | false =>
        go_wp2_with (go_at_fn 57; refine cF.mono ?_; rintro e w5 ⟨rfl, hb5⟩; have HB5 := Lib.hid hb5; clear hb5 cF)
        go_roundg (ts.length - (a + 1))
        case measure => obtain ⟨h1, h2, _⟩ := HA.out; omega
        case rel =>
          obtain ⟨h1, h2, h3, h4⟩ := HA.out
          refine ⟨a + 1, by omega, by rw [Int.natCast_add]; rfl, HB.out.trans (HB5.out.mono HB.out.size), fun j t' hj ht' => ?_⟩
          rcases Nat.lt_or_ge j a with h | h
          · exact h4 j t' h ht'
          · obtain rfl : j = a := by omega
            rw [h3] at ht'
            injection ht' with ht'
            rw [← ht']; exact HR.out
    · have hae : a = ts.length := by omega
      have a1 : ¬ ((a : Int) < (m : Int)) := by omega
      have HE := Lib.hid (show IeQ W ts β (.returned (.int .i64 (-1))) wr from ⟨-1, rfl, ⟨fun h => absurd h (by decide), fun ⟨t, ht, hbt⟩ => by
        obtain ⟨j, hj⟩ := List.mem_iff_getElem?.1 ht
        have := hno j t (by rw [hae]; exact (List.getElem?_eq_some_iff.1 hj).1) hj
        rw [this] at hbt; cases hbt⟩, hb⟩)
      clear ha hal hno hae hb hmm hll
      go_wp2
      go_ret
      exact HE.out
set_option maxHeartbeats 16000000 in
theorem con_empF {k n kd nn : Int} {ts : List PT} {β : PT → Bool} {A : Option Addr} {m c : Nat} {W : World} (hp : Pth W (.mk k n ts) ⟨kd, nn, .slice A m c⟩) (hl : ts.length ≤ 1000) (ih : ∀ t ∈ ts, ∀ (kd nn : Int) (A : Option Addr) (m c : Nat) (W : World), Pth W t ⟨kd, nn, .slice A m c⟩ → Calls Try.prog 57 #[.agg #[.int .i64 kd, .int .i64 nn, .slice A m c]] W fun e w' => e = .returned (.bool (β t)) ∧ Below W.heap.size W w') :
    Calls Try.prog 56 #[.slice A m c, .func (.func 57) #[] #[]] W fun e w' => e = .returned (.bool (ts.any β)) ∧ Below W.heap.size W w' := by
  have cI := idx_empF hp hl ih
  clear hp hl ih
  go_enter Try.func56, Try.ntmps56
  go_wp2_with (go_at_call 72; (with_reducible refine cI.mono ?_); rintro e w5 ⟨r, rfl, hr, hb5⟩; have HR := Lib.hid hr; have HB5 := Lib.hid hb5; clear hr hb5 cI)
  go_ret
  refine ⟨?_, HB5.out⟩
  have := HR.out
  have ha : ts.any β = true ↔ ∃ t ∈ ts, β t = true := List.any_eq_true
  cases hf : ts.any β with
  | false =>
    have : ¬ 0 ≤ r := fun h => by have := ha.2 (this.1 h); rw [hf] at this; cases this
    simp; omega
  | true =>
    have : 0 ≤ r := this.2 (ha.1 hf)
    simp; omega
mutual
def emB : PT → Bool
  | .mk k _ ts => if k = 0 ∨ k = 1 then false else if k = 4 ∨ k = 6 then true else if k = 3 then emAny ts else emEach ts
def emAny : List PT → Bool
  | [] => false
  | t :: ts => emB t || emAny ts
def emEach : List PT → Bool
  | [] => true
  | t :: ts => emB t && emEach ts
end
theorem emAny_eq : ∀ ts : List PT, emAny ts = ts.any emB
  | [] => by simp [emAny]
  | t :: ts => by simp [emAny, emAny_eq ts]
theorem emEach_eq : ∀ ts : List PT, emEach ts = !(ts.any fun t => !emB t)
  | [] => by simp [emEach]
  | t :: ts => by simp [emEach, emEach_eq ts]
theorem catL_nil (A B : Lg) : CatL A B [] ↔ A [] ∧ B [] := by
  constructor
  · rintro ⟨u, v, e, h1, h2⟩
    obtain ⟨rfl, rfl⟩ := List.append_eq_nil_iff.1 e.symm
    exact ⟨h1, h2⟩
  · rintro ⟨h1, h2⟩
    exact ⟨[], [], rfl, h1, h2⟩
theorem seql_nil : ∀ ts : List PT, Seql (langs ts) [] ↔ ∀ t ∈ ts, lang t []
  | [] => by simp [langs, Seql]
  | t :: ts => by
    rw [langs, Seql, catL_nil, seql_nil ts]
    simp
theorem altl_nil : ∀ ts : List PT, Altl (langs ts) [] ↔ ∃ t ∈ ts, lang t []
  | [] => by simp [langs, Altl]
  | t :: ts => by
    have := altl_nil ts
    simp [langs, Altl, this]
theorem emB_lang : ∀ t : PT, frm t = true → (emB t = true ↔ lang t []) := by
  refine PT.ind fun k n ts ih hf => ?_
  rw [frm, Bool.and_eq_true] at hf
  obtain ⟨hfit, hfs⟩ := hf
  have hts := (frms_iff ts).1 hfs
  have ih' : ∀ t ∈ ts, (emB t = true ↔ lang t []) := fun t ht => ih t ht (hts t ht)
  unfold fitB at hfit
  rw [emB]
  by_cases c1 : k = 0 ∨ k = 1
  · rw [if_pos c1, lang_step c1]
    simp
  · rw [if_neg c1] at hfit ⊢
    by_cases c2 : k = 2 ∨ k = 3
    · rcases c2 with rfl | rfl
      · rw [if_neg (by decide), if_neg (by decide), lang_seq, seql_nil, emEach_eq]
        simp only [Bool.not_eq_true', List.any_eq_false, Bool.not_eq_true, Bool.not_eq_false']
        exact forall_congr' fun t => forall_congr' fun ht => by simpa using ih' t ht
      · rw [if_neg (by decide), if_pos rfl, lang_alt, altl_nil, emAny_eq, List.any_eq_true]
        exact exists_congr fun t => and_congr_right fun ht => ih' t ht
    · rw [if_neg c2] at hfit
      by_cases c3 : k = 4 ∨ k = 5 ∨ k = 6
      · rw [if_pos c3] at hfit
        obtain ⟨p, rfl⟩ := List.length_eq_one_iff.1 (of_decide_eq_true hfit)
        have hp := ih' p (List.mem_singleton.2 rfl)
        rw [lang_again c3]
        rcases c3 with rfl | rfl | rfl
        · rw [if_pos (by decide)]; exact ⟨fun _ => StarL.nil, fun _ => rfl⟩
        · rw [if_neg (by decide), if_neg (by decide), emEach, emEach, Bool.and_true, hp]
          show _ ↔ CatL _ _ _
          rw [catL_nil]
          exact ⟨fun h => ⟨h, StarL.nil⟩, fun h => h.1⟩
        · rw [if_pos (by decide)]; exact ⟨fun _ => .inl rfl, fun _ => rfl⟩
      · rw [if_neg c3] at hfit
        cases hfit
def EmAll (t : PT) : Prop := Wd t → ∀ (kd nn : Int) (A : Option Addr) (m c : Nat) (W : World), Pth W t ⟨kd, nn, .slice A m c⟩ → Calls Try.prog 36 #[.agg #[.int .i64 kd, .int .i64 nn, .slice A m c]] W fun e w' => e = .returned (.bool (emB t)) ∧ Below W.heap.size W w'
set_option maxHeartbeats 8000000 in
theorem empF_gen {t : PT} (h : EmAll t) (hw : Wd t) (kd nn : Int) (A : Option Addr) (m c : Nat) (W : World) (hp : Pth W t ⟨kd, nn, .slice A m c⟩) : Calls Try.prog 57 #[.agg #[.int .i64 kd, .int .i64 nn, .slice A m c]] W fun e w' => e = .returned (.bool (!emB t)) ∧ Below W.heap.size W w' := by
  have hB2 : Below W.heap.size W (W.alloc (.cells #[.int .i64 kd, .int .i64 nn, .slice A m c] 28)) := (Below.refl _ _).alloc (Nat.le_refl _) _
  have hC := h hw kd nn A m c _ (hp.below hB2)
  have HB := Lib.hid hB2
  generalize emB t = r at hC ⊢
  clear hB2 h hw hp
  go_enter Try.func57, Try.ntmps57
  go_wp2_with (go_at_call 36; (with_reducible refine hC.mono ?_); rintro e w5 ⟨rfl, hb5⟩; have HB5 := Lib.hid hb5; clear hb5)
  go_ret
  exact ⟨rfl, HB.out.trans (HB5.out.mono HB.out.size)⟩
set_option pp.deepTerms true in
set_option pp.maxSteps 1000000 in
set_option maxHeartbeats 16000000 in
theorem empty_gen : ∀ t : PT, EmAll t := by
  refine PT.ind fun k n ts ih hw kd nn A m c W hp => ?_
  unfold Wd at hw
  obtain ⟨hl, hws⟩ := hw
  have hk := (pth_part hp).1
  have hB2 : Below W.heap.size W (W.alloc (.cells #[.int .i64 kd, .int .i64 nn, .slice A m c] 28)) := (Below.refl _ _).alloc (Nat.le_refl _) _
  have HB := Lib.hid hB2
  have c1 := con_emp (β := emB) (hp.below hB2) hl (fun t ht kd nn A m c W h => ih t ht (Wds.mem hws t ht) kd nn A m c W h)
  have c2 := con_empF (β := fun t => !emB t) (hp.below hB2) hl (fun t ht kd nn A m c W h => empF_gen (ih t ht) (Wds.mem hws t ht) kd nn A m c W h)
  rw [← emAny_eq] at c1
  have HE := Lib.hid (emEach_eq ts)
  rw [emB]
  subst hk
  generalize (ts.any fun t => !emB t) = r2 at c2 HE
  generalize emAny ts = r1 at c1 ⊢
  rw [HE.out]
  clear hp hl hws ih hB2
  by_cases e1 : kd = 0 ∨ kd = 1
  · rw [if_pos e1]
    rcases e1 with rfl | rfl
    all_goals
      go_enter Try.func36, Try.ntmps36
      go_wp2
      go_ret
      exact ⟨rfl, HB.out⟩
  · rw [if_neg e1]
    by_cases e2 : kd = 4 ∨ kd = 6
    · rw [if_pos e2]
      rcases e2 with rfl | rfl
      all_goals
        go_enter Try.func36, Try.ntmps36
        go_wp2
        go_ret
        exact ⟨rfl, HB.out⟩
    · rw [if_neg e2]
      have n0 : ¬ kd = 0 := fun e => e1 (.inl e)
      have n1 : ¬ kd = 1 := fun e => e1 (.inr e)
      have n4 : ¬ kd = 4 := fun e => e2 (.inl e)
      have n6 : ¬ kd = 6 := fun e => e2 (.inr e)
      by_cases e3 : kd = 3
      · rw [if_pos e3]
        subst e3
        clear e1 e2 n0 n1 n4 n6
        go_enter Try.func36, Try.ntmps36
        go_wp2_with (go_at_call 56; (with_reducible refine c1.mono ?_); rintro e w5 ⟨rfl, hb5⟩; have HB5 := Lib.hid hb5; clear hb5)
        go_ret
        exact ⟨rfl, HB.out.trans (HB5.out.mono HB.out.size)⟩
      · rw [if_neg e3]
        clear e1 e2
        go_enter Try.func36, Try.ntmps36
        go_wp2_with (go_at_call 56; (with_reducible refine c2.mono ?_); rintro e w5 ⟨rfl, hb5⟩; have HB5 := Lib.hid hb5; clear hb5)
        go_ret
        exact ⟨rfl, HB.out.trans (HB5.out.mono HB.out.size)⟩
/-- Empty, of a path that may be. -/
theorem Empty_gen {t : PT} (hw : Wd t) (hc : chk t = 0) {kd nn : Int} {A : Option Addr} {m c : Nat} {W : World} (hp : Pth W t ⟨kd, nn, .slice A m c⟩) :
    Calls Try.prog 18 #[.agg #[.int .i64 kd, .int .i64 nn, .slice A m c]] W fun e w' => e = .returned (.bool (emB t)) ∧ Below W.heap.size W w' := by
  obtain ⟨W1, hW1⟩ : ∃ W1, W1 = W.alloc (.cells #[.int .i64 kd, .int .i64 nn, .slice A m c] 28) := ⟨_, rfl⟩
  have hb1 : Below W.heap.size W W1 := by rw [hW1]; exact (Below.refl _ _).alloc (Nat.le_refl _) _
  have hF1 : Fb W1 W.heap.size 28 #[.int .i64 kd, .int .i64 nn, .slice A m c] := by rw [hW1]; exact Fb.new _ _ _
  have cK := check_gen hw (hp.below hb1)
  rw [hc] at cK
  have HE := Lib.hid (fun (w : World) (hb : Below W1.heap.size W1 w) => empty_gen t hw kd nn A m c w ((hp.below hb1).below hb))
  have HF := Lib.hid (fun (w : World) (hb : Below W1.heap.size W1 w) => (⟨(hF1.below hb).cell 0, (hF1.below hb).cell 1, (hF1.below hb).cell 2⟩ : w.cell? ⟨W.heap.size, 0, none⟩ = some (.int .i64 kd) ∧ w.cell? ⟨W.heap.size, 1, none⟩ = some (.int .i64 nn) ∧ w.cell? ⟨W.heap.size, 2, none⟩ = some (.slice A m c)))
  have HB1 := Lib.hid hb1
  rw [hW1] at cK
  have HW1 := Lib.hid hW1
  clear hb1 hF1 hp hw hc hW1
  go_enter Try.func18, Try.ntmps18
  go_wp2_with (first
    | (go_at_call 20; (with_reducible refine cK.mono ?_); rintro e w5 ⟨rfl, hb5⟩; rw [← HW1.out] at hb5; have HB5 := Lib.hid hb5; obtain ⟨q0, q1, q2⟩ := HF.out w5 hb5; clear hb5)
    | (go_at_call 36; (with_reducible refine (HE.out _ HB5.out).mono ?_); rintro e w6 ⟨rfl, hb6⟩; have HB6 := Lib.hid (HB5.out.trans (hb6.mono HB5.out.size)); clear hb6))
  go_ret
  exact ⟨rfl, HB1.out.trans (HB6.out.mono HB1.out.size)⟩
end Go.Proofs.Ytghlajfalgdkfaa

/-
  A path turned: plain.
-/
namespace Go.Proofs.Ytghlajfalgdkfaa
set_option linter.unusedVariables false
set_option linter.unusedSimpArgs false

def flipS (s : Sy) : Sy := (s.1, !s.2)
def flipW (w : List Sy) : List Sy := (w.map flipS).reverse
theorem flipW_app (u v : List Sy) : flipW (u ++ v) = flipW v ++ flipW u := by unfold flipW; simp
theorem flipW_flipW (w : List Sy) : flipW (flipW w) = w := by
  unfold flipW
  rw [List.map_reverse, List.reverse_reverse, List.map_map]
  have : flipS ∘ flipS = id := by
    funext s
    obtain ⟨a, b⟩ := s
    simp [flipS]
  rw [this, List.map_id]
def tk (k : Int) : Int := if k = 0 then 1 else if k = 1 then 0 else k
mutual
def turn : PT → PT
  | .mk k n ts => .mk (tk k) n (if k = 2 then (turns ts).reverse else turns ts)
def turns : List PT → List PT
  | [] => []
  | t :: ts => turn t :: turns ts
end
theorem turns_map : ∀ ts : List PT, turns ts = ts.map turn
  | [] => by simp [turns]
  | t :: ts => by simp [turns, turns_map ts]
theorem turns_mem {ts : List PT} {k : Int} {u : PT} (h : u ∈ (if k = 2 then (turns ts).reverse else turns ts)) : ∃ t ∈ ts, u = turn t := by
  rw [turns_map] at h
  split at h
  · rw [List.mem_reverse] at h
    obtain ⟨t, ht, rfl⟩ := List.mem_map.1 h
    exact ⟨t, ht, rfl⟩
  · obtain ⟨t, ht, rfl⟩ := List.mem_map.1 h
    exact ⟨t, ht, rfl⟩
theorem turns_len (ts : List PT) (k : Int) : (if k = 2 then (turns ts).reverse else turns ts).length = ts.length := by
  rw [turns_map]
  split <;> simp
theorem szs_app : ∀ (a b : List PT), szs (a ++ b) = szs a + szs b
  | [], b => by simp [szs]
  | x :: a, b => by rw [List.cons_append, szs, szs, szs_app a b]; omega
theorem szs_rev : ∀ a : List PT, szs a.reverse = szs a
  | [] => rfl
  | x :: a => by rw [List.reverse_cons, szs_app, szs_rev a, szs, szs, szs]; omega
theorem hgts_memT {r : Nat} : ∀ ts : List PT, hgts ts ≤ r ↔ ∀ t ∈ ts, hgt t + 1 ≤ r
  | [] => by simp [hgts]
  | t :: ts => by
    rw [hgts]
    have := hgts_memT (r := r) ts
    constructor
    · intro h u hu
      rcases List.mem_cons.1 hu with rfl | hu
      · omega
      · exact this.1 (by omega) u hu
    · intro h
      have h1 := h t (List.mem_cons_self ..)
      have h2 := this.2 fun u hu => h u (List.mem_cons_of_mem _ hu)
      omega
theorem turn_sz : ∀ t : PT, sz (turn t) = sz t := by
  refine PT.ind fun k n ts ih => ?_
  rw [turn, sz, sz]
  have : szs (turns ts) = szs ts := by
    clear n
    induction ts with
    | nil => rfl
    | cons x ts h =>
      rw [turns, szs, szs, ih x (List.mem_cons_self ..), h fun t ht => ih t (List.mem_cons_of_mem _ ht)]
  split
  · rw [szs_rev, this]
  · rw [this]
theorem turn_hgt : ∀ t : PT, hgt (turn t) ≤ hgt t := by
  refine PT.ind fun k n ts ih => ?_
  rw [turn, hgt, hgt]
  refine (hgts_memT _).2 fun u hu => ?_
  obtain ⟨t, ht, rfl⟩ := turns_mem hu
  have := (hgts_memT (r := hgts ts) ts).1 (Nat.le_refl _) t ht
  have := ih t ht
  omega
theorem turn_wd : ∀ t : PT, Wd t → Wd (turn t) := by
  refine PT.ind fun k n ts ih hw => ?_
  unfold Wd at hw
  rw [turn]
  unfold Wd
  refine ⟨by rw [turns_len]; exact hw.1, ?_⟩
  have key : ∀ l : List PT, (∀ t ∈ l, Wd t) → Wds l := fun l => by
    induction l with
    | nil => intro _; unfold Wds; trivial
    | cons a l ih =>
      intro hl
      unfold Wds
      exact ⟨hl a (List.mem_cons_self ..), ih fun s hs => hl s (List.mem_cons_of_mem _ hs)⟩
  refine key _ fun u hu => ?_
  obtain ⟨t, ht, rfl⟩ := turns_mem hu
  exact ih t ht (Wds.mem hw.2 t ht)
theorem turn_frm : ∀ t : PT, frm t = true → frm (turn t) = true := by
  refine PT.ind fun k n ts ih hf => ?_
  rw [frm, Bool.and_eq_true] at hf
  obtain ⟨hfit, hfs⟩ := hf
  have hts := (frms_iff ts).1 hfs
  rw [turn, frm, Bool.and_eq_true, turns_len]
  refine ⟨?_, (frms_iff _).2 fun u hu => ?_⟩
  · unfold fitB at hfit ⊢
    unfold tk
    by_cases c0 : k = 0
    · subst c0; simpa using hfit
    · by_cases c1 : k = 1
      · subst c1; simpa using hfit
      · rw [if_neg c0, if_neg c1]; exact hfit
  · obtain ⟨t, ht, rfl⟩ := turns_mem hu
    exact ih t ht (hts t ht)
/-- A language turned. -/
def Tl (A B : Lg) : Prop := ∀ w, B (flipW w) ↔ A w
theorem Tl.cat {A B A' B' : Lg} (hA : Tl A A') (hB : Tl B B') : Tl (CatL A B) (CatL B' A') := fun w => by
  constructor
  · rintro ⟨u, v, e, h1, h2⟩
    have e' : w = flipW v ++ flipW u := by rw [← flipW_flipW w, e, flipW_app]
    refine ⟨flipW v, flipW u, e', ?_, ?_⟩
    · exact (hA (flipW v)).1 (by rw [flipW_flipW]; exact h2)
    · exact (hB (flipW u)).1 (by rw [flipW_flipW]; exact h1)
  · rintro ⟨u, v, rfl, h1, h2⟩
    exact ⟨flipW v, flipW u, flipW_app u v, (hB v).2 h2, (hA u).2 h1⟩
theorem star_snoc {A : Lg} {u v : List Sy} (hu : StarL A u) (hv : A v) : StarL A (u ++ v) := by
  induction hu with
  | nil => simpa using StarL.app hv StarL.nil
  | app h1 _ ih => rw [List.append_assoc]; exact StarL.app h1 ih
theorem Tl.star {A A' : Lg} (hA : Tl A A') : Tl (StarL A) (StarL A') := by
  have one : ∀ {A A' : Lg}, Tl A A' → ∀ w, StarL A w → StarL A' (flipW w) := fun {A A'} hA w hw => by
    induction hw with
    | nil => exact StarL.nil
    | app h1 _ ih => rw [flipW_app]; exact star_snoc ih ((hA _).2 h1)
  have back : Tl A' A := fun w => by
    have := hA (flipW w)
    rw [flipW_flipW] at this
    exact this.symm
  exact fun w => ⟨fun h => by have := one back _ h; rwa [flipW_flipW] at this, one hA w⟩
theorem plus_star_cat (A : Lg) (w : List Sy) : plusL A w ↔ CatL (StarL A) A w := by
  constructor
  · rintro ⟨u, v, rfl, h1, h2⟩
    induction h2 generalizing u with
    | nil => exact ⟨[], u, by simp, StarL.nil, h1⟩
    | @app x y hx hy ih =>
      obtain ⟨a, b, e, ha, hb⟩ := ih x hx
      exact ⟨u ++ a, b, by rw [List.append_assoc, ← e], StarL.app h1 ha, hb⟩
  · rintro ⟨u, v, rfl, h1, h2⟩
    induction h1 with
    | nil => exact ⟨v, [], by simp, h2, StarL.nil⟩
    | @app x y hx hy ih =>
      obtain ⟨a, b, e, ha, hb⟩ := ih
      exact ⟨x, y ++ v, by rw [List.append_assoc], hx, by rw [e]; exact StarL.app ha hb⟩
theorem Tl.plus {A A' : Lg} (hA : Tl A A') : Tl (plusL A) (plusL A') := fun w =>
  (plus_star_cat A' (flipW w)).trans (hA.cat hA.star w)
theorem seql_app : ∀ (As Bs : List Lg) (w : List Sy), Seql (As ++ Bs) w ↔ CatL (Seql As) (Seql Bs) w
  | [], Bs, w => by
    constructor
    · exact fun h => ⟨[], w, rfl, rfl, h⟩
    · rintro ⟨u, v, rfl, h1, h2⟩
      have : u = [] := h1
      subst this
      exact h2
  | A :: As, Bs, w => by
    rw [List.cons_append]
    show CatL A (Seql (As ++ Bs)) w ↔ CatL (CatL A (Seql As)) (Seql Bs) w
    rw [catL_assoc]
    exact catL_congr (fun _ => Iff.rfl) (fun w => seql_app As Bs w) w
theorem langs_map : ∀ ts : List PT, langs ts = ts.map lang
  | [] => by simp [langs]
  | t :: ts => by simp [langs, langs_map ts]
theorem tl_seq : ∀ ts : List PT, (∀ t ∈ ts, Tl (lang t) (lang (turn t))) → Tl (Seql (langs ts)) (Seql (langs (turns ts).reverse))
  | [], _ => fun w => by
    simp only [turns, langs, List.reverse_nil, Seql]
    constructor
    · intro h
      have := congrArg flipW h
      rwa [flipW_flipW] at this
    · intro h; rw [h]; rfl
  | t :: ts, h => fun w => by
    have ih := tl_seq ts fun u hu => h u (List.mem_cons_of_mem _ hu)
    have ht := h t (List.mem_cons_self ..)
    rw [turns, List.reverse_cons, langs_map, List.map_append, seql_app, ← langs_map]
    have : ∀ v, Seql (List.map lang [turn t]) v ↔ lang (turn t) v := fun v => seql_one _ v
    rw [catL_congr (fun _ => Iff.rfl) this]
    exact ht.cat ih w
theorem tl_alt : ∀ ts : List PT, (∀ t ∈ ts, Tl (lang t) (lang (turn t))) → Tl (Altl (langs ts)) (Altl (langs (turns ts)))
  | [], _ => fun w => by simp [turns, langs, Altl]
  | t :: ts, h => fun w => by
    have ih := tl_alt ts (fun u hu => h u (List.mem_cons_of_mem _ hu)) w
    have ht := h t (List.mem_cons_self ..) w
    simp only [turns, langs, Altl]
    rw [ih, ht]
theorem turn_lang : ∀ t : PT, frm t = true → Tl (lang t) (lang (turn t)) := by
  refine PT.ind fun k n ts ih hf => ?_
  rw [frm, Bool.and_eq_true] at hf
  obtain ⟨hfit, hfs⟩ := hf
  have hts := (frms_iff ts).1 hfs
  have ih' : ∀ t ∈ ts, Tl (lang t) (lang (turn t)) := fun t ht => ih t ht (hts t ht)
  unfold fitB at hfit
  rw [turn]
  intro w
  by_cases c1 : k = 0 ∨ k = 1
  · rw [lang_step c1]
    have hk : tk k = 0 ∨ tk k = 1 := by unfold tk; rcases c1 with rfl | rfl <;> simp
    rw [lang_step hk]
    have hfl : flipS (n, decide (k = 1)) = (n, decide (tk k = 1)) := by
      unfold flipS tk
      rcases c1 with rfl | rfl <;> rfl
    constructor
    · intro h
      have := congrArg flipW h
      rw [flipW_flipW] at this
      rw [this, ← hfl]
      unfold flipW
      simp [flipS]
    · intro h
      rw [h]
      unfold flipW
      simp [hfl]
  · rw [if_neg c1] at hfit
    have hk : tk k = k := by
      unfold tk
      rw [if_neg (fun e => c1 (.inl e)), if_neg (fun e => c1 (.inr e))]
    rw [hk]
    by_cases c2 : k = 2 ∨ k = 3
    · rcases c2 with rfl | rfl
      · rw [if_pos rfl, lang_seq, lang_seq]
        exact tl_seq ts ih' w
      · rw [if_neg (by decide), lang_alt, lang_alt]
        exact tl_alt ts ih' w
    · rw [if_neg c2] at hfit
      by_cases c3 : k = 4 ∨ k = 5 ∨ k = 6
      · rw [if_pos c3] at hfit
        obtain ⟨p, rfl⟩ := List.length_eq_one_iff.1 (of_decide_eq_true hfit)
        have hp := ih' p (List.mem_singleton.2 rfl)
        rw [if_neg (fun e => c2 (.inl e)), turns, turns, lang_again c3, lang_again c3]
        rcases c3 with rfl | rfl | rfl
        · exact hp.star w
        · exact hp.plus w
        · show (flipW w = [] ∨ lang (turn p) (flipW w)) ↔ (w = [] ∨ lang p w)
          rw [hp w]
          refine or_congr ?_ Iff.rfl
          constructor
          · intro h
            have := congrArg flipW h
            rwa [flipW_flipW] at this
          · intro h; rw [h]; rfl
      · rw [if_neg c3] at hfit
        cases hfit
end Go.Proofs.Ytghlajfalgdkfaa

/-
  A path in memory, all its rows in blocks of some kind; append of a path to a row of one's own.
-/
namespace Go.Proofs.Ytghlajfalgdkfaa
open Go.RowKit
set_option linter.unusedVariables false
set_option linter.unusedSimpArgs false
set_option maxRecDepth 100000

def RowPs (S : Nat → Prop) (W : World) (s : Value) (ps : List Pa) : Prop := (ps = [] ∧ ∃ A c, s = .slice A 0 c) ∨ ∃ g c cs, s = .slice (some ⟨g, 0, none⟩) ps.length c ∧ S g ∧ Fb W g 28 cs ∧ ∀ (j : Nat) (p : Pa), ps[j]? = some p → cs[j * 3]? = some (.int .i64 p.kd) ∧ cs[j * 3 + 1]? = some (.int .i64 p.n) ∧ cs[j * 3 + 2]? = some p.s
mutual
def PtS (S : Nat → Prop) (W : World) : PT → Pa → Prop
  | .mk k n ts, p => p.kd = k ∧ p.n = n ∧ ∃ ps, RowPs S W p.s ps ∧ PtSs S W ts ps
def PtSs (S : Nat → Prop) (W : World) : List PT → List Pa → Prop
  | [], ps => ps = []
  | t :: ts, ps => ∃ p ps', ps = p :: ps' ∧ PtS S W t p ∧ PtSs S W ts ps'
end
theorem RowPs.row {S : Nat → Prop} {W : World} {s : Value} {ps : List Pa} (h : RowPs S W s ps) : RowP W s ps := by
  rcases h with h | ⟨g, c, cs, h1, _, h2, h3⟩
  · exact .inl h
  · exact .inr ⟨g, c, cs, h1, h2, h3⟩
theorem RowPs.keep {S S' : Nat → Prop} {W W' : World} (hk : ∀ g cs, S g → Fb W g 28 cs → S' g ∧ Fb W' g 28 cs) {s : Value} {ps : List Pa} (h : RowPs S W s ps) : RowPs S' W' s ps := by
  rcases h with h | ⟨g, c, cs, h1, h4, h2, h3⟩
  · exact .inl h
  · exact .inr ⟨g, c, cs, h1, (hk g cs h4 h2).1, (hk g cs h4 h2).2, h3⟩
theorem PtSs.of {S : Nat → Prop} {W : World} : ∀ {ts : List PT} {ps : List Pa}, PtSs S W ts ps → ts.length = ps.length ∧ ∀ (j : Nat) (t : PT) (p : Pa), ts[j]? = some t → ps[j]? = some p → PtS S W t p
  | [], ps, h => by
    unfold PtSs at h
    subst h
    exact ⟨rfl, fun j t p h => by simp at h⟩
  | t :: ts, ps, h => by
    unfold PtSs at h
    obtain ⟨p, ps', rfl, h1, h2⟩ := h
    obtain ⟨h3, h4⟩ := PtSs.of h2
    refine ⟨by simp [h3], fun j t' p' hj hp => ?_⟩
    cases j with
    | zero => simp at hj hp; subst hj hp; exact h1
    | succ j => exact h4 j t' p' (by simpa using hj) (by simpa using hp)
theorem PtSs.mk {S : Nat → Prop} {W : World} : ∀ {ts : List PT} {ps : List Pa}, ts.length = ps.length → (∀ (j : Nat) (t : PT) (p : Pa), ts[j]? = some t → ps[j]? = some p → PtS S W t p) → PtSs S W ts ps
  | [], ps, h, _ => by
    unfold PtSs
    exact List.length_eq_zero_iff.1 h.symm
  | t :: ts, [], h, _ => by simp at h
  | t :: ts, p :: ps, h, hj => by
    unfold PtSs
    exact ⟨p, ps, rfl, hj 0 t p rfl rfl, PtSs.mk (by simpa using h) fun j t' p' h1 h2 => hj (j + 1) t' p' (by simpa using h1) (by simpa using h2)⟩
theorem PtS.keep {S S' : Nat → Prop} {W W' : World} (hk : ∀ g cs, S g → Fb W g 28 cs → S' g ∧ Fb W' g 28 cs) : ∀ (t : PT) (p : Pa), PtS S W t p → PtS S' W' t p := by
  refine PT.ind fun k n ts ih p h => ?_
  unfold PtS at h ⊢
  obtain ⟨h1, h2, ps, h3, h4⟩ := h
  obtain ⟨e, h5⟩ := PtSs.of h4
  exact ⟨h1, h2, ps, h3.keep hk, PtSs.mk e fun j t' p' hj hp => ih t' (List.mem_of_getElem? hj) p' (h5 j t' p' hj hp)⟩
theorem PtSs.keep {S S' : Nat → Prop} {W W' : World} (hk : ∀ g cs, S g → Fb W g 28 cs → S' g ∧ Fb W' g 28 cs) {ts : List PT} {ps : List Pa} (h : PtSs S W ts ps) : PtSs S' W' ts ps := by
  obtain ⟨e, h5⟩ := PtSs.of h
  exact PtSs.mk e fun j t' p' hj hp => PtS.keep hk t' p' (h5 j t' p' hj hp)
theorem PtS.pth {S : Nat → Prop} {W : World} : ∀ (t : PT) (p : Pa), PtS S W t p → Pth W t p := by
  refine PT.ind fun k n ts ih p h => ?_
  unfold PtS at h
  unfold Pth
  obtain ⟨h1, h2, ps, h3, h4⟩ := h
  obtain ⟨e, h5⟩ := PtSs.of h4
  exact ⟨h1, h2, ps, h3.row, Pths.mk e fun j t' p' hj hp => ih t' (List.mem_of_getElem? hj) p' (h5 j t' p' hj hp)⟩
theorem PtSs.snoc {S : Nat → Prop} {W : World} {ts : List PT} {ps : List Pa} {t : PT} {p : Pa} (h : PtSs S W ts ps) (hp : PtS S W t p) : PtSs S W (ts ++ [t]) (ps ++ [p]) := by
  obtain ⟨e, h1⟩ := PtSs.of h
  refine PtSs.mk (by simp [e]) fun j t' p' hj hp' => ?_
  rcases Nat.lt_or_ge j ts.length with h | h
  · rw [List.getElem?_append_left h] at hj
    rw [List.getElem?_append_left (by omega)] at hp'
    exact h1 j t' p' hj hp'
  · rw [List.getElem?_append_right h] at hj
    rw [List.getElem?_append_right (by omega)] at hp'
    have hj0 : j - ts.length = 0 := by
      have := (List.getElem?_eq_some_iff.1 hj).1
      simp at this; omega
    rw [hj0] at hj
    rw [show j - ps.length = 0 by omega] at hp'
    simp at hj hp'
    subst hj hp'
    exact hp
theorem PtSs.rev {S : Nat → Prop} {W : World} {ts : List PT} {ps : List Pa} (h : PtSs S W ts ps) : PtSs S W ts.reverse ps.reverse := by
  obtain ⟨e, h1⟩ := PtSs.of h
  refine PtSs.mk (by simp [e]) fun j t p hj hp => ?_
  have hjl : j < ts.length := by have := (List.getElem?_eq_some_iff.1 hj).1; simpa using this
  rw [List.getElem?_reverse hjl] at hj
  rw [List.getElem?_reverse (by omega), ← e] at hp
  exact h1 _ t p hj hp
theorem PpR.pts {B : Nat} {W : World} {v : Value} {ps : List Pa} (h : PpR B W v ps) : RowPs (fun g => B ≤ g) W v ps := by
  rcases PpR.pi h with h | ⟨g, c, cs, h1, h2, _, h3, h4⟩
  · exact .inl h
  · exact .inr ⟨g, c, cs, h1, h2, h3, h4⟩
theorem pathZq : (Try.prog.info? 28).map (fun i => (i.zero, i.size, i.bytes)) = some (some (.agg #[.int .i64 0, .int .i64 0, .slice none 0 0]), 3, 40) := by kernel_rfl
/-- What a path turned is. -/
def TuQ (W : World) (t : PT) (nn : Int) (e : Ending) (w' : World) : Prop := ∃ (k' : Int) (A' : Option Addr) (m' c' : Nat), e = .returned (.agg #[.int .i64 k', .int .i64 nn, .slice A' m' c']) ∧ PtS (fun g => W.heap.size ≤ g) w' (turn t) ⟨k', nn, .slice A' m' c'⟩ ∧ Below W.heap.size W w'
def TuAll (t : PT) : Prop := Wd t → ∀ (kd nn : Int) (A : Option Addr) (m c : Nat) (W : World), Pth W t ⟨kd, nn, .slice A m c⟩ → Calls Try.prog 37 #[.agg #[.int .i64 kd, .int .i64 nn, .slice A m c]] W (TuQ W t nn)
/-- What Reverse of a row of paths of one's own does. -/
def RvP (B : Nat) (W : World) (v : Value) (ps : List Pa) (e : Ending) (w' : World) : Prop := e = .returned (.tuple #[]) ∧ PpR B w' v ps.reverse ∧ W.grownBy w' v.ownBlock
def TnR (W : World) (ts : List PT) (kd nn : Int) (A : Option Addr) (m c gk : Nat) (s14 : Value) (wr : World) : Prop := ∃ (j : Nat) (Av : Option Addr) (cv : Nat) (pas : List Pa), j + gk = ts.length ∧ s14 = .int .i64 (j : Int) ∧ PpR (W.heap.size + 3) wr (.slice Av j cv) pas ∧ pas.length = j ∧ PtSs (fun g => W.heap.size + 3 ≤ g ∧ (Value.slice Av j cv).ownBlock ≠ some g) wr (turns (ts.take j)) pas ∧ Fb wr (W.heap.size + 2) 28 #[.int .i64 kd, .int .i64 nn, .slice Av j cv] ∧ Fb wr (W.heap.size + 1) 28 #[.int .i64 0, .int .i64 0, .slice none 0 0] ∧ Fb wr W.heap.size 28 #[.int .i64 kd, .int .i64 nn, .slice A m c] ∧ Below W.heap.size W wr
theorem step_app_q {ops : Array Oper} {o : Oper} {a : Act} {K : Act → World → Prop} {Q : Exit → Act → World → Prop} {E : Prop} {w w0 : World} (hgd : o.guard = none) (s x : Operand)
    (ho : o.op = .call { callee := .builtin .append, args := #[s, x], argTypes := #[26, 26] }) {B n g0 : Nat} {v : Value} {L : List Pa} {k' n' : Int} {A' : Option Addr} {m' c' : Nat} (hn : L.length = n) (hs : a.eval s = v) (hx : a.eval x = .slice (some ⟨g0, 0, none⟩) 1 1) (hL : PpR B w0 v L) (hb : Below w0.heap.size w0 w) (hd : w.cell? ⟨g0, 0, none⟩ = some (.int .i64 k') ∧ w.cell? ⟨g0, 1, none⟩ = some (.int .i64 n') ∧ w.cell? ⟨g0, 2, none⟩ = some (.slice A' m' c')) (hB : B ≤ w0.heap.size) (h1 : L.length ≤ 1000)
    (h : ∀ gA cap w', PpR B w' (.slice (some ⟨gA, 0, none⟩) (n + 1) cap) (L ++ [⟨k', n', .slice A' m' c'⟩]) → (∀ g cs, v.ownBlock ≠ some g → Fb w0 g 28 cs → gA ≠ g ∧ Fb w' g 28 cs) → B ≤ gA → w0.heap.size ≤ w'.heap.size → Below B w0 w' → K (a.put o.dst (.slice (some ⟨gA, 0, none⟩) (n + 1) cap)) w') : if Region.wanted o (yielded ops a.tmps) = true then Oper.wp Try.prog o a w K Q else E := by
  obtain ⟨iT, hT0, hT1, hT2, hT3⟩ := info_parts pathZq
  dsimp only at hT1 hT2 hT3
  have hLw : PpR B w v L := row_below hL hb
  refine step_append_lies w hgd s x 26 ho B 28 iT (.agg #[.int .i64 0, .int .i64 0, .slice none 0 0]) 3 40 Try.underlying26 hT0 hT1 hT2 hT3 rfl (by decide) v L.length _ hs hLw ⟨g0, 0, none⟩ 1 1 [.int .i64 k', .int .i64 n', .slice A' m' c'] hx rfl (fun j u hj => ?_) (fun u hu => by
    simp at hu
    rcases hu with rfl | rfl | rfl <;> rfl) (by decide) (by unfold maxLen; omega) (by omega) (Nat.le_trans hB hb.size) _ rfl ?_
  · rw [at_add, Nat.zero_add]
    match j, hj with
    | 0, hj => simp at hj; subst hj; exact hd.1
    | 1, hj => simp at hj; subst hj; exact hd.2.1
    | 2, hj => simp at hj; subst hj; exact hd.2.2
    | j + 3, hj => simp at hj
  · intro g cap w' h3 h4 h5 h6
    rw [hn]
    have hr : PpR B w' (.slice (some ⟨g, 0, none⟩) (n + 1) cap) (L ++ [⟨k', n', .slice A' m' c'⟩]) := by
      unfold PpR
      rw [List.length_append, List.flatMap_append]
      rw [hn] at h3 ⊢
      exact h3
    refine h _ _ _ hr (fun q cs hq hf => ?_) (row_lt hr g rfl).1 (Nat.le_trans hb.size h4.size) ((hb.mono hB).grown h4 (Nat.le_trans hB hb.size) (fun q hq => (row_lt hLw q hq).1))
    have hfw := hf.below hb
    refine ⟨fun e => ?_, (h4.block q hfw.lt (fun e => hq e.symm)).trans hfw⟩
    rcases h5 with h5 | h5
    · rw [e] at h5; exact hq h5
    · have := hfw.lt; omega
end Go.Proofs.Ytghlajfalgdkfaa
