/-
  MERGED (a claim has at most 60 files): NgRq.
-/
import Derived.Test.YtghlajfalgdkfaaZ26
import Derived.Test.YtghlajfalgdkfaaZ27
import Derived.Test.YtghlajfalgdkfaaZ16
import Derived.Test.YtghlajfalgdkfaaZ11
import Derived.Deep.QuietTactic
import Derived.BigQuiet
/-
  The reference's Takes: does a path take a word?
-/
namespace Go.Proofs.Ytghlajfalgdkfaa
open Go.RowKit
set_option linter.unusedVariables false
set_option linter.unusedSimpArgs false
set_option maxRecDepth 100000

set_option pp.deepTerms true in
set_option pp.maxSteps 1000000 in
set_option maxHeartbeats 64000000 in
theorem rt_step0 {g len c : Nat} {T : List PT} (hlen : len ≤ 1000) {n : Int} {ts : List PT} {W : World} {at_ : Nat} {A : Option Addr} {nw cw : Nat} {ws : List Sy} {b : Bool} (hR : Rf W g len T) (hC : RfC W g T) (hat : T[at_]? = some (.mk 0 n ts)) (hW : WdG W A nw cw ws) (hws : ws.length ≤ 1000) (htl : ts.length ≤ 1000) (hb : b = true ↔ lang (.mk 0 n ts) ws) :
    Calls Try.prog 16 #[.slice (some ⟨g, 0, none⟩) len c, .int .i64 (at_ : Int), .slice A nw cw] W (BqR W b) := by
  obtain ⟨A', c', x0, x1, x2, hp⟩ := hR.2 at_ _ n ts hat
  obtain ⟨A'', c'', y2, hcc, hcm⟩ := hC at_ _ n ts hat
  rw [x2] at y2
  obtain ⟨e1, _, e3⟩ := Value.slice.inj (Option.some.inj y2)
  subst e1 e3
  have hal : at_ < len := by have := (List.getElem?_eq_some_iff.1 hat).1; have := hR.1; omega
  have a0 : (0 : Int) ≤ (at_ : Int) := by omega
  have a1 : (at_ : Int) < (len : Int) := by omega
  have l1 : (len : Int) ≤ 1000 := by omega
  have w0 : (0 : Int) ≤ (nw : Int) := by omega
  have w1 : (nw : Int) ≤ 1000 := by have := hW.1; omega
  have w2 : (nw : Int) ≤ (cw : Int) := by have := hW.2.1; omega
  have w3 : (cw : Int) ≤ 9223372036854775807 := by have := hW.2.2.1; unfold maxLen at this; omega
  have hnw := hW.1
  obtain ⟨W1, hW1⟩ : ∃ W1, W1 = W.alloc (.cells #[.int .i64 0, .int .i64 n, .slice A' ts.length c'] 62) := ⟨_, rfl⟩
  have hb1 : Below W.heap.size W W1 := by rw [hW1]; exact (Below.refl _ _).alloc (Nat.le_refl _) _
  have hF1 : Fb W1 W.heap.size 62 #[.int .i64 0, .int .i64 n, .slice A' ts.length c'] := by rw [hW1]; exact Fb.new _ _ _
  have HB1 := Lib.hid hb1
  have HB9 := Lib.hid (show Below W.heap.size W (W.alloc (.cells #[.int .i64 0, .int .i64 n, .slice A' ts.length c'] 62)) from by rw [← hW1]; exact hb1)
  have hb' : b = true ↔ ws = [(n, decide ((0 : Int) = 1))] := hb.trans (lang_step (by decide) ws)
  obtain ⟨mt, hmt⟩ : ∃ mt, mt = ts.length := ⟨_, rfl⟩
  rw [← hmt] at x2 hW1 HB9
  by_cases h1 : nw = 1
  · obtain ⟨s, hs⟩ : ∃ s, ws = [s] := List.length_eq_one_iff.1 (by omega)
    rcases hW.2.2.2 with ⟨_, e⟩ | ⟨gw, ow, rfl, hcells⟩
    · have := hW.2.1; omega
    · obtain ⟨z0, z1⟩ := hcells 0 s (by rw [hs]; rfl)
      rw [Nat.zero_mul, Nat.add_zero] at z0 z1
      have z0' := cell_below z0 hb1
      have z1' := cell_below z1 hb1
      have HE := Lib.hid (show b = (s.1 == n && s.2 == false) from by
        rw [Bool.eq_iff_iff, hb', hs]
        obtain ⟨s1, s2⟩ := s
        simp [Prod.ext_iff])
      rw [hW1] at z0' z1'
      have HG1 := fun (w : World) (x y : Operand) => rsym_guard w x y s.1 n s.2 false
      have HG2 := fun (w : World) => rsym_eql w s.1 n s.2 false
      clear hR hC hat hW hws htl hb hp hcc hcm hal hnw hb1 hF1 hb' hcells hs z0 z1 y2 hmt hW1
      subst h1
      go_enter Try.func16, Try.ntmps16
      go_wp2
      go_quiet (fail)
      go_wp2
      go_ret
      exact ⟨by rw [HE.out]; simp, HB9.out.trans ⟨rfl, rfl, rfl, Nat.le_refl _, fun _ _ => rfl⟩⟩
  · have z : ((nw : Int) == 1) = false := by rw [beq_eq_false_iff_ne]; omega
    have z' : (nw == 1) = false := by rw [beq_eq_false_iff_ne]; exact h1
    have HE := Lib.hid (show b = false from by
      cases hbb : b with
      | false => rfl
      | true =>
        have := congrArg List.length (hb'.1 hbb)
        simp at this
        omega)
    have HW1 := Lib.hid hW1
    clear hR hC hat hW hws htl hb hp hcc hcm hal hnw hb1 hF1 hb' h1 y2 hmt hW1
    go_enter Try.func16, Try.ntmps16
    go_wp2
    go_quiet (fail)
    go_wp2
    go_ret
    exact ⟨by rw [HE.out]; rfl, HB9.out.trans ⟨rfl, rfl, rfl, Nat.le_refl _, fun _ _ => rfl⟩⟩
set_option pp.deepTerms true in
set_option pp.maxSteps 1000000 in
set_option maxHeartbeats 64000000 in
theorem rt_step1 {g len c : Nat} {T : List PT} (hlen : len ≤ 1000) {n : Int} {ts : List PT} {W : World} {at_ : Nat} {A : Option Addr} {nw cw : Nat} {ws : List Sy} {b : Bool} (hR : Rf W g len T) (hC : RfC W g T) (hat : T[at_]? = some (.mk 1 n ts)) (hW : WdG W A nw cw ws) (hws : ws.length ≤ 1000) (htl : ts.length ≤ 1000) (hb : b = true ↔ lang (.mk 1 n ts) ws) :
    Calls Try.prog 16 #[.slice (some ⟨g, 0, none⟩) len c, .int .i64 (at_ : Int), .slice A nw cw] W (BqR W b) := by
  obtain ⟨A', c', x0, x1, x2, hp⟩ := hR.2 at_ _ n ts hat
  obtain ⟨A'', c'', y2, hcc, hcm⟩ := hC at_ _ n ts hat
  rw [x2] at y2
  obtain ⟨e1, _, e3⟩ := Value.slice.inj (Option.some.inj y2)
  subst e1 e3
  have hal : at_ < len := by have := (List.getElem?_eq_some_iff.1 hat).1; have := hR.1; omega
  have a0 : (0 : Int) ≤ (at_ : Int) := by omega
  have a1 : (at_ : Int) < (len : Int) := by omega
  have l1 : (len : Int) ≤ 1000 := by omega
  have w0 : (0 : Int) ≤ (nw : Int) := by omega
  have w1 : (nw : Int) ≤ 1000 := by have := hW.1; omega
  have w2 : (nw : Int) ≤ (cw : Int) := by have := hW.2.1; omega
  have w3 : (cw : Int) ≤ 9223372036854775807 := by have := hW.2.2.1; unfold maxLen at this; omega
  have hnw := hW.1
  obtain ⟨W1, hW1⟩ : ∃ W1, W1 = W.alloc (.cells #[.int .i64 1, .int .i64 n, .slice A' ts.length c'] 62) := ⟨_, rfl⟩
  have hb1 : Below W.heap.size W W1 := by rw [hW1]; exact (Below.refl _ _).alloc (Nat.le_refl _) _
  have hF1 : Fb W1 W.heap.size 62 #[.int .i64 1, .int .i64 n, .slice A' ts.length c'] := by rw [hW1]; exact Fb.new _ _ _
  have HB1 := Lib.hid hb1
  have HB9 := Lib.hid (show Below W.heap.size W (W.alloc (.cells #[.int .i64 1, .int .i64 n, .slice A' ts.length c'] 62)) from by rw [← hW1]; exact hb1)
  have hb' : b = true ↔ ws = [(n, decide ((1 : Int) = 1))] := hb.trans (lang_step (by decide) ws)
  obtain ⟨mt, hmt⟩ : ∃ mt, mt = ts.length := ⟨_, rfl⟩
  rw [← hmt] at x2 hW1 HB9
  by_cases h1 : nw = 1
  · obtain ⟨s, hs⟩ : ∃ s, ws = [s] := List.length_eq_one_iff.1 (by omega)
    rcases hW.2.2.2 with ⟨_, e⟩ | ⟨gw, ow, rfl, hcells⟩
    · have := hW.2.1; omega
    · obtain ⟨z0, z1⟩ := hcells 0 s (by rw [hs]; rfl)
      rw [Nat.zero_mul, Nat.add_zero] at z0 z1
      have z0' := cell_below z0 hb1
      have z1' := cell_below z1 hb1
      have HE := Lib.hid (show b = (s.1 == n && s.2 == true) from by
        rw [Bool.eq_iff_iff, hb', hs]
        obtain ⟨s1, s2⟩ := s
        simp [Prod.ext_iff])
      rw [hW1] at z0' z1'
      have HG1 := fun (w : World) (x y : Operand) => rsym_guard w x y s.1 n s.2 true
      have HG2 := fun (w : World) => rsym_eql w s.1 n s.2 true
      clear hR hC hat hW hws htl hb hp hcc hcm hal hnw hb1 hF1 hb' hcells hs z0 z1 y2 hmt hW1
      subst h1
      go_enter Try.func16, Try.ntmps16
      go_wp2
      go_quiet (fail)
      go_wp2
      go_ret
      exact ⟨by rw [HE.out]; simp, HB9.out.trans ⟨rfl, rfl, rfl, Nat.le_refl _, fun _ _ => rfl⟩⟩
  · have z : ((nw : Int) == 1) = false := by rw [beq_eq_false_iff_ne]; omega
    have z' : (nw == 1) = false := by rw [beq_eq_false_iff_ne]; exact h1
    have HE := Lib.hid (show b = false from by
      cases hbb : b with
      | false => rfl
      | true =>
        have := congrArg List.length (hb'.1 hbb)
        simp at this
        omega)
    have HW1 := Lib.hid hW1
    clear hR hC hat hW hws htl hb hp hcc hcm hal hnw hb1 hF1 hb' h1 y2 hmt hW1
    go_enter Try.func16, Try.ntmps16
    go_wp2
    go_quiet (fail)
    go_wp2
    go_ret
    exact ⟨by rw [HE.out]; rfl, HB9.out.trans ⟨rfl, rfl, rfl, Nat.le_refl _, fun _ _ => rfl⟩⟩
theorem rws_of {W : World} {A' : Option Addr} {ts T : List PT} (hp : ∀ (j : Nat) (t : PT), ts[j]? = some t → ∃ (g' q : Nat), A' = some ⟨g', 0, none⟩ ∧ W.cell? ⟨g', j, none⟩ = some (.int .i64 (q : Int)) ∧ T[q]? = some t) (hts : ts ≠ []) : ∃ g', A' = some ⟨g', 0, none⟩ ∧ RwS W g' 0 ts T := by
  obtain ⟨t0, h0⟩ : ∃ t0, ts[0]? = some t0 := ⟨_, List.getElem?_eq_getElem (List.length_pos_iff.2 hts)⟩
  obtain ⟨g', q, e, _, _⟩ := hp 0 t0 h0
  refine ⟨g', e, fun j t hj => ?_⟩
  obtain ⟨g2, q2, e2, h1, h2⟩ := hp j t hj
  have : g' = g2 := by rw [e] at e2; injection e2 with e2; injection e2
  subst this
  exact ⟨q2, by rw [Nat.zero_add]; exact h1, h2⟩
set_option pp.deepTerms true in
set_option pp.maxSteps 1000000 in
set_option maxHeartbeats 64000000 in
theorem rt_seq {g len c : Nat} {T : List PT} (hlen : len ≤ 1000) {n : Int} {ts : List PT} {W : World} {at_ : Nat} {A : Option Addr} {nw cw : Nat} {ws : List Sy} {b : Bool} (hR : Rf W g len T) (hC : RfC W g T) (hat : T[at_]? = some (.mk 2 n ts)) (hW : WdG W A nw cw ws) (hws : ws.length ≤ 1000) (htl : ts.length ≤ 1000) (hb : b = true ↔ lang (.mk 2 n ts) ws) {N : Nat} (hN : N ≤ 1000) (hwN : ws.length ≤ N) (hts : ts ≠ []) (hT : ∀ t ∈ ts, RTk g len c T t N) :
    Calls Try.prog 16 #[.slice (some ⟨g, 0, none⟩) len c, .int .i64 (at_ : Int), .slice A nw cw] W (BqR W b) := by
  obtain ⟨A', c', x0, x1, x2, hp⟩ := hR.2 at_ _ n ts hat
  obtain ⟨A'', c'', y2, hcc, hcm⟩ := hC at_ _ n ts hat
  rw [x2] at y2
  obtain ⟨e1, _, e3⟩ := Value.slice.inj (Option.some.inj y2)
  subst e1 e3
  have hal : at_ < len := by have := (List.getElem?_eq_some_iff.1 hat).1; have := hR.1; omega
  have a0 : (0 : Int) ≤ (at_ : Int) := by omega
  have a1 : (at_ : Int) < (len : Int) := by omega
  have l1 : (len : Int) ≤ 1000 := by omega
  have w0 : (0 : Int) ≤ (nw : Int) := by omega
  have w1 : (nw : Int) ≤ 1000 := by have := hW.1; omega
  have w2 : (nw : Int) ≤ (cw : Int) := by have := hW.2.1; omega
  have w3 : (cw : Int) ≤ 9223372036854775807 := by have := hW.2.2.1; unfold maxLen at this; omega
  have hnw := hW.1
  obtain ⟨W1, hW1⟩ : ∃ W1, W1 = W.alloc (.cells #[.int .i64 2, .int .i64 n, .slice A' ts.length c'] 62) := ⟨_, rfl⟩
  have hb1 : Below W.heap.size W W1 := by rw [hW1]; exact (Below.refl _ _).alloc (Nat.le_refl _) _
  have hF1 : Fb W1 W.heap.size 62 #[.int .i64 2, .int .i64 n, .slice A' ts.length c'] := by rw [hW1]; exact Fb.new _ _ _
  have HB1 := Lib.hid hb1
  have HB9 := Lib.hid (show Below W.heap.size W (W.alloc (.cells #[.int .i64 2, .int .i64 n, .slice A' ts.length c'] 62)) from by rw [← hW1]; exact hb1)
  obtain ⟨g', hA, hS⟩ := rws_of hp hts
  subst hA
  have cP := rparts_gen hN ts hts hT W1 g' 0 c' A nw cw ws b (hR.below hb1) (hC.below hb1) (hS.below hb1) hcc hcm (hW.below hb1) hwN (hb.trans (lang_seq ws))
  rw [hW1] at cP
  obtain ⟨mt, hmt⟩ : ∃ mt, mt = ts.length := ⟨_, rfl⟩
  rw [← hmt] at x2 cP HB9
  clear hR hC hat hW hws htl hb hp hcc hcm hal hnw hb1 hF1 hS y2 hmt hW1 hT hts hwN HB1
  go_enter Try.func16, Try.ntmps16
  go_wp2_with (go_at_call 35; (with_reducible refine cP.mono ?_); rintro e wn ⟨rfl, hbn⟩; have HBx := Lib.hid (HB9.out.trans (hbn.mono HB9.out.size)); clear hbn)
  go_ret
  exact ⟨rfl, HBx.out⟩
def RaR (W : World) (ts : List PT) (ws : List Sy) (gk : Nat) (s46 : Value) (wr : World) : Prop := ∃ j : Nat, j + gk = ts.length ∧ s46 = .int .i64 (j : Int) ∧ (∀ (i : Nat) (t : PT), i < j → ts[i]? = some t → ¬ lang t ws) ∧ Below W.heap.size W wr
theorem altl_iff : ∀ (ts : List PT) (w : List Sy), Altl (langs ts) w ↔ ∃ t ∈ ts, lang t w
  | [], w => by simp [langs, Altl]
  | t :: ts, w => by simp [langs, Altl, altl_iff ts w]
set_option pp.deepTerms true in
set_option pp.maxSteps 1000000 in
set_option maxHeartbeats 64000000 in
theorem rt_alt {g len c : Nat} {T : List PT} (hlen : len ≤ 1000) {n : Int} {ts : List PT} {W : World} {at_ : Nat} {A : Option Addr} {nw cw : Nat} {ws : List Sy} {b : Bool} (hR : Rf W g len T) (hC : RfC W g T) (hat : T[at_]? = some (.mk 3 n ts)) (hW : WdG W A nw cw ws) (hws : ws.length ≤ 1000) (htl : ts.length ≤ 1000) (hb : b = true ↔ lang (.mk 3 n ts) ws) {N : Nat} (hN : N ≤ 1000) (hwN : ws.length ≤ N) (hts : ts ≠ []) (hT : ∀ t ∈ ts, RTk g len c T t N) :
    Calls Try.prog 16 #[.slice (some ⟨g, 0, none⟩) len c, .int .i64 (at_ : Int), .slice A nw cw] W (BqR W b) := by
  obtain ⟨A', c', x0, x1, x2, hp⟩ := hR.2 at_ _ n ts hat
  obtain ⟨A'', c'', y2, hcc, hcm⟩ := hC at_ _ n ts hat
  rw [x2] at y2
  obtain ⟨e1, _, e3⟩ := Value.slice.inj (Option.some.inj y2)
  subst e1 e3
  have hal : at_ < len := by have := (List.getElem?_eq_some_iff.1 hat).1; have := hR.1; omega
  have a0 : (0 : Int) ≤ (at_ : Int) := by omega
  have a1 : (at_ : Int) < (len : Int) := by omega
  have l1 : (len : Int) ≤ 1000 := by omega
  have w0 : (0 : Int) ≤ (nw : Int) := by omega
  have w1 : (nw : Int) ≤ 1000 := by have := hW.1; omega
  have w2 : (nw : Int) ≤ (cw : Int) := by have := hW.2.1; omega
  have w3 : (cw : Int) ≤ 9223372036854775807 := by have := hW.2.2.1; unfold maxLen at this; omega
  have hnw := hW.1
  obtain ⟨W1, hW1⟩ : ∃ W1, W1 = W.alloc (.cells #[.int .i64 3, .int .i64 n, .slice A' ts.length c'] 62) := ⟨_, rfl⟩
  have hb1 : Below W.heap.size W W1 := by rw [hW1]; exact (Below.refl _ _).alloc (Nat.le_refl _) _
  have hF1 : Fb W1 W.heap.size 62 #[.int .i64 3, .int .i64 n, .slice A' ts.length c'] := by rw [hW1]; exact Fb.new _ _ _
  have HB1 := Lib.hid hb1
  have HB9 := Lib.hid (show Below W.heap.size W (W.alloc (.cells #[.int .i64 3, .int .i64 n, .slice A' ts.length c'] 62)) from by rw [← hW1]; exact hb1)
  obtain ⟨g', hA, hS⟩ := rws_of hp hts
  subst hA
  have hb' : b = true ↔ ∃ t ∈ ts, lang t ws := (hb.trans (lang_alt ws)).trans (altl_iff ts ws)
  have HQ := Lib.hid (fun (w : World) (hb : Below W1.heap.size W1 w) => (⟨(hF1.below hb).cell 0, (hF1.below hb).cell 2⟩ : w.cell? ⟨W.heap.size, 0, none⟩ = some (.int .i64 3) ∧ w.cell? ⟨W.heap.size, 2, none⟩ = some (.slice (some ⟨g', 0, none⟩) ts.length c')))
  have HT := Lib.hid (fun (w : World) (hb : Below W1.heap.size W1 w) (j : Nat) (t : PT) (hj : ts[j]? = some t) (b : Bool) (hb' : b = true ↔ lang t ws) => (by
    obtain ⟨q, h1, h2⟩ := (hS.below (HB1.out.trans (hb.mono HB1.out.size))) j t hj
    rw [Nat.zero_add] at h1
    exact ⟨q, h1, hT t (List.mem_of_getElem? hj) w q A nw cw ws b (hR.below (HB1.out.trans (hb.mono HB1.out.size))) (hC.below (HB1.out.trans (hb.mono HB1.out.size))) h2 (hW.below (HB1.out.trans (hb.mono HB1.out.size))) hwN hb'⟩ : ∃ q : Nat, w.cell? ⟨g', j, none⟩ = some (.int .i64 (q : Int)) ∧ Calls Try.prog 16 #[.slice (some ⟨g, 0, none⟩) len c, .int .i64 (q : Int), .slice A nw cw] w (BqR w b)))
  obtain ⟨mt, hmt⟩ : ∃ mt, mt = ts.length := ⟨_, rfl⟩
  rw [← hmt] at x2 hW1 HB9 HQ
  have mt0 : (0 : Int) ≤ (mt : Int) := by omega
  have mt1 : (mt : Int) ≤ 1000 := by omega
  have HMt := Lib.hid hmt
  have HBb := Lib.hid hb'
  have HW1 := Lib.hid hW1
  clear hR hC hat hW hws htl hb hp hcc hcm hal hnw hb1 hF1 hS y2 hmt hW1 hT hts hwN hb'
  go_enter Try.func16, Try.ntmps16
  go_wp2
  rw [← HW1.out]
  clear HW1
  go_loopg [46] ts.length (fun gk s46 wr => RaR W1 ts ws gk s46 wr)
  case atStart => exact ⟨0, by omega, rfl, fun i t h => by omega, Below.refl _ _⟩
  case round =>
    obtain ⟨j, hj, rfl, hno, hbw⟩ := hrel
    have HBx := Lib.hid hbw
    have hmm := HMt.out
    have j0 : (0 : Int) ≤ (j : Int) := by omega
    by_cases hjm : j < mt
    · obtain ⟨t, ht⟩ : ∃ t, ts[j]? = some t := ⟨_, List.getElem?_eq_getElem (by omega)⟩
      obtain ⟨bt, hbt⟩ := bool_ofR (lang t ws)
      obtain ⟨q, z0, cT⟩ := HT.out wr hbw j t ht bt hbt
      obtain ⟨z1, z2⟩ := HQ.out wr hbw
      have j1 : (j : Int) < (mt : Int) := by omega
      have HJ := Lib.hid (And.intro hj hjm)
      cases bt with
      | true =>
        have HE := Lib.hid (show b = true from HBb.out.2 ⟨t, List.mem_of_getElem? ht, hbt.1 rfl⟩)
        clear hj hno hbw hmm hjm ht hbt
        go_wp2_with (go_at_call 16; (with_reducible refine cT.mono ?_); rintro e wn ⟨rfl, hbn⟩; have HBx := Lib.hid (HBx.out.trans (hbn.mono HBx.out.size)); clear hbn)
        go_ret
        exact ⟨by rw [HE.out]; rfl, HB1.out.trans (HBx.out.mono HB1.out.size)⟩
      | false =>
        have HE := Lib.hid (show ∀ (i : Nat) (t : PT), i < j + 1 → ts[i]? = some t → ¬ lang t ws from fun i u h1 h2 => by
          rcases Nat.lt_or_ge i j with h3 | h3
          · exact hno i u h3 h2
          · have : i = j := by omega
            subst this
            rw [ht] at h2
            injection h2 with h2
            subst h2
            exact fun h => by have := hbt.2 h; cases this)
        clear hj hno hbw hmm hjm ht hbt
        go_wp2_with (go_at_call 16; (with_reducible refine cT.mono ?_); rintro e wn ⟨rfl, hbn⟩; have HBx := Lib.hid (HBx.out.trans (hbn.mono HBx.out.size)); clear hbn)
        go_roundg (ts.length - (j + 1))
        case measure => have := HJ.out; have := HMt.out; omega
        case rel => exact ⟨j + 1, by have := HJ.out; have := HMt.out; omega, by rw [Int.natCast_add]; rfl, HE.out, HBx.out⟩
    · have j1 : ¬ ((j : Int) < (mt : Int)) := by omega
      have HE := Lib.hid (show b = false from by
        cases hbb : b with
        | false => rfl
        | true =>
          obtain ⟨t, ht, hl⟩ := HBb.out.1 hbb
          obtain ⟨i, hi, hti⟩ := List.mem_iff_getElem.1 ht
          exact absurd hl (hno i t (by omega) (by rw [List.getElem?_eq_getElem hi, hti])))
      clear hj hno hbw hmm hjm
      go_wp2
      go_ret
      exact ⟨by rw [HE.out]; rfl, HB1.out.trans (HBx.out.mono HB1.out.size)⟩
set_option pp.deepTerms true in
set_option pp.maxSteps 1000000 in
set_option maxHeartbeats 64000000 in
theorem rt_opt {g len c : Nat} {T : List PT} (hlen : len ≤ 1000) {n : Int} {p : PT} {W : World} {at_ : Nat} {A : Option Addr} {nw cw : Nat} {ws : List Sy} {b : Bool} (hR : Rf W g len T) (hC : RfC W g T) (hat : T[at_]? = some (.mk 6 n [p])) (hW : WdG W A nw cw ws) (hws : ws.length ≤ 1000) (htl : [p].length ≤ 1000) (hb : b = true ↔ lang (.mk 6 n [p]) ws) {N : Nat} (hwN : ws.length ≤ N) (hT : RTk g len c T p N) :
    Calls Try.prog 16 #[.slice (some ⟨g, 0, none⟩) len c, .int .i64 (at_ : Int), .slice A nw cw] W (BqR W b) := by
  obtain ⟨A', c', x0, x1, x2, hp⟩ := hR.2 at_ _ n [p] hat
  obtain ⟨A'', c'', y2, hcc, hcm⟩ := hC at_ _ n [p] hat
  rw [x2] at y2
  obtain ⟨e1, _, e3⟩ := Value.slice.inj (Option.some.inj y2)
  subst e1 e3
  have hal : at_ < len := by have := (List.getElem?_eq_some_iff.1 hat).1; have := hR.1; omega
  have a0 : (0 : Int) ≤ (at_ : Int) := by omega
  have a1 : (at_ : Int) < (len : Int) := by omega
  have l1 : (len : Int) ≤ 1000 := by omega
  have w0 : (0 : Int) ≤ (nw : Int) := by omega
  have w1 : (nw : Int) ≤ 1000 := by have := hW.1; omega
  have w2 : (nw : Int) ≤ (cw : Int) := by have := hW.2.1; omega
  have w3 : (cw : Int) ≤ 9223372036854775807 := by have := hW.2.2.1; unfold maxLen at this; omega
  have hnw := hW.1
  obtain ⟨W1, hW1⟩ : ∃ W1, W1 = W.alloc (.cells #[.int .i64 6, .int .i64 n, .slice A' [p].length c'] 62) := ⟨_, rfl⟩
  have hb1 : Below W.heap.size W W1 := by rw [hW1]; exact (Below.refl _ _).alloc (Nat.le_refl _) _
  have hF1 : Fb W1 W.heap.size 62 #[.int .i64 6, .int .i64 n, .slice A' [p].length c'] := by rw [hW1]; exact Fb.new _ _ _
  have HB1 := Lib.hid hb1
  have HB9 := Lib.hid (show Below W.heap.size W (W.alloc (.cells #[.int .i64 6, .int .i64 n, .slice A' [p].length c'] 62)) from by rw [← hW1]; exact hb1)
  obtain ⟨g', hA, hS⟩ := rws_of hp (by simp)
  subst hA
  obtain ⟨q0, z0, hq0⟩ := hS 0 p rfl
  rw [Nat.add_zero] at z0
  have HQ := Lib.hid (fun (w : World) (hb : Below W1.heap.size W1 w) => (⟨(hF1.below hb).cell 0, (hF1.below hb).cell 2, cell_below z0 (HB1.out.trans (hb.mono HB1.out.size))⟩ : w.cell? ⟨W.heap.size, 0, none⟩ = some (.int .i64 6) ∧ w.cell? ⟨W.heap.size, 2, none⟩ = some (.slice (some ⟨g', 0, none⟩) 1 c') ∧ w.cell? ⟨g', 0, none⟩ = some (.int .i64 (q0 : Int))))
  have HT := Lib.hid (fun (w : World) (hb : Below W1.heap.size W1 w) (A1 : Option Addr) (n1 c1 : Nat) (v : List Sy) (b : Bool) (h1 : WdG w A1 n1 c1 v) (h2 : v.length ≤ N) (hb' : b = true ↔ lang p v) => hT w q0 A1 n1 c1 v b (hR.below (HB1.out.trans (hb.mono HB1.out.size))) (hC.below (HB1.out.trans (hb.mono HB1.out.size))) hq0 h1 h2 hb')
  have HWw := Lib.hid (fun (w : World) (hb : Below W1.heap.size W1 w) => hW.below (HB1.out.trans (hb.mono HB1.out.size)))
  have x2' : W.cell? ⟨g, at_ * 3 + 2, none⟩ = some (.slice (some ⟨g', 0, none⟩) 1 c') := x2
  have hW1' : W1 = W.alloc (.cells #[.int .i64 6, .int .i64 n, .slice (some ⟨g', 0, none⟩) 1 c'] 62) := hW1
  have hone : (1 : Int) ≤ (c' : Int) := by simp at hcc; omega
  have hzo : (0 : Int) < (1 : Int) := by omega
  have hb' : b = true ↔ ws = [] ∨ lang p ws := hb.trans (lang_again (.inr (.inr rfl)) ws)
  by_cases hw0 : nw = 0
  · have HE := Lib.hid (show b = true from hb'.2 (.inl (List.length_eq_zero_iff.1 (by omega))))
    have HW1 := Lib.hid hW1'
    clear hR hC hat hW hws htl hb hp hcc hcm hal hnw hb1 hF1 hS y2 hW1 hW1' hT hwN hb' x2 z0 hq0
    subst hw0
    go_enter Try.func16, Try.ntmps16
    go_wp2
    go_ret
    exact ⟨by rw [HE.out]; rfl, HB9.out⟩
  · have z : ((nw : Int) == 0) = false := by rw [beq_eq_false_iff_ne]; omega
    have z' : (nw == 0) = false := by rw [beq_eq_false_iff_ne]; exact hw0
    have hb2 : b = true ↔ lang p ws := hb'.trans ⟨fun h => h.resolve_left (fun e => by rw [e] at hnw; exact hw0 hnw), .inr⟩
    have cT := HT.out W1 (Below.refl _ _) A nw cw ws b (HWw.out W1 (Below.refl _ _)) hwN hb2
    obtain ⟨k0, k1, k2⟩ := HQ.out W1 (Below.refl _ _)
    rw [hW1'] at cT k0 k1 k2
    clear hR hC hat hW hws htl hb hp hcc hcm hal hnw hb1 hF1 hS y2 hW1 hW1' hT hwN hb' x2 z0 hq0 hw0 hb2
    go_enter Try.func16, Try.ntmps16
    go_wp2_with (go_at_call 16; (with_reducible refine cT.mono ?_); rintro e wn ⟨rfl, hbn⟩; have HBx := Lib.hid (HB9.out.trans (hbn.mono HB9.out.size)); clear hbn)
    go_ret
    exact ⟨rfl, HBx.out⟩
set_option pp.deepTerms true in
set_option pp.maxSteps 1000000 in
set_option maxHeartbeats 64000000 in
theorem rt_again4 {g len c : Nat} {T : List PT} (hlen : len ≤ 1000) {n : Int} {p : PT} {W : World} {at_ : Nat} {A : Option Addr} {nw cw : Nat} {ws : List Sy} {b : Bool} (hR : Rf W g len T) (hC : RfC W g T) (hat : T[at_]? = some (.mk 4 n [p])) (hW : WdG W A nw cw ws) (hws : ws.length ≤ 1000) (htl : [p].length ≤ 1000) (hb : b = true ↔ lang (.mk 4 n [p]) ws) {N : Nat} (hN : N ≤ 1000) (hwN : ws.length ≤ N) (hT : RTk g len c T p N) (hS2 : ∀ M, M < N → RTk g len c T (.mk 4 n [p]) M) :
    Calls Try.prog 16 #[.slice (some ⟨g, 0, none⟩) len c, .int .i64 (at_ : Int), .slice A nw cw] W (BqR W b) := by
  obtain ⟨A', c', x0, x1, x2, hp⟩ := hR.2 at_ _ n [p] hat
  obtain ⟨A'', c'', y2, hcc, hcm⟩ := hC at_ _ n [p] hat
  rw [x2] at y2
  obtain ⟨e1, _, e3⟩ := Value.slice.inj (Option.some.inj y2)
  subst e1 e3
  have hal : at_ < len := by have := (List.getElem?_eq_some_iff.1 hat).1; have := hR.1; omega
  have a0 : (0 : Int) ≤ (at_ : Int) := by omega
  have a1 : (at_ : Int) < (len : Int) := by omega
  have l1 : (len : Int) ≤ 1000 := by omega
  have w0 : (0 : Int) ≤ (nw : Int) := by omega
  have w1 : (nw : Int) ≤ 1000 := by have := hW.1; omega
  have w2 : (nw : Int) ≤ (cw : Int) := by have := hW.2.1; omega
  have w3 : (cw : Int) ≤ 9223372036854775807 := by have := hW.2.2.1; unfold maxLen at this; omega
  have hnw := hW.1
  obtain ⟨W1, hW1⟩ : ∃ W1, W1 = W.alloc (.cells #[.int .i64 4, .int .i64 n, .slice A' [p].length c'] 62) := ⟨_, rfl⟩
  have hb1 : Below W.heap.size W W1 := by rw [hW1]; exact (Below.refl _ _).alloc (Nat.le_refl _) _
  have hF1 : Fb W1 W.heap.size 62 #[.int .i64 4, .int .i64 n, .slice A' [p].length c'] := by rw [hW1]; exact Fb.new _ _ _
  have HB1 := Lib.hid hb1
  have HB9 := Lib.hid (show Below W.heap.size W (W.alloc (.cells #[.int .i64 4, .int .i64 n, .slice A' [p].length c'] 62)) from by rw [← hW1]; exact hb1)
  obtain ⟨g', hA, hS⟩ := rws_of hp (by simp)
  subst hA
  obtain ⟨q0, z0, hq0⟩ := hS 0 p rfl
  rw [Nat.add_zero] at z0
  have HQ := Lib.hid (fun (w : World) (hb : Below W1.heap.size W1 w) => (⟨(hF1.below hb).cell 0, (hF1.below hb).cell 2, cell_below z0 (HB1.out.trans (hb.mono HB1.out.size))⟩ : w.cell? ⟨W.heap.size, 0, none⟩ = some (.int .i64 4) ∧ w.cell? ⟨W.heap.size, 2, none⟩ = some (.slice (some ⟨g', 0, none⟩) 1 c') ∧ w.cell? ⟨g', 0, none⟩ = some (.int .i64 (q0 : Int))))
  have HT := Lib.hid (fun (w : World) (hb : Below W1.heap.size W1 w) (A1 : Option Addr) (n1 c1 : Nat) (v : List Sy) (b : Bool) (h1 : WdG w A1 n1 c1 v) (h2 : v.length ≤ N) (hb' : b = true ↔ lang p v) => hT w q0 A1 n1 c1 v b (hR.below (HB1.out.trans (hb.mono HB1.out.size))) (hC.below (HB1.out.trans (hb.mono HB1.out.size))) hq0 h1 h2 hb')
  have HWw := Lib.hid (fun (w : World) (hb : Below W1.heap.size W1 w) => hW.below (HB1.out.trans (hb.mono HB1.out.size)))
  have x2' : W.cell? ⟨g, at_ * 3 + 2, none⟩ = some (.slice (some ⟨g', 0, none⟩) 1 c') := x2
  have hW1' : W1 = W.alloc (.cells #[.int .i64 4, .int .i64 n, .slice (some ⟨g', 0, none⟩) 1 c'] 62) := hW1
  have hone : (1 : Int) ≤ (c' : Int) := by simp at hcc; omega
  have hzo : (0 : Int) < (1 : Int) := by omega
  have hX : ∀ v, lang (.mk 4 n [p]) v ↔ StarL (lang p) v := fun v => lang_again (.inl rfl) v
  have hb' : b = true ↔ StarL (lang p) ws := hb.trans (hX ws)
  by_cases hw0 : nw = 0
  · have hws0 : ws = [] := List.length_eq_zero_iff.1 (by omega)
    have HE := Lib.hid (show b = true from hb'.2 (by rw [hws0]; exact StarL.nil))
    clear hR hC hat hW hws htl hb hp hcc hcm hal hnw hb1 hF1 hS y2 hW1 hW1' hT hwN hb' x2 z0 hq0 hS2 hX hws0
    subst hw0
    go_enter Try.func16, Try.ntmps16
    go_wp2
    go_ret
    exact ⟨by rw [HE.out]; rfl, HB9.out⟩
  · have z : ((nw : Int) == 0) = false := by rw [beq_eq_false_iff_ne]; omega
    have z' : (nw == 0) = false := by rw [beq_eq_false_iff_ne]; exact hw0
    have hwne : ws ≠ [] := fun e => by rw [e] at hnw; exact hw0 hnw
    obtain ⟨gw, ow, hA2⟩ : ∃ gw ow, A = some ⟨gw, ow, none⟩ := by
      rcases hW.2.2.2 with ⟨_, e⟩ | ⟨gw, ow, e, _⟩
      · have := hW.2.1; omega
      · exact ⟨gw, ow, e⟩
    subst hA2
    have HBb := Lib.hid (show b = true ↔ ∃ k, 1 ≤ k ∧ k ≤ ws.length ∧ lang p (ws.take k) ∧ (k = ws.length ∨ StarL (lang p) (ws.drop k)) from hb'.trans (star_step hwne))
    have HS2 := Lib.hid (fun (w : World) (hb : Below W1.heap.size W1 w) (A1 : Option Addr) (n1 c1 : Nat) (v : List Sy) (b : Bool) (h1 : WdG w A1 n1 c1 v) (h2 : v.length ≤ N - 1) (h3 : 1 ≤ N) (hb' : b = true ↔ StarL (lang p) v) => hS2 (N - 1) (by omega) w at_ A1 n1 c1 v b (hR.below (HB1.out.trans (hb.mono HB1.out.size))) (hC.below (HB1.out.trans (hb.mono HB1.out.size))) hat h1 h2 (hb'.trans (hX v).symm))
    have HN := Lib.hid (And.intro hnw (And.intro hwN hN))
    have HW1 := Lib.hid hW1'
    have w4 : (1 : Int) ≤ (nw : Int) := by omega
    clear hR hC hat hW hws htl hb hp hcc hcm hal hnw hb1 hF1 hS y2 hW1 hW1' hT hwN hb' x2 z0 hq0 hS2 hX hwne hw0
    go_enter Try.func16, Try.ntmps16
    go_wp2
    rw [← HW1.out]
    clear HW1
    go_loopg [9] ws.length (fun gk s9 wr => PtR W1 (lang p) (fun v => v = [] ∨ StarL (lang p) v) ws 1 gk s9 wr)
    case atStart => exact ⟨1, Nat.le_refl _, by omega, rfl, fun i h1 h2 => by omega, Below.refl _ _⟩
    case round =>
      obtain ⟨k, hk1, hk, rfl, hno, hbw⟩ := hrel
      have HBx := Lib.hid hbw
      have k0 : (0 : Int) ≤ (k : Int) := by omega
      have k9 : (k : Int) ≤ 2000 := by have := HN.out; omega
      by_cases hkn : k ≤ nw
      · have kn : (k : Int) ≤ (nw : Int) := by omega
        have kn' : decide ((k : Int) ≤ (nw : Int)) = true := decide_eq_true kn
        have kn'' : decide (k ≤ nw) = true := decide_eq_true hkn
        have kc : (k : Int) ≤ (cw : Int) := by omega
        have HK := Lib.hid (show 1 ≤ k ∧ k + gk = ws.length + 1 ∧ k ≤ ws.length from ⟨hk1, hk, by have := HN.out; omega⟩)
        obtain ⟨bp, hbp⟩ := bool_ofR (lang p (ws.take k))
        have CP := Lib.hid (fun (w : World) (hb : Below W1.heap.size W1 w) => HT.out w hb (some ⟨gw, ow, none⟩) k cw (ws.take k) bp ((HWw.out w hb).pre hkn) (by rw [List.length_take]; have := HN.out; omega) hbp)
        have HP := Lib.hid hbp
        clear hk hbw hbp hk1
        cases bp with
        | false =>
          have HNo := Lib.hid (pt_no (Y := fun v => v = [] ∨ StarL (lang p) v) hno (fun h => by have := HP.out.2 h.1; cases this))
          clear hno hkn
          go_wp2
          refine wp_region_noPanic ?_
          refine wp_region_held_drew (S := (fun w => w.cell? ⟨W.heap.size, 2, none⟩ = some (.slice (some ⟨g', 0, none⟩) 1 c') ∧ w.cell? ⟨g', 0, none⟩ = some (.int .i64 (q0 : Int)))) (by kernel_rfl) (HQ.out _ HBx.out.drew).2 (fun hHeld => ?_)
          refine wpAnyH_take (i := 0) (oi := { dst := some 93, op := Go.Op.move (Go.Operand.tmp 0), type := 25, pos := "ref.go:40", after := #[], guard := none }) (v := ?_) rfl (by kernel_rfl) (by kernel_rfl) (by kernel_rfl) (fun _ _ _ h => h) (Or.inl ⟨by rfl, ?_⟩) (by assumption) ?_
          rotate_left
          · (intro w hSw; (try dsimp only at hSw); go_simp; try with_reducible rfl)
          try simp only [Act.put, List.setIfInBounds_toArray, List.set_cons_zero, List.set_cons_succ]
          refine wpAnyH_take (i := 1) (oi := { dst := some 94, op := Go.Op.fieldAddr 62 (Go.Operand.tmp 7) 2, type := 0, pos := "ref.go:40", after := #[], guard := none }) (v := ?_) rfl (by kernel_rfl) (by kernel_rfl) (by kernel_rfl) (fun _ _ _ h => h) (Or.inl ⟨by rfl, ?_⟩) (by assumption) ?_
          rotate_left
          · (intro w hSw; (try dsimp only at hSw); go_simp; try with_reducible rfl)
          try simp only [Act.put, List.setIfInBounds_toArray, List.set_cons_zero, List.set_cons_succ]
          refine wpAnyH_take (i := 2) (oi := { dst := some 95, op := Go.Op.load 51 (Go.Operand.tmp 94), type := 51, pos := "ref.go:40", after := #[{ on := 1, ground := Go.Ground.data }], guard := none }) (v := ?_) rfl (by kernel_rfl) (by kernel_rfl) (by kernel_rfl) (fun _ _ _ h => h) (Or.inl ⟨by rfl, ?_⟩) (by assumption) ?_
          rotate_left
          · (intro w hSw; (try dsimp only at hSw); go_simp; try with_reducible rfl)
          try simp only [Act.put, List.setIfInBounds_toArray, List.set_cons_zero, List.set_cons_succ]
          refine wpAnyH_take (i := 3) (oi := { dst := some 96, op := Go.Op.indexAddr 51 (Go.Operand.tmp 95) (Go.Operand.const (Go.Value.int Go.IntKind.i64 0)), type := 0, pos := "ref.go:40", after := #[{ on := 2, ground := Go.Ground.data }], guard := none }) (v := ?_) rfl (by kernel_rfl) (by kernel_rfl) (by kernel_rfl) (fun _ _ _ h => h) (Or.inl ⟨by rfl, ?_⟩) (by assumption) ?_
          rotate_left
          · (intro w hSw; (try dsimp only at hSw); go_simp; try with_reducible rfl)
          try simp only [Act.put, List.setIfInBounds_toArray, List.set_cons_zero, List.set_cons_succ]
          refine wpAnyH_take (i := 4) (oi := { dst := some 97, op := Go.Op.load 3 (Go.Operand.tmp 96), type := 3, pos := "ref.go:40", after := #[{ on := 3, ground := Go.Ground.data }], guard := none }) (v := ?_) rfl (by kernel_rfl) (by kernel_rfl) (by kernel_rfl) (fun _ _ _ h => h) (Or.inl ⟨by rfl, ?_⟩) (by assumption) ?_
          rotate_left
          · (intro w hSw; (try dsimp only at hSw); go_simp; try with_reducible rfl)
          try simp only [Act.put, List.setIfInBounds_toArray, List.set_cons_zero, List.set_cons_succ]
          refine wpAnyH_take (i := 5) (oi := { dst := some 98, op := Go.Op.move (Go.Operand.tmp 2), type := 37, pos := "ref.go:40", after := #[], guard := none }) (v := ?_) rfl (by kernel_rfl) (by kernel_rfl) (by kernel_rfl) (fun _ _ _ h => h) (Or.inl ⟨by rfl, ?_⟩) (by assumption) ?_
          rotate_left
          · (intro w hSw; (try dsimp only at hSw); go_simp; try with_reducible rfl)
          try simp only [Act.put, List.setIfInBounds_toArray, List.set_cons_zero, List.set_cons_succ]
          refine wpAnyH_take (i := 6) (oi := { dst := some 99, op := Go.Op.move (Go.Operand.tmp 9), type := 3, pos := "ref.go:40", after := #[], guard := none }) (v := ?_) rfl (by kernel_rfl) (by kernel_rfl) (by kernel_rfl) (fun _ _ _ h => h) (Or.inl ⟨by rfl, ?_⟩) (by assumption) ?_
          rotate_left
          · (intro w hSw; (try dsimp only at hSw); go_simp; try with_reducible rfl)
          try simp only [Act.put, List.setIfInBounds_toArray, List.set_cons_zero, List.set_cons_succ]
          refine wpAnyH_take (i := 7) (oi := { dst := some 100, op := Go.Op.slice 37 (Go.Operand.tmp 98) none (some (Go.Operand.tmp 99)) none, type := 37, pos := "ref.go:40", after := #[{ on := 5, ground := Go.Ground.data }, { on := 6, ground := Go.Ground.data }], guard := none }) (v := ?_) rfl (by kernel_rfl) (by kernel_rfl) (by kernel_rfl) (fun _ _ _ h => h) (Or.inl ⟨by rfl, ?_⟩) (by assumption) ?_
          rotate_left
          · (intro w hSw; (try dsimp only at hSw); go_simp; try with_reducible rfl)
          try simp only [Act.put, List.setIfInBounds_toArray, List.set_cons_zero, List.set_cons_succ]
          refine wpAnyH_ready (rs := [8]) (by kernel_rfl) (by simp) ?_
          refine AllReadyH.cons (o := { dst := some 101, op := Go.Op.call { callee := Go.Callee.value (Go.Operand.func 16), args := #[Go.Operand.tmp 93, Go.Operand.tmp 97, Go.Operand.tmp 100], argTypes := #[25, 3, 37] }, type := 4, pos := "ref.go:40", after := #[{ on := 0, ground := Go.Ground.data }, { on := 4, ground := Go.Ground.data }, { on := 7, ground := Go.Ground.data }], guard := none }) rfl (fun K' hS' => ?_) AllReadyH.nil
          go_simp
          go_at_call 16
          (with_reducible refine (CP.out _ HBx.out.drew).mono ?_)
          rintro e wn ⟨rfl, hbwn⟩
          have HBx : Hid (Below W1.heap.size W1 wn) := Lib.hid (HBx.out.drew.trans (hbwn.mono HBx.out.size))
          clear hbwn
          (try go_wp2_with fail)
          refine hS'.out _ _ ((HQ.out _ HBx.out).2) (fun hHeld => ?_)
          clear hS' K'
          try simp only [Act.put, List.setIfInBounds_toArray, List.set_cons_zero, List.set_cons_succ]
          refine wpAnyH_take (i := 9) (oi := { dst := some 102, op := Go.Op.move (Go.Operand.tmp 101), type := 4, pos := "ref.go:40", after := #[{ on := 8, ground := Go.Ground.data }, { on := 8, ground := Go.Ground.chain }], guard := none }) (v := ?_) rfl (by kernel_rfl) (by kernel_rfl) (by kernel_rfl) (fun _ _ _ h => h) (Or.inl ⟨by rfl, ?_⟩) (by assumption) ?_
          rotate_left
          · (intro w hSw; (try dsimp only at hSw); go_simp; try with_reducible rfl)
          try simp only [Act.put, List.setIfInBounds_toArray, List.set_cons_zero, List.set_cons_succ]
          refine wpAnyH_take (i := 10) (oi := { dst := some 103, op := Go.Op.move (Go.Operand.tmp 9), type := 3, pos := "ref.go:40", after := #[{ on := 9, ground := Go.Ground.guard }], guard := some (9, true) }) (v := undef) rfl (by kernel_rfl) (by kernel_rfl) (by kernel_rfl) (fun _ _ _ h => h) (Or.inr ⟨by rfl, rfl⟩) (by assumption) ?_
          try simp only [Act.put, List.setIfInBounds_toArray, List.set_cons_zero, List.set_cons_succ]
          refine wpAnyH_take (i := 11) (oi := { dst := some 104, op := Go.Op.move (Go.Operand.tmp 2), type := 37, pos := "ref.go:40", after := #[{ on := 9, ground := Go.Ground.guard }], guard := some (9, true) }) (v := undef) rfl (by kernel_rfl) (by kernel_rfl) (by kernel_rfl) (fun _ _ _ h => h) (Or.inr ⟨by rfl, rfl⟩) (by assumption) ?_
          try simp only [Act.put, List.setIfInBounds_toArray, List.set_cons_zero, List.set_cons_succ]
          refine wpAnyH_take (i := 12) (oi := { dst := some 105, op := Go.Op.call { callee := Go.Callee.builtin Go.Builtin.len, args := #[Go.Operand.tmp 104], argTypes := #[37] }, type := 3, pos := "ref.go:40", after := #[{ on := 11, ground := Go.Ground.data }, { on := 9, ground := Go.Ground.guard }], guard := some (9, true) }) (v := undef) rfl (by kernel_rfl) (by kernel_rfl) (by kernel_rfl) (fun _ _ _ h => h) (Or.inr ⟨by rfl, rfl⟩) (by assumption) ?_
          try simp only [Act.put, List.setIfInBounds_toArray, List.set_cons_zero, List.set_cons_succ]
          refine wpAnyH_take (i := 13) (oi := { dst := some 106, op := Go.Op.binOp Go.BinOp.eql 3 (Go.Operand.tmp 103) (Go.Operand.tmp 105) 3, type := 4, pos := "ref.go:40", after := #[{ on := 10, ground := Go.Ground.data }, { on := 12, ground := Go.Ground.data }, { on := 9, ground := Go.Ground.guard }], guard := some (9, true) }) (v := undef) rfl (by kernel_rfl) (by kernel_rfl) (by kernel_rfl) (fun _ _ _ h => h) (Or.inr ⟨by rfl, rfl⟩) (by assumption) ?_
          try simp only [Act.put, List.setIfInBounds_toArray, List.set_cons_zero, List.set_cons_succ]
          refine wpAnyH_take (i := 14) (oi := { dst := some 107, op := Go.Op.move (Go.Operand.tmp 106), type := 4, pos := "ref.go:40", after := #[{ on := 13, ground := Go.Ground.data }, { on := 9, ground := Go.Ground.chain }, { on := 9, ground := Go.Ground.guard }], guard := some (9, true) }) (v := undef) rfl (by kernel_rfl) (by kernel_rfl) (by kernel_rfl) (fun _ _ _ h => h) (Or.inr ⟨by rfl, rfl⟩) (by assumption) ?_
          try simp only [Act.put, List.setIfInBounds_toArray, List.set_cons_zero, List.set_cons_succ]
          refine wpAnyH_take (i := 15) (oi := { dst := some 108, op := Go.Op.move (Go.Operand.tmp 0), type := 25, pos := "ref.go:40", after := #[{ on := 14, ground := Go.Ground.guard }], guard := some (14, false) }) (v := undef) rfl (by kernel_rfl) (by kernel_rfl) (by kernel_rfl) (fun _ _ _ h => h) (Or.inr ⟨by rfl, rfl⟩) (by assumption) ?_
          try simp only [Act.put, List.setIfInBounds_toArray, List.set_cons_zero, List.set_cons_succ]
          refine wpAnyH_take (i := 16) (oi := { dst := some 109, op := Go.Op.move (Go.Operand.tmp 1), type := 3, pos := "ref.go:40", after := #[{ on := 14, ground := Go.Ground.guard }], guard := some (14, false) }) (v := undef) rfl (by kernel_rfl) (by kernel_rfl) (by kernel_rfl) (fun _ _ _ h => h) (Or.inr ⟨by rfl, rfl⟩) (by assumption) ?_
          try simp only [Act.put, List.setIfInBounds_toArray, List.set_cons_zero, List.set_cons_succ]
          refine wpAnyH_take (i := 17) (oi := { dst := some 110, op := Go.Op.move (Go.Operand.tmp 2), type := 37, pos := "ref.go:40", after := #[{ on := 14, ground := Go.Ground.guard }], guard := some (14, false) }) (v := undef) rfl (by kernel_rfl) (by kernel_rfl) (by kernel_rfl) (fun _ _ _ h => h) (Or.inr ⟨by rfl, rfl⟩) (by assumption) ?_
          try simp only [Act.put, List.setIfInBounds_toArray, List.set_cons_zero, List.set_cons_succ]
          refine wpAnyH_take (i := 18) (oi := { dst := some 111, op := Go.Op.move (Go.Operand.tmp 9), type := 3, pos := "ref.go:40", after := #[{ on := 14, ground := Go.Ground.guard }], guard := some (14, false) }) (v := undef) rfl (by kernel_rfl) (by kernel_rfl) (by kernel_rfl) (fun _ _ _ h => h) (Or.inr ⟨by rfl, rfl⟩) (by assumption) ?_
          try simp only [Act.put, List.setIfInBounds_toArray, List.set_cons_zero, List.set_cons_succ]
          refine wpAnyH_take (i := 19) (oi := { dst := some 112, op := Go.Op.slice 37 (Go.Operand.tmp 110) (some (Go.Operand.tmp 111)) none none, type := 37, pos := "ref.go:40", after := #[{ on := 17, ground := Go.Ground.data }, { on := 18, ground := Go.Ground.data }, { on := 14, ground := Go.Ground.guard }], guard := some (14, false) }) (v := undef) rfl (by kernel_rfl) (by kernel_rfl) (by kernel_rfl) (fun _ _ _ h => h) (Or.inr ⟨by rfl, rfl⟩) (by assumption) ?_
          try simp only [Act.put, List.setIfInBounds_toArray, List.set_cons_zero, List.set_cons_succ]
          refine wpAnyH_take (i := 20) (oi := { dst := some 113, op := Go.Op.call { callee := Go.Callee.value (Go.Operand.func 16), args := #[Go.Operand.tmp 108, Go.Operand.tmp 109, Go.Operand.tmp 112], argTypes := #[25, 3, 37] }, type := 4, pos := "ref.go:40", after := #[{ on := 15, ground := Go.Ground.data }, { on := 16, ground := Go.Ground.data }, { on := 19, ground := Go.Ground.data }, { on := 14, ground := Go.Ground.chain }, { on := 14, ground := Go.Ground.guard }], guard := some (14, false) }) (v := undef) rfl (by kernel_rfl) (by kernel_rfl) (by kernel_rfl) (fun _ _ _ h => h) (Or.inr ⟨by rfl, rfl⟩) (by assumption) ?_
          try simp only [Act.put, List.setIfInBounds_toArray, List.set_cons_zero, List.set_cons_succ]
          refine wpAnyH_take (i := 21) (oi := { dst := some 114, op := Go.Op.pick (Go.Operand.tmp 107) (Go.Operand.const (Go.Value.bool true)) (Go.Operand.tmp 113), type := 4, pos := "ref.go:40", after := #[{ on := 14, ground := Go.Ground.data }, { on := 20, ground := Go.Ground.data }, { on := 9, ground := Go.Ground.guard }], guard := some (9, true) }) (v := undef) rfl (by kernel_rfl) (by kernel_rfl) (by kernel_rfl) (fun _ _ _ h => h) (Or.inr ⟨by rfl, rfl⟩) (by assumption) ?_
          try simp only [Act.put, List.setIfInBounds_toArray, List.set_cons_zero, List.set_cons_succ]
          refine wpAnyH_take (i := 22) (oi := { dst := some 115, op := Go.Op.pick (Go.Operand.tmp 102) (Go.Operand.tmp 114) (Go.Operand.const (Go.Value.bool false)), type := 4, pos := "ref.go:40", after := #[{ on := 9, ground := Go.Ground.data }, { on := 21, ground := Go.Ground.data }], guard := none }) (v := ?_) rfl (by kernel_rfl) (by kernel_rfl) (by kernel_rfl) (fun _ _ _ h => h) (Or.inl ⟨by rfl, ?_⟩) (by assumption) ?_
          rotate_left
          · (intro w hSw; (try dsimp only at hSw); go_simp; try with_reducible rfl)
          try simp only [Act.put, List.setIfInBounds_toArray, List.set_cons_zero, List.set_cons_succ]
          refine wpAnyH_done (by kernel_rfl) ?_ _
          refine NoPanic.normal ?_
          go_wp2
          go_roundg (ws.length + 1 - (k + 1))
          case measure => have := HK.out; omega
          case rel => exact ⟨k + 1, by have := HK.out; omega, by have := HK.out; omega, by rw [Int.natCast_add]; rfl, HNo.out, HBx.out⟩
        | true =>
          by_cases hke : k = nw
          · have HYes := Lib.hid (show b = true from HBb.out.2 ⟨k, HK.out.1, HK.out.2.2, HP.out.1 rfl, .inl (by have := HN.out.1; omega)⟩)
            have ze : ((k : Int) == (nw : Int)) = true := by rw [beq_iff_eq]; omega
            have ze' : (k == nw) = true := by rw [beq_iff_eq]; exact hke
            clear hno hkn hke
            go_wp2
            refine wp_region_noPanic ?_
            refine wp_region_held_drew (S := (fun w => w.cell? ⟨W.heap.size, 2, none⟩ = some (.slice (some ⟨g', 0, none⟩) 1 c') ∧ w.cell? ⟨g', 0, none⟩ = some (.int .i64 (q0 : Int)))) (by kernel_rfl) (HQ.out _ HBx.out.drew).2 (fun hHeld => ?_)
            refine wpAnyH_take (i := 0) (oi := { dst := some 93, op := Go.Op.move (Go.Operand.tmp 0), type := 25, pos := "ref.go:40", after := #[], guard := none }) (v := ?_) rfl (by kernel_rfl) (by kernel_rfl) (by kernel_rfl) (fun _ _ _ h => h) (Or.inl ⟨by rfl, ?_⟩) (by assumption) ?_
            rotate_left
            · (intro w hSw; (try dsimp only at hSw); go_simp; try with_reducible rfl)
            try simp only [Act.put, List.setIfInBounds_toArray, List.set_cons_zero, List.set_cons_succ]
            refine wpAnyH_take (i := 1) (oi := { dst := some 94, op := Go.Op.fieldAddr 62 (Go.Operand.tmp 7) 2, type := 0, pos := "ref.go:40", after := #[], guard := none }) (v := ?_) rfl (by kernel_rfl) (by kernel_rfl) (by kernel_rfl) (fun _ _ _ h => h) (Or.inl ⟨by rfl, ?_⟩) (by assumption) ?_
            rotate_left
            · (intro w hSw; (try dsimp only at hSw); go_simp; try with_reducible rfl)
            try simp only [Act.put, List.setIfInBounds_toArray, List.set_cons_zero, List.set_cons_succ]
            refine wpAnyH_take (i := 2) (oi := { dst := some 95, op := Go.Op.load 51 (Go.Operand.tmp 94), type := 51, pos := "ref.go:40", after := #[{ on := 1, ground := Go.Ground.data }], guard := none }) (v := ?_) rfl (by kernel_rfl) (by kernel_rfl) (by kernel_rfl) (fun _ _ _ h => h) (Or.inl ⟨by rfl, ?_⟩) (by assumption) ?_
            rotate_left
            · (intro w hSw; (try dsimp only at hSw); go_simp; try with_reducible rfl)
            try simp only [Act.put, List.setIfInBounds_toArray, List.set_cons_zero, List.set_cons_succ]
            refine wpAnyH_take (i := 3) (oi := { dst := some 96, op := Go.Op.indexAddr 51 (Go.Operand.tmp 95) (Go.Operand.const (Go.Value.int Go.IntKind.i64 0)), type := 0, pos := "ref.go:40", after := #[{ on := 2, ground := Go.Ground.data }], guard := none }) (v := ?_) rfl (by kernel_rfl) (by kernel_rfl) (by kernel_rfl) (fun _ _ _ h => h) (Or.inl ⟨by rfl, ?_⟩) (by assumption) ?_
            rotate_left
            · (intro w hSw; (try dsimp only at hSw); go_simp; try with_reducible rfl)
            try simp only [Act.put, List.setIfInBounds_toArray, List.set_cons_zero, List.set_cons_succ]
            refine wpAnyH_take (i := 4) (oi := { dst := some 97, op := Go.Op.load 3 (Go.Operand.tmp 96), type := 3, pos := "ref.go:40", after := #[{ on := 3, ground := Go.Ground.data }], guard := none }) (v := ?_) rfl (by kernel_rfl) (by kernel_rfl) (by kernel_rfl) (fun _ _ _ h => h) (Or.inl ⟨by rfl, ?_⟩) (by assumption) ?_
            rotate_left
            · (intro w hSw; (try dsimp only at hSw); go_simp; try with_reducible rfl)
            try simp only [Act.put, List.setIfInBounds_toArray, List.set_cons_zero, List.set_cons_succ]
            refine wpAnyH_take (i := 5) (oi := { dst := some 98, op := Go.Op.move (Go.Operand.tmp 2), type := 37, pos := "ref.go:40", after := #[], guard := none }) (v := ?_) rfl (by kernel_rfl) (by kernel_rfl) (by kernel_rfl) (fun _ _ _ h => h) (Or.inl ⟨by rfl, ?_⟩) (by assumption) ?_
            rotate_left
            · (intro w hSw; (try dsimp only at hSw); go_simp; try with_reducible rfl)
            try simp only [Act.put, List.setIfInBounds_toArray, List.set_cons_zero, List.set_cons_succ]
            refine wpAnyH_take (i := 6) (oi := { dst := some 99, op := Go.Op.move (Go.Operand.tmp 9), type := 3, pos := "ref.go:40", after := #[], guard := none }) (v := ?_) rfl (by kernel_rfl) (by kernel_rfl) (by kernel_rfl) (fun _ _ _ h => h) (Or.inl ⟨by rfl, ?_⟩) (by assumption) ?_
            rotate_left
            · (intro w hSw; (try dsimp only at hSw); go_simp; try with_reducible rfl)
            try simp only [Act.put, List.setIfInBounds_toArray, List.set_cons_zero, List.set_cons_succ]
            refine wpAnyH_take (i := 7) (oi := { dst := some 100, op := Go.Op.slice 37 (Go.Operand.tmp 98) none (some (Go.Operand.tmp 99)) none, type := 37, pos := "ref.go:40", after := #[{ on := 5, ground := Go.Ground.data }, { on := 6, ground := Go.Ground.data }], guard := none }) (v := ?_) rfl (by kernel_rfl) (by kernel_rfl) (by kernel_rfl) (fun _ _ _ h => h) (Or.inl ⟨by rfl, ?_⟩) (by assumption) ?_
            rotate_left
            · (intro w hSw; (try dsimp only at hSw); go_simp; try with_reducible rfl)
            try simp only [Act.put, List.setIfInBounds_toArray, List.set_cons_zero, List.set_cons_succ]
            refine wpAnyH_ready (rs := [8]) (by kernel_rfl) (by simp) ?_
            refine AllReadyH.cons (o := { dst := some 101, op := Go.Op.call { callee := Go.Callee.value (Go.Operand.func 16), args := #[Go.Operand.tmp 93, Go.Operand.tmp 97, Go.Operand.tmp 100], argTypes := #[25, 3, 37] }, type := 4, pos := "ref.go:40", after := #[{ on := 0, ground := Go.Ground.data }, { on := 4, ground := Go.Ground.data }, { on := 7, ground := Go.Ground.data }], guard := none }) rfl (fun K' hS' => ?_) AllReadyH.nil
            go_simp
            go_at_call 16
            (with_reducible refine (CP.out _ HBx.out.drew).mono ?_)
            rintro e wn ⟨rfl, hbwn⟩
            have HBx : Hid (Below W1.heap.size W1 wn) := Lib.hid (HBx.out.drew.trans (hbwn.mono HBx.out.size))
            clear hbwn
            (try go_wp2_with fail)
            refine hS'.out _ _ ((HQ.out _ HBx.out).2) (fun hHeld => ?_)
            clear hS' K'
            try simp only [Act.put, List.setIfInBounds_toArray, List.set_cons_zero, List.set_cons_succ]
            refine wpAnyH_take (i := 9) (oi := { dst := some 102, op := Go.Op.move (Go.Operand.tmp 101), type := 4, pos := "ref.go:40", after := #[{ on := 8, ground := Go.Ground.data }, { on := 8, ground := Go.Ground.chain }], guard := none }) (v := ?_) rfl (by kernel_rfl) (by kernel_rfl) (by kernel_rfl) (fun _ _ _ h => h) (Or.inl ⟨by rfl, ?_⟩) (by assumption) ?_
            rotate_left
            · (intro w hSw; (try dsimp only at hSw); go_simp; try with_reducible rfl)
            try simp only [Act.put, List.setIfInBounds_toArray, List.set_cons_zero, List.set_cons_succ]
            refine wpAnyH_take (i := 10) (oi := { dst := some 103, op := Go.Op.move (Go.Operand.tmp 9), type := 3, pos := "ref.go:40", after := #[{ on := 9, ground := Go.Ground.guard }], guard := some (9, true) }) (v := ?_) rfl (by kernel_rfl) (by kernel_rfl) (by kernel_rfl) (fun _ _ _ h => h) (Or.inl ⟨by rfl, ?_⟩) (by assumption) ?_
            rotate_left
            · (intro w hSw; (try dsimp only at hSw); go_simp; try with_reducible rfl)
            try simp only [Act.put, List.setIfInBounds_toArray, List.set_cons_zero, List.set_cons_succ]
            refine wpAnyH_take (i := 11) (oi := { dst := some 104, op := Go.Op.move (Go.Operand.tmp 2), type := 37, pos := "ref.go:40", after := #[{ on := 9, ground := Go.Ground.guard }], guard := some (9, true) }) (v := ?_) rfl (by kernel_rfl) (by kernel_rfl) (by kernel_rfl) (fun _ _ _ h => h) (Or.inl ⟨by rfl, ?_⟩) (by assumption) ?_
            rotate_left
            · (intro w hSw; (try dsimp only at hSw); go_simp; try with_reducible rfl)
            try simp only [Act.put, List.setIfInBounds_toArray, List.set_cons_zero, List.set_cons_succ]
            refine wpAnyH_take (i := 12) (oi := { dst := some 105, op := Go.Op.call { callee := Go.Callee.builtin Go.Builtin.len, args := #[Go.Operand.tmp 104], argTypes := #[37] }, type := 3, pos := "ref.go:40", after := #[{ on := 11, ground := Go.Ground.data }, { on := 9, ground := Go.Ground.guard }], guard := some (9, true) }) (v := ?_) rfl (by kernel_rfl) (by kernel_rfl) (by kernel_rfl) (fun _ _ _ h => h) (Or.inl ⟨by rfl, ?_⟩) (by assumption) ?_
            rotate_left
            · (intro w hSw; (try dsimp only at hSw); go_simp; try with_reducible rfl)
            try simp only [Act.put, List.setIfInBounds_toArray, List.set_cons_zero, List.set_cons_succ]
            refine wpAnyH_take (i := 13) (oi := { dst := some 106, op := Go.Op.binOp Go.BinOp.eql 3 (Go.Operand.tmp 103) (Go.Operand.tmp 105) 3, type := 4, pos := "ref.go:40", after := #[{ on := 10, ground := Go.Ground.data }, { on := 12, ground := Go.Ground.data }, { on := 9, ground := Go.Ground.guard }], guard := some (9, true) }) (v := ?_) rfl (by kernel_rfl) (by kernel_rfl) (by kernel_rfl) (fun _ _ _ h => h) (Or.inl ⟨by rfl, ?_⟩) (by assumption) ?_
            rotate_left
            · (intro w hSw; (try dsimp only at hSw); go_simp; try with_reducible rfl)
            try simp only [Act.put, List.setIfInBounds_toArray, List.set_cons_zero, List.set_cons_succ]
            refine wpAnyH_take (i := 14) (oi := { dst := some 107, op := Go.Op.move (Go.Operand.tmp 106), type := 4, pos := "ref.go:40", after := #[{ on := 13, ground := Go.Ground.data }, { on := 9, ground := Go.Ground.chain }, { on := 9, ground := Go.Ground.guard }], guard := some (9, true) }) (v := ?_) rfl (by kernel_rfl) (by kernel_rfl) (by kernel_rfl) (fun _ _ _ h => h) (Or.inl ⟨by rfl, ?_⟩) (by assumption) ?_
            rotate_left
            · (intro w hSw; (try dsimp only at hSw); go_simp; try with_reducible rfl)
            try simp only [Act.put, List.setIfInBounds_toArray, List.set_cons_zero, List.set_cons_succ]
            refine wpAnyH_take (i := 15) (oi := { dst := some 108, op := Go.Op.move (Go.Operand.tmp 0), type := 25, pos := "ref.go:40", after := #[{ on := 14, ground := Go.Ground.guard }], guard := some (14, false) }) (v := undef) rfl (by kernel_rfl) (by kernel_rfl) (by kernel_rfl) (fun _ _ _ h => h) (Or.inr ⟨by rfl, rfl⟩) (by assumption) ?_
            try simp only [Act.put, List.setIfInBounds_toArray, List.set_cons_zero, List.set_cons_succ]
            refine wpAnyH_take (i := 16) (oi := { dst := some 109, op := Go.Op.move (Go.Operand.tmp 1), type := 3, pos := "ref.go:40", after := #[{ on := 14, ground := Go.Ground.guard }], guard := some (14, false) }) (v := undef) rfl (by kernel_rfl) (by kernel_rfl) (by kernel_rfl) (fun _ _ _ h => h) (Or.inr ⟨by rfl, rfl⟩) (by assumption) ?_
            try simp only [Act.put, List.setIfInBounds_toArray, List.set_cons_zero, List.set_cons_succ]
            refine wpAnyH_take (i := 17) (oi := { dst := some 110, op := Go.Op.move (Go.Operand.tmp 2), type := 37, pos := "ref.go:40", after := #[{ on := 14, ground := Go.Ground.guard }], guard := some (14, false) }) (v := undef) rfl (by kernel_rfl) (by kernel_rfl) (by kernel_rfl) (fun _ _ _ h => h) (Or.inr ⟨by rfl, rfl⟩) (by assumption) ?_
            try simp only [Act.put, List.setIfInBounds_toArray, List.set_cons_zero, List.set_cons_succ]
            refine wpAnyH_take (i := 18) (oi := { dst := some 111, op := Go.Op.move (Go.Operand.tmp 9), type := 3, pos := "ref.go:40", after := #[{ on := 14, ground := Go.Ground.guard }], guard := some (14, false) }) (v := undef) rfl (by kernel_rfl) (by kernel_rfl) (by kernel_rfl) (fun _ _ _ h => h) (Or.inr ⟨by rfl, rfl⟩) (by assumption) ?_
            try simp only [Act.put, List.setIfInBounds_toArray, List.set_cons_zero, List.set_cons_succ]
            refine wpAnyH_take (i := 19) (oi := { dst := some 112, op := Go.Op.slice 37 (Go.Operand.tmp 110) (some (Go.Operand.tmp 111)) none none, type := 37, pos := "ref.go:40", after := #[{ on := 17, ground := Go.Ground.data }, { on := 18, ground := Go.Ground.data }, { on := 14, ground := Go.Ground.guard }], guard := some (14, false) }) (v := undef) rfl (by kernel_rfl) (by kernel_rfl) (by kernel_rfl) (fun _ _ _ h => h) (Or.inr ⟨by rfl, rfl⟩) (by assumption) ?_
            try simp only [Act.put, List.setIfInBounds_toArray, List.set_cons_zero, List.set_cons_succ]
            refine wpAnyH_take (i := 20) (oi := { dst := some 113, op := Go.Op.call { callee := Go.Callee.value (Go.Operand.func 16), args := #[Go.Operand.tmp 108, Go.Operand.tmp 109, Go.Operand.tmp 112], argTypes := #[25, 3, 37] }, type := 4, pos := "ref.go:40", after := #[{ on := 15, ground := Go.Ground.data }, { on := 16, ground := Go.Ground.data }, { on := 19, ground := Go.Ground.data }, { on := 14, ground := Go.Ground.chain }, { on := 14, ground := Go.Ground.guard }], guard := some (14, false) }) (v := undef) rfl (by kernel_rfl) (by kernel_rfl) (by kernel_rfl) (fun _ _ _ h => h) (Or.inr ⟨by rfl, rfl⟩) (by assumption) ?_
            try simp only [Act.put, List.setIfInBounds_toArray, List.set_cons_zero, List.set_cons_succ]
            refine wpAnyH_take (i := 21) (oi := { dst := some 114, op := Go.Op.pick (Go.Operand.tmp 107) (Go.Operand.const (Go.Value.bool true)) (Go.Operand.tmp 113), type := 4, pos := "ref.go:40", after := #[{ on := 14, ground := Go.Ground.data }, { on := 20, ground := Go.Ground.data }, { on := 9, ground := Go.Ground.guard }], guard := some (9, true) }) (v := ?_) rfl (by kernel_rfl) (by kernel_rfl) (by kernel_rfl) (fun _ _ _ h => h) (Or.inl ⟨by rfl, ?_⟩) (by assumption) ?_
            rotate_left
            · (intro w hSw; (try dsimp only at hSw); go_simp; try with_reducible rfl)
            try simp only [Act.put, List.setIfInBounds_toArray, List.set_cons_zero, List.set_cons_succ]
            refine wpAnyH_take (i := 22) (oi := { dst := some 115, op := Go.Op.pick (Go.Operand.tmp 102) (Go.Operand.tmp 114) (Go.Operand.const (Go.Value.bool false)), type := 4, pos := "ref.go:40", after := #[{ on := 9, ground := Go.Ground.data }, { on := 21, ground := Go.Ground.data }], guard := none }) (v := ?_) rfl (by kernel_rfl) (by kernel_rfl) (by kernel_rfl) (fun _ _ _ h => h) (Or.inl ⟨by rfl, ?_⟩) (by assumption) ?_
            rotate_left
            · (intro w hSw; (try dsimp only at hSw); go_simp; try with_reducible rfl)
            try simp only [Act.put, List.setIfInBounds_toArray, List.set_cons_zero, List.set_cons_succ]
            refine wpAnyH_done (by kernel_rfl) ?_ _
            refine NoPanic.normal ?_
            go_wp2
            go_ret
            exact ⟨by rw [HYes.out]; rfl, HB1.out.trans (HBx.out.mono HB1.out.size)⟩
          · have ze : ((k : Int) == (nw : Int)) = false := by rw [beq_eq_false_iff_ne]; omega
            have ze' : (k == nw) = false := by rw [beq_eq_false_iff_ne]; exact hke
            have hkc' : k < cw := by omega
            have hkc2 : (k : Int) < (cw : Int) := by omega
            have hkc3 : ¬ cw = k := by omega
            have hkc4 : ¬ cw - k = 0 := by omega
            have hkc5 : ¬ cw ≤ k := by omega
            obtain ⟨bq, hbq⟩ := bool_ofR (StarL (lang p) (ws.drop k))
            have CQ := Lib.hid (fun (w : World) (hb : Below W1.heap.size W1 w) => HS2.out w hb (some ⟨gw, ow + k * 2, none⟩) (nw - k) (cw - k) (ws.drop k) bq ((HWw.out w hb).suf hkn) (by rw [List.length_drop]; have := HN.out; have := HK.out; omega) (by have := HN.out; have := HK.out; omega) hbq)
            have HQq := Lib.hid hbq
            have HKe := Lib.hid hke
            clear hkn hbq
            cases bq with
            | false =>
              have HNo := Lib.hid (pt_no (Y := fun v => v = [] ∨ StarL (lang p) v) hno (fun h => by
                have h2 : ws.drop k = [] ∨ StarL (lang p) (ws.drop k) := h.2
                rcases h2 with h | h
                · have := List.drop_eq_nil_iff.1 h
                  have := HN.out.1
                  have := HK.out.2.2
                  have := HKe.out
                  omega
                · have := HQq.out.2 h; cases this))
              clear hno hke
              go_wp2
              refine wp_region_noPanic ?_
              refine wp_region_held_drew (S := (fun w => w.cell? ⟨W.heap.size, 2, none⟩ = some (.slice (some ⟨g', 0, none⟩) 1 c') ∧ w.cell? ⟨g', 0, none⟩ = some (.int .i64 (q0 : Int)))) (by kernel_rfl) (HQ.out _ HBx.out.drew).2 (fun hHeld => ?_)
              refine wpAnyH_take (i := 0) (oi := { dst := some 93, op := Go.Op.move (Go.Operand.tmp 0), type := 25, pos := "ref.go:40", after := #[], guard := none }) (v := ?_) rfl (by kernel_rfl) (by kernel_rfl) (by kernel_rfl) (fun _ _ _ h => h) (Or.inl ⟨by rfl, ?_⟩) (by assumption) ?_
              rotate_left
              · (intro w hSw; (try dsimp only at hSw); go_simp; try with_reducible rfl)
              try simp only [Act.put, List.setIfInBounds_toArray, List.set_cons_zero, List.set_cons_succ]
              refine wpAnyH_take (i := 1) (oi := { dst := some 94, op := Go.Op.fieldAddr 62 (Go.Operand.tmp 7) 2, type := 0, pos := "ref.go:40", after := #[], guard := none }) (v := ?_) rfl (by kernel_rfl) (by kernel_rfl) (by kernel_rfl) (fun _ _ _ h => h) (Or.inl ⟨by rfl, ?_⟩) (by assumption) ?_
              rotate_left
              · (intro w hSw; (try dsimp only at hSw); go_simp; try with_reducible rfl)
              try simp only [Act.put, List.setIfInBounds_toArray, List.set_cons_zero, List.set_cons_succ]
              refine wpAnyH_take (i := 2) (oi := { dst := some 95, op := Go.Op.load 51 (Go.Operand.tmp 94), type := 51, pos := "ref.go:40", after := #[{ on := 1, ground := Go.Ground.data }], guard := none }) (v := ?_) rfl (by kernel_rfl) (by kernel_rfl) (by kernel_rfl) (fun _ _ _ h => h) (Or.inl ⟨by rfl, ?_⟩) (by assumption) ?_
              rotate_left
              · (intro w hSw; (try dsimp only at hSw); go_simp; try with_reducible rfl)
              try simp only [Act.put, List.setIfInBounds_toArray, List.set_cons_zero, List.set_cons_succ]
              refine wpAnyH_take (i := 3) (oi := { dst := some 96, op := Go.Op.indexAddr 51 (Go.Operand.tmp 95) (Go.Operand.const (Go.Value.int Go.IntKind.i64 0)), type := 0, pos := "ref.go:40", after := #[{ on := 2, ground := Go.Ground.data }], guard := none }) (v := ?_) rfl (by kernel_rfl) (by kernel_rfl) (by kernel_rfl) (fun _ _ _ h => h) (Or.inl ⟨by rfl, ?_⟩) (by assumption) ?_
              rotate_left
              · (intro w hSw; (try dsimp only at hSw); go_simp; try with_reducible rfl)
              try simp only [Act.put, List.setIfInBounds_toArray, List.set_cons_zero, List.set_cons_succ]
              refine wpAnyH_take (i := 4) (oi := { dst := some 97, op := Go.Op.load 3 (Go.Operand.tmp 96), type := 3, pos := "ref.go:40", after := #[{ on := 3, ground := Go.Ground.data }], guard := none }) (v := ?_) rfl (by kernel_rfl) (by kernel_rfl) (by kernel_rfl) (fun _ _ _ h => h) (Or.inl ⟨by rfl, ?_⟩) (by assumption) ?_
              rotate_left
              · (intro w hSw; (try dsimp only at hSw); go_simp; try with_reducible rfl)
              try simp only [Act.put, List.setIfInBounds_toArray, List.set_cons_zero, List.set_cons_succ]
              refine wpAnyH_take (i := 5) (oi := { dst := some 98, op := Go.Op.move (Go.Operand.tmp 2), type := 37, pos := "ref.go:40", after := #[], guard := none }) (v := ?_) rfl (by kernel_rfl) (by kernel_rfl) (by kernel_rfl) (fun _ _ _ h => h) (Or.inl ⟨by rfl, ?_⟩) (by assumption) ?_
              rotate_left
              · (intro w hSw; (try dsimp only at hSw); go_simp; try with_reducible rfl)
              try simp only [Act.put, List.setIfInBounds_toArray, List.set_cons_zero, List.set_cons_succ]
              refine wpAnyH_take (i := 6) (oi := { dst := some 99, op := Go.Op.move (Go.Operand.tmp 9), type := 3, pos := "ref.go:40", after := #[], guard := none }) (v := ?_) rfl (by kernel_rfl) (by kernel_rfl) (by kernel_rfl) (fun _ _ _ h => h) (Or.inl ⟨by rfl, ?_⟩) (by assumption) ?_
              rotate_left
              · (intro w hSw; (try dsimp only at hSw); go_simp; try with_reducible rfl)
              try simp only [Act.put, List.setIfInBounds_toArray, List.set_cons_zero, List.set_cons_succ]
              refine wpAnyH_take (i := 7) (oi := { dst := some 100, op := Go.Op.slice 37 (Go.Operand.tmp 98) none (some (Go.Operand.tmp 99)) none, type := 37, pos := "ref.go:40", after := #[{ on := 5, ground := Go.Ground.data }, { on := 6, ground := Go.Ground.data }], guard := none }) (v := ?_) rfl (by kernel_rfl) (by kernel_rfl) (by kernel_rfl) (fun _ _ _ h => h) (Or.inl ⟨by rfl, ?_⟩) (by assumption) ?_
              rotate_left
              · (intro w hSw; (try dsimp only at hSw); go_simp; try with_reducible rfl)
              try simp only [Act.put, List.setIfInBounds_toArray, List.set_cons_zero, List.set_cons_succ]
              refine wpAnyH_ready (rs := [8]) (by kernel_rfl) (by simp) ?_
              refine AllReadyH.cons (o := { dst := some 101, op := Go.Op.call { callee := Go.Callee.value (Go.Operand.func 16), args := #[Go.Operand.tmp 93, Go.Operand.tmp 97, Go.Operand.tmp 100], argTypes := #[25, 3, 37] }, type := 4, pos := "ref.go:40", after := #[{ on := 0, ground := Go.Ground.data }, { on := 4, ground := Go.Ground.data }, { on := 7, ground := Go.Ground.data }], guard := none }) rfl (fun K' hS' => ?_) AllReadyH.nil
              go_simp
              go_at_call 16
              (with_reducible refine (CP.out _ HBx.out.drew).mono ?_)
              rintro e wn ⟨rfl, hbwn⟩
              have HBx : Hid (Below W1.heap.size W1 wn) := Lib.hid (HBx.out.drew.trans (hbwn.mono HBx.out.size))
              clear hbwn
              (try go_wp2_with fail)
              refine hS'.out _ _ ((HQ.out _ HBx.out).2) (fun hHeld => ?_)
              clear hS' K'
              try simp only [Act.put, List.setIfInBounds_toArray, List.set_cons_zero, List.set_cons_succ]
              refine wpAnyH_take (i := 9) (oi := { dst := some 102, op := Go.Op.move (Go.Operand.tmp 101), type := 4, pos := "ref.go:40", after := #[{ on := 8, ground := Go.Ground.data }, { on := 8, ground := Go.Ground.chain }], guard := none }) (v := ?_) rfl (by kernel_rfl) (by kernel_rfl) (by kernel_rfl) (fun _ _ _ h => h) (Or.inl ⟨by rfl, ?_⟩) (by assumption) ?_
              rotate_left
              · (intro w hSw; (try dsimp only at hSw); go_simp; try with_reducible rfl)
              try simp only [Act.put, List.setIfInBounds_toArray, List.set_cons_zero, List.set_cons_succ]
              refine wpAnyH_take (i := 10) (oi := { dst := some 103, op := Go.Op.move (Go.Operand.tmp 9), type := 3, pos := "ref.go:40", after := #[{ on := 9, ground := Go.Ground.guard }], guard := some (9, true) }) (v := ?_) rfl (by kernel_rfl) (by kernel_rfl) (by kernel_rfl) (fun _ _ _ h => h) (Or.inl ⟨by rfl, ?_⟩) (by assumption) ?_
              rotate_left
              · (intro w hSw; (try dsimp only at hSw); go_simp; try with_reducible rfl)
              try simp only [Act.put, List.setIfInBounds_toArray, List.set_cons_zero, List.set_cons_succ]
              refine wpAnyH_take (i := 11) (oi := { dst := some 104, op := Go.Op.move (Go.Operand.tmp 2), type := 37, pos := "ref.go:40", after := #[{ on := 9, ground := Go.Ground.guard }], guard := some (9, true) }) (v := ?_) rfl (by kernel_rfl) (by kernel_rfl) (by kernel_rfl) (fun _ _ _ h => h) (Or.inl ⟨by rfl, ?_⟩) (by assumption) ?_
              rotate_left
              · (intro w hSw; (try dsimp only at hSw); go_simp; try with_reducible rfl)
              try simp only [Act.put, List.setIfInBounds_toArray, List.set_cons_zero, List.set_cons_succ]
              refine wpAnyH_take (i := 12) (oi := { dst := some 105, op := Go.Op.call { callee := Go.Callee.builtin Go.Builtin.len, args := #[Go.Operand.tmp 104], argTypes := #[37] }, type := 3, pos := "ref.go:40", after := #[{ on := 11, ground := Go.Ground.data }, { on := 9, ground := Go.Ground.guard }], guard := some (9, true) }) (v := ?_) rfl (by kernel_rfl) (by kernel_rfl) (by kernel_rfl) (fun _ _ _ h => h) (Or.inl ⟨by rfl, ?_⟩) (by assumption) ?_
              rotate_left
              · (intro w hSw; (try dsimp only at hSw); go_simp; try with_reducible rfl)
              try simp only [Act.put, List.setIfInBounds_toArray, List.set_cons_zero, List.set_cons_succ]
              refine wpAnyH_take (i := 13) (oi := { dst := some 106, op := Go.Op.binOp Go.BinOp.eql 3 (Go.Operand.tmp 103) (Go.Operand.tmp 105) 3, type := 4, pos := "ref.go:40", after := #[{ on := 10, ground := Go.Ground.data }, { on := 12, ground := Go.Ground.data }, { on := 9, ground := Go.Ground.guard }], guard := some (9, true) }) (v := ?_) rfl (by kernel_rfl) (by kernel_rfl) (by kernel_rfl) (fun _ _ _ h => h) (Or.inl ⟨by rfl, ?_⟩) (by assumption) ?_
              rotate_left
              · (intro w hSw; (try dsimp only at hSw); go_simp; try with_reducible rfl)
              try simp only [Act.put, List.setIfInBounds_toArray, List.set_cons_zero, List.set_cons_succ]
              refine wpAnyH_take (i := 14) (oi := { dst := some 107, op := Go.Op.move (Go.Operand.tmp 106), type := 4, pos := "ref.go:40", after := #[{ on := 13, ground := Go.Ground.data }, { on := 9, ground := Go.Ground.chain }, { on := 9, ground := Go.Ground.guard }], guard := some (9, true) }) (v := ?_) rfl (by kernel_rfl) (by kernel_rfl) (by kernel_rfl) (fun _ _ _ h => h) (Or.inl ⟨by rfl, ?_⟩) (by assumption) ?_
              rotate_left
              · (intro w hSw; (try dsimp only at hSw); go_simp; try with_reducible rfl)
              try simp only [Act.put, List.setIfInBounds_toArray, List.set_cons_zero, List.set_cons_succ]
              refine wpAnyH_take (i := 15) (oi := { dst := some 108, op := Go.Op.move (Go.Operand.tmp 0), type := 25, pos := "ref.go:40", after := #[{ on := 14, ground := Go.Ground.guard }], guard := some (14, false) }) (v := ?_) rfl (by kernel_rfl) (by kernel_rfl) (by kernel_rfl) (fun _ _ _ h => h) (Or.inl ⟨by rfl, ?_⟩) (by assumption) ?_
              rotate_left
              · (intro w hSw; (try dsimp only at hSw); go_simp; try with_reducible rfl)
              try simp only [Act.put, List.setIfInBounds_toArray, List.set_cons_zero, List.set_cons_succ]
              refine wpAnyH_take (i := 16) (oi := { dst := some 109, op := Go.Op.move (Go.Operand.tmp 1), type := 3, pos := "ref.go:40", after := #[{ on := 14, ground := Go.Ground.guard }], guard := some (14, false) }) (v := ?_) rfl (by kernel_rfl) (by kernel_rfl) (by kernel_rfl) (fun _ _ _ h => h) (Or.inl ⟨by rfl, ?_⟩) (by assumption) ?_
              rotate_left
              · (intro w hSw; (try dsimp only at hSw); go_simp; try with_reducible rfl)
              try simp only [Act.put, List.setIfInBounds_toArray, List.set_cons_zero, List.set_cons_succ]
              refine wpAnyH_take (i := 17) (oi := { dst := some 110, op := Go.Op.move (Go.Operand.tmp 2), type := 37, pos := "ref.go:40", after := #[{ on := 14, ground := Go.Ground.guard }], guard := some (14, false) }) (v := ?_) rfl (by kernel_rfl) (by kernel_rfl) (by kernel_rfl) (fun _ _ _ h => h) (Or.inl ⟨by rfl, ?_⟩) (by assumption) ?_
              rotate_left
              · (intro w hSw; (try dsimp only at hSw); go_simp; try with_reducible rfl)
              try simp only [Act.put, List.setIfInBounds_toArray, List.set_cons_zero, List.set_cons_succ]
              refine wpAnyH_take (i := 18) (oi := { dst := some 111, op := Go.Op.move (Go.Operand.tmp 9), type := 3, pos := "ref.go:40", after := #[{ on := 14, ground := Go.Ground.guard }], guard := some (14, false) }) (v := ?_) rfl (by kernel_rfl) (by kernel_rfl) (by kernel_rfl) (fun _ _ _ h => h) (Or.inl ⟨by rfl, ?_⟩) (by assumption) ?_
              rotate_left
              · (intro w hSw; (try dsimp only at hSw); go_simp; try with_reducible rfl)
              try simp only [Act.put, List.setIfInBounds_toArray, List.set_cons_zero, List.set_cons_succ]
              refine wpAnyH_take (i := 19) (oi := { dst := some 112, op := Go.Op.slice 37 (Go.Operand.tmp 110) (some (Go.Operand.tmp 111)) none none, type := 37, pos := "ref.go:40", after := #[{ on := 17, ground := Go.Ground.data }, { on := 18, ground := Go.Ground.data }, { on := 14, ground := Go.Ground.guard }], guard := some (14, false) }) (v := ?_) rfl (by kernel_rfl) (by kernel_rfl) (by kernel_rfl) (fun _ _ _ h => h) (Or.inl ⟨by rfl, ?_⟩) (by assumption) ?_
              rotate_left
              · (intro w hSw; (try dsimp only at hSw); go_simp; try with_reducible rfl)
              try simp only [Act.put, List.setIfInBounds_toArray, List.set_cons_zero, List.set_cons_succ]
              refine wpAnyH_ready (rs := [20]) (by kernel_rfl) (by simp) ?_
              refine AllReadyH.cons (o := { dst := some 113, op := Go.Op.call { callee := Go.Callee.value (Go.Operand.func 16), args := #[Go.Operand.tmp 108, Go.Operand.tmp 109, Go.Operand.tmp 112], argTypes := #[25, 3, 37] }, type := 4, pos := "ref.go:40", after := #[{ on := 15, ground := Go.Ground.data }, { on := 16, ground := Go.Ground.data }, { on := 19, ground := Go.Ground.data }, { on := 14, ground := Go.Ground.chain }, { on := 14, ground := Go.Ground.guard }], guard := some (14, false) }) rfl (fun K' hS' => ?_) AllReadyH.nil
              go_simp
              go_at_call 16
              (with_reducible refine (CQ.out _ HBx.out).mono ?_)
              rintro e wm ⟨rfl, hbwm⟩
              have HBx : Hid (Below W1.heap.size W1 wm) := Lib.hid (HBx.out.trans (hbwm.mono HBx.out.size))
              clear hbwm
              (try go_wp2_with fail)
              refine hS'.out _ _ ((HQ.out _ HBx.out).2) (fun hHeld => ?_)
              clear hS' K'
              try simp only [Act.put, List.setIfInBounds_toArray, List.set_cons_zero, List.set_cons_succ]
              refine wpAnyH_take (i := 21) (oi := { dst := some 114, op := Go.Op.pick (Go.Operand.tmp 107) (Go.Operand.const (Go.Value.bool true)) (Go.Operand.tmp 113), type := 4, pos := "ref.go:40", after := #[{ on := 14, ground := Go.Ground.data }, { on := 20, ground := Go.Ground.data }, { on := 9, ground := Go.Ground.guard }], guard := some (9, true) }) (v := ?_) rfl (by kernel_rfl) (by kernel_rfl) (by kernel_rfl) (fun _ _ _ h => h) (Or.inl ⟨by rfl, ?_⟩) (by assumption) ?_
              rotate_left
              · (intro w hSw; (try dsimp only at hSw); go_simp; try with_reducible rfl)
              try simp only [Act.put, List.setIfInBounds_toArray, List.set_cons_zero, List.set_cons_succ]
              refine wpAnyH_take (i := 22) (oi := { dst := some 115, op := Go.Op.pick (Go.Operand.tmp 102) (Go.Operand.tmp 114) (Go.Operand.const (Go.Value.bool false)), type := 4, pos := "ref.go:40", after := #[{ on := 9, ground := Go.Ground.data }, { on := 21, ground := Go.Ground.data }], guard := none }) (v := ?_) rfl (by kernel_rfl) (by kernel_rfl) (by kernel_rfl) (fun _ _ _ h => h) (Or.inl ⟨by rfl, ?_⟩) (by assumption) ?_
              rotate_left
              · (intro w hSw; (try dsimp only at hSw); go_simp; try with_reducible rfl)
              try simp only [Act.put, List.setIfInBounds_toArray, List.set_cons_zero, List.set_cons_succ]
              refine wpAnyH_done (by kernel_rfl) ?_ _
              refine NoPanic.normal ?_
              go_wp2
              go_roundg (ws.length + 1 - (k + 1))
              case measure => have := HK.out; omega
              case rel => exact ⟨k + 1, by have := HK.out; omega, by have := HK.out; omega, by rw [Int.natCast_add]; rfl, HNo.out, HBx.out⟩
            | true =>
              have HYes := Lib.hid (show b = true from HBb.out.2 ⟨k, HK.out.1, HK.out.2.2, HP.out.1 rfl, .inr (HQq.out.1 rfl)⟩)
              clear hno hke
              go_wp2
              refine wp_region_noPanic ?_
              refine wp_region_held_drew (S := (fun w => w.cell? ⟨W.heap.size, 2, none⟩ = some (.slice (some ⟨g', 0, none⟩) 1 c') ∧ w.cell? ⟨g', 0, none⟩ = some (.int .i64 (q0 : Int)))) (by kernel_rfl) (HQ.out _ HBx.out.drew).2 (fun hHeld => ?_)
              refine wpAnyH_take (i := 0) (oi := { dst := some 93, op := Go.Op.move (Go.Operand.tmp 0), type := 25, pos := "ref.go:40", after := #[], guard := none }) (v := ?_) rfl (by kernel_rfl) (by kernel_rfl) (by kernel_rfl) (fun _ _ _ h => h) (Or.inl ⟨by rfl, ?_⟩) (by assumption) ?_
              rotate_left
              · (intro w hSw; (try dsimp only at hSw); go_simp; try with_reducible rfl)
              try simp only [Act.put, List.setIfInBounds_toArray, List.set_cons_zero, List.set_cons_succ]
              refine wpAnyH_take (i := 1) (oi := { dst := some 94, op := Go.Op.fieldAddr 62 (Go.Operand.tmp 7) 2, type := 0, pos := "ref.go:40", after := #[], guard := none }) (v := ?_) rfl (by kernel_rfl) (by kernel_rfl) (by kernel_rfl) (fun _ _ _ h => h) (Or.inl ⟨by rfl, ?_⟩) (by assumption) ?_
              rotate_left
              · (intro w hSw; (try dsimp only at hSw); go_simp; try with_reducible rfl)
              try simp only [Act.put, List.setIfInBounds_toArray, List.set_cons_zero, List.set_cons_succ]
              refine wpAnyH_take (i := 2) (oi := { dst := some 95, op := Go.Op.load 51 (Go.Operand.tmp 94), type := 51, pos := "ref.go:40", after := #[{ on := 1, ground := Go.Ground.data }], guard := none }) (v := ?_) rfl (by kernel_rfl) (by kernel_rfl) (by kernel_rfl) (fun _ _ _ h => h) (Or.inl ⟨by rfl, ?_⟩) (by assumption) ?_
              rotate_left
              · (intro w hSw; (try dsimp only at hSw); go_simp; try with_reducible rfl)
              try simp only [Act.put, List.setIfInBounds_toArray, List.set_cons_zero, List.set_cons_succ]
              refine wpAnyH_take (i := 3) (oi := { dst := some 96, op := Go.Op.indexAddr 51 (Go.Operand.tmp 95) (Go.Operand.const (Go.Value.int Go.IntKind.i64 0)), type := 0, pos := "ref.go:40", after := #[{ on := 2, ground := Go.Ground.data }], guard := none }) (v := ?_) rfl (by kernel_rfl) (by kernel_rfl) (by kernel_rfl) (fun _ _ _ h => h) (Or.inl ⟨by rfl, ?_⟩) (by assumption) ?_
              rotate_left
              · (intro w hSw; (try dsimp only at hSw); go_simp; try with_reducible rfl)
              try simp only [Act.put, List.setIfInBounds_toArray, List.set_cons_zero, List.set_cons_succ]
              refine wpAnyH_take (i := 4) (oi := { dst := some 97, op := Go.Op.load 3 (Go.Operand.tmp 96), type := 3, pos := "ref.go:40", after := #[{ on := 3, ground := Go.Ground.data }], guard := none }) (v := ?_) rfl (by kernel_rfl) (by kernel_rfl) (by kernel_rfl) (fun _ _ _ h => h) (Or.inl ⟨by rfl, ?_⟩) (by assumption) ?_
              rotate_left
              · (intro w hSw; (try dsimp only at hSw); go_simp; try with_reducible rfl)
              try simp only [Act.put, List.setIfInBounds_toArray, List.set_cons_zero, List.set_cons_succ]
              refine wpAnyH_take (i := 5) (oi := { dst := some 98, op := Go.Op.move (Go.Operand.tmp 2), type := 37, pos := "ref.go:40", after := #[], guard := none }) (v := ?_) rfl (by kernel_rfl) (by kernel_rfl) (by kernel_rfl) (fun _ _ _ h => h) (Or.inl ⟨by rfl, ?_⟩) (by assumption) ?_
              rotate_left
              · (intro w hSw; (try dsimp only at hSw); go_simp; try with_reducible rfl)
              try simp only [Act.put, List.setIfInBounds_toArray, List.set_cons_zero, List.set_cons_succ]
              refine wpAnyH_take (i := 6) (oi := { dst := some 99, op := Go.Op.move (Go.Operand.tmp 9), type := 3, pos := "ref.go:40", after := #[], guard := none }) (v := ?_) rfl (by kernel_rfl) (by kernel_rfl) (by kernel_rfl) (fun _ _ _ h => h) (Or.inl ⟨by rfl, ?_⟩) (by assumption) ?_
              rotate_left
              · (intro w hSw; (try dsimp only at hSw); go_simp; try with_reducible rfl)
              try simp only [Act.put, List.setIfInBounds_toArray, List.set_cons_zero, List.set_cons_succ]
              refine wpAnyH_take (i := 7) (oi := { dst := some 100, op := Go.Op.slice 37 (Go.Operand.tmp 98) none (some (Go.Operand.tmp 99)) none, type := 37, pos := "ref.go:40", after := #[{ on := 5, ground := Go.Ground.data }, { on := 6, ground := Go.Ground.data }], guard := none }) (v := ?_) rfl (by kernel_rfl) (by kernel_rfl) (by kernel_rfl) (fun _ _ _ h => h) (Or.inl ⟨by rfl, ?_⟩) (by assumption) ?_
              rotate_left
              · (intro w hSw; (try dsimp only at hSw); go_simp; try with_reducible rfl)
              try simp only [Act.put, List.setIfInBounds_toArray, List.set_cons_zero, List.set_cons_succ]
              refine wpAnyH_ready (rs := [8]) (by kernel_rfl) (by simp) ?_
              refine AllReadyH.cons (o := { dst := some 101, op := Go.Op.call { callee := Go.Callee.value (Go.Operand.func 16), args := #[Go.Operand.tmp 93, Go.Operand.tmp 97, Go.Operand.tmp 100], argTypes := #[25, 3, 37] }, type := 4, pos := "ref.go:40", after := #[{ on := 0, ground := Go.Ground.data }, { on := 4, ground := Go.Ground.data }, { on := 7, ground := Go.Ground.data }], guard := none }) rfl (fun K' hS' => ?_) AllReadyH.nil
              go_simp
              go_at_call 16
              (with_reducible refine (CP.out _ HBx.out.drew).mono ?_)
              rintro e wn ⟨rfl, hbwn⟩
              have HBx : Hid (Below W1.heap.size W1 wn) := Lib.hid (HBx.out.drew.trans (hbwn.mono HBx.out.size))
              clear hbwn
              (try go_wp2_with fail)
              refine hS'.out _ _ ((HQ.out _ HBx.out).2) (fun hHeld => ?_)
              clear hS' K'
              try simp only [Act.put, List.setIfInBounds_toArray, List.set_cons_zero, List.set_cons_succ]
              refine wpAnyH_take (i := 9) (oi := { dst := some 102, op := Go.Op.move (Go.Operand.tmp 101), type := 4, pos := "ref.go:40", after := #[{ on := 8, ground := Go.Ground.data }, { on := 8, ground := Go.Ground.chain }], guard := none }) (v := ?_) rfl (by kernel_rfl) (by kernel_rfl) (by kernel_rfl) (fun _ _ _ h => h) (Or.inl ⟨by rfl, ?_⟩) (by assumption) ?_
              rotate_left
              · (intro w hSw; (try dsimp only at hSw); go_simp; try with_reducible rfl)
              try simp only [Act.put, List.setIfInBounds_toArray, List.set_cons_zero, List.set_cons_succ]
              refine wpAnyH_take (i := 10) (oi := { dst := some 103, op := Go.Op.move (Go.Operand.tmp 9), type := 3, pos := "ref.go:40", after := #[{ on := 9, ground := Go.Ground.guard }], guard := some (9, true) }) (v := ?_) rfl (by kernel_rfl) (by kernel_rfl) (by kernel_rfl) (fun _ _ _ h => h) (Or.inl ⟨by rfl, ?_⟩) (by assumption) ?_
              rotate_left
              · (intro w hSw; (try dsimp only at hSw); go_simp; try with_reducible rfl)
              try simp only [Act.put, List.setIfInBounds_toArray, List.set_cons_zero, List.set_cons_succ]
              refine wpAnyH_take (i := 11) (oi := { dst := some 104, op := Go.Op.move (Go.Operand.tmp 2), type := 37, pos := "ref.go:40", after := #[{ on := 9, ground := Go.Ground.guard }], guard := some (9, true) }) (v := ?_) rfl (by kernel_rfl) (by kernel_rfl) (by kernel_rfl) (fun _ _ _ h => h) (Or.inl ⟨by rfl, ?_⟩) (by assumption) ?_
              rotate_left
              · (intro w hSw; (try dsimp only at hSw); go_simp; try with_reducible rfl)
              try simp only [Act.put, List.setIfInBounds_toArray, List.set_cons_zero, List.set_cons_succ]
              refine wpAnyH_take (i := 12) (oi := { dst := some 105, op := Go.Op.call { callee := Go.Callee.builtin Go.Builtin.len, args := #[Go.Operand.tmp 104], argTypes := #[37] }, type := 3, pos := "ref.go:40", after := #[{ on := 11, ground := Go.Ground.data }, { on := 9, ground := Go.Ground.guard }], guard := some (9, true) }) (v := ?_) rfl (by kernel_rfl) (by kernel_rfl) (by kernel_rfl) (fun _ _ _ h => h) (Or.inl ⟨by rfl, ?_⟩) (by assumption) ?_
              rotate_left
              · (intro w hSw; (try dsimp only at hSw); go_simp; try with_reducible rfl)
              try simp only [Act.put, List.setIfInBounds_toArray, List.set_cons_zero, List.set_cons_succ]
              refine wpAnyH_take (i := 13) (oi := { dst := some 106, op := Go.Op.binOp Go.BinOp.eql 3 (Go.Operand.tmp 103) (Go.Operand.tmp 105) 3, type := 4, pos := "ref.go:40", after := #[{ on := 10, ground := Go.Ground.data }, { on := 12, ground := Go.Ground.data }, { on := 9, ground := Go.Ground.guard }], guard := some (9, true) }) (v := ?_) rfl (by kernel_rfl) (by kernel_rfl) (by kernel_rfl) (fun _ _ _ h => h) (Or.inl ⟨by rfl, ?_⟩) (by assumption) ?_
              rotate_left
              · (intro w hSw; (try dsimp only at hSw); go_simp; try with_reducible rfl)
              try simp only [Act.put, List.setIfInBounds_toArray, List.set_cons_zero, List.set_cons_succ]
              refine wpAnyH_take (i := 14) (oi := { dst := some 107, op := Go.Op.move (Go.Operand.tmp 106), type := 4, pos := "ref.go:40", after := #[{ on := 13, ground := Go.Ground.data }, { on := 9, ground := Go.Ground.chain }, { on := 9, ground := Go.Ground.guard }], guard := some (9, true) }) (v := ?_) rfl (by kernel_rfl) (by kernel_rfl) (by kernel_rfl) (fun _ _ _ h => h) (Or.inl ⟨by rfl, ?_⟩) (by assumption) ?_
              rotate_left
              · (intro w hSw; (try dsimp only at hSw); go_simp; try with_reducible rfl)
              try simp only [Act.put, List.setIfInBounds_toArray, List.set_cons_zero, List.set_cons_succ]
              refine wpAnyH_take (i := 15) (oi := { dst := some 108, op := Go.Op.move (Go.Operand.tmp 0), type := 25, pos := "ref.go:40", after := #[{ on := 14, ground := Go.Ground.guard }], guard := some (14, false) }) (v := ?_) rfl (by kernel_rfl) (by kernel_rfl) (by kernel_rfl) (fun _ _ _ h => h) (Or.inl ⟨by rfl, ?_⟩) (by assumption) ?_
              rotate_left
              · (intro w hSw; (try dsimp only at hSw); go_simp; try with_reducible rfl)
              try simp only [Act.put, List.setIfInBounds_toArray, List.set_cons_zero, List.set_cons_succ]
              refine wpAnyH_take (i := 16) (oi := { dst := some 109, op := Go.Op.move (Go.Operand.tmp 1), type := 3, pos := "ref.go:40", after := #[{ on := 14, ground := Go.Ground.guard }], guard := some (14, false) }) (v := ?_) rfl (by kernel_rfl) (by kernel_rfl) (by kernel_rfl) (fun _ _ _ h => h) (Or.inl ⟨by rfl, ?_⟩) (by assumption) ?_
              rotate_left
              · (intro w hSw; (try dsimp only at hSw); go_simp; try with_reducible rfl)
              try simp only [Act.put, List.setIfInBounds_toArray, List.set_cons_zero, List.set_cons_succ]
              refine wpAnyH_take (i := 17) (oi := { dst := some 110, op := Go.Op.move (Go.Operand.tmp 2), type := 37, pos := "ref.go:40", after := #[{ on := 14, ground := Go.Ground.guard }], guard := some (14, false) }) (v := ?_) rfl (by kernel_rfl) (by kernel_rfl) (by kernel_rfl) (fun _ _ _ h => h) (Or.inl ⟨by rfl, ?_⟩) (by assumption) ?_
              rotate_left
              · (intro w hSw; (try dsimp only at hSw); go_simp; try with_reducible rfl)
              try simp only [Act.put, List.setIfInBounds_toArray, List.set_cons_zero, List.set_cons_succ]
              refine wpAnyH_take (i := 18) (oi := { dst := some 111, op := Go.Op.move (Go.Operand.tmp 9), type := 3, pos := "ref.go:40", after := #[{ on := 14, ground := Go.Ground.guard }], guard := some (14, false) }) (v := ?_) rfl (by kernel_rfl) (by kernel_rfl) (by kernel_rfl) (fun _ _ _ h => h) (Or.inl ⟨by rfl, ?_⟩) (by assumption) ?_
              rotate_left
              · (intro w hSw; (try dsimp only at hSw); go_simp; try with_reducible rfl)
              try simp only [Act.put, List.setIfInBounds_toArray, List.set_cons_zero, List.set_cons_succ]
              refine wpAnyH_take (i := 19) (oi := { dst := some 112, op := Go.Op.slice 37 (Go.Operand.tmp 110) (some (Go.Operand.tmp 111)) none none, type := 37, pos := "ref.go:40", after := #[{ on := 17, ground := Go.Ground.data }, { on := 18, ground := Go.Ground.data }, { on := 14, ground := Go.Ground.guard }], guard := some (14, false) }) (v := ?_) rfl (by kernel_rfl) (by kernel_rfl) (by kernel_rfl) (fun _ _ _ h => h) (Or.inl ⟨by rfl, ?_⟩) (by assumption) ?_
              rotate_left
              · (intro w hSw; (try dsimp only at hSw); go_simp; try with_reducible rfl)
              try simp only [Act.put, List.setIfInBounds_toArray, List.set_cons_zero, List.set_cons_succ]
              refine wpAnyH_ready (rs := [20]) (by kernel_rfl) (by simp) ?_
              refine AllReadyH.cons (o := { dst := some 113, op := Go.Op.call { callee := Go.Callee.value (Go.Operand.func 16), args := #[Go.Operand.tmp 108, Go.Operand.tmp 109, Go.Operand.tmp 112], argTypes := #[25, 3, 37] }, type := 4, pos := "ref.go:40", after := #[{ on := 15, ground := Go.Ground.data }, { on := 16, ground := Go.Ground.data }, { on := 19, ground := Go.Ground.data }, { on := 14, ground := Go.Ground.chain }, { on := 14, ground := Go.Ground.guard }], guard := some (14, false) }) rfl (fun K' hS' => ?_) AllReadyH.nil
              go_simp
              go_at_call 16
              (with_reducible refine (CQ.out _ HBx.out).mono ?_)
              rintro e wm ⟨rfl, hbwm⟩
              have HBx : Hid (Below W1.heap.size W1 wm) := Lib.hid (HBx.out.trans (hbwm.mono HBx.out.size))
              clear hbwm
              (try go_wp2_with fail)
              refine hS'.out _ _ ((HQ.out _ HBx.out).2) (fun hHeld => ?_)
              clear hS' K'
              try simp only [Act.put, List.setIfInBounds_toArray, List.set_cons_zero, List.set_cons_succ]
              refine wpAnyH_take (i := 21) (oi := { dst := some 114, op := Go.Op.pick (Go.Operand.tmp 107) (Go.Operand.const (Go.Value.bool true)) (Go.Operand.tmp 113), type := 4, pos := "ref.go:40", after := #[{ on := 14, ground := Go.Ground.data }, { on := 20, ground := Go.Ground.data }, { on := 9, ground := Go.Ground.guard }], guard := some (9, true) }) (v := ?_) rfl (by kernel_rfl) (by kernel_rfl) (by kernel_rfl) (fun _ _ _ h => h) (Or.inl ⟨by rfl, ?_⟩) (by assumption) ?_
              rotate_left
              · (intro w hSw; (try dsimp only at hSw); go_simp; try with_reducible rfl)
              try simp only [Act.put, List.setIfInBounds_toArray, List.set_cons_zero, List.set_cons_succ]
              refine wpAnyH_take (i := 22) (oi := { dst := some 115, op := Go.Op.pick (Go.Operand.tmp 102) (Go.Operand.tmp 114) (Go.Operand.const (Go.Value.bool false)), type := 4, pos := "ref.go:40", after := #[{ on := 9, ground := Go.Ground.data }, { on := 21, ground := Go.Ground.data }], guard := none }) (v := ?_) rfl (by kernel_rfl) (by kernel_rfl) (by kernel_rfl) (fun _ _ _ h => h) (Or.inl ⟨by rfl, ?_⟩) (by assumption) ?_
              rotate_left
              · (intro w hSw; (try dsimp only at hSw); go_simp; try with_reducible rfl)
              try simp only [Act.put, List.setIfInBounds_toArray, List.set_cons_zero, List.set_cons_succ]
              refine wpAnyH_done (by kernel_rfl) ?_ _
              refine NoPanic.normal ?_
              go_wp2
              go_ret
              exact ⟨by rw [HYes.out]; rfl, HB1.out.trans (HBx.out.mono HB1.out.size)⟩
      · have kn : ¬ (k : Int) ≤ (nw : Int) := by omega
        have kn' : decide ((k : Int) ≤ (nw : Int)) = false := decide_eq_false kn
        have kn'' : decide (k ≤ nw) = false := decide_eq_false hkn
        have HE := Lib.hid (show b = false from by
          cases hbb : b with
          | false => rfl
          | true =>
            obtain ⟨i, h1, h2, h3, h4⟩ := HBb.out.1 hbb
            refine absurd ⟨h3, ?_⟩ (hno i h1 (by have := HN.out.1; omega))
            rcases h4 with h4 | h4
            · exact .inl (List.drop_eq_nil_iff.2 (by omega))
            · exact .inr h4)
        clear hk hno hkn hbw hk1
        go_wp2
        go_ret
        exact ⟨by rw [HE.out]; rfl, HB1.out.trans (HBx.out.mono HB1.out.size)⟩
set_option pp.deepTerms true in
set_option pp.maxSteps 1000000 in
set_option maxHeartbeats 64000000 in
theorem rt_again5 {g len c : Nat} {T : List PT} (hlen : len ≤ 1000) {n : Int} {p : PT} {W : World} {at_ : Nat} {A : Option Addr} {nw cw : Nat} {ws : List Sy} {b : Bool} (hR : Rf W g len T) (hC : RfC W g T) (hat : T[at_]? = some (.mk 5 n [p])) (hW : WdG W A nw cw ws) (hws : ws.length ≤ 1000) (htl : [p].length ≤ 1000) (hb : b = true ↔ lang (.mk 5 n [p]) ws) {N : Nat} (hN : N ≤ 1000) (hwN : ws.length ≤ N) (hT : RTk g len c T p N) (hS2 : ∀ M, M < N → RTk g len c T (.mk 5 n [p]) M) :
    Calls Try.prog 16 #[.slice (some ⟨g, 0, none⟩) len c, .int .i64 (at_ : Int), .slice A nw cw] W (BqR W b) := by
  obtain ⟨A', c', x0, x1, x2, hp⟩ := hR.2 at_ _ n [p] hat
  obtain ⟨A'', c'', y2, hcc, hcm⟩ := hC at_ _ n [p] hat
  rw [x2] at y2
  obtain ⟨e1, _, e3⟩ := Value.slice.inj (Option.some.inj y2)
  subst e1 e3
  have hal : at_ < len := by have := (List.getElem?_eq_some_iff.1 hat).1; have := hR.1; omega
  have a0 : (0 : Int) ≤ (at_ : Int) := by omega
  have a1 : (at_ : Int) < (len : Int) := by omega
  have l1 : (len : Int) ≤ 1000 := by omega
  have w0 : (0 : Int) ≤ (nw : Int) := by omega
  have w1 : (nw : Int) ≤ 1000 := by have := hW.1; omega
  have w2 : (nw : Int) ≤ (cw : Int) := by have := hW.2.1; omega
  have w3 : (cw : Int) ≤ 9223372036854775807 := by have := hW.2.2.1; unfold maxLen at this; omega
  have hnw := hW.1
  obtain ⟨W1, hW1⟩ : ∃ W1, W1 = W.alloc (.cells #[.int .i64 5, .int .i64 n, .slice A' [p].length c'] 62) := ⟨_, rfl⟩
  have hb1 : Below W.heap.size W W1 := by rw [hW1]; exact (Below.refl _ _).alloc (Nat.le_refl _) _
  have hF1 : Fb W1 W.heap.size 62 #[.int .i64 5, .int .i64 n, .slice A' [p].length c'] := by rw [hW1]; exact Fb.new _ _ _
  have HB1 := Lib.hid hb1
  have HB9 := Lib.hid (show Below W.heap.size W (W.alloc (.cells #[.int .i64 5, .int .i64 n, .slice A' [p].length c'] 62)) from by rw [← hW1]; exact hb1)
  obtain ⟨g', hA, hS⟩ := rws_of hp (by simp)
  subst hA
  obtain ⟨q0, z0, hq0⟩ := hS 0 p rfl
  rw [Nat.add_zero] at z0
  have HQ := Lib.hid (fun (w : World) (hb : Below W1.heap.size W1 w) => (⟨(hF1.below hb).cell 0, (hF1.below hb).cell 2, cell_below z0 (HB1.out.trans (hb.mono HB1.out.size))⟩ : w.cell? ⟨W.heap.size, 0, none⟩ = some (.int .i64 5) ∧ w.cell? ⟨W.heap.size, 2, none⟩ = some (.slice (some ⟨g', 0, none⟩) 1 c') ∧ w.cell? ⟨g', 0, none⟩ = some (.int .i64 (q0 : Int))))
  have HT := Lib.hid (fun (w : World) (hb : Below W1.heap.size W1 w) (A1 : Option Addr) (n1 c1 : Nat) (v : List Sy) (b : Bool) (h1 : WdG w A1 n1 c1 v) (h2 : v.length ≤ N) (hb' : b = true ↔ lang p v) => hT w q0 A1 n1 c1 v b (hR.below (HB1.out.trans (hb.mono HB1.out.size))) (hC.below (HB1.out.trans (hb.mono HB1.out.size))) hq0 h1 h2 hb')
  have HWw := Lib.hid (fun (w : World) (hb : Below W1.heap.size W1 w) => hW.below (HB1.out.trans (hb.mono HB1.out.size)))
  have x2' : W.cell? ⟨g, at_ * 3 + 2, none⟩ = some (.slice (some ⟨g', 0, none⟩) 1 c') := x2
  have hW1' : W1 = W.alloc (.cells #[.int .i64 5, .int .i64 n, .slice (some ⟨g', 0, none⟩) 1 c'] 62) := hW1
  have hone : (1 : Int) ≤ (c' : Int) := by simp at hcc; omega
  have hzo : (0 : Int) < (1 : Int) := by omega
  have hX : ∀ v, lang (.mk 5 n [p]) v ↔ plusL (lang p) v := fun v => lang_again (.inr (.inl rfl)) v
  have hb' : b = true ↔ plusL (lang p) ws := hb.trans (hX ws)
  by_cases hw0 : nw = 0
  · have hws0 : ws = [] := List.length_eq_zero_iff.1 (by omega)
    have hb2 : b = true ↔ lang p ws := by rw [hb', hws0]; exact plus_nil _
    have cT := HT.out W1 (Below.refl _ _) A nw cw ws b (HWw.out W1 (Below.refl _ _)) hwN hb2
    obtain ⟨k0, k1, k2⟩ := HQ.out W1 (Below.refl _ _)
    rw [hW1'] at cT k0 k1 k2
    clear hR hC hat hW hws htl hb hp hcc hcm hal hnw hb1 hF1 hS y2 hW1 hW1' hT hwN hb' x2 z0 hq0 hb2 hS2 hX hws0
    subst hw0
    go_enter Try.func16, Try.ntmps16
    go_wp2_with (go_at_call 16; (with_reducible refine cT.mono ?_); rintro e wn ⟨rfl, hbn⟩; have HBx := Lib.hid (HB9.out.trans (hbn.mono HB9.out.size)); clear hbn)
    go_ret
    exact ⟨rfl, HBx.out⟩
  · have z : ((nw : Int) == 0) = false := by rw [beq_eq_false_iff_ne]; omega
    have z' : (nw == 0) = false := by rw [beq_eq_false_iff_ne]; exact hw0
    have hwne : ws ≠ [] := fun e => by rw [e] at hnw; exact hw0 hnw
    obtain ⟨gw, ow, hA2⟩ : ∃ gw ow, A = some ⟨gw, ow, none⟩ := by
      rcases hW.2.2.2 with ⟨_, e⟩ | ⟨gw, ow, e, _⟩
      · have := hW.2.1; omega
      · exact ⟨gw, ow, e⟩
    subst hA2
    have HBb := Lib.hid (show b = true ↔ ∃ k, 1 ≤ k ∧ k ≤ ws.length ∧ lang p (ws.take k) ∧ (k = ws.length ∨ plusL (lang p) (ws.drop k)) from hb'.trans (plus_step hwne))
    have HS2 := Lib.hid (fun (w : World) (hb : Below W1.heap.size W1 w) (A1 : Option Addr) (n1 c1 : Nat) (v : List Sy) (b : Bool) (h1 : WdG w A1 n1 c1 v) (h2 : v.length ≤ N - 1) (h3 : 1 ≤ N) (hb' : b = true ↔ plusL (lang p) v) => hS2 (N - 1) (by omega) w at_ A1 n1 c1 v b (hR.below (HB1.out.trans (hb.mono HB1.out.size))) (hC.below (HB1.out.trans (hb.mono HB1.out.size))) hat h1 h2 (hb'.trans (hX v).symm))
    have HN := Lib.hid (And.intro hnw (And.intro hwN hN))
    have HW1 := Lib.hid hW1'
    have w4 : (1 : Int) ≤ (nw : Int) := by omega
    clear hR hC hat hW hws htl hb hp hcc hcm hal hnw hb1 hF1 hS y2 hW1 hW1' hT hwN hb' x2 z0 hq0 hS2 hX hwne hw0
    go_enter Try.func16, Try.ntmps16
    go_wp2
    rw [← HW1.out]
    clear HW1
    go_loopg [9] ws.length (fun gk s9 wr => PtR W1 (lang p) (fun v => v = [] ∨ plusL (lang p) v) ws 1 gk s9 wr)
    case atStart => exact ⟨1, Nat.le_refl _, by omega, rfl, fun i h1 h2 => by omega, Below.refl _ _⟩
    case round =>
      obtain ⟨k, hk1, hk, rfl, hno, hbw⟩ := hrel
      have HBx := Lib.hid hbw
      have k0 : (0 : Int) ≤ (k : Int) := by omega
      have k9 : (k : Int) ≤ 2000 := by have := HN.out; omega
      by_cases hkn : k ≤ nw
      · have kn : (k : Int) ≤ (nw : Int) := by omega
        have kn' : decide ((k : Int) ≤ (nw : Int)) = true := decide_eq_true kn
        have kn'' : decide (k ≤ nw) = true := decide_eq_true hkn
        have kc : (k : Int) ≤ (cw : Int) := by omega
        have HK := Lib.hid (show 1 ≤ k ∧ k + gk = ws.length + 1 ∧ k ≤ ws.length from ⟨hk1, hk, by have := HN.out; omega⟩)
        obtain ⟨bp, hbp⟩ := bool_ofR (lang p (ws.take k))
        have CP := Lib.hid (fun (w : World) (hb : Below W1.heap.size W1 w) => HT.out w hb (some ⟨gw, ow, none⟩) k cw (ws.take k) bp ((HWw.out w hb).pre hkn) (by rw [List.length_take]; have := HN.out; omega) hbp)
        have HP := Lib.hid hbp
        clear hk hbw hbp hk1
        cases bp with
        | false =>
          have HNo := Lib.hid (pt_no (Y := fun v => v = [] ∨ plusL (lang p) v) hno (fun h => by have := HP.out.2 h.1; cases this))
          clear hno hkn
          go_wp2
          refine wp_region_noPanic ?_
          refine wp_region_held_drew (S := (fun w => w.cell? ⟨W.heap.size, 2, none⟩ = some (.slice (some ⟨g', 0, none⟩) 1 c') ∧ w.cell? ⟨g', 0, none⟩ = some (.int .i64 (q0 : Int)))) (by kernel_rfl) (HQ.out _ HBx.out.drew).2 (fun hHeld => ?_)
          refine wpAnyH_take (i := 0) (oi := { dst := some 93, op := Go.Op.move (Go.Operand.tmp 0), type := 25, pos := "ref.go:40", after := #[], guard := none }) (v := ?_) rfl (by kernel_rfl) (by kernel_rfl) (by kernel_rfl) (fun _ _ _ h => h) (Or.inl ⟨by rfl, ?_⟩) (by assumption) ?_
          rotate_left
          · (intro w hSw; (try dsimp only at hSw); go_simp; try with_reducible rfl)
          try simp only [Act.put, List.setIfInBounds_toArray, List.set_cons_zero, List.set_cons_succ]
          refine wpAnyH_take (i := 1) (oi := { dst := some 94, op := Go.Op.fieldAddr 62 (Go.Operand.tmp 7) 2, type := 0, pos := "ref.go:40", after := #[], guard := none }) (v := ?_) rfl (by kernel_rfl) (by kernel_rfl) (by kernel_rfl) (fun _ _ _ h => h) (Or.inl ⟨by rfl, ?_⟩) (by assumption) ?_
          rotate_left
          · (intro w hSw; (try dsimp only at hSw); go_simp; try with_reducible rfl)
          try simp only [Act.put, List.setIfInBounds_toArray, List.set_cons_zero, List.set_cons_succ]
          refine wpAnyH_take (i := 2) (oi := { dst := some 95, op := Go.Op.load 51 (Go.Operand.tmp 94), type := 51, pos := "ref.go:40", after := #[{ on := 1, ground := Go.Ground.data }], guard := none }) (v := ?_) rfl (by kernel_rfl) (by kernel_rfl) (by kernel_rfl) (fun _ _ _ h => h) (Or.inl ⟨by rfl, ?_⟩) (by assumption) ?_
          rotate_left
          · (intro w hSw; (try dsimp only at hSw); go_simp; try with_reducible rfl)
          try simp only [Act.put, List.setIfInBounds_toArray, List.set_cons_zero, List.set_cons_succ]
          refine wpAnyH_take (i := 3) (oi := { dst := some 96, op := Go.Op.indexAddr 51 (Go.Operand.tmp 95) (Go.Operand.const (Go.Value.int Go.IntKind.i64 0)), type := 0, pos := "ref.go:40", after := #[{ on := 2, ground := Go.Ground.data }], guard := none }) (v := ?_) rfl (by kernel_rfl) (by kernel_rfl) (by kernel_rfl) (fun _ _ _ h => h) (Or.inl ⟨by rfl, ?_⟩) (by assumption) ?_
          rotate_left
          · (intro w hSw; (try dsimp only at hSw); go_simp; try with_reducible rfl)
          try simp only [Act.put, List.setIfInBounds_toArray, List.set_cons_zero, List.set_cons_succ]
          refine wpAnyH_take (i := 4) (oi := { dst := some 97, op := Go.Op.load 3 (Go.Operand.tmp 96), type := 3, pos := "ref.go:40", after := #[{ on := 3, ground := Go.Ground.data }], guard := none }) (v := ?_) rfl (by kernel_rfl) (by kernel_rfl) (by kernel_rfl) (fun _ _ _ h => h) (Or.inl ⟨by rfl, ?_⟩) (by assumption) ?_
          rotate_left
          · (intro w hSw; (try dsimp only at hSw); go_simp; try with_reducible rfl)
          try simp only [Act.put, List.setIfInBounds_toArray, List.set_cons_zero, List.set_cons_succ]
          refine wpAnyH_take (i := 5) (oi := { dst := some 98, op := Go.Op.move (Go.Operand.tmp 2), type := 37, pos := "ref.go:40", after := #[], guard := none }) (v := ?_) rfl (by kernel_rfl) (by kernel_rfl) (by kernel_rfl) (fun _ _ _ h => h) (Or.inl ⟨by rfl, ?_⟩) (by assumption) ?_
          rotate_left
          · (intro w hSw; (try dsimp only at hSw); go_simp; try with_reducible rfl)
          try simp only [Act.put, List.setIfInBounds_toArray, List.set_cons_zero, List.set_cons_succ]
          refine wpAnyH_take (i := 6) (oi := { dst := some 99, op := Go.Op.move (Go.Operand.tmp 9), type := 3, pos := "ref.go:40", after := #[], guard := none }) (v := ?_) rfl (by kernel_rfl) (by kernel_rfl) (by kernel_rfl) (fun _ _ _ h => h) (Or.inl ⟨by rfl, ?_⟩) (by assumption) ?_
          rotate_left
          · (intro w hSw; (try dsimp only at hSw); go_simp; try with_reducible rfl)
          try simp only [Act.put, List.setIfInBounds_toArray, List.set_cons_zero, List.set_cons_succ]
          refine wpAnyH_take (i := 7) (oi := { dst := some 100, op := Go.Op.slice 37 (Go.Operand.tmp 98) none (some (Go.Operand.tmp 99)) none, type := 37, pos := "ref.go:40", after := #[{ on := 5, ground := Go.Ground.data }, { on := 6, ground := Go.Ground.data }], guard := none }) (v := ?_) rfl (by kernel_rfl) (by kernel_rfl) (by kernel_rfl) (fun _ _ _ h => h) (Or.inl ⟨by rfl, ?_⟩) (by assumption) ?_
          rotate_left
          · (intro w hSw; (try dsimp only at hSw); go_simp; try with_reducible rfl)
          try simp only [Act.put, List.setIfInBounds_toArray, List.set_cons_zero, List.set_cons_succ]
          refine wpAnyH_ready (rs := [8]) (by kernel_rfl) (by simp) ?_
          refine AllReadyH.cons (o := { dst := some 101, op := Go.Op.call { callee := Go.Callee.value (Go.Operand.func 16), args := #[Go.Operand.tmp 93, Go.Operand.tmp 97, Go.Operand.tmp 100], argTypes := #[25, 3, 37] }, type := 4, pos := "ref.go:40", after := #[{ on := 0, ground := Go.Ground.data }, { on := 4, ground := Go.Ground.data }, { on := 7, ground := Go.Ground.data }], guard := none }) rfl (fun K' hS' => ?_) AllReadyH.nil
          go_simp
          go_at_call 16
          (with_reducible refine (CP.out _ HBx.out.drew).mono ?_)
          rintro e wn ⟨rfl, hbwn⟩
          have HBx : Hid (Below W1.heap.size W1 wn) := Lib.hid (HBx.out.drew.trans (hbwn.mono HBx.out.size))
          clear hbwn
          (try go_wp2_with fail)
          refine hS'.out _ _ ((HQ.out _ HBx.out).2) (fun hHeld => ?_)
          clear hS' K'
          try simp only [Act.put, List.setIfInBounds_toArray, List.set_cons_zero, List.set_cons_succ]
          refine wpAnyH_take (i := 9) (oi := { dst := some 102, op := Go.Op.move (Go.Operand.tmp 101), type := 4, pos := "ref.go:40", after := #[{ on := 8, ground := Go.Ground.data }, { on := 8, ground := Go.Ground.chain }], guard := none }) (v := ?_) rfl (by kernel_rfl) (by kernel_rfl) (by kernel_rfl) (fun _ _ _ h => h) (Or.inl ⟨by rfl, ?_⟩) (by assumption) ?_
          rotate_left
          · (intro w hSw; (try dsimp only at hSw); go_simp; try with_reducible rfl)
          try simp only [Act.put, List.setIfInBounds_toArray, List.set_cons_zero, List.set_cons_succ]
          refine wpAnyH_take (i := 10) (oi := { dst := some 103, op := Go.Op.move (Go.Operand.tmp 9), type := 3, pos := "ref.go:40", after := #[{ on := 9, ground := Go.Ground.guard }], guard := some (9, true) }) (v := undef) rfl (by kernel_rfl) (by kernel_rfl) (by kernel_rfl) (fun _ _ _ h => h) (Or.inr ⟨by rfl, rfl⟩) (by assumption) ?_
          try simp only [Act.put, List.setIfInBounds_toArray, List.set_cons_zero, List.set_cons_succ]
          refine wpAnyH_take (i := 11) (oi := { dst := some 104, op := Go.Op.move (Go.Operand.tmp 2), type := 37, pos := "ref.go:40", after := #[{ on := 9, ground := Go.Ground.guard }], guard := some (9, true) }) (v := undef) rfl (by kernel_rfl) (by kernel_rfl) (by kernel_rfl) (fun _ _ _ h => h) (Or.inr ⟨by rfl, rfl⟩) (by assumption) ?_
          try simp only [Act.put, List.setIfInBounds_toArray, List.set_cons_zero, List.set_cons_succ]
          refine wpAnyH_take (i := 12) (oi := { dst := some 105, op := Go.Op.call { callee := Go.Callee.builtin Go.Builtin.len, args := #[Go.Operand.tmp 104], argTypes := #[37] }, type := 3, pos := "ref.go:40", after := #[{ on := 11, ground := Go.Ground.data }, { on := 9, ground := Go.Ground.guard }], guard := some (9, true) }) (v := undef) rfl (by kernel_rfl) (by kernel_rfl) (by kernel_rfl) (fun _ _ _ h => h) (Or.inr ⟨by rfl, rfl⟩) (by assumption) ?_
          try simp only [Act.put, List.setIfInBounds_toArray, List.set_cons_zero, List.set_cons_succ]
          refine wpAnyH_take (i := 13) (oi := { dst := some 106, op := Go.Op.binOp Go.BinOp.eql 3 (Go.Operand.tmp 103) (Go.Operand.tmp 105) 3, type := 4, pos := "ref.go:40", after := #[{ on := 10, ground := Go.Ground.data }, { on := 12, ground := Go.Ground.data }, { on := 9, ground := Go.Ground.guard }], guard := some (9, true) }) (v := undef) rfl (by kernel_rfl) (by kernel_rfl) (by kernel_rfl) (fun _ _ _ h => h) (Or.inr ⟨by rfl, rfl⟩) (by assumption) ?_
          try simp only [Act.put, List.setIfInBounds_toArray, List.set_cons_zero, List.set_cons_succ]
          refine wpAnyH_take (i := 14) (oi := { dst := some 107, op := Go.Op.move (Go.Operand.tmp 106), type := 4, pos := "ref.go:40", after := #[{ on := 13, ground := Go.Ground.data }, { on := 9, ground := Go.Ground.chain }, { on := 9, ground := Go.Ground.guard }], guard := some (9, true) }) (v := undef) rfl (by kernel_rfl) (by kernel_rfl) (by kernel_rfl) (fun _ _ _ h => h) (Or.inr ⟨by rfl, rfl⟩) (by assumption) ?_
          try simp only [Act.put, List.setIfInBounds_toArray, List.set_cons_zero, List.set_cons_succ]
          refine wpAnyH_take (i := 15) (oi := { dst := some 108, op := Go.Op.move (Go.Operand.tmp 0), type := 25, pos := "ref.go:40", after := #[{ on := 14, ground := Go.Ground.guard }], guard := some (14, false) }) (v := undef) rfl (by kernel_rfl) (by kernel_rfl) (by kernel_rfl) (fun _ _ _ h => h) (Or.inr ⟨by rfl, rfl⟩) (by assumption) ?_
          try simp only [Act.put, List.setIfInBounds_toArray, List.set_cons_zero, List.set_cons_succ]
          refine wpAnyH_take (i := 16) (oi := { dst := some 109, op := Go.Op.move (Go.Operand.tmp 1), type := 3, pos := "ref.go:40", after := #[{ on := 14, ground := Go.Ground.guard }], guard := some (14, false) }) (v := undef) rfl (by kernel_rfl) (by kernel_rfl) (by kernel_rfl) (fun _ _ _ h => h) (Or.inr ⟨by rfl, rfl⟩) (by assumption) ?_
          try simp only [Act.put, List.setIfInBounds_toArray, List.set_cons_zero, List.set_cons_succ]
          refine wpAnyH_take (i := 17) (oi := { dst := some 110, op := Go.Op.move (Go.Operand.tmp 2), type := 37, pos := "ref.go:40", after := #[{ on := 14, ground := Go.Ground.guard }], guard := some (14, false) }) (v := undef) rfl (by kernel_rfl) (by kernel_rfl) (by kernel_rfl) (fun _ _ _ h => h) (Or.inr ⟨by rfl, rfl⟩) (by assumption) ?_
          try simp only [Act.put, List.setIfInBounds_toArray, List.set_cons_zero, List.set_cons_succ]
          refine wpAnyH_take (i := 18) (oi := { dst := some 111, op := Go.Op.move (Go.Operand.tmp 9), type := 3, pos := "ref.go:40", after := #[{ on := 14, ground := Go.Ground.guard }], guard := some (14, false) }) (v := undef) rfl (by kernel_rfl) (by kernel_rfl) (by kernel_rfl) (fun _ _ _ h => h) (Or.inr ⟨by rfl, rfl⟩) (by assumption) ?_
          try simp only [Act.put, List.setIfInBounds_toArray, List.set_cons_zero, List.set_cons_succ]
          refine wpAnyH_take (i := 19) (oi := { dst := some 112, op := Go.Op.slice 37 (Go.Operand.tmp 110) (some (Go.Operand.tmp 111)) none none, type := 37, pos := "ref.go:40", after := #[{ on := 17, ground := Go.Ground.data }, { on := 18, ground := Go.Ground.data }, { on := 14, ground := Go.Ground.guard }], guard := some (14, false) }) (v := undef) rfl (by kernel_rfl) (by kernel_rfl) (by kernel_rfl) (fun _ _ _ h => h) (Or.inr ⟨by rfl, rfl⟩) (by assumption) ?_
          try simp only [Act.put, List.setIfInBounds_toArray, List.set_cons_zero, List.set_cons_succ]
          refine wpAnyH_take (i := 20) (oi := { dst := some 113, op := Go.Op.call { callee := Go.Callee.value (Go.Operand.func 16), args := #[Go.Operand.tmp 108, Go.Operand.tmp 109, Go.Operand.tmp 112], argTypes := #[25, 3, 37] }, type := 4, pos := "ref.go:40", after := #[{ on := 15, ground := Go.Ground.data }, { on := 16, ground := Go.Ground.data }, { on := 19, ground := Go.Ground.data }, { on := 14, ground := Go.Ground.chain }, { on := 14, ground := Go.Ground.guard }], guard := some (14, false) }) (v := undef) rfl (by kernel_rfl) (by kernel_rfl) (by kernel_rfl) (fun _ _ _ h => h) (Or.inr ⟨by rfl, rfl⟩) (by assumption) ?_
          try simp only [Act.put, List.setIfInBounds_toArray, List.set_cons_zero, List.set_cons_succ]
          refine wpAnyH_take (i := 21) (oi := { dst := some 114, op := Go.Op.pick (Go.Operand.tmp 107) (Go.Operand.const (Go.Value.bool true)) (Go.Operand.tmp 113), type := 4, pos := "ref.go:40", after := #[{ on := 14, ground := Go.Ground.data }, { on := 20, ground := Go.Ground.data }, { on := 9, ground := Go.Ground.guard }], guard := some (9, true) }) (v := undef) rfl (by kernel_rfl) (by kernel_rfl) (by kernel_rfl) (fun _ _ _ h => h) (Or.inr ⟨by rfl, rfl⟩) (by assumption) ?_
          try simp only [Act.put, List.setIfInBounds_toArray, List.set_cons_zero, List.set_cons_succ]
          refine wpAnyH_take (i := 22) (oi := { dst := some 115, op := Go.Op.pick (Go.Operand.tmp 102) (Go.Operand.tmp 114) (Go.Operand.const (Go.Value.bool false)), type := 4, pos := "ref.go:40", after := #[{ on := 9, ground := Go.Ground.data }, { on := 21, ground := Go.Ground.data }], guard := none }) (v := ?_) rfl (by kernel_rfl) (by kernel_rfl) (by kernel_rfl) (fun _ _ _ h => h) (Or.inl ⟨by rfl, ?_⟩) (by assumption) ?_
          rotate_left
          · (intro w hSw; (try dsimp only at hSw); go_simp; try with_reducible rfl)
          try simp only [Act.put, List.setIfInBounds_toArray, List.set_cons_zero, List.set_cons_succ]
          refine wpAnyH_done (by kernel_rfl) ?_ _
          refine NoPanic.normal ?_
          go_wp2
          go_roundg (ws.length + 1 - (k + 1))
          case measure => have := HK.out; omega
          case rel => exact ⟨k + 1, by have := HK.out; omega, by have := HK.out; omega, by rw [Int.natCast_add]; rfl, HNo.out, HBx.out⟩
        | true =>
          by_cases hke : k = nw
          · have HYes := Lib.hid (show b = true from HBb.out.2 ⟨k, HK.out.1, HK.out.2.2, HP.out.1 rfl, .inl (by have := HN.out.1; omega)⟩)
            have ze : ((k : Int) == (nw : Int)) = true := by rw [beq_iff_eq]; omega
            have ze' : (k == nw) = true := by rw [beq_iff_eq]; exact hke
            clear hno hkn hke
            go_wp2
            refine wp_region_noPanic ?_
            refine wp_region_held_drew (S := (fun w => w.cell? ⟨W.heap.size, 2, none⟩ = some (.slice (some ⟨g', 0, none⟩) 1 c') ∧ w.cell? ⟨g', 0, none⟩ = some (.int .i64 (q0 : Int)))) (by kernel_rfl) (HQ.out _ HBx.out.drew).2 (fun hHeld => ?_)
            refine wpAnyH_take (i := 0) (oi := { dst := some 93, op := Go.Op.move (Go.Operand.tmp 0), type := 25, pos := "ref.go:40", after := #[], guard := none }) (v := ?_) rfl (by kernel_rfl) (by kernel_rfl) (by kernel_rfl) (fun _ _ _ h => h) (Or.inl ⟨by rfl, ?_⟩) (by assumption) ?_
            rotate_left
            · (intro w hSw; (try dsimp only at hSw); go_simp; try with_reducible rfl)
            try simp only [Act.put, List.setIfInBounds_toArray, List.set_cons_zero, List.set_cons_succ]
            refine wpAnyH_take (i := 1) (oi := { dst := some 94, op := Go.Op.fieldAddr 62 (Go.Operand.tmp 7) 2, type := 0, pos := "ref.go:40", after := #[], guard := none }) (v := ?_) rfl (by kernel_rfl) (by kernel_rfl) (by kernel_rfl) (fun _ _ _ h => h) (Or.inl ⟨by rfl, ?_⟩) (by assumption) ?_
            rotate_left
            · (intro w hSw; (try dsimp only at hSw); go_simp; try with_reducible rfl)
            try simp only [Act.put, List.setIfInBounds_toArray, List.set_cons_zero, List.set_cons_succ]
            refine wpAnyH_take (i := 2) (oi := { dst := some 95, op := Go.Op.load 51 (Go.Operand.tmp 94), type := 51, pos := "ref.go:40", after := #[{ on := 1, ground := Go.Ground.data }], guard := none }) (v := ?_) rfl (by kernel_rfl) (by kernel_rfl) (by kernel_rfl) (fun _ _ _ h => h) (Or.inl ⟨by rfl, ?_⟩) (by assumption) ?_
            rotate_left
            · (intro w hSw; (try dsimp only at hSw); go_simp; try with_reducible rfl)
            try simp only [Act.put, List.setIfInBounds_toArray, List.set_cons_zero, List.set_cons_succ]
            refine wpAnyH_take (i := 3) (oi := { dst := some 96, op := Go.Op.indexAddr 51 (Go.Operand.tmp 95) (Go.Operand.const (Go.Value.int Go.IntKind.i64 0)), type := 0, pos := "ref.go:40", after := #[{ on := 2, ground := Go.Ground.data }], guard := none }) (v := ?_) rfl (by kernel_rfl) (by kernel_rfl) (by kernel_rfl) (fun _ _ _ h => h) (Or.inl ⟨by rfl, ?_⟩) (by assumption) ?_
            rotate_left
            · (intro w hSw; (try dsimp only at hSw); go_simp; try with_reducible rfl)
            try simp only [Act.put, List.setIfInBounds_toArray, List.set_cons_zero, List.set_cons_succ]
            refine wpAnyH_take (i := 4) (oi := { dst := some 97, op := Go.Op.load 3 (Go.Operand.tmp 96), type := 3, pos := "ref.go:40", after := #[{ on := 3, ground := Go.Ground.data }], guard := none }) (v := ?_) rfl (by kernel_rfl) (by kernel_rfl) (by kernel_rfl) (fun _ _ _ h => h) (Or.inl ⟨by rfl, ?_⟩) (by assumption) ?_
            rotate_left
            · (intro w hSw; (try dsimp only at hSw); go_simp; try with_reducible rfl)
            try simp only [Act.put, List.setIfInBounds_toArray, List.set_cons_zero, List.set_cons_succ]
            refine wpAnyH_take (i := 5) (oi := { dst := some 98, op := Go.Op.move (Go.Operand.tmp 2), type := 37, pos := "ref.go:40", after := #[], guard := none }) (v := ?_) rfl (by kernel_rfl) (by kernel_rfl) (by kernel_rfl) (fun _ _ _ h => h) (Or.inl ⟨by rfl, ?_⟩) (by assumption) ?_
            rotate_left
            · (intro w hSw; (try dsimp only at hSw); go_simp; try with_reducible rfl)
            try simp only [Act.put, List.setIfInBounds_toArray, List.set_cons_zero, List.set_cons_succ]
            refine wpAnyH_take (i := 6) (oi := { dst := some 99, op := Go.Op.move (Go.Operand.tmp 9), type := 3, pos := "ref.go:40", after := #[], guard := none }) (v := ?_) rfl (by kernel_rfl) (by kernel_rfl) (by kernel_rfl) (fun _ _ _ h => h) (Or.inl ⟨by rfl, ?_⟩) (by assumption) ?_
            rotate_left
            · (intro w hSw; (try dsimp only at hSw); go_simp; try with_reducible rfl)
            try simp only [Act.put, List.setIfInBounds_toArray, List.set_cons_zero, List.set_cons_succ]
            refine wpAnyH_take (i := 7) (oi := { dst := some 100, op := Go.Op.slice 37 (Go.Operand.tmp 98) none (some (Go.Operand.tmp 99)) none, type := 37, pos := "ref.go:40", after := #[{ on := 5, ground := Go.Ground.data }, { on := 6, ground := Go.Ground.data }], guard := none }) (v := ?_) rfl (by kernel_rfl) (by kernel_rfl) (by kernel_rfl) (fun _ _ _ h => h) (Or.inl ⟨by rfl, ?_⟩) (by assumption) ?_
            rotate_left
            · (intro w hSw; (try dsimp only at hSw); go_simp; try with_reducible rfl)
            try simp only [Act.put, List.setIfInBounds_toArray, List.set_cons_zero, List.set_cons_succ]
            refine wpAnyH_ready (rs := [8]) (by kernel_rfl) (by simp) ?_
            refine AllReadyH.cons (o := { dst := some 101, op := Go.Op.call { callee := Go.Callee.value (Go.Operand.func 16), args := #[Go.Operand.tmp 93, Go.Operand.tmp 97, Go.Operand.tmp 100], argTypes := #[25, 3, 37] }, type := 4, pos := "ref.go:40", after := #[{ on := 0, ground := Go.Ground.data }, { on := 4, ground := Go.Ground.data }, { on := 7, ground := Go.Ground.data }], guard := none }) rfl (fun K' hS' => ?_) AllReadyH.nil
            go_simp
            go_at_call 16
            (with_reducible refine (CP.out _ HBx.out.drew).mono ?_)
            rintro e wn ⟨rfl, hbwn⟩
            have HBx : Hid (Below W1.heap.size W1 wn) := Lib.hid (HBx.out.drew.trans (hbwn.mono HBx.out.size))
            clear hbwn
            (try go_wp2_with fail)
            refine hS'.out _ _ ((HQ.out _ HBx.out).2) (fun hHeld => ?_)
            clear hS' K'
            try simp only [Act.put, List.setIfInBounds_toArray, List.set_cons_zero, List.set_cons_succ]
            refine wpAnyH_take (i := 9) (oi := { dst := some 102, op := Go.Op.move (Go.Operand.tmp 101), type := 4, pos := "ref.go:40", after := #[{ on := 8, ground := Go.Ground.data }, { on := 8, ground := Go.Ground.chain }], guard := none }) (v := ?_) rfl (by kernel_rfl) (by kernel_rfl) (by kernel_rfl) (fun _ _ _ h => h) (Or.inl ⟨by rfl, ?_⟩) (by assumption) ?_
            rotate_left
            · (intro w hSw; (try dsimp only at hSw); go_simp; try with_reducible rfl)
            try simp only [Act.put, List.setIfInBounds_toArray, List.set_cons_zero, List.set_cons_succ]
            refine wpAnyH_take (i := 10) (oi := { dst := some 103, op := Go.Op.move (Go.Operand.tmp 9), type := 3, pos := "ref.go:40", after := #[{ on := 9, ground := Go.Ground.guard }], guard := some (9, true) }) (v := ?_) rfl (by kernel_rfl) (by kernel_rfl) (by kernel_rfl) (fun _ _ _ h => h) (Or.inl ⟨by rfl, ?_⟩) (by assumption) ?_
            rotate_left
            · (intro w hSw; (try dsimp only at hSw); go_simp; try with_reducible rfl)
            try simp only [Act.put, List.setIfInBounds_toArray, List.set_cons_zero, List.set_cons_succ]
            refine wpAnyH_take (i := 11) (oi := { dst := some 104, op := Go.Op.move (Go.Operand.tmp 2), type := 37, pos := "ref.go:40", after := #[{ on := 9, ground := Go.Ground.guard }], guard := some (9, true) }) (v := ?_) rfl (by kernel_rfl) (by kernel_rfl) (by kernel_rfl) (fun _ _ _ h => h) (Or.inl ⟨by rfl, ?_⟩) (by assumption) ?_
            rotate_left
            · (intro w hSw; (try dsimp only at hSw); go_simp; try with_reducible rfl)
            try simp only [Act.put, List.setIfInBounds_toArray, List.set_cons_zero, List.set_cons_succ]
            refine wpAnyH_take (i := 12) (oi := { dst := some 105, op := Go.Op.call { callee := Go.Callee.builtin Go.Builtin.len, args := #[Go.Operand.tmp 104], argTypes := #[37] }, type := 3, pos := "ref.go:40", after := #[{ on := 11, ground := Go.Ground.data }, { on := 9, ground := Go.Ground.guard }], guard := some (9, true) }) (v := ?_) rfl (by kernel_rfl) (by kernel_rfl) (by kernel_rfl) (fun _ _ _ h => h) (Or.inl ⟨by rfl, ?_⟩) (by assumption) ?_
            rotate_left
            · (intro w hSw; (try dsimp only at hSw); go_simp; try with_reducible rfl)
            try simp only [Act.put, List.setIfInBounds_toArray, List.set_cons_zero, List.set_cons_succ]
            refine wpAnyH_take (i := 13) (oi := { dst := some 106, op := Go.Op.binOp Go.BinOp.eql 3 (Go.Operand.tmp 103) (Go.Operand.tmp 105) 3, type := 4, pos := "ref.go:40", after := #[{ on := 10, ground := Go.Ground.data }, { on := 12, ground := Go.Ground.data }, { on := 9, ground := Go.Ground.guard }], guard := some (9, true) }) (v := ?_) rfl (by kernel_rfl) (by kernel_rfl) (by kernel_rfl) (fun _ _ _ h => h) (Or.inl ⟨by rfl, ?_⟩) (by assumption) ?_
            rotate_left
            · (intro w hSw; (try dsimp only at hSw); go_simp; try with_reducible rfl)
            try simp only [Act.put, List.setIfInBounds_toArray, List.set_cons_zero, List.set_cons_succ]
            refine wpAnyH_take (i := 14) (oi := { dst := some 107, op := Go.Op.move (Go.Operand.tmp 106), type := 4, pos := "ref.go:40", after := #[{ on := 13, ground := Go.Ground.data }, { on := 9, ground := Go.Ground.chain }, { on := 9, ground := Go.Ground.guard }], guard := some (9, true) }) (v := ?_) rfl (by kernel_rfl) (by kernel_rfl) (by kernel_rfl) (fun _ _ _ h => h) (Or.inl ⟨by rfl, ?_⟩) (by assumption) ?_
            rotate_left
            · (intro w hSw; (try dsimp only at hSw); go_simp; try with_reducible rfl)
            try simp only [Act.put, List.setIfInBounds_toArray, List.set_cons_zero, List.set_cons_succ]
            refine wpAnyH_take (i := 15) (oi := { dst := some 108, op := Go.Op.move (Go.Operand.tmp 0), type := 25, pos := "ref.go:40", after := #[{ on := 14, ground := Go.Ground.guard }], guard := some (14, false) }) (v := undef) rfl (by kernel_rfl) (by kernel_rfl) (by kernel_rfl) (fun _ _ _ h => h) (Or.inr ⟨by rfl, rfl⟩) (by assumption) ?_
            try simp only [Act.put, List.setIfInBounds_toArray, List.set_cons_zero, List.set_cons_succ]
            refine wpAnyH_take (i := 16) (oi := { dst := some 109, op := Go.Op.move (Go.Operand.tmp 1), type := 3, pos := "ref.go:40", after := #[{ on := 14, ground := Go.Ground.guard }], guard := some (14, false) }) (v := undef) rfl (by kernel_rfl) (by kernel_rfl) (by kernel_rfl) (fun _ _ _ h => h) (Or.inr ⟨by rfl, rfl⟩) (by assumption) ?_
            try simp only [Act.put, List.setIfInBounds_toArray, List.set_cons_zero, List.set_cons_succ]
            refine wpAnyH_take (i := 17) (oi := { dst := some 110, op := Go.Op.move (Go.Operand.tmp 2), type := 37, pos := "ref.go:40", after := #[{ on := 14, ground := Go.Ground.guard }], guard := some (14, false) }) (v := undef) rfl (by kernel_rfl) (by kernel_rfl) (by kernel_rfl) (fun _ _ _ h => h) (Or.inr ⟨by rfl, rfl⟩) (by assumption) ?_
            try simp only [Act.put, List.setIfInBounds_toArray, List.set_cons_zero, List.set_cons_succ]
            refine wpAnyH_take (i := 18) (oi := { dst := some 111, op := Go.Op.move (Go.Operand.tmp 9), type := 3, pos := "ref.go:40", after := #[{ on := 14, ground := Go.Ground.guard }], guard := some (14, false) }) (v := undef) rfl (by kernel_rfl) (by kernel_rfl) (by kernel_rfl) (fun _ _ _ h => h) (Or.inr ⟨by rfl, rfl⟩) (by assumption) ?_
            try simp only [Act.put, List.setIfInBounds_toArray, List.set_cons_zero, List.set_cons_succ]
            refine wpAnyH_take (i := 19) (oi := { dst := some 112, op := Go.Op.slice 37 (Go.Operand.tmp 110) (some (Go.Operand.tmp 111)) none none, type := 37, pos := "ref.go:40", after := #[{ on := 17, ground := Go.Ground.data }, { on := 18, ground := Go.Ground.data }, { on := 14, ground := Go.Ground.guard }], guard := some (14, false) }) (v := undef) rfl (by kernel_rfl) (by kernel_rfl) (by kernel_rfl) (fun _ _ _ h => h) (Or.inr ⟨by rfl, rfl⟩) (by assumption) ?_
            try simp only [Act.put, List.setIfInBounds_toArray, List.set_cons_zero, List.set_cons_succ]
            refine wpAnyH_take (i := 20) (oi := { dst := some 113, op := Go.Op.call { callee := Go.Callee.value (Go.Operand.func 16), args := #[Go.Operand.tmp 108, Go.Operand.tmp 109, Go.Operand.tmp 112], argTypes := #[25, 3, 37] }, type := 4, pos := "ref.go:40", after := #[{ on := 15, ground := Go.Ground.data }, { on := 16, ground := Go.Ground.data }, { on := 19, ground := Go.Ground.data }, { on := 14, ground := Go.Ground.chain }, { on := 14, ground := Go.Ground.guard }], guard := some (14, false) }) (v := undef) rfl (by kernel_rfl) (by kernel_rfl) (by kernel_rfl) (fun _ _ _ h => h) (Or.inr ⟨by rfl, rfl⟩) (by assumption) ?_
            try simp only [Act.put, List.setIfInBounds_toArray, List.set_cons_zero, List.set_cons_succ]
            refine wpAnyH_take (i := 21) (oi := { dst := some 114, op := Go.Op.pick (Go.Operand.tmp 107) (Go.Operand.const (Go.Value.bool true)) (Go.Operand.tmp 113), type := 4, pos := "ref.go:40", after := #[{ on := 14, ground := Go.Ground.data }, { on := 20, ground := Go.Ground.data }, { on := 9, ground := Go.Ground.guard }], guard := some (9, true) }) (v := ?_) rfl (by kernel_rfl) (by kernel_rfl) (by kernel_rfl) (fun _ _ _ h => h) (Or.inl ⟨by rfl, ?_⟩) (by assumption) ?_
            rotate_left
            · (intro w hSw; (try dsimp only at hSw); go_simp; try with_reducible rfl)
            try simp only [Act.put, List.setIfInBounds_toArray, List.set_cons_zero, List.set_cons_succ]
            refine wpAnyH_take (i := 22) (oi := { dst := some 115, op := Go.Op.pick (Go.Operand.tmp 102) (Go.Operand.tmp 114) (Go.Operand.const (Go.Value.bool false)), type := 4, pos := "ref.go:40", after := #[{ on := 9, ground := Go.Ground.data }, { on := 21, ground := Go.Ground.data }], guard := none }) (v := ?_) rfl (by kernel_rfl) (by kernel_rfl) (by kernel_rfl) (fun _ _ _ h => h) (Or.inl ⟨by rfl, ?_⟩) (by assumption) ?_
            rotate_left
            · (intro w hSw; (try dsimp only at hSw); go_simp; try with_reducible rfl)
            try simp only [Act.put, List.setIfInBounds_toArray, List.set_cons_zero, List.set_cons_succ]
            refine wpAnyH_done (by kernel_rfl) ?_ _
            refine NoPanic.normal ?_
            go_wp2
            go_ret
            exact ⟨by rw [HYes.out]; rfl, HB1.out.trans (HBx.out.mono HB1.out.size)⟩
          · have ze : ((k : Int) == (nw : Int)) = false := by rw [beq_eq_false_iff_ne]; omega
            have ze' : (k == nw) = false := by rw [beq_eq_false_iff_ne]; exact hke
            have hkc' : k < cw := by omega
            have hkc2 : (k : Int) < (cw : Int) := by omega
            have hkc3 : ¬ cw = k := by omega
            have hkc4 : ¬ cw - k = 0 := by omega
            have hkc5 : ¬ cw ≤ k := by omega
            obtain ⟨bq, hbq⟩ := bool_ofR (plusL (lang p) (ws.drop k))
            have CQ := Lib.hid (fun (w : World) (hb : Below W1.heap.size W1 w) => HS2.out w hb (some ⟨gw, ow + k * 2, none⟩) (nw - k) (cw - k) (ws.drop k) bq ((HWw.out w hb).suf hkn) (by rw [List.length_drop]; have := HN.out; have := HK.out; omega) (by have := HN.out; have := HK.out; omega) hbq)
            have HQq := Lib.hid hbq
            have HKe := Lib.hid hke
            clear hkn hbq
            cases bq with
            | false =>
              have HNo := Lib.hid (pt_no (Y := fun v => v = [] ∨ plusL (lang p) v) hno (fun h => by
                have h2 : ws.drop k = [] ∨ plusL (lang p) (ws.drop k) := h.2
                rcases h2 with h | h
                · have := List.drop_eq_nil_iff.1 h
                  have := HN.out.1
                  have := HK.out.2.2
                  have := HKe.out
                  omega
                · have := HQq.out.2 h; cases this))
              clear hno hke
              go_wp2
              refine wp_region_noPanic ?_
              refine wp_region_held_drew (S := (fun w => w.cell? ⟨W.heap.size, 2, none⟩ = some (.slice (some ⟨g', 0, none⟩) 1 c') ∧ w.cell? ⟨g', 0, none⟩ = some (.int .i64 (q0 : Int)))) (by kernel_rfl) (HQ.out _ HBx.out.drew).2 (fun hHeld => ?_)
              refine wpAnyH_take (i := 0) (oi := { dst := some 93, op := Go.Op.move (Go.Operand.tmp 0), type := 25, pos := "ref.go:40", after := #[], guard := none }) (v := ?_) rfl (by kernel_rfl) (by kernel_rfl) (by kernel_rfl) (fun _ _ _ h => h) (Or.inl ⟨by rfl, ?_⟩) (by assumption) ?_
              rotate_left
              · (intro w hSw; (try dsimp only at hSw); go_simp; try with_reducible rfl)
              try simp only [Act.put, List.setIfInBounds_toArray, List.set_cons_zero, List.set_cons_succ]
              refine wpAnyH_take (i := 1) (oi := { dst := some 94, op := Go.Op.fieldAddr 62 (Go.Operand.tmp 7) 2, type := 0, pos := "ref.go:40", after := #[], guard := none }) (v := ?_) rfl (by kernel_rfl) (by kernel_rfl) (by kernel_rfl) (fun _ _ _ h => h) (Or.inl ⟨by rfl, ?_⟩) (by assumption) ?_
              rotate_left
              · (intro w hSw; (try dsimp only at hSw); go_simp; try with_reducible rfl)
              try simp only [Act.put, List.setIfInBounds_toArray, List.set_cons_zero, List.set_cons_succ]
              refine wpAnyH_take (i := 2) (oi := { dst := some 95, op := Go.Op.load 51 (Go.Operand.tmp 94), type := 51, pos := "ref.go:40", after := #[{ on := 1, ground := Go.Ground.data }], guard := none }) (v := ?_) rfl (by kernel_rfl) (by kernel_rfl) (by kernel_rfl) (fun _ _ _ h => h) (Or.inl ⟨by rfl, ?_⟩) (by assumption) ?_
              rotate_left
              · (intro w hSw; (try dsimp only at hSw); go_simp; try with_reducible rfl)
              try simp only [Act.put, List.setIfInBounds_toArray, List.set_cons_zero, List.set_cons_succ]
              refine wpAnyH_take (i := 3) (oi := { dst := some 96, op := Go.Op.indexAddr 51 (Go.Operand.tmp 95) (Go.Operand.const (Go.Value.int Go.IntKind.i64 0)), type := 0, pos := "ref.go:40", after := #[{ on := 2, ground := Go.Ground.data }], guard := none }) (v := ?_) rfl (by kernel_rfl) (by kernel_rfl) (by kernel_rfl) (fun _ _ _ h => h) (Or.inl ⟨by rfl, ?_⟩) (by assumption) ?_
              rotate_left
              · (intro w hSw; (try dsimp only at hSw); go_simp; try with_reducible rfl)
              try simp only [Act.put, List.setIfInBounds_toArray, List.set_cons_zero, List.set_cons_succ]
              refine wpAnyH_take (i := 4) (oi := { dst := some 97, op := Go.Op.load 3 (Go.Operand.tmp 96), type := 3, pos := "ref.go:40", after := #[{ on := 3, ground := Go.Ground.data }], guard := none }) (v := ?_) rfl (by kernel_rfl) (by kernel_rfl) (by kernel_rfl) (fun _ _ _ h => h) (Or.inl ⟨by rfl, ?_⟩) (by assumption) ?_
              rotate_left
              · (intro w hSw; (try dsimp only at hSw); go_simp; try with_reducible rfl)
              try simp only [Act.put, List.setIfInBounds_toArray, List.set_cons_zero, List.set_cons_succ]
              refine wpAnyH_take (i := 5) (oi := { dst := some 98, op := Go.Op.move (Go.Operand.tmp 2), type := 37, pos := "ref.go:40", after := #[], guard := none }) (v := ?_) rfl (by kernel_rfl) (by kernel_rfl) (by kernel_rfl) (fun _ _ _ h => h) (Or.inl ⟨by rfl, ?_⟩) (by assumption) ?_
              rotate_left
              · (intro w hSw; (try dsimp only at hSw); go_simp; try with_reducible rfl)
              try simp only [Act.put, List.setIfInBounds_toArray, List.set_cons_zero, List.set_cons_succ]
              refine wpAnyH_take (i := 6) (oi := { dst := some 99, op := Go.Op.move (Go.Operand.tmp 9), type := 3, pos := "ref.go:40", after := #[], guard := none }) (v := ?_) rfl (by kernel_rfl) (by kernel_rfl) (by kernel_rfl) (fun _ _ _ h => h) (Or.inl ⟨by rfl, ?_⟩) (by assumption) ?_
              rotate_left
              · (intro w hSw; (try dsimp only at hSw); go_simp; try with_reducible rfl)
              try simp only [Act.put, List.setIfInBounds_toArray, List.set_cons_zero, List.set_cons_succ]
              refine wpAnyH_take (i := 7) (oi := { dst := some 100, op := Go.Op.slice 37 (Go.Operand.tmp 98) none (some (Go.Operand.tmp 99)) none, type := 37, pos := "ref.go:40", after := #[{ on := 5, ground := Go.Ground.data }, { on := 6, ground := Go.Ground.data }], guard := none }) (v := ?_) rfl (by kernel_rfl) (by kernel_rfl) (by kernel_rfl) (fun _ _ _ h => h) (Or.inl ⟨by rfl, ?_⟩) (by assumption) ?_
              rotate_left
              · (intro w hSw; (try dsimp only at hSw); go_simp; try with_reducible rfl)
              try simp only [Act.put, List.setIfInBounds_toArray, List.set_cons_zero, List.set_cons_succ]
              refine wpAnyH_ready (rs := [8]) (by kernel_rfl) (by simp) ?_
              refine AllReadyH.cons (o := { dst := some 101, op := Go.Op.call { callee := Go.Callee.value (Go.Operand.func 16), args := #[Go.Operand.tmp 93, Go.Operand.tmp 97, Go.Operand.tmp 100], argTypes := #[25, 3, 37] }, type := 4, pos := "ref.go:40", after := #[{ on := 0, ground := Go.Ground.data }, { on := 4, ground := Go.Ground.data }, { on := 7, ground := Go.Ground.data }], guard := none }) rfl (fun K' hS' => ?_) AllReadyH.nil
              go_simp
              go_at_call 16
              (with_reducible refine (CP.out _ HBx.out.drew).mono ?_)
              rintro e wn ⟨rfl, hbwn⟩
              have HBx : Hid (Below W1.heap.size W1 wn) := Lib.hid (HBx.out.drew.trans (hbwn.mono HBx.out.size))
              clear hbwn
              (try go_wp2_with fail)
              refine hS'.out _ _ ((HQ.out _ HBx.out).2) (fun hHeld => ?_)
              clear hS' K'
              try simp only [Act.put, List.setIfInBounds_toArray, List.set_cons_zero, List.set_cons_succ]
              refine wpAnyH_take (i := 9) (oi := { dst := some 102, op := Go.Op.move (Go.Operand.tmp 101), type := 4, pos := "ref.go:40", after := #[{ on := 8, ground := Go.Ground.data }, { on := 8, ground := Go.Ground.chain }], guard := none }) (v := ?_) rfl (by kernel_rfl) (by kernel_rfl) (by kernel_rfl) (fun _ _ _ h => h) (Or.inl ⟨by rfl, ?_⟩) (by assumption) ?_
              rotate_left
              · (intro w hSw; (try dsimp only at hSw); go_simp; try with_reducible rfl)
              try simp only [Act.put, List.setIfInBounds_toArray, List.set_cons_zero, List.set_cons_succ]
              refine wpAnyH_take (i := 10) (oi := { dst := some 103, op := Go.Op.move (Go.Operand.tmp 9), type := 3, pos := "ref.go:40", after := #[{ on := 9, ground := Go.Ground.guard }], guard := some (9, true) }) (v := ?_) rfl (by kernel_rfl) (by kernel_rfl) (by kernel_rfl) (fun _ _ _ h => h) (Or.inl ⟨by rfl, ?_⟩) (by assumption) ?_
              rotate_left
              · (intro w hSw; (try dsimp only at hSw); go_simp; try with_reducible rfl)
              try simp only [Act.put, List.setIfInBounds_toArray, List.set_cons_zero, List.set_cons_succ]
              refine wpAnyH_take (i := 11) (oi := { dst := some 104, op := Go.Op.move (Go.Operand.tmp 2), type := 37, pos := "ref.go:40", after := #[{ on := 9, ground := Go.Ground.guard }], guard := some (9, true) }) (v := ?_) rfl (by kernel_rfl) (by kernel_rfl) (by kernel_rfl) (fun _ _ _ h => h) (Or.inl ⟨by rfl, ?_⟩) (by assumption) ?_
              rotate_left
              · (intro w hSw; (try dsimp only at hSw); go_simp; try with_reducible rfl)
              try simp only [Act.put, List.setIfInBounds_toArray, List.set_cons_zero, List.set_cons_succ]
              refine wpAnyH_take (i := 12) (oi := { dst := some 105, op := Go.Op.call { callee := Go.Callee.builtin Go.Builtin.len, args := #[Go.Operand.tmp 104], argTypes := #[37] }, type := 3, pos := "ref.go:40", after := #[{ on := 11, ground := Go.Ground.data }, { on := 9, ground := Go.Ground.guard }], guard := some (9, true) }) (v := ?_) rfl (by kernel_rfl) (by kernel_rfl) (by kernel_rfl) (fun _ _ _ h => h) (Or.inl ⟨by rfl, ?_⟩) (by assumption) ?_
              rotate_left
              · (intro w hSw; (try dsimp only at hSw); go_simp; try with_reducible rfl)
              try simp only [Act.put, List.setIfInBounds_toArray, List.set_cons_zero, List.set_cons_succ]
              refine wpAnyH_take (i := 13) (oi := { dst := some 106, op := Go.Op.binOp Go.BinOp.eql 3 (Go.Operand.tmp 103) (Go.Operand.tmp 105) 3, type := 4, pos := "ref.go:40", after := #[{ on := 10, ground := Go.Ground.data }, { on := 12, ground := Go.Ground.data }, { on := 9, ground := Go.Ground.guard }], guard := some (9, true) }) (v := ?_) rfl (by kernel_rfl) (by kernel_rfl) (by kernel_rfl) (fun _ _ _ h => h) (Or.inl ⟨by rfl, ?_⟩) (by assumption) ?_
              rotate_left
              · (intro w hSw; (try dsimp only at hSw); go_simp; try with_reducible rfl)
              try simp only [Act.put, List.setIfInBounds_toArray, List.set_cons_zero, List.set_cons_succ]
              refine wpAnyH_take (i := 14) (oi := { dst := some 107, op := Go.Op.move (Go.Operand.tmp 106), type := 4, pos := "ref.go:40", after := #[{ on := 13, ground := Go.Ground.data }, { on := 9, ground := Go.Ground.chain }, { on := 9, ground := Go.Ground.guard }], guard := some (9, true) }) (v := ?_) rfl (by kernel_rfl) (by kernel_rfl) (by kernel_rfl) (fun _ _ _ h => h) (Or.inl ⟨by rfl, ?_⟩) (by assumption) ?_
              rotate_left
              · (intro w hSw; (try dsimp only at hSw); go_simp; try with_reducible rfl)
              try simp only [Act.put, List.setIfInBounds_toArray, List.set_cons_zero, List.set_cons_succ]
              refine wpAnyH_take (i := 15) (oi := { dst := some 108, op := Go.Op.move (Go.Operand.tmp 0), type := 25, pos := "ref.go:40", after := #[{ on := 14, ground := Go.Ground.guard }], guard := some (14, false) }) (v := ?_) rfl (by kernel_rfl) (by kernel_rfl) (by kernel_rfl) (fun _ _ _ h => h) (Or.inl ⟨by rfl, ?_⟩) (by assumption) ?_
              rotate_left
              · (intro w hSw; (try dsimp only at hSw); go_simp; try with_reducible rfl)
              try simp only [Act.put, List.setIfInBounds_toArray, List.set_cons_zero, List.set_cons_succ]
              refine wpAnyH_take (i := 16) (oi := { dst := some 109, op := Go.Op.move (Go.Operand.tmp 1), type := 3, pos := "ref.go:40", after := #[{ on := 14, ground := Go.Ground.guard }], guard := some (14, false) }) (v := ?_) rfl (by kernel_rfl) (by kernel_rfl) (by kernel_rfl) (fun _ _ _ h => h) (Or.inl ⟨by rfl, ?_⟩) (by assumption) ?_
              rotate_left
              · (intro w hSw; (try dsimp only at hSw); go_simp; try with_reducible rfl)
              try simp only [Act.put, List.setIfInBounds_toArray, List.set_cons_zero, List.set_cons_succ]
              refine wpAnyH_take (i := 17) (oi := { dst := some 110, op := Go.Op.move (Go.Operand.tmp 2), type := 37, pos := "ref.go:40", after := #[{ on := 14, ground := Go.Ground.guard }], guard := some (14, false) }) (v := ?_) rfl (by kernel_rfl) (by kernel_rfl) (by kernel_rfl) (fun _ _ _ h => h) (Or.inl ⟨by rfl, ?_⟩) (by assumption) ?_
              rotate_left
              · (intro w hSw; (try dsimp only at hSw); go_simp; try with_reducible rfl)
              try simp only [Act.put, List.setIfInBounds_toArray, List.set_cons_zero, List.set_cons_succ]
              refine wpAnyH_take (i := 18) (oi := { dst := some 111, op := Go.Op.move (Go.Operand.tmp 9), type := 3, pos := "ref.go:40", after := #[{ on := 14, ground := Go.Ground.guard }], guard := some (14, false) }) (v := ?_) rfl (by kernel_rfl) (by kernel_rfl) (by kernel_rfl) (fun _ _ _ h => h) (Or.inl ⟨by rfl, ?_⟩) (by assumption) ?_
              rotate_left
              · (intro w hSw; (try dsimp only at hSw); go_simp; try with_reducible rfl)
              try simp only [Act.put, List.setIfInBounds_toArray, List.set_cons_zero, List.set_cons_succ]
              refine wpAnyH_take (i := 19) (oi := { dst := some 112, op := Go.Op.slice 37 (Go.Operand.tmp 110) (some (Go.Operand.tmp 111)) none none, type := 37, pos := "ref.go:40", after := #[{ on := 17, ground := Go.Ground.data }, { on := 18, ground := Go.Ground.data }, { on := 14, ground := Go.Ground.guard }], guard := some (14, false) }) (v := ?_) rfl (by kernel_rfl) (by kernel_rfl) (by kernel_rfl) (fun _ _ _ h => h) (Or.inl ⟨by rfl, ?_⟩) (by assumption) ?_
              rotate_left
              · (intro w hSw; (try dsimp only at hSw); go_simp; try with_reducible rfl)
              try simp only [Act.put, List.setIfInBounds_toArray, List.set_cons_zero, List.set_cons_succ]
              refine wpAnyH_ready (rs := [20]) (by kernel_rfl) (by simp) ?_
              refine AllReadyH.cons (o := { dst := some 113, op := Go.Op.call { callee := Go.Callee.value (Go.Operand.func 16), args := #[Go.Operand.tmp 108, Go.Operand.tmp 109, Go.Operand.tmp 112], argTypes := #[25, 3, 37] }, type := 4, pos := "ref.go:40", after := #[{ on := 15, ground := Go.Ground.data }, { on := 16, ground := Go.Ground.data }, { on := 19, ground := Go.Ground.data }, { on := 14, ground := Go.Ground.chain }, { on := 14, ground := Go.Ground.guard }], guard := some (14, false) }) rfl (fun K' hS' => ?_) AllReadyH.nil
              go_simp
              go_at_call 16
              (with_reducible refine (CQ.out _ HBx.out).mono ?_)
              rintro e wm ⟨rfl, hbwm⟩
              have HBx : Hid (Below W1.heap.size W1 wm) := Lib.hid (HBx.out.trans (hbwm.mono HBx.out.size))
              clear hbwm
              (try go_wp2_with fail)
              refine hS'.out _ _ ((HQ.out _ HBx.out).2) (fun hHeld => ?_)
              clear hS' K'
              try simp only [Act.put, List.setIfInBounds_toArray, List.set_cons_zero, List.set_cons_succ]
              refine wpAnyH_take (i := 21) (oi := { dst := some 114, op := Go.Op.pick (Go.Operand.tmp 107) (Go.Operand.const (Go.Value.bool true)) (Go.Operand.tmp 113), type := 4, pos := "ref.go:40", after := #[{ on := 14, ground := Go.Ground.data }, { on := 20, ground := Go.Ground.data }, { on := 9, ground := Go.Ground.guard }], guard := some (9, true) }) (v := ?_) rfl (by kernel_rfl) (by kernel_rfl) (by kernel_rfl) (fun _ _ _ h => h) (Or.inl ⟨by rfl, ?_⟩) (by assumption) ?_
              rotate_left
              · (intro w hSw; (try dsimp only at hSw); go_simp; try with_reducible rfl)
              try simp only [Act.put, List.setIfInBounds_toArray, List.set_cons_zero, List.set_cons_succ]
              refine wpAnyH_take (i := 22) (oi := { dst := some 115, op := Go.Op.pick (Go.Operand.tmp 102) (Go.Operand.tmp 114) (Go.Operand.const (Go.Value.bool false)), type := 4, pos := "ref.go:40", after := #[{ on := 9, ground := Go.Ground.data }, { on := 21, ground := Go.Ground.data }], guard := none }) (v := ?_) rfl (by kernel_rfl) (by kernel_rfl) (by kernel_rfl) (fun _ _ _ h => h) (Or.inl ⟨by rfl, ?_⟩) (by assumption) ?_
              rotate_left
              · (intro w hSw; (try dsimp only at hSw); go_simp; try with_reducible rfl)
              try simp only [Act.put, List.setIfInBounds_toArray, List.set_cons_zero, List.set_cons_succ]
              refine wpAnyH_done (by kernel_rfl) ?_ _
              refine NoPanic.normal ?_
              go_wp2
              go_roundg (ws.length + 1 - (k + 1))
              case measure => have := HK.out; omega
              case rel => exact ⟨k + 1, by have := HK.out; omega, by have := HK.out; omega, by rw [Int.natCast_add]; rfl, HNo.out, HBx.out⟩
            | true =>
              have HYes := Lib.hid (show b = true from HBb.out.2 ⟨k, HK.out.1, HK.out.2.2, HP.out.1 rfl, .inr (HQq.out.1 rfl)⟩)
              clear hno hke
              go_wp2
              refine wp_region_noPanic ?_
              refine wp_region_held_drew (S := (fun w => w.cell? ⟨W.heap.size, 2, none⟩ = some (.slice (some ⟨g', 0, none⟩) 1 c') ∧ w.cell? ⟨g', 0, none⟩ = some (.int .i64 (q0 : Int)))) (by kernel_rfl) (HQ.out _ HBx.out.drew).2 (fun hHeld => ?_)
              refine wpAnyH_take (i := 0) (oi := { dst := some 93, op := Go.Op.move (Go.Operand.tmp 0), type := 25, pos := "ref.go:40", after := #[], guard := none }) (v := ?_) rfl (by kernel_rfl) (by kernel_rfl) (by kernel_rfl) (fun _ _ _ h => h) (Or.inl ⟨by rfl, ?_⟩) (by assumption) ?_
              rotate_left
              · (intro w hSw; (try dsimp only at hSw); go_simp; try with_reducible rfl)
              try simp only [Act.put, List.setIfInBounds_toArray, List.set_cons_zero, List.set_cons_succ]
              refine wpAnyH_take (i := 1) (oi := { dst := some 94, op := Go.Op.fieldAddr 62 (Go.Operand.tmp 7) 2, type := 0, pos := "ref.go:40", after := #[], guard := none }) (v := ?_) rfl (by kernel_rfl) (by kernel_rfl) (by kernel_rfl) (fun _ _ _ h => h) (Or.inl ⟨by rfl, ?_⟩) (by assumption) ?_
              rotate_left
              · (intro w hSw; (try dsimp only at hSw); go_simp; try with_reducible rfl)
              try simp only [Act.put, List.setIfInBounds_toArray, List.set_cons_zero, List.set_cons_succ]
              refine wpAnyH_take (i := 2) (oi := { dst := some 95, op := Go.Op.load 51 (Go.Operand.tmp 94), type := 51, pos := "ref.go:40", after := #[{ on := 1, ground := Go.Ground.data }], guard := none }) (v := ?_) rfl (by kernel_rfl) (by kernel_rfl) (by kernel_rfl) (fun _ _ _ h => h) (Or.inl ⟨by rfl, ?_⟩) (by assumption) ?_
              rotate_left
              · (intro w hSw; (try dsimp only at hSw); go_simp; try with_reducible rfl)
              try simp only [Act.put, List.setIfInBounds_toArray, List.set_cons_zero, List.set_cons_succ]
              refine wpAnyH_take (i := 3) (oi := { dst := some 96, op := Go.Op.indexAddr 51 (Go.Operand.tmp 95) (Go.Operand.const (Go.Value.int Go.IntKind.i64 0)), type := 0, pos := "ref.go:40", after := #[{ on := 2, ground := Go.Ground.data }], guard := none }) (v := ?_) rfl (by kernel_rfl) (by kernel_rfl) (by kernel_rfl) (fun _ _ _ h => h) (Or.inl ⟨by rfl, ?_⟩) (by assumption) ?_
              rotate_left
              · (intro w hSw; (try dsimp only at hSw); go_simp; try with_reducible rfl)
              try simp only [Act.put, List.setIfInBounds_toArray, List.set_cons_zero, List.set_cons_succ]
              refine wpAnyH_take (i := 4) (oi := { dst := some 97, op := Go.Op.load 3 (Go.Operand.tmp 96), type := 3, pos := "ref.go:40", after := #[{ on := 3, ground := Go.Ground.data }], guard := none }) (v := ?_) rfl (by kernel_rfl) (by kernel_rfl) (by kernel_rfl) (fun _ _ _ h => h) (Or.inl ⟨by rfl, ?_⟩) (by assumption) ?_
              rotate_left
              · (intro w hSw; (try dsimp only at hSw); go_simp; try with_reducible rfl)
              try simp only [Act.put, List.setIfInBounds_toArray, List.set_cons_zero, List.set_cons_succ]
              refine wpAnyH_take (i := 5) (oi := { dst := some 98, op := Go.Op.move (Go.Operand.tmp 2), type := 37, pos := "ref.go:40", after := #[], guard := none }) (v := ?_) rfl (by kernel_rfl) (by kernel_rfl) (by kernel_rfl) (fun _ _ _ h => h) (Or.inl ⟨by rfl, ?_⟩) (by assumption) ?_
              rotate_left
              · (intro w hSw; (try dsimp only at hSw); go_simp; try with_reducible rfl)
              try simp only [Act.put, List.setIfInBounds_toArray, List.set_cons_zero, List.set_cons_succ]
              refine wpAnyH_take (i := 6) (oi := { dst := some 99, op := Go.Op.move (Go.Operand.tmp 9), type := 3, pos := "ref.go:40", after := #[], guard := none }) (v := ?_) rfl (by kernel_rfl) (by kernel_rfl) (by kernel_rfl) (fun _ _ _ h => h) (Or.inl ⟨by rfl, ?_⟩) (by assumption) ?_
              rotate_left
              · (intro w hSw; (try dsimp only at hSw); go_simp; try with_reducible rfl)
              try simp only [Act.put, List.setIfInBounds_toArray, List.set_cons_zero, List.set_cons_succ]
              refine wpAnyH_take (i := 7) (oi := { dst := some 100, op := Go.Op.slice 37 (Go.Operand.tmp 98) none (some (Go.Operand.tmp 99)) none, type := 37, pos := "ref.go:40", after := #[{ on := 5, ground := Go.Ground.data }, { on := 6, ground := Go.Ground.data }], guard := none }) (v := ?_) rfl (by kernel_rfl) (by kernel_rfl) (by kernel_rfl) (fun _ _ _ h => h) (Or.inl ⟨by rfl, ?_⟩) (by assumption) ?_
              rotate_left
              · (intro w hSw; (try dsimp only at hSw); go_simp; try with_reducible rfl)
              try simp only [Act.put, List.setIfInBounds_toArray, List.set_cons_zero, List.set_cons_succ]
              refine wpAnyH_ready (rs := [8]) (by kernel_rfl) (by simp) ?_
              refine AllReadyH.cons (o := { dst := some 101, op := Go.Op.call { callee := Go.Callee.value (Go.Operand.func 16), args := #[Go.Operand.tmp 93, Go.Operand.tmp 97, Go.Operand.tmp 100], argTypes := #[25, 3, 37] }, type := 4, pos := "ref.go:40", after := #[{ on := 0, ground := Go.Ground.data }, { on := 4, ground := Go.Ground.data }, { on := 7, ground := Go.Ground.data }], guard := none }) rfl (fun K' hS' => ?_) AllReadyH.nil
              go_simp
              go_at_call 16
              (with_reducible refine (CP.out _ HBx.out.drew).mono ?_)
              rintro e wn ⟨rfl, hbwn⟩
              have HBx : Hid (Below W1.heap.size W1 wn) := Lib.hid (HBx.out.drew.trans (hbwn.mono HBx.out.size))
              clear hbwn
              (try go_wp2_with fail)
              refine hS'.out _ _ ((HQ.out _ HBx.out).2) (fun hHeld => ?_)
              clear hS' K'
              try simp only [Act.put, List.setIfInBounds_toArray, List.set_cons_zero, List.set_cons_succ]
              refine wpAnyH_take (i := 9) (oi := { dst := some 102, op := Go.Op.move (Go.Operand.tmp 101), type := 4, pos := "ref.go:40", after := #[{ on := 8, ground := Go.Ground.data }, { on := 8, ground := Go.Ground.chain }], guard := none }) (v := ?_) rfl (by kernel_rfl) (by kernel_rfl) (by kernel_rfl) (fun _ _ _ h => h) (Or.inl ⟨by rfl, ?_⟩) (by assumption) ?_
              rotate_left
              · (intro w hSw; (try dsimp only at hSw); go_simp; try with_reducible rfl)
              try simp only [Act.put, List.setIfInBounds_toArray, List.set_cons_zero, List.set_cons_succ]
              refine wpAnyH_take (i := 10) (oi := { dst := some 103, op := Go.Op.move (Go.Operand.tmp 9), type := 3, pos := "ref.go:40", after := #[{ on := 9, ground := Go.Ground.guard }], guard := some (9, true) }) (v := ?_) rfl (by kernel_rfl) (by kernel_rfl) (by kernel_rfl) (fun _ _ _ h => h) (Or.inl ⟨by rfl, ?_⟩) (by assumption) ?_
              rotate_left
              · (intro w hSw; (try dsimp only at hSw); go_simp; try with_reducible rfl)
              try simp only [Act.put, List.setIfInBounds_toArray, List.set_cons_zero, List.set_cons_succ]
              refine wpAnyH_take (i := 11) (oi := { dst := some 104, op := Go.Op.move (Go.Operand.tmp 2), type := 37, pos := "ref.go:40", after := #[{ on := 9, ground := Go.Ground.guard }], guard := some (9, true) }) (v := ?_) rfl (by kernel_rfl) (by kernel_rfl) (by kernel_rfl) (fun _ _ _ h => h) (Or.inl ⟨by rfl, ?_⟩) (by assumption) ?_
              rotate_left
              · (intro w hSw; (try dsimp only at hSw); go_simp; try with_reducible rfl)
              try simp only [Act.put, List.setIfInBounds_toArray, List.set_cons_zero, List.set_cons_succ]
              refine wpAnyH_take (i := 12) (oi := { dst := some 105, op := Go.Op.call { callee := Go.Callee.builtin Go.Builtin.len, args := #[Go.Operand.tmp 104], argTypes := #[37] }, type := 3, pos := "ref.go:40", after := #[{ on := 11, ground := Go.Ground.data }, { on := 9, ground := Go.Ground.guard }], guard := some (9, true) }) (v := ?_) rfl (by kernel_rfl) (by kernel_rfl) (by kernel_rfl) (fun _ _ _ h => h) (Or.inl ⟨by rfl, ?_⟩) (by assumption) ?_
              rotate_left
              · (intro w hSw; (try dsimp only at hSw); go_simp; try with_reducible rfl)
              try simp only [Act.put, List.setIfInBounds_toArray, List.set_cons_zero, List.set_cons_succ]
              refine wpAnyH_take (i := 13) (oi := { dst := some 106, op := Go.Op.binOp Go.BinOp.eql 3 (Go.Operand.tmp 103) (Go.Operand.tmp 105) 3, type := 4, pos := "ref.go:40", after := #[{ on := 10, ground := Go.Ground.data }, { on := 12, ground := Go.Ground.data }, { on := 9, ground := Go.Ground.guard }], guard := some (9, true) }) (v := ?_) rfl (by kernel_rfl) (by kernel_rfl) (by kernel_rfl) (fun _ _ _ h => h) (Or.inl ⟨by rfl, ?_⟩) (by assumption) ?_
              rotate_left
              · (intro w hSw; (try dsimp only at hSw); go_simp; try with_reducible rfl)
              try simp only [Act.put, List.setIfInBounds_toArray, List.set_cons_zero, List.set_cons_succ]
              refine wpAnyH_take (i := 14) (oi := { dst := some 107, op := Go.Op.move (Go.Operand.tmp 106), type := 4, pos := "ref.go:40", after := #[{ on := 13, ground := Go.Ground.data }, { on := 9, ground := Go.Ground.chain }, { on := 9, ground := Go.Ground.guard }], guard := some (9, true) }) (v := ?_) rfl (by kernel_rfl) (by kernel_rfl) (by kernel_rfl) (fun _ _ _ h => h) (Or.inl ⟨by rfl, ?_⟩) (by assumption) ?_
              rotate_left
              · (intro w hSw; (try dsimp only at hSw); go_simp; try with_reducible rfl)
              try simp only [Act.put, List.setIfInBounds_toArray, List.set_cons_zero, List.set_cons_succ]
              refine wpAnyH_take (i := 15) (oi := { dst := some 108, op := Go.Op.move (Go.Operand.tmp 0), type := 25, pos := "ref.go:40", after := #[{ on := 14, ground := Go.Ground.guard }], guard := some (14, false) }) (v := ?_) rfl (by kernel_rfl) (by kernel_rfl) (by kernel_rfl) (fun _ _ _ h => h) (Or.inl ⟨by rfl, ?_⟩) (by assumption) ?_
              rotate_left
              · (intro w hSw; (try dsimp only at hSw); go_simp; try with_reducible rfl)
              try simp only [Act.put, List.setIfInBounds_toArray, List.set_cons_zero, List.set_cons_succ]
              refine wpAnyH_take (i := 16) (oi := { dst := some 109, op := Go.Op.move (Go.Operand.tmp 1), type := 3, pos := "ref.go:40", after := #[{ on := 14, ground := Go.Ground.guard }], guard := some (14, false) }) (v := ?_) rfl (by kernel_rfl) (by kernel_rfl) (by kernel_rfl) (fun _ _ _ h => h) (Or.inl ⟨by rfl, ?_⟩) (by assumption) ?_
              rotate_left
              · (intro w hSw; (try dsimp only at hSw); go_simp; try with_reducible rfl)
              try simp only [Act.put, List.setIfInBounds_toArray, List.set_cons_zero, List.set_cons_succ]
              refine wpAnyH_take (i := 17) (oi := { dst := some 110, op := Go.Op.move (Go.Operand.tmp 2), type := 37, pos := "ref.go:40", after := #[{ on := 14, ground := Go.Ground.guard }], guard := some (14, false) }) (v := ?_) rfl (by kernel_rfl) (by kernel_rfl) (by kernel_rfl) (fun _ _ _ h => h) (Or.inl ⟨by rfl, ?_⟩) (by assumption) ?_
              rotate_left
              · (intro w hSw; (try dsimp only at hSw); go_simp; try with_reducible rfl)
              try simp only [Act.put, List.setIfInBounds_toArray, List.set_cons_zero, List.set_cons_succ]
              refine wpAnyH_take (i := 18) (oi := { dst := some 111, op := Go.Op.move (Go.Operand.tmp 9), type := 3, pos := "ref.go:40", after := #[{ on := 14, ground := Go.Ground.guard }], guard := some (14, false) }) (v := ?_) rfl (by kernel_rfl) (by kernel_rfl) (by kernel_rfl) (fun _ _ _ h => h) (Or.inl ⟨by rfl, ?_⟩) (by assumption) ?_
              rotate_left
              · (intro w hSw; (try dsimp only at hSw); go_simp; try with_reducible rfl)
              try simp only [Act.put, List.setIfInBounds_toArray, List.set_cons_zero, List.set_cons_succ]
              refine wpAnyH_take (i := 19) (oi := { dst := some 112, op := Go.Op.slice 37 (Go.Operand.tmp 110) (some (Go.Operand.tmp 111)) none none, type := 37, pos := "ref.go:40", after := #[{ on := 17, ground := Go.Ground.data }, { on := 18, ground := Go.Ground.data }, { on := 14, ground := Go.Ground.guard }], guard := some (14, false) }) (v := ?_) rfl (by kernel_rfl) (by kernel_rfl) (by kernel_rfl) (fun _ _ _ h => h) (Or.inl ⟨by rfl, ?_⟩) (by assumption) ?_
              rotate_left
              · (intro w hSw; (try dsimp only at hSw); go_simp; try with_reducible rfl)
              try simp only [Act.put, List.setIfInBounds_toArray, List.set_cons_zero, List.set_cons_succ]
              refine wpAnyH_ready (rs := [20]) (by kernel_rfl) (by simp) ?_
              refine AllReadyH.cons (o := { dst := some 113, op := Go.Op.call { callee := Go.Callee.value (Go.Operand.func 16), args := #[Go.Operand.tmp 108, Go.Operand.tmp 109, Go.Operand.tmp 112], argTypes := #[25, 3, 37] }, type := 4, pos := "ref.go:40", after := #[{ on := 15, ground := Go.Ground.data }, { on := 16, ground := Go.Ground.data }, { on := 19, ground := Go.Ground.data }, { on := 14, ground := Go.Ground.chain }, { on := 14, ground := Go.Ground.guard }], guard := some (14, false) }) rfl (fun K' hS' => ?_) AllReadyH.nil
              go_simp
              go_at_call 16
              (with_reducible refine (CQ.out _ HBx.out).mono ?_)
              rintro e wm ⟨rfl, hbwm⟩
              have HBx : Hid (Below W1.heap.size W1 wm) := Lib.hid (HBx.out.trans (hbwm.mono HBx.out.size))
              clear hbwm
              (try go_wp2_with fail)
              refine hS'.out _ _ ((HQ.out _ HBx.out).2) (fun hHeld => ?_)
              clear hS' K'
              try simp only [Act.put, List.setIfInBounds_toArray, List.set_cons_zero, List.set_cons_succ]
              refine wpAnyH_take (i := 21) (oi := { dst := some 114, op := Go.Op.pick (Go.Operand.tmp 107) (Go.Operand.const (Go.Value.bool true)) (Go.Operand.tmp 113), type := 4, pos := "ref.go:40", after := #[{ on := 14, ground := Go.Ground.data }, { on := 20, ground := Go.Ground.data }, { on := 9, ground := Go.Ground.guard }], guard := some (9, true) }) (v := ?_) rfl (by kernel_rfl) (by kernel_rfl) (by kernel_rfl) (fun _ _ _ h => h) (Or.inl ⟨by rfl, ?_⟩) (by assumption) ?_
              rotate_left
              · (intro w hSw; (try dsimp only at hSw); go_simp; try with_reducible rfl)
              try simp only [Act.put, List.setIfInBounds_toArray, List.set_cons_zero, List.set_cons_succ]
              refine wpAnyH_take (i := 22) (oi := { dst := some 115, op := Go.Op.pick (Go.Operand.tmp 102) (Go.Operand.tmp 114) (Go.Operand.const (Go.Value.bool false)), type := 4, pos := "ref.go:40", after := #[{ on := 9, ground := Go.Ground.data }, { on := 21, ground := Go.Ground.data }], guard := none }) (v := ?_) rfl (by kernel_rfl) (by kernel_rfl) (by kernel_rfl) (fun _ _ _ h => h) (Or.inl ⟨by rfl, ?_⟩) (by assumption) ?_
              rotate_left
              · (intro w hSw; (try dsimp only at hSw); go_simp; try with_reducible rfl)
              try simp only [Act.put, List.setIfInBounds_toArray, List.set_cons_zero, List.set_cons_succ]
              refine wpAnyH_done (by kernel_rfl) ?_ _
              refine NoPanic.normal ?_
              go_wp2
              go_ret
              exact ⟨by rw [HYes.out]; rfl, HB1.out.trans (HBx.out.mono HB1.out.size)⟩
      · have kn : ¬ (k : Int) ≤ (nw : Int) := by omega
        have kn' : decide ((k : Int) ≤ (nw : Int)) = false := decide_eq_false kn
        have kn'' : decide (k ≤ nw) = false := decide_eq_false hkn
        have HE := Lib.hid (show b = false from by
          cases hbb : b with
          | false => rfl
          | true =>
            obtain ⟨i, h1, h2, h3, h4⟩ := HBb.out.1 hbb
            refine absurd ⟨h3, ?_⟩ (hno i h1 (by have := HN.out.1; omega))
            rcases h4 with h4 | h4
            · exact .inl (List.drop_eq_nil_iff.2 (by omega))
            · exact .inr h4)
        clear hk hno hkn hbw hk1
        go_wp2
        go_ret
        exact ⟨by rw [HE.out]; rfl, HB1.out.trans (HBx.out.mono HB1.out.size)⟩
end Go.Proofs.Ytghlajfalgdkfaa
