/-
  MERGED (a claim has at most 60 files): NgAll, NgCp, NgCo, NgCC, NfSea.
-/
import Derived.Test.YtghlajfalgdkfaaZ15
import Derived.Deep.Cut
import Derived.Test.YtghlajfalgdkfaaZ11
import Derived.Test.YtghlajfalgdkfaaZ01
import Derived.Shelf.Abstract
/-
  lay: any path that may be.
-/
namespace Go.Proofs.Ytghlajfalgdkfaa
open Go.RowKit
set_option linter.unusedVariables false
set_option linter.unusedSimpArgs false
set_option maxRecDepth 100000

theorem LyQ2.iff {B d n : Nat} {T : List St} {sy : Nat → Sy} {A A' : Lg} {W w : World} {e : Ending} (h : LyQ2 B d T sy A n W e w) (hA : ∀ w, A w ↔ A' w) : LyQ2 B d T sy A' n W e w := by
  obtain ⟨f, l, T', sy', g, h1, h2⟩ := h
  exact ⟨f, l, T', sy', g, h1, h2.iff hA⟩
theorem lang_step {k n : Int} {ts : List PT} (hk : k = 0 ∨ k = 1) (w : List Sy) : lang (.mk k n ts) w ↔ w = [(n, decide (k = 1))] := by
  unfold lang
  rw [if_pos hk]
theorem lang_seq {n : Int} {ts : List PT} (w : List Sy) : lang (.mk 2 n ts) w ↔ Seql (langs ts) w := by
  unfold lang
  rw [if_neg (by decide), if_pos rfl]
theorem lang_alt {n : Int} {ts : List PT} (w : List Sy) : lang (.mk 3 n ts) w ↔ Altl (langs ts) w := by
  unfold lang
  rw [if_neg (by decide), if_neg (by decide), if_pos rfl]
theorem lang_again {k n : Int} {t : PT} (hk : k = 4 ∨ k = 5 ∨ k = 6) (w : List Sy) : lang (.mk k n [t]) w ↔ agL k (lang t) w := by
  have h1 : ∀ w, Seql (langs [t]) w ↔ lang t w := fun w => by
    rw [langs, langs]
    exact seql_one _ w
  obtain ⟨A, hA⟩ : ∃ A, A = lang t := ⟨_, rfl⟩
  rw [← hA] at h1 ⊢
  rw [lang]
  unfold agL
  rcases hk with rfl | rfl | rfl
  · rw [if_neg (by decide), if_neg (by decide), if_neg (by decide), if_pos rfl, if_pos rfl]
    exact starL_congr h1 w
  · rw [if_neg (by decide), if_neg (by decide), if_neg (by decide), if_neg (by decide), if_pos rfl, if_neg (by decide), if_pos rfl]
    exact plusL_congr h1 w
  · rw [if_neg (by decide), if_neg (by decide), if_neg (by decide), if_neg (by decide), if_neg (by decide), if_neg (by decide), if_neg (by decide)]
    exact or_congr Iff.rfl (h1 w)
theorem lv_inner {k n : Int} {ts : List PT} (hk : ¬ (k = 0 ∨ k = 1)) : lv (.mk k n ts) = lvs ts := by
  rw [lv, if_neg hk]
theorem lay_all {B d : Nat} : ∀ t : PT, Vf t → LayAll B d t := by
  refine PT.ind fun k n ts ih hv => ?_
  intro kd nn A m c T sy W hp hM hw hT hB
  unfold Pth at hp
  obtain ⟨h1, h2, ps, h3, h4⟩ := hp
  simp only at h1 h2 h3
  subst h1 h2
  have hm : m = ts.length := by
    obtain ⟨A', c', e, _⟩ := h3.shape
    have := (Value.slice.inj e).2.1
    rw [this, (Pths.of h4).1]
  unfold Vf at hv
  rcases hv with ⟨hk, rfl⟩ | ⟨hk, hl, hv⟩ | ⟨hk, hl, hv⟩
  · have e : lv (.mk kd nn []) = 1 := by rw [lv, if_pos hk]
    rw [e] at hT ⊢
    exact (lay_step0 hM hw (by omega) hB hk).mono fun e w h => h.iff fun w => (lang_step hk w).symm
  · rw [lv_inner (by omega)] at hT ⊢
    rcases hk with rfl | rfl
    · exact (lay_gseq hM hw h3 h4 hm hT hB hl fun t ht => ih t ht (Vfs.mem hv t ht)).mono fun e w h => h.iff fun w => (lang_seq w).symm
    · exact (lay_galt hM hw h3 h4 hm hT hB hl fun t ht => ih t ht (Vfs.mem hv t ht)).mono fun e w h => h.iff fun w => (lang_alt w).symm
  · rw [lv_inner (by omega)] at hT ⊢
    match ts, hl with
    | [t], _ =>
      have e : lvs [t] = lv t := by rw [lvs, lvs]; rfl
      rw [e] at hT ⊢
      exact (lay_gagain hM hw h3 h4 hm hT hB (ih t (List.mem_singleton.2 rfl) (Vfs.mem hv t (List.mem_singleton.2 rfl))) hk).mono fun e w h => h.iff fun w => (lang_again hk w).symm
end Go.Proofs.Ytghlajfalgdkfaa

/-
  What Compile needs: any path.
-/
namespace Go.Proofs.Ytghlajfalgdkfaa
open Go.RowKit
set_option linter.unusedVariables false
set_option linter.unusedSimpArgs false
set_option maxRecDepth 100000

/-- Some states are final by now. -/
structure Fl (T T' : List St) (P : Nat → Prop) : Prop where
  len : T'.length = T.length
  st : ∀ (i : Nat) (s : St), T[i]? = some s → ∃ s', T'[i]? = some s' ∧ s'.1 = s.1 ∧ s'.2.1 = s.2.1 ∧ (s'.2.2 = true ↔ s.2.2 = true ∨ P i)
theorem Fl.refl {T : List St} {P : Nat → Prop} (hp : ∀ i, ¬ P i) : Fl T T P := ⟨rfl, fun i s hs => ⟨s, hs, rfl, rfl, ⟨.inl, fun h => h.elim id fun h => absurd h (hp i)⟩⟩⟩
theorem Fl.congr {T T' : List St} {P P' : Nat → Prop} (h : Fl T T' P) (hp : ∀ i, P i ↔ P' i) : Fl T T' P' := ⟨h.len, fun i s hs => by
  obtain ⟨s', h1, h2, h3, h4⟩ := h.st i s hs
  exact ⟨s', h1, h2, h3, h4.trans (or_congr Iff.rfl (hp i))⟩⟩
theorem Fl.put {T T' : List St} {P : Nat → Prop} (h : Fl T T' P) {i : Nat} {t : St} (hi : T'[i]? = some t) : Fl T (T'.set i (t.1, t.2.1, true)) (fun q => P q ∨ q = i) := ⟨by rw [List.length_set]; exact h.len, fun j s hs => by
  have hlt : i < T'.length := (List.getElem?_eq_some_iff.1 hi).1
  obtain ⟨s', h1, h2, h3, h4⟩ := h.st j s hs
  by_cases hji : i = j
  · subst hji
    rw [hi] at h1
    injection h1 with h1
    subst h1
    exact ⟨_, List.getElem?_set_self hlt, h2, h3, ⟨fun _ => .inr (.inr rfl), fun _ => rfl⟩⟩
  · refine ⟨s', by rw [List.getElem?_set_ne hji]; exact h1, h2, h3, h4.trans (or_congr Iff.rfl ⟨.inl, fun h => h.elim id fun e => absurd e.symm hji⟩)⟩⟩
theorem flat_flag : ∀ {T : List St} {i : Nat} {t : St}, T[i]? = some t → (T.set i (t.1, t.2.1, true)).flatMap stc = (T.flatMap stc).set (i * 2 + 1) (.bool true)
  | [], i, t, h => by simp at h
  | s :: T, 0, t, h => by
    have : s = t := by simpa using h
    subst this
    simp [stc]
  | s :: T, i + 1, t, h => by
    have h' : T[i]? = some t := by simpa using h
    rw [List.set_cons_succ, List.flatMap_cons, flat_flag h', List.flatMap_cons, List.set_append_right _ _ (by simp [stc]; omega)]
    congr 1
    simp [stc]
    congr 1
    omega
/-- A state is final by now. -/
theorem Ma.flag {B d : Nat} {T : List St} {w : World} (h : Ma B d T w) {i : Nat} {t : St} (hi : T[i]? = some t) {gs c : Nat} {cs : Array Value} (hd : Fb w d 66 #[.slice (some ⟨gs, 0, none⟩) T.length c]) (hg : Fb w gs 73 cs) :
    Ma B d (T.set i (t.1, t.2.1, true)) (w.setCell ⟨gs, i * 2 + 1, none⟩ (.bool true)) := by
  obtain ⟨⟨A, c', h1, h2⟩, h3, h4, h5⟩ := h
  have hlt : i < T.length := (List.getElem?_eq_some_iff.1 hi).1
  have e1 : A = some ⟨gs, 0, none⟩ ∧ c' = c := by
    unfold Fb at h1 hd
    rw [h1] at hd
    injection hd with hd
    injection hd with hd
    simpa using hd
  obtain ⟨rfl, rfl⟩ := e1
  have hset : ∀ (j : Nat) (s : St), (T.set i (t.1, t.2.1, true))[j]? = some s → ∃ s0, T[j]? = some s0 ∧ s.1 = s0.1 ∧ s.2.1 = s0.2.1 := fun j s hj => by
    by_cases hji : i = j
    · subst hji
      rw [List.getElem?_set_self hlt] at hj
      injection hj with hj
      subst hj
      exact ⟨t, hi, rfl, rfl⟩
    · rw [List.getElem?_set_ne hji] at hj
      exact ⟨s, hj, rfl, rfl⟩
  refine ⟨⟨some ⟨gs, 0, none⟩, c', by rw [List.length_set]; exact hd.far _ _ (hd.nt hg (by decide)), ?_⟩, fun j s hj => ?_, fun a b s u ha hb hab q hs hu => ?_, h5⟩
  · rw [List.length_set, flat_flag hi]
    rcases id h2.2 with ⟨hv, e0⟩ | ⟨g, cap, cur, hv, hB, hgg, hcap, hm, hz, ht⟩
    · omega
    · injection hv with e1 e2 e3
      injection e1 with e1
      injection e1 with e1
      subst e1
      have hcur : cs = cur := by
        unfold Fb at hg
        rw [hg] at hgg
        injection hgg with hgg
        injection hgg
      subst hcur
      refine ⟨by rw [List.length_set]; exact h2.1, .inr ⟨gs, cap, cs.setIfInBounds (i * 2 + 1) (.bool true), by rw [e3], hB, hg.set _ _, hcap, hm, by simp [hz], ?_⟩⟩
      rw [Array.toList_setIfInBounds, List.take_set, ht]
  · obtain ⟨s0, k1, k2, k3⟩ := hset j s hj
    rw [k2, k3]
    refine row_keep (h3 j s0 k1) fun k hk => heap_setCell_other _ _ _ _ ?_
    obtain ⟨cs2, hc⟩ := row_type (h3 j s0 k1) hk
    exact hc.nt hg (by decide)
  · obtain ⟨s0, k1, k2, _⟩ := hset a s ha
    obtain ⟨u0, l1, l2, _⟩ := hset b u hb
    rw [k2] at hs
    rw [l2] at hu
    exact h4 a b s0 u0 k1 l1 hab q hs hu
/-- A machine that takes just the words of A. -/
def Mch (W : World) (d : Nat) (A : Lg) : Prop := ∃ B T sy, Ma B d T W ∧ Wt sy T ∧ T.length ≤ 1000 ∧ 0 < T.length ∧ ∀ w, (∃ q, Run (dl T) 0 w q ∧ ∃ s, T[q]? = some s ∧ s.2.2 = true) ↔ A w
theorem Mch.below {W W' : World} {d : Nat} {A : Lg} (h : Mch W d A) (hb : Below W.heap.size W W') : Mch W' d A := by
  obtain ⟨B, T, sy, h1, h2⟩ := h
  exact ⟨B, T, sy, h1.below hb, h2⟩
def T0 : List St := [(.slice none 0 0, [], false)]
theorem cq_more (w : World) : Calls Try.prog 29 #[.pointer (some ⟨w.heap.size, 0, none⟩)] (w.alloc (.cells #[.slice none 0 0] 66)) fun e w' => e = .returned (.int .i64 0) ∧ Ma w.heap.size w.heap.size T0 w' ∧ Fr w.heap.size [] T0 (w.alloc (.cells #[.slice none 0 0] 66)) w' := by
  refine (ng_more (B := w.heap.size) (d := w.heap.size) (T := []) (W := w.alloc (.cells #[.slice none 0 0] 66)) ⟨⟨none, 0, Fb.new w _ _, World.ownsRow_nil _ _ _ _⟩, fun i t h => by simp at h, fun i j s t h => by simp at h, Nat.le_refl _⟩ (by decide) (by rw [World.size_alloc]; omega)).mono ?_
  rintro e w' ⟨rfl, h1, h2⟩
  exact ⟨rfl, h1, h2⟩
theorem wt0 : Wt (fun _ => (0, false)) T0 := fun j s hj => by
  have := List.mem_of_getElem? hj
  have : s = (.slice none 0 0, [], false) := by simpa [T0] using this
  subst this
  exact ⟨List.Pairwise.nil, fun y hy => by cases hy⟩
/-- The whole: what Compile leaves. -/
theorem whole_fin {B d n : Nat} {A : Lg} {W wr w : World} {f l : Value} {T1 T2 T3 : List St} {sy sy1 : Nat → Sy} {g : Gd} (h : LyR B d T0 sy A n W f l T1 sy1 g wr) (hn : n ≤ 900) (hk : Lk T1 T2 (fun j x => j ∈ [0] ∧ x ∈ g.f)) (hM : Ma B d T3 w) (hF : Fl T2 T3 (fun q => q ∈ g.l ++ (if g.em = true then [0] else []))) : Mch w d A := by
  have hlo : g.lo = 1 := h.lo
  have hhi := h.hi
  have hlen := h.len
  have h0 : T0.length = 1 := rfl
  have hm3 : ∀ (q : Nat) (x : Mo), dl T3 q x ↔ dl T2 q x := fun q x => by
    unfold dl
    constructor
    · rintro ⟨s, hs, hx⟩
      have hq : q < T2.length := by rw [← hF.len]; exact (List.getElem?_eq_some_iff.1 hs).1
      obtain ⟨s', k1, _, k3, _⟩ := hF.st q _ (List.getElem?_eq_getElem hq)
      rw [hs] at k1
      injection k1 with k1
      subst k1
      exact ⟨_, List.getElem?_eq_getElem hq, k3 ▸ hx⟩
    · rintro ⟨s, hs, hx⟩
      obtain ⟨s', k1, _, k3, _⟩ := hF.st q s hs
      exact ⟨s', k1, k3.symm ▸ hx⟩
  have hm2 : ∀ (q : Nat) (x : Mo), q < T1.length → (dl T2 q x ↔ dl T1 q x ∨ (q = 0 ∧ x ∈ g.f)) := fun q x hq => by
    unfold dl
    obtain ⟨s', k1, _, _, k4⟩ := hk.st q _ (List.getElem?_eq_getElem hq)
    constructor
    · rintro ⟨s, hs, hx⟩
      rw [k1] at hs
      injection hs with hs
      subst hs
      rcases (k4 x).1 hx with h | ⟨h1, h2⟩
      · exact .inl ⟨_, List.getElem?_eq_getElem hq, h⟩
      · exact .inr ⟨by simpa using h1, h2⟩
    · intro h
      refine ⟨s', k1, (k4 x).2 ?_⟩
      rcases h with ⟨s, hs, hx⟩ | ⟨h1, h2⟩
      · rw [List.getElem?_eq_getElem hq] at hs
        injection hs with hs
        subst hs
        exact .inl hx
      · exact .inr ⟨by simp [h1], h2⟩
  have hin : ∀ q x, g.in q → (dl T3 q x ↔ dl T1 q x) := fun q x hq => by
    have := hq.1
    have := hq.2
    rw [hm3, hm2 q x (by omega)]
    exact ⟨fun h => h.resolve_right (fun h => by omega), .inl⟩
  have hok : g.Ok (dl T3) := h.ok.of hin
  have hd0 : ∀ x, dl T3 0 x ↔ x ∈ g.f := fun x => by
    rw [hm3, hm2 0 x (by omega)]
    constructor
    · rintro (⟨s, hs, hx⟩ | ⟨_, hx⟩)
      · obtain ⟨s', k1, _, k3⟩ := h.pre 0 _ (rfl : T0[0]? = some (.slice none 0 0, [], false))
        rw [k1] at hs
        injection hs with hs
        subst hs
        exact absurd ((k3 x).1 hx) (by simp)
      · exact hx
    · intro hx; exact .inr ⟨rfl, hx⟩
  have hfl2 : ∀ (q : Nat) (s : St), T2[q]? = some s → s.2.2 = false := fun q s hs => by
    have hq : q < T1.length := by rw [← hk.len]; exact (List.getElem?_eq_some_iff.1 hs).1
    obtain ⟨s', k1, k2, _, _⟩ := hk.st q _ (List.getElem?_eq_getElem hq)
    rw [hs] at k1
    injection k1 with k1
    subst k1
    rw [k2]
    by_cases hq0 : q = 0
    · subst hq0
      obtain ⟨s', k1, k2, k3⟩ := h.pre 0 _ (rfl : T0[0]? = some (.slice none 0 0, [], false))
      rw [List.getElem?_eq_getElem hq] at k1
      injection k1 with k1
      rw [k1, k2]
    · exact h.fin q _ (List.getElem?_eq_getElem hq) (by omega)
  have hfin : ∀ q, (∃ s, T3[q]? = some s ∧ s.2.2 = true) ↔ (q ∈ g.l ∨ (q = 0 ∧ g.em = true)) := fun q => by
    have hpq : (q ∈ g.l ++ (if g.em = true then [0] else [])) ↔ (q ∈ g.l ∨ (q = 0 ∧ g.em = true)) := by
      rw [List.mem_append]
      refine or_congr Iff.rfl ?_
      split <;> simp [*]
    rw [← hpq]
    constructor
    · rintro ⟨s, hs, hx⟩
      have hq : q < T2.length := by rw [← hF.len]; exact (List.getElem?_eq_some_iff.1 hs).1
      obtain ⟨s', k1, _, _, k4⟩ := hF.st q _ (List.getElem?_eq_getElem hq)
      rw [hs] at k1
      injection k1 with k1
      subst k1
      exact (k4.1 hx).resolve_left (by rw [hfl2 q _ (List.getElem?_eq_getElem hq)]; simp)
    · intro hx
      have hq : q < T2.length := by
        rw [hk.len]
        rcases hpq.1 hx with h1 | ⟨h1, _⟩
        · have := (h.ok.l q h1).2; omega
        · omega
      obtain ⟨s', k1, _, _, k4⟩ := hF.st q _ (List.getElem?_eq_getElem hq)
      exact ⟨s', k1, k4.2 (.inr hx)⟩
  refine ⟨B, T3, sy1, hM, fun j s hj => ?_, by rw [hF.len, hk.len]; omega, by rw [hF.len, hk.len]; omega, fun w => ?_⟩
  · have hj2 : j < T2.length := by rw [← hF.len]; exact (List.getElem?_eq_some_iff.1 hj).1
    obtain ⟨s', k1, _, k3, _⟩ := hF.st j _ (List.getElem?_eq_getElem hj2)
    rw [hj] at k1
    injection k1 with k1
    subst k1
    have := hk.gm (fun j s hj => (h.wt j s hj).2) (fun j x hp => h.fg x hp.2) (List.getElem?_eq_getElem hj2)
    rw [k3, hF.len, hk.len]
    exact this
  · rw [whole_L hok hlo hd0 (fun q => ∃ s, T3[q]? = some s ∧ s.2.2 = true) hfin w, Gd.L.of h.ok hin w]
    exact h.L w
end Go.Proofs.Ytghlajfalgdkfaa

/-
  Compile: any path.
-/
namespace Go.Proofs.Ytghlajfalgdkfaa
open Go.RowKit
set_option linter.unusedVariables false
set_option linter.unusedSimpArgs false
set_option maxRecDepth 100000

set_option maxHeartbeats 8000000 in
theorem compile_bad {kd nn code : Int} {A : Option Addr} {m c : Nat} {W : World} (hc : code ≠ 0) (hC : ∀ w, Below W.heap.size W w → Calls Try.prog 20 #[.agg #[.int .i64 kd, .int .i64 nn, .slice A m c]] w fun e w' => e = .returned (.int .i64 code) ∧ Below w.heap.size w w') :
    Calls Try.prog 13 #[.agg #[.int .i64 kd, .int .i64 nn, .slice A m c]] W fun e w' => e = .returned (.tuple #[.pointer none, .int .i64 code]) ∧ Below W.heap.size W w' := by
  have hb2 : Below W.heap.size W (W.alloc (.cells #[.int .i64 kd, .int .i64 nn, .slice A m c] 28)) := (Below.refl _ _).alloc (Nat.le_refl _) _
  have cC := hC _ hb2
  have HB2 := Lib.hid hb2
  clear hb2 hC
  go_enter Try.func13, Try.ntmps13
  go_wp2_with (go_at_call 20; (with_reducible refine cC.mono ?_); rintro e w3 ⟨rfl, hb3⟩; have HB3 := Lib.hid hb3; clear hb3)
  go_ret2
  exact ⟨rfl, HB2.out.trans (HB3.out.mono HB2.out.size)⟩
def CgQ (A : Lg) (W : World) (e : Ending) (w' : World) : Prop := ∃ d, e = .returned (.tuple #[.pointer (some ⟨d, 0, none⟩), .int .i64 0]) ∧ Mch w' d A ∧ Below W.heap.size W w'
def CgR (W : World) (B d : Nat) (T2 : List St) (lv : Value) (l : List Nat) (gk : Nat) (s : Value) (wr : World) : Prop := ∃ (j : Nat) (T' : List St), j + gk = l.length ∧ s = .int .i64 (j : Int) ∧ Ma B d T' wr ∧ Fl T2 T' (fun q => q ∈ l.take j) ∧ Below W.heap.size W wr ∧ InR B wr lv l
set_option maxHeartbeats 32000000 in
theorem compile_good {kd nn : Int} {A : Option Addr} {m c : Nat} {W : World} {t : PT} (hp : Pth W t ⟨kd, nn, .slice A m c⟩) (hv : Vf t) (hlv : lv t ≤ 900) (hC : ∀ w, Below W.heap.size W w → Calls Try.prog 20 #[.agg #[.int .i64 kd, .int .i64 nn, .slice A m c]] w fun e w' => e = .returned (.int .i64 0) ∧ Below w.heap.size w w') :
    Calls Try.prog 13 #[.agg #[.int .i64 kd, .int .i64 nn, .slice A m c]] W (CgQ (lang t) W) := by
  obtain ⟨W2, hW2⟩ : ∃ W2, W2 = W.alloc (.cells #[.int .i64 kd, .int .i64 nn, .slice A m c] 28) := ⟨_, rfl⟩
  have hb2 : Below W.heap.size W W2 := by rw [hW2]; exact (Below.refl _ _).alloc (Nat.le_refl _) _
  have hX : Fb W2 W.heap.size 28 #[.int .i64 kd, .int .i64 nn, .slice A m c] := by rw [hW2]; exact Fb.new W _ _
  have cC := hC W2 hb2
  have HL := Lib.hid (fun (B d : Nat) (w : World) (hb : Below W.heap.size W w) (hM : Ma B d T0 w) (hB : B ≤ w.heap.size) => lay_all (B := B) (d := d) t hv kd nn A m c T0 (fun _ => (0, false)) w (hp.below hb) hM wt0 (by have : T0.length = 1 := rfl; omega) hB)
  have HB2 := Lib.hid hb2
  have HX := Lib.hid hX
  have HLv := Lib.hid hlv
  have x0 := hX.cell 0
  have x1 := hX.cell 1
  have x2 := hX.cell 2
  clear hb2 hX hC hp hv hlv
  subst hW2
  go_enter Try.func13, Try.ntmps13
  go_upto_region 7 with (first
    | (go_at_call 20; (with_reducible refine cC.mono ?_); rintro e w3 ⟨rfl, hb3⟩; have HX3 := Lib.hid (HX.out.below hb3); have HB3 := Lib.hid (HB2.out.trans (hb3.mono HB2.out.size)); have cM := cq_more w3; clear hb3)
    | (go_at_call 29; (with_reducible refine cM.mono ?_); rintro e w5 ⟨rfl, hms, hk5⟩; have hno : ∀ q, ¬ OB [] q := (fun q ⟨i, t, h, _⟩ => by simp at h); have hx5 := hk5.k _ _ _ (HX3.out.alloc _) (by decide) (by decide) (hno _); have hx6 := hx5.alloc (.cells #[.int .i64 0] 3); have y0 := hx6.cell 0; have y1 := hx6.cell 1; have y2 := hx6.cell 2; have hB5 := (HB3.out.trans ((((Below.refl w3.heap.size w3).alloc (Nat.le_refl _) _).trans hk5.b).mono HB3.out.size)); have hB6 := hB5.alloc (o := .cells #[.int .i64 0] 3) hB5.size; have hsz6 : w3.heap.size ≤ w5.heap.size := Nat.le_trans (Nat.le_succ w3.heap.size) (by have := hk5.b.size; rw [World.size_alloc] at this; exact this); have cL := HL.out w3.heap.size w3.heap.size (w5.alloc (.cells #[.int .i64 0] 3)) hB6 (hms.below ((Below.refl w5.heap.size w5).alloc (Nat.le_refl _) _)) (by rw [World.size_alloc]; omega); have HI5 := Lib.hid (Fb.new w5 3 #[.int .i64 0]); have HM6 := Lib.hid (hms.below ((Below.refl w5.heap.size w5).alloc (Nat.le_refl _) (.cells #[.int .i64 0] 3))); have HB6 := Lib.hid hB6; have HS6 := Lib.hid hsz6; clear hms hk5 hx5 hx6 hB5 hB6 hsz6 hno)
    | (go_at_call 30; (with_reducible refine cL.mono ?_); rintro e w7 ⟨f, l, T1, sy1, g, rfl, hly⟩; obtain ⟨Af, cf, rfl, _⟩ := hly.fR.shape; obtain ⟨Al, cl, rfl, _⟩ := hly.lR.shape; obtain ⟨nf, hnf⟩ : ∃ nf, nf = g.f.length := ⟨_, rfl⟩; obtain ⟨nl, hnl⟩ : ∃ nl, nl = g.l.length := ⟨_, rfl⟩; rw [← hnf, ← hnl] at hly ⊢; obtain ⟨em, hem⟩ : ∃ em, em = g.em := ⟨_, rfl⟩; rw [← hem]; have HLY := Lib.hid hly; have HE := Lib.hid hem; have HNL := Lib.hid hnl; clear hly hnf hem hnl))
  have hly := HLY.out
  have hi7 := hly.fr.k _ _ _ HI5.out (by decide) (by decide) (OB.not HM6.out HI5.out (by decide))
  obtain ⟨w8, hw8⟩ : ∃ w8, w8 = w7.alloc (.cells #[.slice Af nf cf, .slice Al nl cl, .bool em] 69) := ⟨_, rfl⟩
  have hb8 : Below w7.heap.size w7 w8 := by rw [hw8]; exact (Below.refl _ _).alloc (Nat.le_refl _) _
  have ht8 : Fb w8 w7.heap.size 69 #[.slice Af nf cf, .slice Al nl cl, .bool em] := by rw [hw8]; exact Fb.new w7 _ _
  have hB7 : w3.heap.size ≤ w7.heap.size := Nat.le_trans HS6.out (Nat.le_trans (Nat.le_succ _) (by have := hly.fr.b.size; rw [World.size_alloc] at this; exact this))
  have h8 := hly.below hb8 hB7
  have hi8 := hi7.below hb8
  have hir : ∀ w, Fb w w5.heap.size 3 #[.int .i64 0] → InR w3.heap.size w (.slice (some ⟨w5.heap.size, 0, none⟩) 1 1) [0] := fun w hf => ⟨rfl, .inr ⟨w5.heap.size, 1, _, rfl, HS6.out, hf, Nat.le_refl _, by decide, rfl, rfl⟩⟩
  have hlen := hly.len
  have h0 : T0.length = 1 := rfl
  have hlv9 := HLv.out
  obtain ⟨hfl1, hfl2⟩ := hly.fl
  have cD := lead_any (B1 := w3.heap.size) (B2 := w3.heap.size) (l := [0]) h8.ma h8.wt h8.fg (by omega) (hir w8 hi8) h8.fR (fun q hq => (h8.fd q hq).1) (fun q hq => by simp at hq; omega) (by decide) (by omega) (by omega) (Nat.le_trans hB7 hb8.size)
  have hb78 : Below W.heap.size W w8 := HB6.out.trans ((hly.fr.b.trans (hb8.mono hB7)).mono HB3.out.size)
  have t0 := ht8.cell 0
  have H8 := Lib.hid h8
  have HI8 := Lib.hid hi8
  have HT8 := Lib.hid ht8
  have HIR := Lib.hid hir
  have HB8 := Lib.hid hb78
  have HB78 := Lib.hid (Nat.le_trans hB7 hb8.size)
  have HFl := Lib.hid hfl2
  clear hly hi7 hb8 ht8 hB7 h8 hi8 hir hlen h0 hlv9 hfl1 hfl2 hb78 x0 x1 x2 y0 y1 y2 cC cM cL
  rw [← hw8]
  clear hw8
  cases em with
  | false =>
    go_wp2_with (first
      | (go_at_call 31; (with_reducible refine cD.mono ?_); rintro e w9 ⟨rfl, T2, hM9, hfr9, hlk⟩; have ht9 := hfr9.k _ _ _ HT8.out (by decide) (by decide) (OB.not H8.out.ma HT8.out (by decide)); have hi9 := hfr9.k _ _ _ HI8.out (by decide) (by decide) (OB.not H8.out.ma HI8.out (by decide)); have hl9 := hfr9.row H8.out.lR (by decide) (by decide) (fun k hk => by obtain ⟨cs, hc⟩ := row_type H8.out.lR hk; exact OB.not H8.out.ma hc (by decide)); have s0 := ht9.cell 0; have s1 := ht9.cell 1; have s2 := ht9.cell 2; have sf1 := ht9.free 1; have HM9 := Lib.hid hM9; have HF9 := Lib.hid hfr9; have HK9 := Lib.hid hlk; have HT9 := Lib.hid ht9; have HI9 := Lib.hid hi9; have HL9 : Hid (InR w3.heap.size w9 _ g.l) := Lib.hid hl9; have HB9 := Lib.hid (HB8.out.trans (hfr9.b.mono HB3.out.size)); have HS9 := Lib.hid (Nat.le_trans HB78.out hfr9.b.size); clear hM9 hfr9 hlk ht9 hi9 hl9 cD t0))
    have hM := HM9.out
    have hb := HB9.out
    have hrow := HL9.out
    have hnl : nl = g.l.length := HNL.out
    obtain ⟨wS, hwS⟩ : ∃ wS, wS = w9 := ⟨_, rfl⟩
    rw [← hwS] at hM hb hrow
    rw [← hwS]
    have hl9 : g.l.length ≤ 1000 := by have := HFl.out; have := HLv.out; simp; omega
    have HSt := Lib.hid (show CgR W w3.heap.size w3.heap.size T2 (.slice Al nl cl) g.l g.l.length (.int .i64 0) wS from ⟨0, T2, by omega, rfl, hM, Fl.refl (fun i h => by simp at h), hb, hrow⟩)
    have HN := Lib.hid hnl
    have hnI : (nl : Int) ≤ 1000 := by omega
    have HLL := Lib.hid hl9
    clear hM hb hrow hwS hnl hl9
    try clear s0 s1 s2 sf1
    try clear r1
    go_loopg [38] g.l.length (fun gk s wr => CgR W w3.heap.size w3.heap.size T2 (.slice Al nl cl) g.l gk s wr)
    case atStart => exact HSt.out
    case round =>
      obtain ⟨j, T', hj, rfl, hM, hFl, hb, hrow⟩ := hrel
      have hn := HN.out
      by_cases hlt : j < g.l.length
      · obtain ⟨q, hq⟩ : ∃ q, g.l[j]? = some q := ⟨_, List.getElem?_eq_getElem hlt⟩
        obtain ⟨A9, c9, hs9, hA9⟩ := hrow.shape
        obtain ⟨gl, hgl, _, _⟩ := hA9.resolve_left (fun e => by rw [e] at hlt; simp at hlt)
        have hAl : Al = some ⟨gl, 0, none⟩ := (Value.slice.inj hs9).1.trans hgl
        subst hAl
        have lq := hrow.at hq
        have hqT : q < T'.length := by
          rw [hFl.len, HK9.out.len]
          have hmem := List.mem_of_getElem? hq
          have hhi := HLY.out.hi
          have hlo : g.lo = 1 := HLY.out.lo
          have hlen := HLY.out.len
          have h0 : T0.length = 1 := rfl
          have := (HLY.out.ok.l q hmem).2
          omega
        obtain ⟨st, hst⟩ : ∃ st, T'[q]? = some st := ⟨_, List.getElem?_eq_getElem hqT⟩
        obtain ⟨gs, c', cs, e1, e2, e3, e4, e5⟩ := hM.at hst
        have d1 := e1.cell 0
        have gf := e2.free (q * 2 + 1)
        have hT' : T'.length ≤ 1000 := by
          rw [hFl.len, HK9.out.len]
          have hlen := HLY.out.len
          have h0 : T0.length = 1 := rfl
          have := HLv.out
          omega
        have j0 : (0 : Int) ≤ (j : Int) := by omega
        have j1 : (j : Int) < (nl : Int) := by omega
        have q0 : (0 : Int) ≤ (q : Int) := by omega
        have q1 : (q : Int) < (T'.length : Int) := by omega
        have hM' := hM.flag hst e1 e2
        have hFl' := (hFl.put hst).congr (P' := fun i => i ∈ g.l.take (j + 1)) (fun i => by
          show (i ∈ g.l.take j ∨ i = q) ↔ _
          rw [take_snoc hq, List.mem_append, List.mem_singleton])
        have hrow' : InR w3.heap.size (wr.setCell ⟨gs, q * 2 + 1, none⟩ (.bool true)) (.slice (some ⟨gl, 0, none⟩) nl cl) g.l := row_keep hrow (fun k hk => heap_setCell_other _ _ _ _ (by obtain ⟨cs2, hc⟩ := row_type hrow hk; exact hc.nt e2 (by decide)))
        have HR := Lib.hid (And.intro hM' (And.intro hFl' (And.intro (hb.setCell (Nat.le_trans HB3.out.size e3) (.bool true) : Below W.heap.size W (wr.setCell ⟨gs, q * 2 + 1, none⟩ (.bool true))) hrow')))
        have HJ := Lib.hid (And.intro hj hlt)
        clear hM hFl hb hrow hq hs9 hA9 hgl hqT hst e1 e2 e3 hM' hFl' hrow' hj hlt e4 hn
        go_wp2
        go_roundg (g.l.length - (j + 1))
        case measure => obtain ⟨h1, h2⟩ := HJ.out; omega
        case rel =>
          obtain ⟨h1, h2⟩ := HJ.out
          exact ⟨j + 1, _, by omega, by rw [Int.natCast_add]; rfl, HR.out.1, HR.out.2.1, HR.out.2.2.1, HR.out.2.2.2⟩
      · have hje : j = g.l.length := by omega
        have j1 : ¬ ((j : Int) < (nl : Int)) := by omega
        have hFl' := hFl.congr (P' := fun q => q ∈ g.l ++ (if g.em = true then [0] else [])) (fun i => by
          show i ∈ g.l.take j ↔ _
          rw [hje, List.take_length, ← HE.out]
          simp)
        have HR := Lib.hid (And.intro (whole_fin HLY.out HLv.out HK9.out hM hFl') hb)
        clear hM hFl hFl' hb hrow hj hlt hn hje
        go_wp2
        go_ret2
        exact ⟨_, rfl, HR.out.1, HR.out.2⟩
  | true =>
    go_wp2_with (first
      | (go_at_call 31; (with_reducible refine cD.mono ?_); rintro e w9 ⟨rfl, T2, hM9, hfr9, hlk⟩; have ht9 := hfr9.k _ _ _ HT8.out (by decide) (by decide) (OB.not H8.out.ma HT8.out (by decide)); have hi9 := hfr9.k _ _ _ HI8.out (by decide) (by decide) (OB.not H8.out.ma HI8.out (by decide)); have hl9 := hfr9.row H8.out.lR (by decide) (by decide) (fun k hk => by obtain ⟨cs, hc⟩ := row_type H8.out.lR hk; exact OB.not H8.out.ma hc (by decide)); have s0 := ht9.cell 0; have s1 := ht9.cell 1; have s2 := ht9.cell 2; have sf1 := ht9.free 1; have HM9 := Lib.hid hM9; have HF9 := Lib.hid hfr9; have HK9 := Lib.hid hlk; have HT9 := Lib.hid ht9; have HI9 := Lib.hid hi9; have HL9 : Hid (InR w3.heap.size w9 _ g.l) := Lib.hid hl9; have HB9 := Lib.hid (HB8.out.trans (hfr9.b.mono HB3.out.size)); have HS9 := Lib.hid (Nat.le_trans HB78.out hfr9.b.size); clear hM9 hfr9 hlk ht9 hi9 hl9 cD t0)
      | (at_builtin; refine wpl_app_i rfl _ _ rfl rfl rfl HL9.out (HIR.out w9 HI9.out) HS9.out (by have := HFl.out; have := HLv.out; omega) (by decide) ?_; intro A10 n10 c10 w10 hn10 hr10 hg10 hq10; have ht10 := (grown_neT HL9.out hg10 HT9.out (by decide)).trans HT9.out; have HM10 := Lib.hid (HM9.out.keep (fun q t cs hf ht => by rcases ht with rfl | rfl | ht; exact grown_neT HL9.out hg10 hf (by decide); exact grown_neT HL9.out hg10 hf (by decide); (obtain ⟨cs2, hc⟩ := OB.type HM9.out ht; exact grown_neT HL9.out hg10 hc (by decide)))); have HB10 := Lib.hid (HB9.out.trans (((Below.refl w3.heap.size w9).grown hg10 HS9.out (fun k hk => (row_lt HL9.out k hk).1)).mono HB3.out.size)); have HT10 : Hid (Fb w10 w7.heap.size 69 _) := Lib.hid ht10; have HR10 := Lib.hid hr10; have HN10 := Lib.hid hn10; clear s0 s1 s2 sf1 ht10 hr10 hg10 hq10 hn10; have s1 := HT10.out.cell 1; have sf1 := HT10.out.free 1; have r1 := (HT10.out.set 1 (.slice A10 n10 c10)).cell 1))
    obtain ⟨wS, hwS⟩ : ∃ wS, wS = (w10.setCell ⟨w7.heap.size, 1, none⟩ (.slice A10 n10 c10)) := ⟨_, rfl⟩
    have hM : Ma w3.heap.size w3.heap.size T2 wS := by rw [hwS]; exact HM10.out.keep (fun q t cs hf ht => heap_setCell_other _ _ _ _ (by
      rcases ht with rfl | rfl | ht
      · exact hf.nt HT10.out (by decide)
      · exact hf.nt HT10.out (by decide)
      · obtain ⟨cs2, hc⟩ := OB.type HM10.out ht
        exact hc.nt HT10.out (by decide)))
    have hb : Below W.heap.size W wS := by rw [hwS]; exact HB10.out.setCell (Nat.le_trans HB3.out.size (Nat.le_trans HS6.out (Nat.le_trans (Nat.le_succ _) (by have := HLY.out.fr.b.size; rw [World.size_alloc] at this; exact this)))) _
    have hrow : InR w3.heap.size wS (.slice A10 n10 c10) (g.l ++ [0]) := by rw [hwS]; exact row_keep HR10.out (fun k hk => heap_setCell_other _ _ _ _ (by obtain ⟨cs2, hc⟩ := row_type HR10.out hk; exact hc.nt HT10.out (by decide)))
    have hnl : n10 = (g.l ++ [0]).length := HN10.out
    rw [← hwS]
    have hl9 : (g.l ++ [0]).length ≤ 1000 := by have := HFl.out; have := HLv.out; simp; omega
    have HSt := Lib.hid (show CgR W w3.heap.size w3.heap.size T2 (.slice A10 n10 c10) (g.l ++ [0]) (g.l ++ [0]).length (.int .i64 0) wS from ⟨0, T2, by omega, rfl, hM, Fl.refl (fun i h => by simp at h), hb, hrow⟩)
    have HN := Lib.hid hnl
    have hnI : (n10 : Int) ≤ 1000 := by omega
    have HLL := Lib.hid hl9
    clear hM hb hrow hwS hnl hl9
    try clear s0 s1 s2 sf1
    try clear r1
    go_loopg [38] (g.l ++ [0]).length (fun gk s wr => CgR W w3.heap.size w3.heap.size T2 (.slice A10 n10 c10) (g.l ++ [0]) gk s wr)
    case atStart => exact HSt.out
    case round =>
      obtain ⟨j, T', hj, rfl, hM, hFl, hb, hrow⟩ := hrel
      have hn := HN.out
      by_cases hlt : j < (g.l ++ [0]).length
      · obtain ⟨q, hq⟩ : ∃ q, (g.l ++ [0])[j]? = some q := ⟨_, List.getElem?_eq_getElem hlt⟩
        obtain ⟨A9, c9, hs9, hA9⟩ := hrow.shape
        obtain ⟨gl, hgl, _, _⟩ := hA9.resolve_left (fun e => by rw [e] at hlt; simp at hlt)
        have hAl : A10 = some ⟨gl, 0, none⟩ := (Value.slice.inj hs9).1.trans hgl
        subst hAl
        have lq := hrow.at hq
        have hqT : q < T'.length := by
          rw [hFl.len, HK9.out.len]
          have hmem := List.mem_of_getElem? hq
          have hhi := HLY.out.hi
          have hlo : g.lo = 1 := HLY.out.lo
          have hlen := HLY.out.len
          have h0 : T0.length = 1 := rfl
          rcases List.mem_append.1 hmem with hm | hm
          · have := (HLY.out.ok.l q hm).2
            omega
          · simp at hm
            omega
        obtain ⟨st, hst⟩ : ∃ st, T'[q]? = some st := ⟨_, List.getElem?_eq_getElem hqT⟩
        obtain ⟨gs, c', cs, e1, e2, e3, e4, e5⟩ := hM.at hst
        have d1 := e1.cell 0
        have gf := e2.free (q * 2 + 1)
        have hT' : T'.length ≤ 1000 := by
          rw [hFl.len, HK9.out.len]
          have hlen := HLY.out.len
          have h0 : T0.length = 1 := rfl
          have := HLv.out
          omega
        have j0 : (0 : Int) ≤ (j : Int) := by omega
        have j1 : (j : Int) < (n10 : Int) := by omega
        have q0 : (0 : Int) ≤ (q : Int) := by omega
        have q1 : (q : Int) < (T'.length : Int) := by omega
        have hM' := hM.flag hst e1 e2
        have hFl' := (hFl.put hst).congr (P' := fun i => i ∈ (g.l ++ [0]).take (j + 1)) (fun i => by
          show (i ∈ (g.l ++ [0]).take j ∨ i = q) ↔ _
          rw [take_snoc hq, List.mem_append, List.mem_singleton])
        have hrow' : InR w3.heap.size (wr.setCell ⟨gs, q * 2 + 1, none⟩ (.bool true)) (.slice (some ⟨gl, 0, none⟩) n10 c10) (g.l ++ [0]) := row_keep hrow (fun k hk => heap_setCell_other _ _ _ _ (by obtain ⟨cs2, hc⟩ := row_type hrow hk; exact hc.nt e2 (by decide)))
        have HR := Lib.hid (And.intro hM' (And.intro hFl' (And.intro (hb.setCell (Nat.le_trans HB3.out.size e3) (.bool true) : Below W.heap.size W (wr.setCell ⟨gs, q * 2 + 1, none⟩ (.bool true))) hrow')))
        have HJ := Lib.hid (And.intro hj hlt)
        clear hM hFl hb hrow hq hs9 hA9 hgl hqT hst e1 e2 e3 hM' hFl' hrow' hj hlt e4 hn
        go_wp2
        go_roundg ((g.l ++ [0]).length - (j + 1))
        case measure => obtain ⟨h1, h2⟩ := HJ.out; omega
        case rel =>
          obtain ⟨h1, h2⟩ := HJ.out
          exact ⟨j + 1, _, by omega, by rw [Int.natCast_add]; rfl, HR.out.1, HR.out.2.1, HR.out.2.2.1, HR.out.2.2.2⟩
      · have hje : j = (g.l ++ [0]).length := by omega
        have j1 : ¬ ((j : Int) < (n10 : Int)) := by omega
        have hFl' := hFl.congr (P' := fun q => q ∈ g.l ++ (if g.em = true then [0] else [])) (fun i => by
          show i ∈ (g.l ++ [0]).take j ↔ _
          rw [hje, List.take_length, ← HE.out]
          simp)
        have HR := Lib.hid (And.intro (whole_fin HLY.out HLv.out HK9.out hM hFl') hb)
        clear hM hFl hFl' hb hrow hj hlt hn hje
        go_wp2
        go_ret2
        exact ⟨_, rfl, HR.out.1, HR.out.2⟩
end Go.Proofs.Ytghlajfalgdkfaa

/-
  Compile, of any path, Check and all.
-/
namespace Go.Proofs.Ytghlajfalgdkfaa
open Go.RowKit
set_option linter.unusedVariables false
set_option linter.unusedSimpArgs false
set_option maxRecDepth 100000

theorem Vfs.of_mem : ∀ {ts : List PT}, (∀ t ∈ ts, Vf t) → Vfs ts
  | [], _ => trivial
  | t :: ts, h => by
    unfold Vfs
    exact ⟨h t (List.mem_cons_self ..), Vfs.of_mem fun s hs => h s (List.mem_cons_of_mem _ hs)⟩
theorem frm_vf : ∀ t : PT, Wd t → frm t = true → Vf t := by
  refine PT.ind fun k n ts ih hw h => ?_
  unfold Wd at hw
  obtain ⟨hl, hws⟩ := hw
  rw [frm, Bool.and_eq_true] at h
  obtain ⟨h1, h2⟩ := h
  have h3 := (frms_iff ts).1 h2
  have hv : Vfs ts := Vfs.of_mem fun t ht => ih t ht (Wds.mem hws t ht) (h3 t ht)
  unfold Vf
  unfold fitB at h1
  by_cases k0 : k = 0 ∨ k = 1
  · rw [if_pos k0, Bool.and_eq_true] at h1
    have a := of_decide_eq_true h1.1
    have b := of_decide_eq_true h1.2
    have c : ts = [] := List.length_eq_zero_iff.1 b
    subst c
    simp_all
  · rw [if_neg k0] at h1
    by_cases k2 : k = 2 ∨ k = 3
    · rw [if_pos k2] at h1
      have a := of_decide_eq_true h1
      simp_all
    · rw [if_neg k2] at h1
      by_cases k4 : k = 4 ∨ k = 5 ∨ k = 6
      · rw [if_pos k4] at h1
        have a := of_decide_eq_true h1
        simp_all
      · rw [if_neg k4] at h1
        cases h1
theorem lv_sz : ∀ t : PT, lv t ≤ sz t := by
  refine PT.ind fun k n ts ih => ?_
  have h : ∀ l : List PT, (∀ t ∈ l, lv t ≤ sz t) → lvs l ≤ szs l := fun l => by
    induction l with
    | nil => intro _; simp [lvs]
    | cons t l ih2 =>
      intro hl
      rw [lvs, szs]
      have := hl t (List.mem_cons_self ..)
      have := ih2 fun s hs => hl s (List.mem_cons_of_mem _ hs)
      omega
  have := h ts ih
  rw [lv, sz]
  split <;> omega
theorem chk_zero {t : PT} (h : chk t = 0) : sz t ≤ 200 ∧ frm t = true := by
  unfold chk at h
  by_cases h1 : 40 ≤ hgt t
  · rw [if_pos h1] at h; cases h
  · rw [if_neg h1] at h
    by_cases h2 : 200 < sz t
    · rw [if_pos h2] at h; cases h
    · rw [if_neg h2] at h
      by_cases h3 : frm t = true
      · exact ⟨by omega, h3⟩
      · rw [if_neg h3] at h; cases h
theorem compile_ok {t : PT} (hw : Wd t) (hc : chk t = 0) {kd nn : Int} {A : Option Addr} {m c : Nat} {W : World} (hp : Pth W t ⟨kd, nn, .slice A m c⟩) :
    Calls Try.prog 13 #[.agg #[.int .i64 kd, .int .i64 nn, .slice A m c]] W (CgQ (lang t) W) := by
  obtain ⟨h1, h2⟩ := chk_zero hc
  refine compile_good hp (frm_vf t hw h2) (by have := lv_sz t; omega) fun w hb => ?_
  have := check_gen hw (hp.below hb)
  rw [hc] at this
  exact this
theorem compile_no {t : PT} (hw : Wd t) (hc : chk t ≠ 0) {kd nn : Int} {A : Option Addr} {m c : Nat} {W : World} (hp : Pth W t ⟨kd, nn, .slice A m c⟩) :
    Calls Try.prog 13 #[.agg #[.int .i64 kd, .int .i64 nn, .slice A m c]] W fun e w' => e = .returned (.tuple #[.pointer none, .int .i64 (chk t)]) ∧ Below W.heap.size W w' :=
  compile_bad hc fun w hb => check_gen hw (hp.below hb)
end Go.Proofs.Ytghlajfalgdkfaa

/-
  sort.Search, of a closure that turns nothing that was there.
-/
namespace Go.Proofs.Ytghlajfalgdkfaa
open Go.RowKit
set_option linter.unusedVariables false
set_option linter.unusedSimpArgs false
set_option maxRecDepth 100000

/-- Where what is asked for begins. -/
def SeaAt (p : Nat → Bool) (n k : Nat) : Prop := k ≤ n ∧ (∀ t, t < k → p t = false) ∧ ∀ t, k ≤ t → t < n → p t = true
theorem SeaAt.uniq {p : Nat → Bool} {n k j : Nat} (h : SeaAt p n k) (h' : SeaAt p n j) : k = j := by
  obtain ⟨a1, a2, a3⟩ := h
  obtain ⟨b1, b2, b3⟩ := h'
  rcases Nat.lt_trichotomy k j with e | e | e
  · have x := b2 k e
    have y := a3 k (Nat.le_refl _) (by omega)
    rw [x] at y; cases y
  · exact e
  · have x := a2 j e
    have y := b3 j (Nat.le_refl _) (by omega)
    rw [x] at y; cases y
def SeaRel (W : World) (p : Nat → Bool) (n kx : Nat) (s5 s6 : Value) (wr : World) : Prop := ∃ lo hi : Nat, s5 = .int .i64 lo ∧ s6 = .int .i64 hi ∧ lo ≤ hi ∧ hi ≤ n ∧ hi - lo ≤ kx ∧ Below W.heap.size W wr ∧ (∀ t, t < lo → p t = false) ∧ ∀ t, hi ≤ t → t < n → p t = true
set_option maxHeartbeats 8000000 in
theorem search_any (g : Nat) (cb : Array Value) (n : Nat) (p : Nat → Bool) (W : World) (eg : ∀ args w, (callFunc g args).run Try.prog w = .ok (.enter g args) w) (hn : n ≤ 100000)
    (hf : ∀ (w : World) (i : Nat), Below W.heap.size W w → i < n → Calls Try.prog g (#[.int .i64 i] ++ cb) w fun e w' => e = .returned (.bool (p i)) ∧ Below w.heap.size w w')
    (hmono : ∀ a b, a ≤ b → b < n → p a = true → p b = true) :
    Calls Try.prog 62 #[.int .i64 n, .func (.func g) #[] cb] W fun e w' => ∃ k : Nat, e = .returned (.int .i64 k) ∧ SeaAt p n k ∧ Below W.heap.size W w' := by
  have HF := Lib.hid hf
  have HM := Lib.hid hmono
  have HN := Lib.hid hn
  clear hf hmono hn
  go_enter Try.func62, Try.ntmps62
  go_wp2
  go_loopg [5, 6] n (fun kx s5 s6 wr => SeaRel W p n kx s5 s6 wr)
  case atStart => exact ⟨0, n, rfl, rfl, Nat.zero_le _, Nat.le_refl _, by omega, Below.refl _ _, fun t ht => absurd ht (Nat.not_lt_zero _), fun t h1 h2 => by omega⟩
  case round =>
    obtain ⟨lo, hi, rfl, rfl, hlh, hin, hg, hb, hI1, hI2⟩ := hrel
    have hn9 := HN.out
    have I1 := Lib.hid hI1
    have I2 := Lib.hid hI2
    have HB := Lib.hid hb
    clear hI1 hI2
    by_cases hlt : lo < hi
    · have hc := HF.out wr ((lo + hi) / 2) hb (by omega)
      rw [show (((lo + hi) / 2 : Nat) : Int) = ((lo : Int) + (hi : Int)) / 2 by omega] at hc
      clear hb
      cases hp : p ((lo + hi) / 2) <;> rw [hp] at hc
      · have HP := Lib.hid hp
        clear hp
        go_wp2_with (go_at_fn g; refine hc.mono ?_; rintro e w' ⟨rfl, hb2⟩)
        go_roundg (hi - ((lo + hi) / 2 + 1))
        case measure => omega
        case rel =>
          refine ⟨(lo + hi) / 2 + 1, hi, by rw [show ((lo : Int) + (hi : Int)) / 2 + 1 = (((lo + hi) / 2 + 1 : Nat) : Int) by omega], rfl, by omega, hin, Nat.le_refl _, HB.out.trans (hb2.mono HB.out.size), fun t ht => ?_, I2.out⟩
          cases h : p t with
          | false => rfl
          | true => have := HM.out t ((lo + hi) / 2) (by omega) (by omega) h; rw [HP.out] at this; cases this
      · have HP := Lib.hid hp
        clear hp
        go_wp2_with (go_at_fn g; refine hc.mono ?_; rintro e w' ⟨rfl, hb2⟩)
        go_roundg ((lo + hi) / 2 - lo)
        case measure => omega
        case rel =>
          exact ⟨lo, (lo + hi) / 2, rfl, by rw [show ((lo : Int) + (hi : Int)) / 2 = (((lo + hi) / 2 : Nat) : Int) by omega], by omega, by omega, Nat.le_refl _, HB.out.trans (hb2.mono HB.out.size), I1.out, fun t ht htn => HM.out ((lo + hi) / 2) t ht htn HP.out⟩
    · obtain rfl : hi = lo := by omega
      clear hb
      go_wp2
      go_ret
      exact ⟨hi, rfl, ⟨hin, I1.out, I2.out⟩, HB.out⟩
end Go.Proofs.Ytghlajfalgdkfaa
