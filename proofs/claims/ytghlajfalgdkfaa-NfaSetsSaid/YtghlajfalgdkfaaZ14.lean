/-
  MERGED (a claim has at most 60 files): NgSh, NgLS.
-/
import Derived.Test.YtghlajfalgdkfaaZ10
import Derived.Test.YtghlajfalgdkfaaZ13
import Derived.Test.YtghlajfalgdkfaaZ06
import Derived.Test.YtghlajfalgdkfaaZ09
import Derived.Deep.CutRange
import Derived.Deep.DeepCutAuto
import Derived.Deep.RegionHeld3
/-
  Paths that the laws make out of a tree: sizes, forms, memory; Fix, word and Takes as the laws call them.
-/
namespace Go.Proofs.Ytghlajfalgdkfaa
open Go.RowKit
set_option linter.unusedVariables false
set_option linter.unusedSimpArgs false
set_option maxRecDepth 100000

/-- A tree that may be: its form, its size, its height. -/
structure Okp (t : PT) (s h : Nat) : Prop where
  f : frm t = true
  w : Wd t
  s : sz t ≤ s
  h : hgt t ≤ h
theorem Okp.chk {t : PT} {s h : Nat} (o : Okp t s h) (hs : s ≤ 200) (hh : h ≤ 39) : chk t = 0 := by
  unfold Proofs.Ytghlajfalgdkfaa.chk
  have h1 := o.s
  have h2 := o.h
  rw [if_neg (by omega), if_neg (by omega), if_pos o.f]
theorem Okp.one {t : PT} {s h : Nat} (o : Okp t s h) {k : Int} (hk : k = 4 ∨ k = 5 ∨ k = 6) : Okp (.mk k 0 [t]) (s + 1) (h + 1) := by
  refine ⟨?_, ?_, ?_, ?_⟩
  · rw [frm, frms, frms, o.f]
    rcases hk with rfl | rfl | rfl <;> rfl
  · unfold Wd Wds Wds
    exact ⟨by simp, o.w, trivial⟩
  · have := o.s
    rw [sz, szs, szs]
    omega
  · have := o.h
    rw [hgt, hgts, hgts]
    omega
theorem Okp.two {t u : PT} {s h s' h' : Nat} (o : Okp t s h) (o' : Okp u s' h') {k : Int} (hk : k = 2 ∨ k = 3) : Okp (.mk k 0 [t, u]) (s + s' + 1) (max h h' + 1) := by
  refine ⟨?_, ?_, ?_, ?_⟩
  · rw [frm, frms, frms, frms, o.f, o'.f]
    rcases hk with rfl | rfl <;> rfl
  · unfold Wd Wds Wds Wds
    exact ⟨by simp, o.w, o'.w, trivial⟩
  · have := o.s
    have := o'.s
    rw [sz, szs, szs, szs]
    omega
  · have := o.h
    have := o'.h
    rw [hgt, hgts, hgts, hgts]
    omega
theorem ft_good {ns : List Nd} (hl : ns.length ≤ 5) (hF : ∀ (j : Nat) (d : Nd), ns[j]? = some d → Fm ns.length j d) {t : PT} (ht : (trees (tops ns))[0]? = some t) : Okp t 31 4 := by
  have hmem := List.mem_of_getElem? ht
  refine ⟨?_, trees_wd _ t hmem, ?_, ?_⟩
  all_goals
    unfold tops at hmem
    by_cases h0 : ns = []
    · rw [if_pos h0, trees, trees, pick] at hmem
      rw [List.mem_singleton.1 hmem]
      first | rfl | decide
    · rw [if_neg h0] at hmem
      obtain ⟨a, b, c⟩ := trees_good ns (by omega) hF t hmem
      have hp : 2 ^ ns.length ≤ 2 ^ 5 := Nat.pow_le_pow_right (by decide) hl
      have h32 : (2 : Nat) ^ 5 = 32 := rfl
      first | exact a | omega
theorem pth_one {W : World} {g : Nat} {kd nn : Int} {s : Value} {t : PT} (hF : Fb W g 28 #[.int .i64 kd, .int .i64 nn, s]) (hp : Pth W t ⟨kd, nn, s⟩) (k : Int) {c : Nat} : Pth W (.mk k 0 [t]) ⟨k, 0, .slice (some ⟨g, 0, none⟩) 1 c⟩ := by
  unfold Pth
  refine ⟨rfl, rfl, [⟨kd, nn, s⟩], .inr ⟨g, c, _, rfl, hF, fun j p hj => ?_⟩, Pths.mk rfl fun j t' p' h1 h2 => ?_⟩
  · have hj0 : j = 0 := by
      have := (List.getElem?_eq_some_iff.1 hj).1
      simp at this; omega
    subst hj0
    simp at hj
    subst hj
    exact ⟨rfl, rfl, rfl⟩
  · have hj0 : j = 0 := by
      have := (List.getElem?_eq_some_iff.1 h1).1
      simp at this; omega
    subst hj0
    simp at h1 h2
    subst h1 h2
    exact hp
theorem pth_two {W : World} {g : Nat} {kd nn kd' nn' : Int} {s s' : Value} {t u : PT} (hF : Fb W g 28 #[.int .i64 kd, .int .i64 nn, s, .int .i64 kd', .int .i64 nn', s']) (hp : Pth W t ⟨kd, nn, s⟩) (hq : Pth W u ⟨kd', nn', s'⟩) (k : Int) {c : Nat} : Pth W (.mk k 0 [t, u]) ⟨k, 0, .slice (some ⟨g, 0, none⟩) 2 c⟩ := by
  unfold Pth
  refine ⟨rfl, rfl, [⟨kd, nn, s⟩, ⟨kd', nn', s'⟩], .inr ⟨g, c, _, rfl, hF, fun j p hj => ?_⟩, Pths.mk rfl fun j t' p' h1 h2 => ?_⟩
  · have hj2 : j = 0 ∨ j = 1 := by
      have := (List.getElem?_eq_some_iff.1 hj).1
      simp at this; omega
    rcases hj2 with rfl | rfl
    · simp at hj; subst hj; exact ⟨rfl, rfl, rfl⟩
    · simp at hj; subst hj; exact ⟨rfl, rfl, rfl⟩
  · have hj2 : j = 0 ∨ j = 1 := by
      have := (List.getElem?_eq_some_iff.1 h1).1
      simp at this; omega
    rcases hj2 with rfl | rfl
    · simp at h1 h2; subst h1 h2; exact hp
    · simp at h1 h2; subst h1 h2; exact hq
theorem compile_okp {t : PT} {s h : Nat} (o : Okp t s h) (hs : s ≤ 200) (hh : h ≤ 39) {kd nn : Int} {A : Option Addr} {m c : Nat} {W : World} (hp : Pth W t ⟨kd, nn, .slice A m c⟩) :
    Calls Try.prog 13 #[.agg #[.int .i64 kd, .int .i64 nn, .slice A m c]] W (CgQ (lang t) W) := compile_ok o.w (o.chk hs hh) hp
def BQ (W : World) (b : Bool) (e : Ending) (w' : World) : Prop := e = .returned (.bool b) ∧ Below W.heap.size W w'
theorem takes_lit {d nw cw : Nat} {Aw : Option Addr} {A : Lg} {W : World} {ws : List Sy} (hMc : Mch W d A) (hwd : WdA W (.slice Aw nw cw) ws) (hws : ws.length ≤ 1000) (b : Bool) (hb : b = true ↔ A ws) :
    Calls Try.prog 17 #[.pointer (some ⟨d, 0, none⟩), .slice Aw nw cw] W (BQ W b) := by
  refine (takes_gen hMc hwd hws).mono ?_
  rintro e w' ⟨b', rfl, hb', hbe⟩
  have : b' = b := by rw [Bool.eq_iff_iff, hb', hb]
  subst this
  exact ⟨rfl, hbe⟩
theorem wd_nil (W : World) : WdA W (.slice none 0 0) [] := ⟨none, 0, rfl, fun j s h => by simp at h⟩
theorem NdI.below {W W' : World} {A : Option Addr} {len : Nat} (h : NdI W A len) (hb : Below W.heap.size W W') : NdI W' A len := fun j hj => by
  obtain ⟨g, o, kd, nn, A', m', c', l', h1, h2, h3, h4, h5, h6, h7, h8, h9⟩ := h j hj
  exact ⟨g, o, kd, nn, A', m', c', l', h1, Nat.lt_of_lt_of_le h2 hb.size, cell_below h3 hb, cell_below h4 hb, cell_below h5 hb, h6, h7, h8.below hb, h9⟩
theorem NdI.less {W : World} {A : Option Addr} {len len' : Nat} (h : NdI W A len) (hl : len' ≤ len) : NdI W A len' := fun j hj => h j (by omega)
/-- Fix, as the laws call it. -/
theorem fix_q {W : World} {A : Option Addr} {c n : Nat} (hl : NdI W A n) (hlc : n ≤ maxLen) :
    Calls Try.prog 12 #[.slice A n c] W fun e w' => ∃ (A' : Option Addr) (m c' : Nat) (ns : List Nd), e = .returned (.slice A' m c') ∧ m = ns.length ∧ m = min n 8 ∧ Nq w' A' ns ∧ (∀ (j : Nat) (d : Nd), ns[j]? = some d → Fm ns.length j d) ∧ Below W.heap.size W w' := by
  refine (fix_any hl hlc).mono ?_
  rintro e w' ⟨v, ns, rfl, hO, hm, hF, hb⟩
  obtain ⟨A', c', rfl, hq⟩ := hO.nq (by omega) hF
  exact ⟨A', _, c', ns, rfl, rfl, hm, hq, fun j d hj => by rw [hm]; exact hF j d hj, hb⟩
/-- Tree, as the laws call it. -/
theorem tree_l {W : World} {A : Option Addr} {c m : Nat} {ns : List Nd} (hm : m = ns.length) (hn : Nq W A ns) (hl : m ≤ 300) :
    Calls Try.prog 11 #[.slice A m c] W fun e w' => ∃ (g : Nat) (L : Nat) (kd nn : Int) (As : Option Addr) (ls cs : Nat) (t : PT), e = .returned (.tuple #[.slice (some ⟨g, 0, none⟩) L L, .agg #[.int .i64 kd, .int .i64 nn, .slice As ls cs]]) ∧ L ≤ 1000 ∧ Rf w' g L (trees (tops ns)) ∧ (trees (tops ns))[0]? = some t ∧ Pth w' t ⟨kd, nn, .slice As ls cs⟩ ∧ Below W.heap.size W w' := by
  subst hm
  refine (tree_any (c := c) hn hl).mono ?_
  rintro e w' ⟨g, p, t, he, hR, ht, hp, hb⟩
  obtain ⟨As, ls, cs, hs⟩ := hp.slice
  obtain ⟨kd, nn, s⟩ := p
  dsimp only at hs he
  subst hs
  refine ⟨g, _, kd, nn, As, ls, cs, t, he, ?_, hR, ht, hp, hb⟩
  unfold tops
  split
  · simp
  · omega
/-- word, as the laws call it. -/
theorem word_q {W : World} {A : Option Addr} {c : Nat} {l : List Int} (hl : Byt W A l) (hb : ∀ x ∈ l, 0 ≤ x ∧ x < 256) (hlc : l.length ≤ c) (hc : c ≤ maxLen) :
    Calls Try.prog 15 #[.slice A l.length c] W fun e w' => ∃ (Aa Ab : Option Addr) (na ca nb cb : Nat) (ws : List Sy), e = .returned (.tuple #[.slice Aa na ca, .slice Ab nb cb]) ∧ ws = (l.take 5).map sf ∧ SyR 75 W.heap.size w' (.slice Aa na ca) ws ∧ SyR 44 W.heap.size w' (.slice Ab nb cb) ws ∧ na = ws.length ∧ nb = ws.length ∧ ws.length ≤ 5 ∧ Below W.heap.size W w' := by
  refine (word_any hl hb hlc hc).mono ?_
  rintro e w' ⟨va, vb, rfl, h1, h2, h3⟩
  obtain ⟨Aa, ca, rfl, _⟩ := h1.shape
  obtain ⟨Ab, cb, rfl, _⟩ := h2.shape
  exact ⟨Aa, Ab, _, ca, _, cb, _, rfl, rfl, h1, h2, rfl, rfl, by simp; omega, h3⟩
def LtQ (W : World) (e : Ending) (w' : World) : Prop := e = .returned (.bool true) ∧ Below W.heap.size W w'
theorem below_al {B : Nat} {w0 w w1 : World} {o : Obj} (h : Below B w0 w) (hB : B ≤ w.heap.size) (h1 : Below (w.alloc o).heap.size (w.alloc o) w1) : Below B w0 w1 := (h.alloc hB o).trans (h1.mono (by rw [World.size_alloc]; omega))
theorem undrew {B : Nat} {w w1 : World} (h : Below B w.drew w1) : Below B w w1 := ⟨h.os, h.tape, h.output, h.size, h.block⟩
theorem al_call {w w1 : World} {cs : Array Value} {ty : Nat} (h : Below (w.alloc (.cells cs ty)).heap.size (w.alloc (.cells cs ty)) w1) : Fb w1 w.heap.size ty cs ∧ Below w.heap.size w w1 := ⟨(Fb.new _ _ _).below h, below_al (Below.refl _ _) (Nat.le_refl _) h⟩
def Five (W : World) (A : Option Addr) (cap : Nat) (s0 : Value) (wx : World) : Prop := ∃ m, m ≤ 5 ∧ s0 = .slice A m cap ∧ NdI W A m ∧ Below W.heap.size W wx
/-- A word's parts, one behind the other. -/
theorem syr_cut {B n c : Nat} {A : Option Addr} {W : World} {ws : List Sy} (h : SyR 44 B W (.slice A n c) ws) (hn : n = ws.length) : (A = none ∧ n = 0 ∧ c = 0 ∧ ws = []) ∨ ∃ g, A = some ⟨g, 0, none⟩ ∧ n ≤ c ∧ c ≤ maxLen ∧ ∀ w, Below W.heap.size W w → ∀ k, k ≤ n → WdA w (.slice (some ⟨g, 0, none⟩) k c) (ws.take k) ∧ WdA w (.slice (some ⟨g, k * 2, none⟩) (n - k) (c - k)) (ws.drop k) := by
  rcases id h.2 with ⟨hv, hl⟩ | ⟨g, cap, cur, hv, hB, hg, hnc, hcm, _⟩
  · have e := Value.slice.inj hv
    exact .inl ⟨e.1, e.2.1, e.2.2, List.length_eq_zero_iff.1 hl⟩
  · have e := Value.slice.inj hv
    obtain ⟨e1, e2, e3⟩ := e
    subst e1 e3
    refine .inr ⟨g, rfl, by omega, hcm, fun w hb k hk => ?_⟩
    obtain ⟨A', c', e, hat⟩ := h.wd.below hb
    have ea := (Value.slice.inj e).1
    refine ⟨⟨some ⟨g, 0, none⟩, c, by rw [List.length_take]; congr 1; omega, fun j s hj => ?_⟩, ⟨some ⟨g, k * 2, none⟩, c - k, by rw [List.length_drop, hn], fun j s hj => ?_⟩⟩
    · have hjk : j < k := by have := (List.getElem?_eq_some_iff.1 hj).1; simp at this; omega
      rw [List.getElem?_take_of_lt hjk] at hj
      obtain ⟨g', o, h1, h2, h3⟩ := hat j s hj
      rw [← ea] at h1
      exact ⟨g', o, h1, h2, h3⟩
    · rw [List.getElem?_drop] at hj
      obtain ⟨g', o, h1, h2, h3⟩ := hat (k + j) s hj
      rw [← ea] at h1
      have e0 := Option.some.inj h1
      injection e0 with e4 e5 e6
      subst e4 e5
      refine ⟨g, k * 2, rfl, ?_, ?_⟩
      · rw [show k * 2 + j * 2 = 0 + (k + j) * 2 by omega]; exact h2
      · rw [show k * 2 + j * 2 + 1 = 0 + (k + j) * 2 + 1 by omega]; exact h3
end Go.Proofs.Ytghlajfalgdkfaa

/-
  NfaStars: its walk.
-/
namespace Go.Proofs.Ytghlajfalgdkfaa
open Go.RowKit
set_option linter.unusedVariables false
set_option linter.unusedSimpArgs false
set_option maxRecDepth 100000

theorem one_any (W : World) (k : Int) (A : Option Addr) (m c : Nat) : Calls Try.prog 28 #[.int .i64 k, .slice A m c] W fun e w' => e = .returned (.agg #[.int .i64 k, .int .i64 0, .slice A m c]) ∧ Below W.heap.size W w' := by
  go_enter Try.func28, Try.ntmps28
  go_wp2
  have hF : Fb (W.alloc (.cells #[.int .i64 k, .int .i64 0, .slice A m c] 28)) W.heap.size 28 #[.int .i64 k, .int .i64 0, .slice A m c] := Fb.new _ _ _
  have hb : Below W.heap.size W (W.alloc (.cells #[.int .i64 k, .int .i64 0, .slice A m c] 28)) := (Below.refl _ _).alloc (Nat.le_refl _) _
  obtain ⟨W9, hW9⟩ : ∃ W9, W9 = W.alloc (.cells #[.int .i64 k, .int .i64 0, .slice A m c] 28) := ⟨_, rfl⟩
  rw [← hW9] at hF hb ⊢
  refine bodyPost_ret (results_cell_row (P := Try.prog) rfl _ W9 W.heap.size 28 _ (0, 0) _ rfl hF Try.underlying28 rfl (by kernel_rfl)) rfl ?_
  exact ⟨rfl, hb⟩
set_option pp.deepTerms true in
set_option pp.maxSteps 1000000 in
set_option maxHeartbeats 64000000 in
theorem stars_walk (A : Option Addr) (len cap : Nat) (hl : len ≤ cap) (hm : cap ≤ maxLen) (A1 : Option Addr) (l : List Int) (cap1 : Nat) (hl1 : l.length ≤ cap1) (hm1 : cap1 ≤ maxLen) (ok1 : ∀ x ∈ l, 0 ≤ x ∧ x < 256) (W : World) (hn : NdI W A len) (hBy : Byt W A1 l) : Calls Try.prog 7 #[.slice A len cap, .slice A1 l.length cap1] W (LtQ W) := by
  have l0 : (0 : Int) ≤ (len : Int) := by omega
  have l1 : (len : Int) ≤ (cap : Int) := by omega
  have l2 : (cap : Int) ≤ 9223372036854775807 := by unfold maxLen at hm; omega
  have HN := Lib.hid hn
  have HWd := Lib.hid (fun (w : World) (hb : Below W.heap.size W w) => word_q (hBy.below hb) ok1 hl1 hm1)
  have HM := Lib.hid (show 5 ≤ maxLen by unfold maxLen; omega)
  obtain ⟨nl, hnl⟩ : ∃ nl, nl = l.length := ⟨_, rfl⟩
  rw [← hnl] at HWd ⊢
  have HBA := Lib.hid (Below.refl W.heap.size W)
  clear hl hm hn hBy ok1 hl1 hm1 hnl
  go_enter Try.func7, Try.ntmps7
  go_upto_if 22 with (go_at_call 10; (with_reducible refine (fawake_any _).mono ?_); rintro e w1 ⟨rfl, hb1⟩; have HBA := Lib.hid (HBA.out.trans (hb1.mono HBA.out.size)); clear hb1)
  go_cut [0] (fun s0 wx => Five W A cap s0 wx)
  case first =>
    by_cases h5 : 5 < len
    · have z1 : (5 : Int) < (len : Int) := by omega
      have z1' : decide ((5 : Int) < (len : Int)) = true := decide_eq_true z1
      have z2' : decide (5 < len) = true := decide_eq_true h5
      have z3 : (5 : Int) ≤ (cap : Int) := by omega
      have HL := Lib.hid h5
      go_wp2
      go_meet
      exact ⟨5, by omega, rfl, HN.out.less (by have := HL.out; omega), HBA.out⟩
    · have z1 : ¬ ((5 : Int) < (len : Int)) := by omega
      have z1' : decide ((5 : Int) < (len : Int)) = false := decide_eq_false z1
      have z2' : decide (5 < len) = false := decide_eq_false h5
      have HL := Lib.hid h5
      clear h5
      go_wp2
      go_meet
      exact ⟨len, by have := HL.out; omega, rfl, HN.out, HBA.out⟩
  case rest =>
    obtain ⟨n, hn5, rfl, hN5, hbc⟩ := hcut
    have cF := fix_q (c := cap) (hN5.below hbc) (Nat.le_trans hn5 HM.out)
    have Hn5 := Lib.hid hn5
    have HB := Lib.hid hbc
    clear hN5 hbc hn5 HN l0 l1 l2 HBA
    go_upto_region 6 with (first
      | (go_at_call 12; (with_reducible refine cF.mono ?_); rintro e w2 ⟨A2, m2, c2, ns, rfl, hm2, hm8, hq, hF, hb2⟩; have cT := tree_l (c := c2) hm2 hq (by omega); have HFx := Lib.hid (And.intro hm2 (And.intro hm8 hF)); have HB := Lib.hid (HB.out.trans (hb2.mono HB.out.size)); clear hm2 hm8 hq hF hb2)
      | (go_at_call 11; (with_reducible refine cT.mono ?_); rintro e w5 ⟨g, L, kd, nn, As, ls, cs, t, rfl, hL, hR, ht, hp, hb5⟩; have HO := Lib.hid (ft_good (by have := HFx.out.1; have := HFx.out.2.1; have := Hn5.out; omega) HFx.out.2.2 ht); have HP := Lib.hid hp; have HB := Lib.hid (HB.out.trans (hb5.mono HB.out.size)); clear hL hR ht hp hb5))
    have HC4 := Lib.hid (fun (w : World) (v : Option Addr) (hp : Pth w (.mk 4 0 [t]) ⟨4, 0, .slice v 1 1⟩) => compile_okp (HO.out.one (k := 4) (.inl rfl)) (by decide) (by decide) hp)
    have HC5 := Lib.hid (fun (w : World) (v : Option Addr) (hp : Pth w (.mk 5 0 [t]) ⟨5, 0, .slice v 1 1⟩) => compile_okp (HO.out.one (k := 5) (.inr (.inl rfl))) (by decide) (by decide) hp)
    have HC65 := Lib.hid (fun (w : World) (v : Option Addr) (hp : Pth w (.mk 6 0 [.mk 5 0 [t]]) ⟨6, 0, .slice v 1 1⟩) => compile_okp ((HO.out.one (k := 5) (.inr (.inl rfl))).one (k := 6) (.inr (.inr rfl))) (by decide) (by decide) hp)
    have HC24 := Lib.hid (fun (w : World) (v : Option Addr) (hp : Pth w (.mk 2 0 [t, .mk 4 0 [t]]) ⟨2, 0, .slice v 2 2⟩) => compile_okp (HO.out.two (HO.out.one (k := 4) (.inl rfl)) (k := 2) (.inl rfl)) (by decide) (by decide) hp)
    obtain ⟨w6, hw6⟩ : ∃ w6, w6 = w5.alloc (.cells #[.int .i64 kd, .int .i64 nn, .slice As ls cs] 28) := ⟨_, rfl⟩
    rw [← hw6]
    have hb6 : Below w5.heap.size w5 w6 := by rw [hw6]; exact (Below.refl _ _).alloc (Nat.le_refl _) _
    have hF6 : Fb w6 w5.heap.size 28 #[.int .i64 kd, .int .i64 nn, .slice As ls cs] := by rw [hw6]; exact Fb.new _ _ _
    have HB6 := Lib.hid (HB.out.trans (hb6.mono HB.out.size))
    have HF := Lib.hid (fun (w : World) (hb : Below w6.heap.size w6 w) => (⟨(hF6.below hb).cell 0, (hF6.below hb).cell 1, (hF6.below hb).cell 2⟩ : w.cell? ⟨w5.heap.size, 0, none⟩ = some (.int .i64 kd) ∧ w.cell? ⟨w5.heap.size, 1, none⟩ = some (.int .i64 nn) ∧ w.cell? ⟨w5.heap.size, 2, none⟩ = some (.slice As ls cs)))
    have HPt := Lib.hid (fun (w : World) (hb : Below w6.heap.size w6 w) => (HP.out.below hb6).below hb)
    obtain ⟨gp, hgp⟩ : ∃ gp, gp = w5.heap.size := ⟨_, rfl⟩
    rw [← hgp] at HF ⊢
    have cW := HWd.out w6 HB6.out
    clear hw6 hb6 hF6 cF cT HFx hgp
    go_upto_region 7 with (go_at_call 15; (with_reducible refine cW.mono ?_); rintro e w7 ⟨Aa, Ab, na, ca, nb, cb, ws, rfl, hws, hSa, hSb, hna, hnb, hw5, hb7⟩; have HW7 := Lib.hid (And.intro hSb.wd hw5); have HB7 := Lib.hid hb7; obtain ⟨q0, q1, q2⟩ := HF.out w7 hb7; clear hws hSa hSb hna hnb hw5 hb7)
    go_upto_region 9 with (first
      | (go_at_call 28; (with_reducible refine (one_any _ _ _ _ _).mono ?_); rintro e w8 ⟨rfl, hb8⟩; have hf8 := (Fb.new _ _ _).below hb8; have HB8 := Lib.hid (below_al HB7.out HB7.out.size hb8); have HU8 := Lib.hid (al_call hb8).2; have hP8 : Pth w8 (.mk 4 0 [t]) ⟨4, 0, .slice (some ⟨w7.heap.size, 0, none⟩) 1 1⟩ := pth_one hf8 (HPt.out w8 HB8.out) 4; have cC := HC4.out w8 _ hP8; clear hb8 hf8 hP8)
      | (go_at_call 13; (with_reducible refine cC.mono ?_); rintro e w9 ⟨d1, rfl, hM1, hb9⟩; have HB9 := Lib.hid (HB8.out.trans (hb9.mono HB8.out.size)); have HM1 := Lib.hid (fun (w : World) (hb : Below w9.heap.size w9 w) => hM1.below hb); have HU9 := Lib.hid (HU8.out.trans (hb9.mono HU8.out.size)); obtain ⟨r0, r1, r2⟩ := HF.out w9 HB9.out; clear hb9 hM1))
    clear q0 q1 q2 cC cW
    go_upto_region 10 with (first
      | (go_at_call 28; (with_reducible refine (one_any _ 5 _ _ _).mono ?_); rintro e w10 ⟨rfl, hb8⟩; have hf8 := (Fb.new _ _ _).below hb8; have HB10 := Lib.hid (below_al HB9.out HB9.out.size hb8); have HU10 := Lib.hid (al_call hb8).2; have hP8 : Pth w10 (.mk 5 0 [t]) ⟨5, 0, .slice (some ⟨w9.heap.size, 0, none⟩) 1 1⟩ := pth_one hf8 (HPt.out w10 HB10.out) 5; have HP10 := Lib.hid hP8; clear hb8 hf8 hP8)
      | (go_at_call 28; (with_reducible refine (one_any _ 6 _ _ _).mono ?_); rintro e w11 ⟨rfl, hb8⟩; have hf8 := (Fb.new _ _ _).below hb8; have HB11 := Lib.hid (below_al HB10.out HB10.out.size hb8); have HU11 := Lib.hid (HU10.out.trans ((al_call hb8).2.mono HU10.out.size)); have hP8 : Pth w11 (.mk 6 0 [.mk 5 0 [t]]) ⟨6, 0, .slice (some ⟨w10.heap.size, 0, none⟩) 1 1⟩ := pth_one hf8 (HP10.out.below (below_al (Below.refl _ _) (Nat.le_refl _) hb8)) 6; have cC := HC65.out w11 _ hP8; clear hb8 hf8 hP8)
      | (go_at_call 13; (with_reducible refine cC.mono ?_); rintro e w12 ⟨d2, rfl, hM1, hb9⟩; have HB12 := Lib.hid (HB11.out.trans (hb9.mono HB11.out.size)); have HU12 := Lib.hid (HU11.out.trans (hb9.mono HU11.out.size)); have HM2 := Lib.hid (fun (w : World) (hb : Below w12.heap.size w12 w) => hM1.below hb); obtain ⟨r0, r1, r2⟩ := HF.out w12 HB12.out; clear hb9 hM1))
    clear cC
    go_upto_region 11 with (first
      | (go_at_call 28; (with_reducible refine (one_any _ 5 _ _ _).mono ?_); rintro e w13 ⟨rfl, hb8⟩; have hf8 := (Fb.new _ _ _).below hb8; have HB13 := Lib.hid (below_al HB12.out HB12.out.size hb8); have HU13 := Lib.hid (al_call hb8).2; have hP8 : Pth w13 (.mk 5 0 [t]) ⟨5, 0, .slice (some ⟨w12.heap.size, 0, none⟩) 1 1⟩ := pth_one hf8 (HPt.out w13 HB13.out) 5; have cC := HC5.out w13 _ hP8; clear hb8 hf8 hP8)
      | (go_at_call 13; (with_reducible refine cC.mono ?_); rintro e w14 ⟨d3, rfl, hM1, hb9⟩; have HB14 := Lib.hid (HB13.out.trans (hb9.mono HB13.out.size)); have HU14 := Lib.hid (HU13.out.trans (hb9.mono HU13.out.size)); have HM3 := Lib.hid (fun (w : World) (hb : Below w14.heap.size w14 w) => hM1.below hb); obtain ⟨r0, r1, r2⟩ := HF.out w14 HB14.out; clear hb9 hM1))
    clear cC
    have hQ14 := HB14.out
    go_region_held3 (fun w => w.cell? ⟨gp, 0, none⟩ = some (.int .i64 kd) ∧ w.cell? ⟨gp, 1, none⟩ = some (.int .i64 nn) ∧ w.cell? ⟨gp, 2, none⟩ = some (.slice As ls cs))
      (first | (refine HF.out _ ?_; repeat (first | assumption | exact Below.refl _ _ | refine Below.drew ?_ | refine Below.alloc ?_ (by first | exact Nat.le_refl _ | (simp; omega) | exact Below.size (by assumption)) _)))
      (first
        | (go_at_call 28; (with_reducible refine (one_any _ 4 _ _ _).mono ?_); rintro e w15 ⟨rfl, hb15⟩; have hx15 : Fb w15 w14.heap.size 28 #[.int .i64 kd, .int .i64 nn, .slice As ls cs] ∧ Below w14.heap.size w14 w15 := al_call (by first | exact hb15 | exact undrew hb15 | exact undrew (undrew hb15) | exact undrew (undrew (undrew hb15))); have hQ15 := hQ14.trans (hx15.2.mono hQ14.size); have hP8 : Pth w15 (.mk 4 0 [t]) ⟨4, 0, .slice (some ⟨w14.heap.size, 0, none⟩) 1 1⟩ := pth_one hx15.1 (HPt.out w15 hQ15) 4; have HP15 := Lib.hid hP8; have HU15 := Lib.hid hx15.2; clear hb15 hx15 hP8)
        | (go_at_call 28; (with_reducible refine (one_any _ 2 _ _ _).mono ?_); rintro e w16 ⟨rfl, hb16⟩; have hx16 : Fb w16 w15.heap.size 28 #[.int .i64 kd, .int .i64 nn, .slice As ls cs, .int .i64 4, .int .i64 0, .slice (some ⟨w14.heap.size, 0, none⟩) 1 1] ∧ Below w15.heap.size w15 w16 := al_call (by first | exact hb16 | exact undrew hb16 | exact undrew (undrew hb16) | exact undrew (undrew (undrew hb16))); have hQ16 := hQ15.trans (hx16.2.mono hQ15.size); have hP8 : Pth w16 (.mk 2 0 [t, .mk 4 0 [t]]) ⟨2, 0, .slice (some ⟨w15.heap.size, 0, none⟩) 2 2⟩ := pth_two hx16.1 (HPt.out w16 hQ16) (HP15.out.below hx16.2) 2; have cC := HC24.out w16 _ hP8; have HU16 := Lib.hid (HU15.out.trans (hx16.2.mono HU15.out.size)); clear hb16 hx16 hP8)
        | (go_at_call 13; (with_reducible refine cC.mono ?_); rintro e w17 ⟨d4, rfl, hM1, hb17⟩; have hQ17 := hQ16.trans (hb17.mono hQ16.size); have HM4 := Lib.hid (fun (w : World) (hb : Below w17.heap.size w17 w) => hM1.below hb); have HU17 := Lib.hid (HU16.out.trans (hb17.mono HU16.out.size)); clear hb17 hM1)
        | fail)
    clear r0 r1 r2 cC hQ14 hQ15 hQ16
    have HB17 := Lib.hid (HB6.out.trans (hQ17.mono HB6.out.size))
    have u14 := HU14.out.trans (HU17.out.mono HU14.out.size)
    have u12 := HU12.out.trans (u14.mono HU12.out.size)
    have u9 := HU9.out.trans (u12.mono HU9.out.size)
    obtain ⟨bS, hbS⟩ : ∃ b : Bool, b = true ↔ StarL (lang t) ws := by
      by_cases h : StarL (lang t) ws
      · exact ⟨true, by simp [h]⟩
      · exact ⟨false, by simp [h]⟩
    obtain ⟨bP, hbP⟩ : ∃ b : Bool, b = true ↔ plusL (lang t) ws := by
      by_cases h : plusL (lang t) ws
      · exact ⟨true, by simp [h]⟩
      · exact ⟨false, by simp [h]⟩
    have g4 : ∀ v, lang (.mk 4 0 [t]) v ↔ StarL (lang t) v := fun v => lang_again (.inl rfl) v
    have g5 : ∀ v, lang (.mk 5 0 [t]) v ↔ plusL (lang t) v := fun v => lang_again (.inr (.inl rfl)) v
    have g65 : ∀ v, lang (.mk 6 0 [.mk 5 0 [t]]) v ↔ StarL (lang t) v := fun v => by
      rw [lang_again (.inr (.inr rfl)) v, starL_iff, ← g5 v]
      exact Iff.rfl
    have g24 : ∀ v, lang (.mk 2 0 [t, .mk 4 0 [t]]) v ↔ plusL (lang t) v := fun v => by
      rw [lang_seq]
      refine catL_congr (fun _ => Iff.rfl) (fun w => ?_) v
      exact (seql_one _ w).trans (g4 w)
    have CN := Lib.hid (fun (w : World) (hb : Below w17.heap.size w17 w) => takes_lit (HM1.out w (u12.trans (hb.mono u12.size))) (wd_nil w) (by simp) true (by simp [g4, StarL.nil]))
    have CS := Lib.hid (fun (w : World) (hb : Below w17.heap.size w17 w) => takes_lit (HM1.out w (u12.trans (hb.mono u12.size))) (HW7.out.1.below (u9.trans (hb.mono u9.size))) (by have := HW7.out.2; omega) bS (by rw [hbS, g4]))
    have CA := Lib.hid (fun (w : World) (hb : Below w17.heap.size w17 w) => takes_lit (HM2.out w (u14.trans (hb.mono u14.size))) (HW7.out.1.below (u9.trans (hb.mono u9.size))) (by have := HW7.out.2; omega) bS (by rw [hbS, g65]))
    have CP := Lib.hid (fun (w : World) (hb : Below w17.heap.size w17 w) => takes_lit (HM3.out w (HU17.out.trans (hb.mono HU17.out.size))) (HW7.out.1.below (u9.trans (hb.mono u9.size))) (by have := HW7.out.2; omega) bP (by rw [hbP, g5]))
    have CB := Lib.hid (fun (w : World) (hb : Below w17.heap.size w17 w) => takes_lit (HM4.out w hb) (HW7.out.1.below (u9.trans (hb.mono u9.size))) (by have := HW7.out.2; omega) bP (by rw [hbP, g24]))
    have HPS : bP = true → bS = true := fun h => hbS.2 ((starL_iff _ _).2 (.inr (hbP.1 h)))
    have HBx := Lib.hid (Below.refl w17.heap.size w17)
    clear hQ17 u14 u12 u9 hbS hbP g4 g5 g65 g24
    cases bP with
    | true =>
      have hS := HPS rfl
      subst hS
      clear HPS
      go_wp2_with (first
        | (go_at_call 17; (with_reducible refine (CN.out _ HBx.out).mono ?_); rintro e wn ⟨rfl, hbn⟩; have HBx := Lib.hid (HBx.out.trans (hbn.mono HBx.out.size)); clear hbn)
        | (go_at_call 17; (with_reducible refine (CS.out _ HBx.out).mono ?_); rintro e wn ⟨rfl, hbn⟩; have HBx := Lib.hid (HBx.out.trans (hbn.mono HBx.out.size)); clear hbn)
        | (go_at_call 17; (with_reducible refine (CA.out _ HBx.out).mono ?_); rintro e wn ⟨rfl, hbn⟩; have HBx := Lib.hid (HBx.out.trans (hbn.mono HBx.out.size)); clear hbn)
        | (go_at_call 17; (with_reducible refine (CP.out _ HBx.out).mono ?_); rintro e wn ⟨rfl, hbn⟩; have HBx := Lib.hid (HBx.out.trans (hbn.mono HBx.out.size)); clear hbn)
        | (go_at_call 17; (with_reducible refine (CB.out _ HBx.out).mono ?_); rintro e wn ⟨rfl, hbn⟩; have HBx := Lib.hid (HBx.out.trans (hbn.mono HBx.out.size)); clear hbn))
      go_ret
      exact ⟨rfl, HB17.out.trans (HBx.out.mono HB17.out.size)⟩
    | false =>
      clear HPS
      go_wp2_with (first
        | (go_at_call 17; (with_reducible refine (CN.out _ HBx.out).mono ?_); rintro e wn ⟨rfl, hbn⟩; have HBx := Lib.hid (HBx.out.trans (hbn.mono HBx.out.size)); clear hbn)
        | (go_at_call 17; (with_reducible refine (CS.out _ HBx.out).mono ?_); rintro e wn ⟨rfl, hbn⟩; have HBx := Lib.hid (HBx.out.trans (hbn.mono HBx.out.size)); clear hbn)
        | (go_at_call 17; (with_reducible refine (CA.out _ HBx.out).mono ?_); rintro e wn ⟨rfl, hbn⟩; have HBx := Lib.hid (HBx.out.trans (hbn.mono HBx.out.size)); clear hbn)
        | (go_at_call 17; (with_reducible refine (CP.out _ HBx.out).mono ?_); rintro e wn ⟨rfl, hbn⟩; have HBx := Lib.hid (HBx.out.trans (hbn.mono HBx.out.size)); clear hbn)
        | (go_at_call 17; (with_reducible refine (CB.out _ HBx.out).mono ?_); rintro e wn ⟨rfl, hbn⟩; have HBx := Lib.hid (HBx.out.trans (hbn.mono HBx.out.size)); clear hbn))
      go_ret
      exact ⟨rfl, HB17.out.trans (HBx.out.mono HB17.out.size)⟩
end Go.Proofs.Ytghlajfalgdkfaa
