/-
  MERGED (a claim has at most 60 files): NgSh, NgRd.
-/
import Derived.Test.YtghlajfalgdkfaaZ21
import Derived.Test.YtghlajfalgdkfaaZ22
import Derived.Test.YtghlajfalgdkfaaZ16
import Derived.Test.YtghlajfalgdkfaaZ19
import Derived.Test.YtghlajfalgdkfaaZ20
/-
  Paths that the laws make out of a tree: sizes, forms, memory; Fix, word and Takes as the laws call them.
-/
namespace Go.Proofs.Ytghlajfalgdkfaa
open Go.RowKit
set_option linter.unusedVariables false
set_option linter.unusedSimpArgs false
set_option maxRecDepth 100000

/-- A tree that may be: its form, its size, its height. -/
structure Okp (t : PT) (s h : Nat) : Prop where
  f : frm t = true
  w : Wd t
  s : sz t ≤ s
  h : hgt t ≤ h
theorem Okp.chk {t : PT} {s h : Nat} (o : Okp t s h) (hs : s ≤ 200) (hh : h ≤ 39) : chk t = 0 := by
  unfold Proofs.Ytghlajfalgdkfaa.chk
  have h1 := o.s
  have h2 := o.h
  rw [if_neg (by omega), if_neg (by omega), if_pos o.f]
theorem Okp.one {t : PT} {s h : Nat} (o : Okp t s h) {k : Int} (hk : k = 4 ∨ k = 5 ∨ k = 6) : Okp (.mk k 0 [t]) (s + 1) (h + 1) := by
  refine ⟨?_, ?_, ?_, ?_⟩
  · rw [frm, frms, frms, o.f]
    rcases hk with rfl | rfl | rfl <;> rfl
  · unfold Wd Wds Wds
    exact ⟨by simp, o.w, trivial⟩
  · have := o.s
    rw [sz, szs, szs]
    omega
  · have := o.h
    rw [hgt, hgts, hgts]
    omega
theorem Okp.two {t u : PT} {s h s' h' : Nat} (o : Okp t s h) (o' : Okp u s' h') {k : Int} (hk : k = 2 ∨ k = 3) : Okp (.mk k 0 [t, u]) (s + s' + 1) (max h h' + 1) := by
  refine ⟨?_, ?_, ?_, ?_⟩
  · rw [frm, frms, frms, frms, o.f, o'.f]
    rcases hk with rfl | rfl <;> rfl
  · unfold Wd Wds Wds Wds
    exact ⟨by simp, o.w, o'.w, trivial⟩
  · have := o.s
    have := o'.s
    rw [sz, szs, szs, szs]
    omega
  · have := o.h
    have := o'.h
    rw [hgt, hgts, hgts, hgts]
    omega
theorem ft_good {ns : List Nd} (hl : ns.length ≤ 5) (hF : ∀ (j : Nat) (d : Nd), ns[j]? = some d → Fm ns.length j d) {t : PT} (ht : (trees (tops ns))[0]? = some t) : Okp t 31 4 := by
  have hmem := List.mem_of_getElem? ht
  refine ⟨?_, trees_wd _ t hmem, ?_, ?_⟩
  all_goals
    unfold tops at hmem
    by_cases h0 : ns = []
    · rw [if_pos h0, trees, trees, pick] at hmem
      rw [List.mem_singleton.1 hmem]
      first | rfl | decide
    · rw [if_neg h0] at hmem
      obtain ⟨a, b, c⟩ := trees_good ns (by omega) hF t hmem
      have hp : 2 ^ ns.length ≤ 2 ^ 5 := Nat.pow_le_pow_right (by decide) hl
      have h32 : (2 : Nat) ^ 5 = 32 := rfl
      first | exact a | omega
theorem pth_one {W : World} {g : Nat} {kd nn : Int} {s : Value} {t : PT} (hF : Fb W g 28 #[.int .i64 kd, .int .i64 nn, s]) (hp : Pth W t ⟨kd, nn, s⟩) (k : Int) {c : Nat} : Pth W (.mk k 0 [t]) ⟨k, 0, .slice (some ⟨g, 0, none⟩) 1 c⟩ := by
  unfold Pth
  refine ⟨rfl, rfl, [⟨kd, nn, s⟩], .inr ⟨g, c, _, rfl, hF, fun j p hj => ?_⟩, Pths.mk rfl fun j t' p' h1 h2 => ?_⟩
  · have hj0 : j = 0 := by
      have := (List.getElem?_eq_some_iff.1 hj).1
      simp at this; omega
    subst hj0
    simp at hj
    subst hj
    exact ⟨rfl, rfl, rfl⟩
  · have hj0 : j = 0 := by
      have := (List.getElem?_eq_some_iff.1 h1).1
      simp at this; omega
    subst hj0
    simp at h1 h2
    subst h1 h2
    exact hp
theorem pth_two {W : World} {g : Nat} {kd nn kd' nn' : Int} {s s' : Value} {t u : PT} (hF : Fb W g 28 #[.int .i64 kd, .int .i64 nn, s, .int .i64 kd', .int .i64 nn', s']) (hp : Pth W t ⟨kd, nn, s⟩) (hq : Pth W u ⟨kd', nn', s'⟩) (k : Int) {c : Nat} : Pth W (.mk k 0 [t, u]) ⟨k, 0, .slice (some ⟨g, 0, none⟩) 2 c⟩ := by
  unfold Pth
  refine ⟨rfl, rfl, [⟨kd, nn, s⟩, ⟨kd', nn', s'⟩], .inr ⟨g, c, _, rfl, hF, fun j p hj => ?_⟩, Pths.mk rfl fun j t' p' h1 h2 => ?_⟩
  · have hj2 : j = 0 ∨ j = 1 := by
      have := (List.getElem?_eq_some_iff.1 hj).1
      simp at this; omega
    rcases hj2 with rfl | rfl
    · simp at hj; subst hj; exact ⟨rfl, rfl, rfl⟩
    · simp at hj; subst hj; exact ⟨rfl, rfl, rfl⟩
  · have hj2 : j = 0 ∨ j = 1 := by
      have := (List.getElem?_eq_some_iff.1 h1).1
      simp at this; omega
    rcases hj2 with rfl | rfl
    · simp at h1 h2; subst h1 h2; exact hp
    · simp at h1 h2; subst h1 h2; exact hq
theorem compile_okp {t : PT} {s h : Nat} (o : Okp t s h) (hs : s ≤ 200) (hh : h ≤ 39) {kd nn : Int} {A : Option Addr} {m c : Nat} {W : World} (hp : Pth W t ⟨kd, nn, .slice A m c⟩) :
    Calls Try.prog 13 #[.agg #[.int .i64 kd, .int .i64 nn, .slice A m c]] W (CgQ (lang t) W) := compile_ok o.w (o.chk hs hh) hp
def BQ (W : World) (b : Bool) (e : Ending) (w' : World) : Prop := e = .returned (.bool b) ∧ Below W.heap.size W w'
theorem takes_lit {d nw cw : Nat} {Aw : Option Addr} {A : Lg} {W : World} {ws : List Sy} (hMc : Mch W d A) (hwd : WdA W (.slice Aw nw cw) ws) (hws : ws.length ≤ 1000) (b : Bool) (hb : b = true ↔ A ws) :
    Calls Try.prog 17 #[.pointer (some ⟨d, 0, none⟩), .slice Aw nw cw] W (BQ W b) := by
  refine (takes_gen hMc hwd hws).mono ?_
  rintro e w' ⟨b', rfl, hb', hbe⟩
  have : b' = b := by rw [Bool.eq_iff_iff, hb', hb]
  subst this
  exact ⟨rfl, hbe⟩
theorem wd_nil (W : World) : WdA W (.slice none 0 0) [] := ⟨none, 0, rfl, fun j s h => by simp at h⟩
theorem NdI.below {W W' : World} {A : Option Addr} {len : Nat} (h : NdI W A len) (hb : Below W.heap.size W W') : NdI W' A len := fun j hj => by
  obtain ⟨g, o, kd, nn, A', m', c', l', h1, h2, h3, h4, h5, h6, h7, h8, h9⟩ := h j hj
  exact ⟨g, o, kd, nn, A', m', c', l', h1, Nat.lt_of_lt_of_le h2 hb.size, cell_below h3 hb, cell_below h4 hb, cell_below h5 hb, h6, h7, h8.below hb, h9⟩
theorem NdI.less {W : World} {A : Option Addr} {len len' : Nat} (h : NdI W A len) (hl : len' ≤ len) : NdI W A len' := fun j hj => h j (by omega)
/-- Fix, as the laws call it. -/
theorem fix_q {W : World} {A : Option Addr} {c n : Nat} (hl : NdI W A n) (hlc : n ≤ maxLen) :
    Calls Try.prog 12 #[.slice A n c] W fun e w' => ∃ (A' : Option Addr) (m c' : Nat) (ns : List Nd), e = .returned (.slice A' m c') ∧ m = ns.length ∧ m = min n 8 ∧ Nq w' A' ns ∧ (∀ (j : Nat) (d : Nd), ns[j]? = some d → Fm ns.length j d) ∧ Below W.heap.size W w' := by
  refine (fix_any hl hlc).mono ?_
  rintro e w' ⟨v, ns, rfl, hO, hm, hF, hb⟩
  obtain ⟨A', c', rfl, hq⟩ := hO.nq (by omega) hF
  exact ⟨A', _, c', ns, rfl, rfl, hm, hq, fun j d hj => by rw [hm]; exact hF j d hj, hb⟩
/-- Tree, as the laws call it. -/
theorem tree_l {W : World} {A : Option Addr} {c m : Nat} {ns : List Nd} (hm : m = ns.length) (hn : Nq W A ns) (hl : m ≤ 300) :
    Calls Try.prog 11 #[.slice A m c] W fun e w' => ∃ (g : Nat) (L : Nat) (kd nn : Int) (As : Option Addr) (ls cs : Nat) (t : PT), e = .returned (.tuple #[.slice (some ⟨g, 0, none⟩) L L, .agg #[.int .i64 kd, .int .i64 nn, .slice As ls cs]]) ∧ L ≤ 1000 ∧ Rf w' g L (trees (tops ns)) ∧ (trees (tops ns))[0]? = some t ∧ Pth w' t ⟨kd, nn, .slice As ls cs⟩ ∧ Below W.heap.size W w' := by
  subst hm
  refine (tree_any (c := c) hn hl).mono ?_
  rintro e w' ⟨g, p, t, he, hR, ht, hp, hb⟩
  obtain ⟨As, ls, cs, hs⟩ := hp.slice
  obtain ⟨kd, nn, s⟩ := p
  dsimp only at hs he
  subst hs
  refine ⟨g, _, kd, nn, As, ls, cs, t, he, ?_, hR.1, ht, hp, hb⟩
  unfold tops
  split
  · simp
  · omega
/-- Tree, with the rows' room too. -/
theorem tree_c {W : World} {A : Option Addr} {c m : Nat} {ns : List Nd} (hm : m = ns.length) (hn : Nq W A ns) (hl : m ≤ 300) :
    Calls Try.prog 11 #[.slice A m c] W fun e w' => ∃ (g : Nat) (L : Nat) (kd nn : Int) (As : Option Addr) (ls cs : Nat) (t : PT), e = .returned (.tuple #[.slice (some ⟨g, 0, none⟩) L L, .agg #[.int .i64 kd, .int .i64 nn, .slice As ls cs]]) ∧ L ≤ 1000 ∧ (Rf w' g L (trees (tops ns)) ∧ RfC w' g (trees (tops ns))) ∧ (trees (tops ns))[0]? = some t ∧ Pth w' t ⟨kd, nn, .slice As ls cs⟩ ∧ Below W.heap.size W w' := by
  subst hm
  refine (tree_any (c := c) hn hl).mono ?_
  rintro e w' ⟨g, p, t, he, hR, ht, hp, hb⟩
  obtain ⟨As, ls, cs, hs⟩ := hp.slice
  obtain ⟨kd, nn, s⟩ := p
  dsimp only at hs he
  subst hs
  refine ⟨g, _, kd, nn, As, ls, cs, t, he, ?_, hR, ht, hp, hb⟩
  unfold tops
  split
  · simp
  · omega
/-- word, as the laws call it. -/
theorem word_q {W : World} {A : Option Addr} {c : Nat} {l : List Int} (hl : Byt W A l) (hb : ∀ x ∈ l, 0 ≤ x ∧ x < 256) (hlc : l.length ≤ c) (hc : c ≤ maxLen) :
    Calls Try.prog 15 #[.slice A l.length c] W fun e w' => ∃ (Aa Ab : Option Addr) (na ca nb cb : Nat) (ws : List Sy), e = .returned (.tuple #[.slice Aa na ca, .slice Ab nb cb]) ∧ ws = (l.take 5).map sf ∧ SyR 75 W.heap.size w' (.slice Aa na ca) ws ∧ SyR 44 W.heap.size w' (.slice Ab nb cb) ws ∧ na = ws.length ∧ nb = ws.length ∧ ws.length ≤ 5 ∧ Below W.heap.size W w' := by
  refine (word_any hl hb hlc hc).mono ?_
  rintro e w' ⟨va, vb, rfl, h1, h2, h3⟩
  obtain ⟨Aa, ca, rfl, _⟩ := h1.shape
  obtain ⟨Ab, cb, rfl, _⟩ := h2.shape
  exact ⟨Aa, Ab, _, ca, _, cb, _, rfl, rfl, h1, h2, rfl, rfl, by simp; omega, h3⟩
def LtQ (W : World) (e : Ending) (w' : World) : Prop := e = .returned (.bool true) ∧ Below W.heap.size W w'
theorem below_al {B : Nat} {w0 w w1 : World} {o : Obj} (h : Below B w0 w) (hB : B ≤ w.heap.size) (h1 : Below (w.alloc o).heap.size (w.alloc o) w1) : Below B w0 w1 := (h.alloc hB o).trans (h1.mono (by rw [World.size_alloc]; omega))
theorem undrew {B : Nat} {w w1 : World} (h : Below B w.drew w1) : Below B w w1 := ⟨h.os, h.tape, h.output, h.size, h.block⟩
theorem al_call {w w1 : World} {cs : Array Value} {ty : Nat} (h : Below (w.alloc (.cells cs ty)).heap.size (w.alloc (.cells cs ty)) w1) : Fb w1 w.heap.size ty cs ∧ Below w.heap.size w w1 := ⟨(Fb.new _ _ _).below h, below_al (Below.refl _ _) (Nat.le_refl _) h⟩
def Five (W : World) (A : Option Addr) (cap : Nat) (s0 : Value) (wx : World) : Prop := ∃ m, m ≤ 5 ∧ s0 = .slice A m cap ∧ NdI W A m ∧ Below W.heap.size W wx
/-- A word's parts, one behind the other. -/
theorem syr_cut {B n c : Nat} {A : Option Addr} {W : World} {ws : List Sy} (h : SyR 44 B W (.slice A n c) ws) (hn : n = ws.length) : (A = none ∧ n = 0 ∧ c = 0 ∧ ws = []) ∨ ∃ g, A = some ⟨g, 0, none⟩ ∧ n ≤ c ∧ c ≤ maxLen ∧ ∀ w, Below W.heap.size W w → ∀ k, k ≤ n → WdA w (.slice (some ⟨g, 0, none⟩) k c) (ws.take k) ∧ WdA w (.slice (some ⟨g, k * 2, none⟩) (n - k) (c - k)) (ws.drop k) := by
  rcases id h.2 with ⟨hv, hl⟩ | ⟨g, cap, cur, hv, hB, hg, hnc, hcm, _⟩
  · have e := Value.slice.inj hv
    exact .inl ⟨e.1, e.2.1, e.2.2, List.length_eq_zero_iff.1 hl⟩
  · have e := Value.slice.inj hv
    obtain ⟨e1, e2, e3⟩ := e
    subst e1 e3
    refine .inr ⟨g, rfl, by omega, hcm, fun w hb k hk => ?_⟩
    obtain ⟨A', c', e, hat⟩ := h.wd.below hb
    have ea := (Value.slice.inj e).1
    refine ⟨⟨some ⟨g, 0, none⟩, c, by rw [List.length_take]; congr 1; omega, fun j s hj => ?_⟩, ⟨some ⟨g, k * 2, none⟩, c - k, by rw [List.length_drop, hn], fun j s hj => ?_⟩⟩
    · have hjk : j < k := by have := (List.getElem?_eq_some_iff.1 hj).1; simp at this; omega
      rw [List.getElem?_take_of_lt hjk] at hj
      obtain ⟨g', o, h1, h2, h3⟩ := hat j s hj
      rw [← ea] at h1
      exact ⟨g', o, h1, h2, h3⟩
    · rw [List.getElem?_drop] at hj
      obtain ⟨g', o, h1, h2, h3⟩ := hat (k + j) s hj
      rw [← ea] at h1
      have e0 := Option.some.inj h1
      injection e0 with e4 e5 e6
      subst e4 e5
      refine ⟨g, k * 2, rfl, ?_, ?_⟩
      · rw [show k * 2 + j * 2 = 0 + (k + j) * 2 by omega]; exact h2
      · rw [show k * 2 + j * 2 + 1 = 0 + (k + j) * 2 + 1 by omega]; exact h3
end Go.Proofs.Ytghlajfalgdkfaa

/-
  The reference's depth.
-/
namespace Go.Proofs.Ytghlajfalgdkfaa
open Go.RowKit
set_option linter.unusedVariables false
set_option linter.unusedSimpArgs false
set_option maxRecDepth 100000

theorem hgts_take : ∀ (ts : List PT) (j : Nat) (t : PT), ts[j]? = some t → hgts (ts.take (j + 1)) = max (hgts (ts.take j)) (hgt t + 1)
  | [], j, t, h => by simp at h
  | s :: ts, 0, t, h => by
    simp at h
    subst h
    simp [hgts]
  | s :: ts, j + 1, t, h => by
    have := hgts_take ts j t (by simpa using h)
    rw [List.take_succ_cons, hgts, this, List.take_succ_cons, hgts]
    omega
theorem hgts_mem : ∀ {ts : List PT} {t : PT}, t ∈ ts → hgt t + 1 ≤ hgts ts
  | s :: ts, t, h => by
    rw [hgts]
    rcases List.mem_cons.1 h with rfl | h
    · omega
    · have := hgts_mem h
      omega
theorem hgt_sz : ∀ t : PT, hgt t + 1 ≤ sz t := by
  refine PT.ind fun k n ts ih => ?_
  have h : ∀ l : List PT, (∀ t ∈ l, hgt t + 1 ≤ sz t) → hgts l ≤ szs l := fun l => by
    induction l with
    | nil => intro _; simp [hgts]
    | cons t l ih2 =>
      intro hl
      rw [hgts, szs]
      have := hl t (List.mem_cons_self ..)
      have := ih2 fun s hs => hl s (List.mem_cons_of_mem _ hs)
      omega
  have := h ts ih
  rw [hgt, sz]
  omega
def RdR (W : World) (ts : List PT) (gk : Nat) (s5 s14 : Value) (wr : World) : Prop := ∃ j : Nat, j + gk = ts.length ∧ s5 = .int .i64 ((1 + hgts (ts.take j) : Nat) : Int) ∧ s14 = .int .i64 (j : Int) ∧ wr = W ∧ hgts (ts.take j) ≤ 1000
set_option maxHeartbeats 16000000 in
theorem rdepth_gen {W : World} {g len c : Nat} {T : List PT} (hR : Rf W g len T) (hlen : len ≤ 1000) : ∀ t : PT, sz t ≤ 1000 → ∀ at_ : Nat, T[at_]? = some t →
    Calls Try.prog 32 #[.slice (some ⟨g, 0, none⟩) len c, .int .i64 (at_ : Int)] W fun e w' => e = .returned (.int .i64 ((1 + hgt t : Nat) : Int)) ∧ w' = W := by
  refine PT.ind fun k n ts ih hs at_ hat => ?_
  obtain ⟨A', c', x0, x1, x2, hp⟩ := hR.2 at_ k n ts hat
  have hal : at_ < len := by have := (List.getElem?_eq_some_iff.1 hat).1; have := hR.1; omega
  rw [sz] at hs
  rw [hgt]
  have HP := Lib.hid hp
  have HIH := Lib.hid (fun (t : PT) (ht : t ∈ ts) (q : Nat) (hq : T[q]? = some t) => ih t ht (by have := sz_mem ht; omega) q hq)
  obtain ⟨m, hm⟩ : ∃ m, m = ts.length := ⟨_, rfl⟩
  rw [← hm] at x2
  have HM := Lib.hid hm
  have HS := Lib.hid hs
  have a0 : (0 : Int) ≤ (at_ : Int) := by omega
  have a1 : (at_ : Int) < (len : Int) := by omega
  have l1 : (len : Int) ≤ 1000 := by omega
  have m0 : (0 : Int) ≤ (m : Int) := by omega
  have m1 : (m : Int) ≤ 1000 := by have := szs_len ts; omega
  clear hp ih hs hal hat hm hR hlen x0 x1
  go_enter Try.func32, Try.ntmps32
  go_wp2
  go_loopg [5, 14] ts.length (fun gk s5 s14 wr => RdR W ts gk s5 s14 wr)
  case atStart => exact ⟨0, by omega, rfl, rfl, rfl, by simp [hgts]⟩
  case round =>
    obtain ⟨j, hj, rfl, rfl, rfl, h9⟩ := hrel
    have hmm := HM.out
    by_cases hlt : j < ts.length
    · obtain ⟨t, ht⟩ : ∃ t, ts[j]? = some t := ⟨_, List.getElem?_eq_getElem hlt⟩
      obtain ⟨g', q, hA, y0, hq⟩ := HP.out j t ht
      subst hA
      have htm := List.mem_of_getElem? ht
      have cS := HIH.out t htm q hq
      have hs1 := hgts_take ts j t ht
      have hs2 := sz_mem htm
      have hs3 := hgt_sz t
      have hss := HS.out
      have j0 : (0 : Int) ≤ (j : Int) := by omega
      have j1 : (j : Int) < (m : Int) := by omega
      obtain ⟨a, ha⟩ : ∃ a : Nat, a = 1 + hgts (ts.take j) := ⟨_, rfl⟩
      obtain ⟨b, hb⟩ : ∃ b : Nat, b = 1 + hgt t := ⟨_, rfl⟩
      rw [← ha]
      rw [← hb] at cS
      have s0 : (0 : Int) ≤ (a : Int) := by omega
      have s1 : (a : Int) ≤ 1001 := by omega
      have s2 : (0 : Int) ≤ (b : Int) := by omega
      have s3 : (b : Int) ≤ 1000 := by omega
      by_cases hab : a < 1 + b
      · have z1 : (a : Int) < 1 + (b : Int) := by omega
        have HE := Lib.hid (show ((1 + hgts (ts.take (j + 1)) : Nat) : Int) = 1 + (b : Int) ∧ hgts (ts.take (j + 1)) ≤ 1000 by omega)
        have HJ := Lib.hid (And.intro hj hlt)
        clear hj hlt ht hq htm hs1 hs2 hs3 hss ha hb hmm h9 hab
        go_wp2_with (go_at_call 32; (with_reducible refine cS.mono ?_); rintro e w5 ⟨rfl, rfl⟩)
        go_roundg (ts.length - (j + 1))
        case measure => have := HJ.out; omega
        case rel => exact ⟨j + 1, by have := HJ.out; omega, by rw [HE.out.1], by rw [Int.natCast_add]; rfl, rfl, HE.out.2⟩
      · have z1 : ¬ ((a : Int) < 1 + (b : Int)) := by omega
        have HE := Lib.hid (show ((1 + hgts (ts.take (j + 1)) : Nat) : Int) = (a : Int) ∧ hgts (ts.take (j + 1)) ≤ 1000 by omega)
        have HJ := Lib.hid (And.intro hj hlt)
        clear hj hlt ht hq htm hs1 hs2 hs3 hss ha hb hmm h9 hab
        go_wp2_with (go_at_call 32; (with_reducible refine cS.mono ?_); rintro e w5 ⟨rfl, rfl⟩)
        go_roundg (ts.length - (j + 1))
        case measure => have := HJ.out; omega
        case rel => exact ⟨j + 1, by have := HJ.out; omega, by rw [HE.out.1], by rw [Int.natCast_add]; rfl, rfl, HE.out.2⟩
    · have hje : j = ts.length := by omega
      rw [hje, List.take_length]
      have j2 : ¬ ((ts.length : Int) < (m : Int)) := by omega
      clear hj hlt hje hmm h9
      go_wp2
      go_ret
      exact ⟨rfl, rfl⟩
end Go.Proofs.Ytghlajfalgdkfaa
