/-
  MERGED (a claim has at most 60 files): NgBd, NgBe, NgBs, NgSq, NgAl, NgAg.
-/
import Derived.Test.YtghlajfalgdkfaaZ04
import Derived.Deep.Cut
/-
  A machine and what is laid, while lists grow: what seq and alt leave.
-/
namespace Go.Proofs.Ytghlajfalgdkfaa
open Go.RowKit
set_option linter.unusedVariables false
set_option linter.unusedSimpArgs false
set_option maxRecDepth 100000

theorem wpl_app_m {ops : Array Oper} {rest : List Oper} {o : Oper} {a : Act} {w : World} {Q : Exit → Act → World → Prop} (hgd : o.guard = none) (s x : Operand)
    (ho : o.op = .call { callee := .builtin .append, args := #[s, x], argTypes := #[67, 67] }) {B : Nat} {v u : Value} {L M : List Mo} (hs : a.eval s = v) (hx : a.eval x = u) (hL : MvR B w v L) (hM : MvR B w u M) (hB : B ≤ w.heap.size) (h1 : L.length ≤ 1000) (h2 : M.length ≤ 1000)
    (h : ∀ A n c w', n = (L ++ M).length → MvR B w' (.slice A n c) (L ++ M) → w.grownBy w' v.ownBlock → (∀ k, Value.ownBlock (.slice A n c) = some k → v.ownBlock = some k ∨ w.heap.size ≤ k) → wpList Try.prog ops Q rest (a.put o.dst (.slice A n c)) w') : wpList Try.prog ops Q (o :: rest) a w := by
  obtain ⟨iT, hT0, hT1, hT2, hT3⟩ := info_parts keyZ
  dsimp only at hT1 hT2 hT3
  refine wpList_plain hgd fun _ hK => ?_
  refine wp_app_any s x 67 ho 84 iT (.agg #[.int .i64 0, .bool false, .int .i64 0]) 3 24 Try.underlying67 hT0 hT1 hT2 hT3 rfl (by decide) (by decide) hs hx hL hM (ktc_one _) (by omega) hB fun v' w' h3 h4 h5 => hK _ _ ?_
  have hr : MvR B w' v' (L ++ M) := by
    unfold MvR
    rw [List.length_append, List.flatMap_append]
    exact h3
  obtain ⟨A, c, rfl, _⟩ := hr.shape
  exact h A _ c w' rfl hr h4 h5
theorem wpl_app_i {ops : Array Oper} {rest : List Oper} {o : Oper} {a : Act} {w : World} {Q : Exit → Act → World → Prop} (hgd : o.guard = none) (s x : Operand)
    (ho : o.op = .call { callee := .builtin .append, args := #[s, x], argTypes := #[51, 51] }) {B : Nat} {v u : Value} {L M : List Nat} (hs : a.eval s = v) (hx : a.eval x = u) (hL : InR B w v L) (hM : InR B w u M) (hB : B ≤ w.heap.size) (h1 : L.length ≤ 1000) (h2 : M.length ≤ 1000)
    (h : ∀ A n c w', n = (L ++ M).length → InR B w' (.slice A n c) (L ++ M) → w.grownBy w' v.ownBlock → (∀ k, Value.ownBlock (.slice A n c) = some k → v.ownBlock = some k ∨ w.heap.size ≤ k) → wpList Try.prog ops Q rest (a.put o.dst (.slice A n c)) w') : wpList Try.prog ops Q (o :: rest) a w := by
  obtain ⟨iT, hT0, hT1, hT2, hT3⟩ := info_parts nfInt
  dsimp only at hT1 hT2 hT3
  refine wpList_plain hgd fun _ hK => ?_
  refine wp_app_any s x 51 ho 3 iT (.int .i64 0) 1 8 Try.underlying51 hT0 hT1 hT2 hT3 rfl (by decide) (by decide) hs hx hL hM (fun u hu => by obtain ⟨q, _, rfl⟩ := List.mem_map.1 hu; rfl) (by omega) hB fun v' w' h3 h4 h5 => hK _ _ ?_
  have hr : InR B w' v' (L ++ M) := by
    unfold InR
    rw [List.length_append, List.map_append]
    exact h3
  obtain ⟨A, c, rfl, _⟩ := hr.shape
  exact h A _ c w' rfl hr h4 h5
/-- Blocks of another type stay when a row grows. -/
theorem grown_neT {B : Nat} {w w' : World} {e : TypeId} {z n : Nat} {v : Value} {xs : List Value} (hv : w.ownsRow B e z v n xs) (hg : w.grownBy w' v.ownBlock) {q : Nat} {t : TypeId} {cs : Array Value} (hf : Fb w q t cs) (ht : t ≠ e) : w'.heap[q]? = w.heap[q]? :=
  hg.block q hf.lt (fun e' => by
    obtain ⟨cs', hc⟩ := row_type hv e'.symm
    exact (hf.nt hc ht) rfl)
/-- The machine by now. -/
structure Bd (B d : Nat) (T T3 : List St) (W w : World) : Prop where
  ma : Ma B d T3 w
  fr : Fr B T T3 W w
theorem Bd.keep {B d : Nat} {T T3 : List St} {W w w' : World} (h : Bd B d T T3 W w) (hb : Below B w w') (hk : ∀ q t cs, Fb w q t cs → (q < W.heap.size ∨ t = 66 ∨ t = 73 ∨ OB T3 q) → w'.heap[q]? = w.heap[q]?) : Bd B d T T3 W w' :=
  ⟨h.ma.keep fun q t cs hf ht => hk q t cs hf (.inr ht), h.fr.b.trans hb, fun q t cs hf h1 h2 h3 => by
    have hq := h.fr.k q t cs hf h1 h2 h3
    exact (hk q t cs hq (.inl hf.lt)).trans hq, h.fr.o⟩
theorem Bd.set {B d : Nat} {T T3 : List St} {W w : World} (h : Bd B d T T3 W w) {x : Nat} {cs : Array Value} (hx : Fb w x 69 cs) (hxW : W.heap.size ≤ x) (hB : B ≤ W.heap.size) (i : Nat) (v : Value) : Bd B d T T3 W (w.setCell ⟨x, i, none⟩ v) :=
  h.keep ((Below.refl B w).setCell (Nat.le_trans hB hxW) v) fun q t cs' hf ht => heap_setCell_other _ _ _ _ (by
    rcases ht with ht | rfl | rfl | ht
    · show q ≠ x; omega
    · exact hf.nt hx (by decide)
    · exact hf.nt hx (by decide)
    · obtain ⟨cs2, hc⟩ := OB.type h.ma ht
      exact hc.nt hx (by decide))
theorem Bd.grow {B d : Nat} {T T3 : List St} {W w w' : World} (h : Bd B d T T3 W w) (hB : B ≤ W.heap.size) {v : Value} (hg : w.grownBy w' v.ownBlock) (hv : ∀ q, v.ownBlock = some q → ¬ OB T3 q ∧ W.heap.size ≤ q) {e : TypeId} {z n : Nat} {xs : List Value} (hr : w.ownsRow B e z v n xs) (h1 : e ≠ 66) (h2 : e ≠ 73) : Bd B d T T3 W w' :=
  h.keep ((Below.refl B w).grown hg (Nat.le_trans hB h.fr.b.size) (fun k hk => Nat.le_trans hB (hv k hk).2)) fun q t cs hf ht => by
    rcases ht with ht | rfl | rfl | ht
    · exact hg.block q hf.lt (fun e' => by have := (hv q e'.symm).2; omega)
    · exact grown_neT hr hg hf (fun e => h1 e.symm)
    · exact grown_neT hr hg hf (fun e => h2 e.symm)
    · exact hg.block q hf.lt (fun e' => (hv q e'.symm).1 ht)
theorem Bd.below {B d : Nat} {T T3 : List St} {W w w' : World} (h : Bd B d T T3 W w) (hb : Below w.heap.size w w') (hB : B ≤ w.heap.size) : Bd B d T T3 W w' := h.keep (hb.mono hB) fun q t cs hf _ => hb.block q hf.lt
theorem nodup_app {α : Type} {l m : List α} (hl : l.Nodup) (hm : m.Nodup) (hd : ∀ x, x ∈ l → x ∈ m → False) : (l ++ m).Nodup := List.nodup_append.2 ⟨hl, hm, fun a ha b hb e => hd a ha (e ▸ hb)⟩
section
variable {B d n n2 : Nat} {T T1 T2 T3 : List St} {sy sy1 sy2 : Nat → Sy} {A A2 : Lg} {W wr w5 w : World} {f l fx lx f' l' : Value} {g1 g2 : Gd}
theorem LyR.fl (h : LyR B d T sy A n W f l T1 sy1 g1 wr) : g1.f.length ≤ n ∧ g1.l.length ≤ n := by
  have h1 := h.len
  have h2 := h.lo
  have h3 := h.hi
  constructor
  · have := nodup_le n ((g1.f.map (·.2)).map (fun q => q - T.length)) (by
      refine List.pairwise_map.2 (h.fn.imp_of_mem ?_)
      intro a b ha hb hab e
      obtain ⟨x, hx, rfl⟩ := List.mem_map.1 ha
      obtain ⟨y, hy, rfl⟩ := List.mem_map.1 hb
      have := (h.ok.f x hx).1
      have := (h.ok.f y hy).1
      omega) (fun q hq => by
      obtain ⟨p, hp, rfl⟩ := List.mem_map.1 hq
      obtain ⟨x, hx, rfl⟩ := List.mem_map.1 hp
      have := h.ok.f x hx
      unfold Gd.in at this
      omega)
    simpa using this
  · have := nodup_le n (g1.l.map (fun q => q - T.length)) (by
      refine List.pairwise_map.2 (h.ln.imp_of_mem ?_)
      intro a b ha hb hab e
      have := (h.ok.l a ha).1
      have := (h.ok.l b hb).1
      omega) (fun q hq => by
      obtain ⟨x, hx, rfl⟩ := List.mem_map.1 hq
      have := h.ok.l x hx
      unfold Gd.in at this
      omega)
    simpa using this
/-- f's block is none of the states' later on. -/
theorem LyR.fob (h : LyR B d T sy A n W f l T1 sy1 g1 wr) (hfr : Fr B T1 T3 wr w) : ∀ q, f.ownBlock = some q → ¬ OB T3 q ∧ W.heap.size ≤ q := fun q hq =>
  ⟨fun ho => (hfr.o q ho).elim (h.fd q hq).1 (fun hle => by have := (row_lt h.fR q hq).2; omega), (h.fd q hq).2⟩
theorem dl_link (hk : Lk T2 T3 (fun j x => j ∈ g1.l ∧ x ∈ g2.f)) (hlt : ∀ q ∈ g1.l, q < T2.length) (q : Nat) (x : Mo) : dl T3 q x ↔ linked g1.l g2.f (dl T2) q x := by
  unfold dl linked
  constructor
  · rintro ⟨s, hs, hx⟩
    have hq : q < T2.length := by rw [← hk.len]; exact (List.getElem?_eq_some_iff.1 hs).1
    obtain ⟨s', h1, h2, h3, h4⟩ := hk.st q _ (List.getElem?_eq_getElem hq)
    rw [hs] at h1
    injection h1 with h1
    subst h1
    exact ((h4 x).1 hx).imp (fun h => ⟨_, List.getElem?_eq_getElem hq, h⟩) id
  · intro h
    have hq : q < T2.length := by
      rcases h with ⟨s, hs, _⟩ | ⟨h, _⟩
      · exact (List.getElem?_eq_some_iff.1 hs).1
      · exact hlt q h
    obtain ⟨s', h1, h2, h3, h4⟩ := hk.st q _ (List.getElem?_eq_getElem hq)
    refine ⟨s', h1, (h4 x).2 (h.imp ?_ id)⟩
    rintro ⟨s, hs, hx⟩
    rw [List.getElem?_eq_getElem hq] at hs
    injection hs with hs
    subst hs
    exact hx
theorem dl_pre (h2 : LyR B d T1 sy1 A2 n2 wr fx lx T2 sy2 g2 w5) (q : Nat) (x : Mo) (hq : q < T1.length) : dl T2 q x ↔ dl T1 q x := by
  obtain ⟨s', h3, h4, h5⟩ := h2.pre q _ (List.getElem?_eq_getElem hq)
  constructor
  · rintro ⟨s, hs, hx⟩
    rw [h3] at hs
    injection hs with hs
    subst hs
    exact ⟨_, List.getElem?_eq_getElem hq, (h5 x).1 hx⟩
  · rintro ⟨s, hs, hx⟩
    rw [List.getElem?_eq_getElem hq] at hs
    injection hs with hs
    subst hs
    exact ⟨s', h3, (h5 x).2 hx⟩
theorem seq_fin (h1 : LyR B d T sy A n W f l T1 sy1 g1 wr) (h2 : LyR B d T1 sy1 A2 n2 wr fx lx T2 sy2 g2 w5) (hk : Lk T2 T3 (fun j x => j ∈ g1.l ∧ x ∈ g2.f)) (hbd : Bd B d T T3 W w)
    (hf : MvR B w f' (seqG g1 g2).f) (hfd : ∀ q, f'.ownBlock = some q → ¬ OB T3 q ∧ W.heap.size ≤ q) (hl : InR B w l' (seqG g1 g2).l) (hld : ∀ q, l'.ownBlock = some q → W.heap.size ≤ q) :
    LyR B d T sy (CatL A A2) (n + n2) W f' l' T3 sy2 (seqG g1 g2) w := by
  have e1 := h1.len
  have e2 := h2.len
  have e3 := h1.lo
  have e4 := h1.hi
  have e5 := h2.lo
  have e6 := h2.hi
  have hll : ∀ q ∈ g1.l, q < T2.length := fun q hq => by have := (h1.ok.l q hq).2; omega
  have hok1 : g1.Ok (dl T2) := h1.ok.of fun q x hq => dl_pre h2 q x (by have := hq.2; omega)
  have hL1 : ∀ w, g1.L (dl T2) w ↔ A w := fun w => (Gd.L.of h1.ok (fun q x hq => dl_pre h2 q x (by have := hq.2; omega)) w).trans (h1.L w)
  have hab : g1.hi = g2.lo := by omega
  have hd3 := dl_link hk hll
  have hok := (seq_ok hok1 h2.ok hab)
  refine ⟨hbd.ma, hbd.fr, fun j s hj => ?_, by rw [hk.len]; omega, fun q hq => (h2.sy q (by omega)).trans (h1.sy q hq), fun j s hj => ?_, fun j s hj hle => ?_, e3, by show g2.hi = _; rw [hk.len]; omega, hok.of fun q x _ => hd3 q x, fun w => ?_, hf, hfd, fun y hy => ?_, ?_, hl, hld, ?_⟩
  · obtain ⟨s1, a1, a2, a3⟩ := h1.pre j s hj
    obtain ⟨s2, b1, b2, b3⟩ := h2.pre j s1 a1
    obtain ⟨s3, c1, c2, _, c4⟩ := hk.st j s2 b1
    have hjl := (List.getElem?_eq_some_iff.1 hj).1
    refine ⟨s3, c1, c2.trans (b2.trans a2), fun x => (c4 x).trans ?_⟩
    constructor
    · rintro (h | ⟨h, _⟩)
      · exact (a3 x).1 ((b3 x).1 h)
      · have := (h1.ok.l j h).1; omega
    · intro h; exact .inl ((b3 x).2 ((a3 x).2 h))
  · have := hk.gm (fun j s hj => (h2.wt j s hj).2) (fun j x hp => h2.fg x hp.2) hj
    rw [hk.len]; exact this
  · have hj2 : j < T2.length := by rw [← hk.len]; exact (List.getElem?_eq_some_iff.1 hj).1
    obtain ⟨s', k1, k2, _⟩ := hk.st j _ (List.getElem?_eq_getElem hj2)
    rw [hj] at k1
    injection k1 with k1
    subst k1
    rw [k2]
    by_cases h : j < T1.length
    · obtain ⟨s1, b1, b2, _⟩ := h2.pre j _ (List.getElem?_eq_getElem h)
      rw [List.getElem?_eq_getElem hj2] at b1
      injection b1 with b1
      rw [b1, b2]
      exact h1.fin j _ (List.getElem?_eq_getElem h) hle
    · exact h2.fin j _ (List.getElem?_eq_getElem hj2) (by omega)
  · rw [Gd.L.of hok (fun q x _ => hd3 q x) w, seq_L hok1 h2.ok hab]
    exact catL_congr hL1 h2.L w
  · rw [hk.len]
    rcases List.mem_append.1 hy with hy | hy
    · obtain ⟨k1, k2⟩ := h1.fg y hy
      exact ⟨by omega, by rw [h2.sy _ k1]; exact k2⟩
    · split at hy
      · exact h2.fg y hy
      · cases hy
  · show ((g1.f ++ if g1.em = true then g2.f else []).map (·.2)).Nodup
    rw [List.map_append]
    refine nodup_app h1.fn ?_ fun q hq hq' => ?_
    · split
      · exact h2.fn
      · simp
    · split at hq'
      · obtain ⟨x, hx, rfl⟩ := List.mem_map.1 hq
        obtain ⟨y, hy, e⟩ := List.mem_map.1 hq'
        have := (h1.ok.f x hx).2
        have := (h2.ok.f y hy).1
        omega
      · cases hq'
  · show (g2.l ++ if g2.em = true then g1.l else []).Nodup
    refine nodup_app h2.ln ?_ fun q hq hq' => ?_
    · split
      · exact h1.ln
      · simp
    · split at hq'
      · have := (h1.ok.l q hq').2
        have := (h2.ok.l q hq).1
        omega
      · cases hq'
end
end Go.Proofs.Ytghlajfalgdkfaa

/-
  What alt and again leave.
-/
namespace Go.Proofs.Ytghlajfalgdkfaa
open Go.RowKit
set_option linter.unusedVariables false
set_option linter.unusedSimpArgs false
set_option maxRecDepth 100000

section
variable {B d n n2 : Nat} {T T1 T2 T3 : List St} {sy sy1 sy2 : Nat → Sy} {A A2 : Lg} {W wr w5 w : World} {f l fx lx f' l' : Value} {g1 g2 : Gd}
def altG (a b : Gd) : Gd := ⟨a.lo, b.hi, a.f ++ b.f, a.l ++ b.l, a.em || b.em⟩
theorem alt_fin (h1 : LyR B d T sy A n W f l T1 sy1 g1 wr) (h2 : LyR B d T1 sy1 A2 n2 wr fx lx T2 sy2 g2 w5) (hbd : Bd B d T T2 W w)
    (hf : MvR B w f' (altG g1 g2).f) (hfd : ∀ q, f'.ownBlock = some q → ¬ OB T2 q ∧ W.heap.size ≤ q) (hl : InR B w l' (altG g1 g2).l) (hld : ∀ q, l'.ownBlock = some q → W.heap.size ≤ q) :
    LyR B d T sy (fun w => A w ∨ A2 w) (n + n2) W f' l' T2 sy2 (altG g1 g2) w := by
  have e1 := h1.len
  have e2 := h2.len
  have e3 := h1.lo
  have e4 := h1.hi
  have e5 := h2.lo
  have e6 := h2.hi
  have hok1 : g1.Ok (dl T2) := h1.ok.of fun q x hq => dl_pre h2 q x (by have := hq.2; omega)
  have hL1 : ∀ w, g1.L (dl T2) w ↔ A w := fun w => (Gd.L.of h1.ok (fun q x hq => dl_pre h2 q x (by have := hq.2; omega)) w).trans (h1.L w)
  have hab : g1.hi = g2.lo := by omega
  refine ⟨hbd.ma, hbd.fr, fun j s hj => ?_, by omega, fun q hq => (h2.sy q (by omega)).trans (h1.sy q hq), h2.wt, fun j s hj hle => ?_, e3, e6, alt_ok hok1 h2.ok hab, fun w => ?_, hf, hfd, fun y hy => ?_, ?_, hl, hld, ?_⟩
  · obtain ⟨s1, a1, a2, a3⟩ := h1.pre j s hj
    obtain ⟨s2, b1, b2, b3⟩ := h2.pre j s1 a1
    exact ⟨s2, b1, b2.trans a2, fun x => (b3 x).trans (a3 x)⟩
  · by_cases h : j < T1.length
    · obtain ⟨s1, b1, b2, _⟩ := h2.pre j _ (List.getElem?_eq_getElem h)
      rw [hj] at b1
      injection b1 with b1
      rw [b1, b2]
      exact h1.fin j _ (List.getElem?_eq_getElem h) hle
    · exact h2.fin j _ hj (by omega)
  · rw [show (altG g1 g2).L (dl T2) w ↔ _ from alt_L hok1 h2.ok hab w, hL1, h2.L]
  · rcases List.mem_append.1 hy with hy | hy
    · obtain ⟨k1, k2⟩ := h1.fg y hy
      exact ⟨by omega, by rw [h2.sy _ k1]; exact k2⟩
    · exact h2.fg y hy
  · show ((g1.f ++ g2.f).map (·.2)).Nodup
    rw [List.map_append]
    refine nodup_app h1.fn h2.fn fun q hq hq' => ?_
    obtain ⟨x, hx, rfl⟩ := List.mem_map.1 hq
    obtain ⟨y, hy, e⟩ := List.mem_map.1 hq'
    have := (h1.ok.f x hx).2
    have := (h2.ok.f y hy).1
    omega
  · refine nodup_app h1.ln h2.ln fun q hq hq' => ?_
    have := (h1.ok.l q hq).2
    have := (h2.ok.l q hq').1
    omega
/-- Again and again: linked from its last ones to its first ones. -/
theorem again_fin (h1 : LyR B d T sy A n W f l T1 sy1 g1 wr) (hk : Lk T1 T3 (fun j x => j ∈ g1.l ∧ x ∈ g1.f)) (hM : Ma B d T3 w) (hfr : Fr B T1 T3 wr w) (em : Bool) {A' : Lg} (hA : ∀ w, (Gd.mk g1.lo g1.hi g1.f g1.l em).L (linked g1.l g1.f (dl T1)) w ↔ A' w) :
    LyR B d T sy A' n W f l T3 sy1 (Gd.mk g1.lo g1.hi g1.f g1.l em) w := by
  have e1 := h1.len
  have e3 := h1.lo
  have e4 := h1.hi
  have hll : ∀ q ∈ g1.l, q < T1.length := fun q hq => by have := (h1.ok.l q hq).2; omega
  have hd3 := dl_link hk hll
  have hok := plus_ok h1.ok em
  refine ⟨hM, h1.fr.trans hfr, fun j s hj => ?_, by rw [hk.len]; omega, h1.sy, fun j s hj => ?_, fun j s hj hle => ?_, e3, by show g1.hi = _; rw [hk.len]; omega, hok.of fun q x _ => hd3 q x, fun w => ?_, ?_, h1.fob hfr, ?_, h1.fn, ?_, h1.ld, h1.ln⟩
  · obtain ⟨s1, a1, a2, a3⟩ := h1.pre j s hj
    obtain ⟨s3, c1, c2, _, c4⟩ := hk.st j s1 a1
    have hjl := (List.getElem?_eq_some_iff.1 hj).1
    refine ⟨s3, c1, c2.trans a2, fun x => (c4 x).trans ?_⟩
    constructor
    · rintro (h | ⟨h, _⟩)
      · exact (a3 x).1 h
      · have := (h1.ok.l j h).1; omega
    · intro h; exact .inl ((a3 x).2 h)
  · have := hk.gm (fun j s hj => (h1.wt j s hj).2) (fun j x hp => h1.fg x hp.2) hj
    rw [hk.len]; exact this
  · have hj2 : j < T1.length := by rw [← hk.len]; exact (List.getElem?_eq_some_iff.1 hj).1
    obtain ⟨s', k1, k2, _⟩ := hk.st j _ (List.getElem?_eq_getElem hj2)
    rw [hj] at k1
    injection k1 with k1
    subst k1
    rw [k2]
    exact h1.fin j _ (List.getElem?_eq_getElem hj2) hle
  · rw [Gd.L.of hok (fun q x _ => hd3 q x) w]
    exact hA w
  · exact hfr.row h1.fR (by decide) (by decide) fun k hk' => (h1.fd k hk').1
  · intro y hy; rw [hk.len]; exact h1.fg y hy
  · exact hfr.row h1.lR (by decide) (by decide) fun k hk' => by
      obtain ⟨cs, hc⟩ := row_type h1.lR hk'
      exact OB.not h1.ma hc (by decide)
theorem opt_fin (h1 : LyR B d T sy A n W f l T1 sy1 g1 w) : LyR B d T sy (fun w => w = [] ∨ A w) n W f l T1 sy1 (Gd.mk g1.lo g1.hi g1.f g1.l true) w :=
  { h1 with
    ok := ⟨h1.ok.le, h1.ok.f, h1.ok.l, h1.ok.d⟩
    L := fun w => (opt_L (a := g1) w).trans (or_congr Iff.rfl (h1.L w)) }
/-- Nothing yet: ahead of the first part. -/
theorem start_seq (hM : Ma B d T wr) (hw : Wt sy T) (hfr : Fr B T T W wr) (em : Bool) {A : Lg} (hA : ∀ w, (w = [] ∧ em = true) ↔ A w) : LyR B d T sy A 0 W (.slice none 0 0) (.slice none 0 0) T sy (Gd.mk T.length T.length [] [] em) wr :=
  { ma := hM
    fr := hfr
    pre := fun j s hj => ⟨s, hj, rfl, fun _ => Iff.rfl⟩
    len := rfl
    sy := fun _ _ => rfl
    wt := hw
    fin := fun j s hj hle => by have := (List.getElem?_eq_some_iff.1 hj).1; omega
    lo := rfl
    hi := rfl
    ok := ⟨Nat.le_refl _, (fun x hx => by cases hx), (fun q hq => by cases hq), (fun q x hq _ => by have h1 := hq.1; have h2 := hq.2; simp only at h1 h2; omega)⟩
    L := fun w => by
      refine Iff.trans ?_ (hA w)
      constructor
      · rintro (h | ⟨s, w', p, q, _, hp, _⟩)
        · exact h
        · cases hp
      · exact .inl
    fR := World.ownsRow_nil _ _ _ _
    fd := fun q hq => by cases hq
    fg := fun y hy => by cases hy
    fn := List.nodup_nil
    lR := World.ownsRow_nil _ _ _ _
    ld := fun q hq => by cases hq
    ln := List.nodup_nil }
end
end Go.Proofs.Ytghlajfalgdkfaa

/-
  seq and alt: what is there while lists grow.
-/
namespace Go.Proofs.Ytghlajfalgdkfaa
open Go.RowKit
set_option linter.unusedVariables false
set_option linter.unusedSimpArgs false
set_option maxRecDepth 100000

structure Sq (B d : Nat) (T T3 : List St) (W : World) (vf : Value) (F : List Mo) (vl : Value) (L : List Nat) (vy : Value) (Y : List Nat) (w : World) : Prop where
  bd : Bd B d T T3 W w
  fR : MvR B w vf F
  fo : ∀ q, vf.ownBlock = some q → ¬ OB T3 q ∧ W.heap.size ≤ q
  lR : InR B w vl L
  lo : ∀ q, vl.ownBlock = some q → W.heap.size ≤ q
  yR : InR B w vy Y
  yo : ∀ q, vy.ownBlock = some q → W.heap.size ≤ q
section
variable {B d : Nat} {T T3 : List St} {W w w' : World} {vf vl vy : Value} {F X : List Mo} {L Y : List Nat}
theorem Sq.set (h : Sq B d T T3 W vf F vl L vy Y w) {x : Nat} {cs : Array Value} (hx : Fb w x 69 cs) (hxW : W.heap.size ≤ x) (hB : B ≤ W.heap.size) (i : Nat) (v : Value) : Sq B d T T3 W vf F vl L vy Y (w.setCell ⟨x, i, none⟩ v) :=
  ⟨h.bd.set hx hxW hB i v,
   row_keep h.fR fun k hk => heap_setCell_other _ _ _ _ (by obtain ⟨cs2, hc⟩ := row_type h.fR hk; exact hc.nt hx (by decide)), h.fo,
   row_keep h.lR fun k hk => heap_setCell_other _ _ _ _ (by obtain ⟨cs2, hc⟩ := row_type h.lR hk; exact hc.nt hx (by decide)), h.lo,
   row_keep h.yR fun k hk => heap_setCell_other _ _ _ _ (by obtain ⟨cs2, hc⟩ := row_type h.yR hk; exact hc.nt hx (by decide)), h.yo⟩
theorem Sq.appM (h : Sq B d T T3 W vf F vl L vy Y w) (hB : B ≤ W.heap.size) {v' : Value} {F' : List Mo} (hr : MvR B w' v' F') (hg : w.grownBy w' vf.ownBlock) (hn : ∀ k, v'.ownBlock = some k → vf.ownBlock = some k ∨ w.heap.size ≤ k) : Sq B d T T3 W v' F' vl L vy Y w' :=
  ⟨h.bd.grow hB hg h.fo h.fR (by decide) (by decide), hr, fun q hq => (hn q hq).elim (h.fo q) (fun hle => ⟨fun ho => by
      obtain ⟨cs, hc⟩ := OB.type h.bd.ma ho
      have := hc.lt; omega, Nat.le_trans h.bd.fr.b.size hle⟩),
   row_keep h.lR fun k hk => by obtain ⟨cs2, hc⟩ := row_type h.lR hk; exact grown_neT h.fR hg hc (by decide), h.lo,
   row_keep h.yR fun k hk => by obtain ⟨cs2, hc⟩ := row_type h.yR hk; exact grown_neT h.fR hg hc (by decide), h.yo⟩
theorem Sq.appI (h : Sq B d T T3 W vf F vl L vy Y w) (hB : B ≤ W.heap.size) {v' : Value} {Y' : List Nat} (hr : InR B w' v' Y') (hg : w.grownBy w' vy.ownBlock) (hn : ∀ k, v'.ownBlock = some k → vy.ownBlock = some k ∨ w.heap.size ≤ k) : Sq B d T T3 W vf F (.slice none 0 0) [] v' Y' w' :=
  ⟨h.bd.grow hB hg (fun q hq => ⟨by
      obtain ⟨cs, hc⟩ := row_type h.yR hq
      exact OB.not h.bd.ma hc (by decide), h.yo q hq⟩) h.yR (by decide) (by decide),
   row_keep h.fR fun k hk => by obtain ⟨cs2, hc⟩ := row_type h.fR hk; exact grown_neT h.yR hg hc (by decide), h.fo,
   World.ownsRow_nil _ _ _ _, (fun q hq => by cases hq), hr, fun q hq => (hn q hq).elim (h.yo q) (fun hle => Nat.le_trans h.bd.fr.b.size hle)⟩
end
/-- lay of a path, wherever it is asked. -/
def LayAll (B d : Nat) (t : PT) : Prop := ∀ (kd nn : Int) (A : Option Addr) (m c : Nat) (T : List St) (sy : Nat → Sy) (W : World), Pth W t ⟨kd, nn, .slice A m c⟩ → Ma B d T W → Wt sy T → T.length + lv t ≤ 1000 → B ≤ W.heap.size →
  Calls Try.prog 30 #[.pointer (some ⟨d, 0, none⟩), .agg #[.int .i64 kd, .int .i64 nn, .slice A m c]] W (LyQ2 B d T sy (lang t) (lv t) W)
/-- What a part reads, whatever a call on the machine has done since. -/
theorem part_at {B d : Nat} {T : List St} {W : World} (hM : Ma B d T W) {s : Value} {ts : List PT} {ps : List Pa} (hR : RowP W s ps) (hP : Pths W ts ps) {j : Nat} {t : PT} (hj : ts[j]? = some t) :
    ∃ g kd nn A m c, s = .slice (some ⟨g, 0, none⟩) ts.length (match s with | .slice _ _ k => k | _ => 0) ∧ ∀ (w : World) (T' : List St), Fr B T T' W w → Pth w t ⟨kd, nn, .slice A m c⟩ ∧ w.cell? ⟨g, j * 3, none⟩ = some (.int .i64 kd) ∧ w.cell? ⟨g, j * 3 + 1, none⟩ = some (.int .i64 nn) ∧ w.cell? ⟨g, j * 3 + 2, none⟩ = some (.slice A m c) := by
  obtain ⟨e, hof⟩ := Pths.of hP
  have hlt : j < ps.length := by rw [← e]; exact (List.getElem?_eq_some_iff.1 hj).1
  have hp := List.getElem?_eq_getElem hlt
  obtain ⟨p, hpe⟩ : ∃ p, p = ps[j] := ⟨_, rfl⟩
  rw [← hpe] at hp
  have hpt := hof j t p hj hp
  obtain ⟨A, m, c, hs⟩ := hpt.slice
  obtain ⟨kd, nn, sv⟩ := p
  simp only at hs
  subst hs
  rcases hR with ⟨rfl, _⟩ | ⟨g, c', cs, h1, h2, h3⟩
  · simp at hlt
  · refine ⟨g, kd, nn, A, m, c, by rw [h1, e], fun w T' hfr => ?_⟩
    have hf := hfr.k g _ cs h2 (by decide) (by decide) (OB.not hM h2 (by decide))
    obtain ⟨k1, k2, k3⟩ := h3 j _ hp
    exact ⟨hfr.pth hM hpt, (hf.cell _).trans k1, (hf.cell _).trans k2, (hf.cell _).trans k3⟩
end Go.Proofs.Ytghlajfalgdkfaa

/-
  seq, any.
-/
namespace Go.Proofs.Ytghlajfalgdkfaa
open Go.RowKit
set_option linter.unusedVariables false
set_option linter.unusedSimpArgs false
set_option maxRecDepth 100000

def SqR (B d : Nat) (T : List St) (sy : Nat → Sy) (W : World) (ts : List PT) (gk : Nat) (s : Value) (wr : World) : Prop := ∃ (j : Nat) (Af : Option Addr) (nf cf : Nat) (Al : Option Addr) (nl cl : Nat) (T1 : List St) (sy1 : Nat → Sy) (g : Gd) (em : Bool), j + gk = ts.length ∧ s = .int .i64 (j : Int) ∧ em = g.em ∧
  LyR B d T sy (Seql (langs (ts.take j))) (lvs (ts.take j)) W (.slice Af nf cf) (.slice Al nl cl) T1 sy1 g wr ∧ Fb wr W.heap.size 69 #[.slice none 0 0, .slice none 0 0, .bool false] ∧ Fb wr (W.heap.size + 1) 69 #[.slice Af nf cf, .slice Al nl cl, .bool em]
set_option maxHeartbeats 32000000 in
theorem seq_any {B d n0 c0 : Nat} {A0 : Option Addr} {T : List St} {sy : Nat → Sy} {W : World} {ts : List PT} {ps : List Pa} (hM : Ma B d T W) (hw : Wt sy T) (hR : RowP W (.slice A0 n0 c0) ps) (hP : Pths W ts ps) (hn0 : n0 = ts.length) (hT : T.length + lvs ts ≤ 1000) (hB : B ≤ W.heap.size) (hts : ts.length ≤ 1000) (IH : ∀ t ∈ ts, LayAll B d t) :
    Calls Try.prog 49 #[.pointer (some ⟨d, 0, none⟩), .slice A0 n0 c0] W (LyQ2 B d T sy (Seql (langs ts)) (lvs ts) W) := by
  obtain ⟨W1, hW1⟩ : ∃ W1, W1 = (W.alloc (.cells #[.slice none 0 0, .slice none 0 0, .bool false] 69)).alloc (.cells #[.slice none 0 0, .slice none 0 0, .bool true] 69) := ⟨_, rfl⟩
  have hb1 : Below W.heap.size W W1 := by rw [hW1]; exact ((Below.refl _ _).alloc (Nat.le_refl _) _).alloc (by simp) _
  have hZ : Fb W1 W.heap.size 69 #[.slice none 0 0, .slice none 0 0, .bool false] := by rw [hW1]; exact (Fb.new W _ _).alloc _
  have hY : Fb W1 (W.heap.size + 1) 69 #[.slice none 0 0, .slice none 0 0, .bool true] := by
    have := Fb.new (W.alloc (.cells #[.slice none 0 0, .slice none 0 0, .bool false] 69)) 69 #[.slice none 0 0, .slice none 0 0, .bool true]
    rw [World.size_alloc] at this
    rw [hW1]; exact this
  have H0 := Lib.hid (show SqR B d T sy W ts ts.length (.int .i64 0) W1 from ⟨0, none, 0, 0, none, 0, 0, T, sy, _, true, by omega, rfl, rfl, start_seq (hM.below hb1) hw (Fr.below hb1 hB) true (fun w => by simp [langs, Seql]), hZ, hY⟩)
  have HPart := Lib.hid (fun (j : Nat) (t : PT) (hj : ts[j]? = some t) => part_at hM hR hP hj)
  have HIH := Lib.hid IH
  have HB := Lib.hid hB
  have HTl := Lib.hid hT
  have HTS := Lib.hid hts
  have n0I : (0 : Int) ≤ (n0 : Int) := by omega
  have n1I : (n0 : Int) ≤ 1000 := by omega
  have HN0 := Lib.hid hn0
  have HW1 := Lib.hid hW1
  clear hM hw hR hP hT hB hts IH hb1 hZ hY hn0
  go_enter Try.func49, Try.ntmps49
  go_wp2
  rw [← HW1.out]
  clear hW1
  go_loopg [12] ts.length (fun gk s wr => SqR B d T sy W ts gk s wr)
  case atStart => exact H0.out
  case round =>
    obtain ⟨j, Af, nf, cf, Al, nl, cl, T1, sy1, g, em, hj, rfl, hem, h1, hz, hy⟩ := hrel
    have HJ := Lib.hid hj
    by_cases hlt : j < ts.length
    · obtain ⟨t, ht⟩ : ∃ t, ts[j]? = some t := ⟨_, List.getElem?_eq_getElem hlt⟩
      obtain ⟨gp, kd, nn, A9, m9, c9, hs, hat⟩ := HPart.out j t ht
      obtain ⟨hpt, x0, x1, x2⟩ := hat wr T1 h1.fr
      have hs1 : A0 = some ⟨gp, 0, none⟩ := by simpa using (Value.slice.inj hs).1
      subst hs1
      have hn := HN0.out
      have j0 : (0 : Int) ≤ (j : Int) := by omega
      have j1 : (j : Int) < (n0 : Int) := by omega
      obtain ⟨w2, hw2⟩ : ∃ w2, w2 = wr.alloc (.cells #[.int .i64 kd, .int .i64 nn, .slice A9 m9 c9] 28) := ⟨_, rfl⟩
      have hb2 : Below wr.heap.size wr w2 := by rw [hw2]; exact (Below.refl _ _).alloc (Nat.le_refl _) _
      have hBr : B ≤ wr.heap.size := Nat.le_trans HB.out h1.fr.b.size
      have hlen := h1.len
      have hlv := lvs_take ts j t ht
      have hlv2 := lvs_take_le ts (j + 1)
      have hTl := HTl.out
      have cL := HIH.out t (List.mem_of_getElem? ht) kd nn A9 m9 c9 T1 sy1 w2 (hpt.below hb2) (h1.ma.below hb2) h1.wt (by omega) (Nat.le_trans hBr hb2.size)
      have HT := Lib.hid ht
      have H1 := Lib.hid h1
      have HE1 := Lib.hid hem
      have HZ := Lib.hid (hz.below hb2)
      have HY := Lib.hid (hy.below hb2)
      have HNoY := Lib.hid (fun (q : Nat) (cs : Array Value) (hq : Fb w2 q 69 cs) => OB.not (h1.ma.below hb2) hq (by decide))
      have HB2 := Lib.hid hb2
      have HBr := Lib.hid hBr
      have HLT := Lib.hid hlt
      have HLv := Lib.hid (And.intro hlv (And.intro hlv2 hlen))
      clear hj hem h1 hz hy hlt ht hs hat hpt hn hb2 hBr hlen hlv hlv2 hTl
      subst hw2
      go_upto_region 6 with (first
        | (go_at_call 30; (with_reducible refine cL.mono ?_); rintro e w5 ⟨f2, l2, T2, sy2, g2, rfl, h2⟩; obtain ⟨Ax, cx, rfl, _⟩ := h2.fR.shape; obtain ⟨Ay, cy, rfl, _⟩ := h2.lR.shape; have H2 := Lib.hid h2; clear h2))
      have h1 := H1.out
      have h2 := H2.out
      obtain ⟨e2, he2⟩ : ∃ e2, e2 = g2.em := ⟨_, rfl⟩
      rw [← he2]
      have hy5 := h2.fr.k _ _ _ HY.out (by decide) (by decide) (HNoY.out _ _ HY.out)
      have hz5 := h2.fr.k _ _ _ HZ.out (by decide) (by decide) (HNoY.out _ _ HZ.out)
      have h2r := h2.from HB2.out HBr.out
      obtain ⟨w6, hw6⟩ : ∃ w6, w6 = w5.alloc (.cells #[.slice Ax g2.f.length cx, .slice Ay g2.l.length cy, .bool e2] 69) := ⟨_, rfl⟩
      have hb6 : Below w5.heap.size w5 w6 := by rw [hw6]; exact (Below.refl _ _).alloc (Nat.le_refl _) _
      have ht6 : Fb w6 w5.heap.size 69 #[.slice Ax g2.f.length cx, .slice Ay g2.l.length cy, .bool e2] := by rw [hw6]; exact Fb.new w5 _ _
      have hy6 := hy5.below hb6
      have hz6 := hz5.below hb6
      have hlt8 : W.heap.size + 1 < w5.heap.size := hy5.lt
      have hB5 : B ≤ w5.heap.size := Nat.le_trans HBr.out h2r.fr.b.size
      obtain ⟨hv1, hv2, hv3⟩ := HLv.out
      have hTl := HTl.out
      have hT2 : T2.length ≤ 1000 := by have := h2.len; omega
      obtain ⟨hfl1, hfl2⟩ := h1.fl
      obtain ⟨hxl1, hxl2⟩ := h2.fl
      have hf6 : MvR B w6 (.slice Af nf cf) g.f := row_below (h2r.fr.row h1.fR (by decide) (by decide) fun k hk => (h1.fd k hk).1) hb6
      have hl6 : InR B w6 (.slice Al nl cl) g.l := row_below (h2r.fr.row h1.lR (by decide) (by decide) fun k hk => by
        obtain ⟨cs, hc⟩ := row_type h1.lR hk
        exact OB.not h1.ma hc (by decide)) hb6
      have h26 := h2.below hb6 hB5
      have hll : ∀ q ∈ g.l, q < T2.length := fun q hq => by have h3 := (h1.ok.l q hq).2; have h4 := h1.hi; have h5 := h2.len; omega
      have HFin := Lib.hid (And.intro hll (And.intro hT2 (And.intro (show g.f.length ≤ 1000 by omega) (And.intro (show g.l.length ≤ 1000 by omega) (And.intro (show g2.f.length ≤ 1000 by omega) (show g2.l.length ≤ 1000 by omega))))))
      have cD := lead_any (B1 := B) (B2 := B) h26.ma h26.wt h26.fg hT2 hl6 h26.fR (fun q hq => (h26.fd q hq).1) hll (by omega) (by omega) hT2 (Nat.le_trans hB5 hb6.size)
      have HF6 := Lib.hid hf6
      have HL6 := Lib.hid hl6
      have H26 := Lib.hid h26
      have H2r := Lib.hid h2r
      have HY6 := Lib.hid hy6
      have HZ6 := Lib.hid hz6
      have HT6 := Lib.hid ht6
      have HB6 := Lib.hid hb6
      have HB5 := Lib.hid hB5
      have HE2 := Lib.hid he2
      have t60 := ht6.cell 0
      have y61 := hy6.cell 1
      clear h1 h2 hy5 hz5 h2r hb6 ht6 hy6 hz6 hB5 hv1 hv2 hv3 hTl hfl1 hfl2 hxl1 hxl2 hf6 hl6 h26 he2 HY HZ hll hT2 x0 x1 x2 cL
      rw [← hw6]
      clear hw6
      cases em with
      | false =>
        cases e2 with
        | false =>
          go_wp2_with (first
            | (go_at_call 31; (with_reducible refine cD.mono ?_); rintro e w7 ⟨rfl, T3, hM7, hfr7, hlk⟩; have hy7 := hfr7.k _ _ _ HY6.out (by decide) (by decide) (OB.not H26.out.ma HY6.out (by decide)); have hz7 := hfr7.k _ _ _ HZ6.out (by decide) (by decide) (OB.not H26.out.ma HZ6.out (by decide)); have ht7 := hfr7.k _ _ _ HT6.out (by decide) (by decide) (OB.not H26.out.ma HT6.out (by decide)); have hfr := (H1.out.fr.trans H2r.out.fr).trans ((Fr.below HB6.out HB5.out).trans hfr7); have hfob := H1.out.fob (H2r.out.fr.trans ((Fr.below HB6.out HB5.out).trans hfr7)); have HSq := Lib.hid (Sq.mk (Bd.mk hM7 hfr) (hfr7.row HF6.out (by decide) (by decide) (fun k hk => (H1.out.fob (H2r.out.fr.trans (Fr.below HB6.out HB5.out)) k hk).1)) hfob (hfr7.row HL6.out (by decide) (by decide) (fun k hk => by obtain ⟨cs, hc⟩ := row_type HL6.out hk; exact OB.not H26.out.ma hc (by decide))) H1.out.ld (hfr7.row H26.out.lR (by decide) (by decide) (fun k hk => by obtain ⟨cs, hc⟩ := row_type H26.out.lR hk; exact OB.not H26.out.ma hc (by decide))) (fun q hq => Nat.le_trans (Nat.le_trans H1.out.fr.b.size HB2.out.size) (H26.out.ld q hq))); have HX7 := Lib.hid (hfr7.row H26.out.fR (by decide) (by decide) (fun k hk => (H26.out.fd k hk).1)); have HLk := Lib.hid hlk; have HB7 := Lib.hid (Nat.le_trans HB.out hfr.b.size); have y0 := hy7.cell 0; have y1 := hy7.cell 1; have y2 := hy7.cell 2; have yf0 := hy7.free 0; have yf1 := hy7.free 1; have yf2 := hy7.free 2; have t0 := ht7.cell 0; have t1 := ht7.cell 1; have t2 := ht7.cell 2; have tf1 := ht7.free 1; have HY7 := Lib.hid hy7; have HZ7 := Lib.hid hz7; have HT7 := Lib.hid ht7; clear hM7 hfr7 hlk hy7 hz7 ht7 hfr hfob cD t60 y61))
          go_roundg (ts.length - (j + 1))
          case measure => have := HJ.out; have := HLT.out; omega
          case rel =>
            have hSq := ((HSq.out.set HY7.out (Nat.le_succ _) HB.out 1 (.slice Ay g2.l.length cy)).set (HY7.out.set 1 (.slice Ay g2.l.length cy)) (Nat.le_succ _) HB.out 2 (.bool false))
            have hf : g.f ++ (if g.em = true then g2.f else []) = g.f := by rw [← HE1.out]; simp
            have hl : g2.l ++ (if g2.em = true then g.l else []) = g2.l := by rw [← HE2.out]; simp
            have hfin := seq_fin H1.out H2r.out HLk.out hSq.bd (by show MvR B _ _ (g.f ++ (if g.em = true then g2.f else [])); rw [hf]; exact hSq.fR) hSq.fo (by show InR B _ _ (g2.l ++ (if g2.em = true then g.l else [])); rw [hl]; exact hSq.yR) hSq.yo
            refine ⟨j + 1, _, _, _, _, _, _, T3, sy2, seqG g g2, _, by have := HLT.out; omega, by rw [Int.natCast_add]; rfl, ?_, ?_, ((HZ7.out.far 1 (.slice Ay g2.l.length cy) (by omega)).far 2 (.bool false) (by omega)), ((HY7.out.set 1 (.slice Ay g2.l.length cy)).set 2 (.bool false))⟩
            · show _ = (g.em && g2.em)
              rw [← HE1.out, ← HE2.out]
              rfl
            · rw [langs_take ts j t HT.out, lvs_take ts j t HT.out]
              exact hfin.iff (fun w => (seql_snoc _ _ w).symm)
        | true =>
          go_wp2_with (first
            | (go_at_call 31; (with_reducible refine cD.mono ?_); rintro e w7 ⟨rfl, T3, hM7, hfr7, hlk⟩; have hy7 := hfr7.k _ _ _ HY6.out (by decide) (by decide) (OB.not H26.out.ma HY6.out (by decide)); have hz7 := hfr7.k _ _ _ HZ6.out (by decide) (by decide) (OB.not H26.out.ma HZ6.out (by decide)); have ht7 := hfr7.k _ _ _ HT6.out (by decide) (by decide) (OB.not H26.out.ma HT6.out (by decide)); have hfr := (H1.out.fr.trans H2r.out.fr).trans ((Fr.below HB6.out HB5.out).trans hfr7); have hfob := H1.out.fob (H2r.out.fr.trans ((Fr.below HB6.out HB5.out).trans hfr7)); have HSq := Lib.hid (Sq.mk (Bd.mk hM7 hfr) (hfr7.row HF6.out (by decide) (by decide) (fun k hk => (H1.out.fob (H2r.out.fr.trans (Fr.below HB6.out HB5.out)) k hk).1)) hfob (hfr7.row HL6.out (by decide) (by decide) (fun k hk => by obtain ⟨cs, hc⟩ := row_type HL6.out hk; exact OB.not H26.out.ma hc (by decide))) H1.out.ld (hfr7.row H26.out.lR (by decide) (by decide) (fun k hk => by obtain ⟨cs, hc⟩ := row_type H26.out.lR hk; exact OB.not H26.out.ma hc (by decide))) (fun q hq => Nat.le_trans (Nat.le_trans H1.out.fr.b.size HB2.out.size) (H26.out.ld q hq))); have HX7 := Lib.hid (hfr7.row H26.out.fR (by decide) (by decide) (fun k hk => (H26.out.fd k hk).1)); have HLk := Lib.hid hlk; have HB7 := Lib.hid (Nat.le_trans HB.out hfr.b.size); have y0 := hy7.cell 0; have y1 := hy7.cell 1; have y2 := hy7.cell 2; have yf0 := hy7.free 0; have yf1 := hy7.free 1; have yf2 := hy7.free 2; have t0 := ht7.cell 0; have t1 := ht7.cell 1; have t2 := ht7.cell 2; have tf1 := ht7.free 1; have HY7 := Lib.hid hy7; have HZ7 := Lib.hid hz7; have HT7 := Lib.hid ht7; clear hM7 hfr7 hlk hy7 hz7 ht7 hfr hfob cD t60 y61)
            | (at_builtin; refine wpl_app_i rfl _ _ rfl rfl rfl HSq.out.yR HSq.out.lR HB7.out HFin.out.2.2.2.2.2 HFin.out.2.2.2.1 ?_; intro A10 n10 c10 w10 hl10 hr10 hg10 hn10; clear hl10; have hy10 := (grown_neT HSq.out.yR hg10 HY7.out (by decide)).trans HY7.out; have hz10 := (grown_neT HSq.out.yR hg10 HZ7.out (by decide)).trans HZ7.out; have ht10 := (grown_neT HSq.out.yR hg10 HT7.out (by decide)).trans HT7.out; have HSq10 := Lib.hid (HSq.out.appI HB.out hr10 hg10 hn10); have HY10 : Hid (Fb w10 (W.heap.size + 1) 69 _) := Lib.hid hy10; have HZ10 : Hid (Fb w10 W.heap.size 69 _) := Lib.hid hz10; have HT10 : Hid (Fb w10 w5.heap.size 69 _) := Lib.hid ht10; clear y0 y1 y2 yf0 yf1 yf2 t0 t1 t2 tf1 hy10 hz10 ht10 hr10 hg10 hn10; have y0 := HY10.out.cell 0; have y1 := HY10.out.cell 1; have y2 := HY10.out.cell 2; have yf0 := HY10.out.free 0; have yf1 := HY10.out.free 1; have yf2 := HY10.out.free 2; have t0 := HT10.out.cell 0; have t1 := HT10.out.cell 1; have t2 := HT10.out.cell 2; have tf1 := HT10.out.free 1))
          go_roundg (ts.length - (j + 1))
          case measure => have := HJ.out; have := HLT.out; omega
          case rel =>
            have hSq := (((HSq10.out.set HT10.out (Nat.le_trans (Nat.le_succ _) (Nat.le_of_lt hlt8)) HB.out 1 (.slice A10 n10 c10)).set (HY10.out.far 1 (.slice A10 n10 c10) (by omega)) (Nat.le_succ _) HB.out 1 (.slice A10 n10 c10)).set ((HY10.out.far 1 (.slice A10 n10 c10) (by omega)).set 1 (.slice A10 n10 c10)) (Nat.le_succ _) HB.out 2 (.bool false))
            have hf : g.f ++ (if g.em = true then g2.f else []) = g.f := by rw [← HE1.out]; simp
            have hl : g2.l ++ (if g2.em = true then g.l else []) = (g2.l ++ g.l) := by rw [← HE2.out]; simp
            have hfin := seq_fin H1.out H2r.out HLk.out hSq.bd (by show MvR B _ _ (g.f ++ (if g.em = true then g2.f else [])); rw [hf]; exact hSq.fR) hSq.fo (by show InR B _ _ (g2.l ++ (if g2.em = true then g.l else [])); rw [hl]; exact hSq.yR) hSq.yo
            refine ⟨j + 1, _, _, _, _, _, _, T3, sy2, seqG g g2, _, by have := HLT.out; omega, by rw [Int.natCast_add]; rfl, ?_, ?_, (((HZ10.out.far 1 (.slice A10 n10 c10) (by omega)).far 1 (.slice A10 n10 c10) (by omega)).far 2 (.bool false) (by omega)), (((HY10.out.far 1 (.slice A10 n10 c10) (by omega)).set 1 (.slice A10 n10 c10)).set 2 (.bool false))⟩
            · show _ = (g.em && g2.em)
              rw [← HE1.out, ← HE2.out]
              rfl
            · rw [langs_take ts j t HT.out, lvs_take ts j t HT.out]
              exact hfin.iff (fun w => (seql_snoc _ _ w).symm)
      | true =>
        cases e2 with
        | false =>
          go_wp2_with (first
            | (go_at_call 31; (with_reducible refine cD.mono ?_); rintro e w7 ⟨rfl, T3, hM7, hfr7, hlk⟩; have hy7 := hfr7.k _ _ _ HY6.out (by decide) (by decide) (OB.not H26.out.ma HY6.out (by decide)); have hz7 := hfr7.k _ _ _ HZ6.out (by decide) (by decide) (OB.not H26.out.ma HZ6.out (by decide)); have ht7 := hfr7.k _ _ _ HT6.out (by decide) (by decide) (OB.not H26.out.ma HT6.out (by decide)); have hfr := (H1.out.fr.trans H2r.out.fr).trans ((Fr.below HB6.out HB5.out).trans hfr7); have hfob := H1.out.fob (H2r.out.fr.trans ((Fr.below HB6.out HB5.out).trans hfr7)); have HSq := Lib.hid (Sq.mk (Bd.mk hM7 hfr) (hfr7.row HF6.out (by decide) (by decide) (fun k hk => (H1.out.fob (H2r.out.fr.trans (Fr.below HB6.out HB5.out)) k hk).1)) hfob (hfr7.row HL6.out (by decide) (by decide) (fun k hk => by obtain ⟨cs, hc⟩ := row_type HL6.out hk; exact OB.not H26.out.ma hc (by decide))) H1.out.ld (hfr7.row H26.out.lR (by decide) (by decide) (fun k hk => by obtain ⟨cs, hc⟩ := row_type H26.out.lR hk; exact OB.not H26.out.ma hc (by decide))) (fun q hq => Nat.le_trans (Nat.le_trans H1.out.fr.b.size HB2.out.size) (H26.out.ld q hq))); have HX7 := Lib.hid (hfr7.row H26.out.fR (by decide) (by decide) (fun k hk => (H26.out.fd k hk).1)); have HLk := Lib.hid hlk; have HB7 := Lib.hid (Nat.le_trans HB.out hfr.b.size); have y0 := hy7.cell 0; have y1 := hy7.cell 1; have y2 := hy7.cell 2; have yf0 := hy7.free 0; have yf1 := hy7.free 1; have yf2 := hy7.free 2; have t0 := ht7.cell 0; have t1 := ht7.cell 1; have t2 := ht7.cell 2; have tf1 := ht7.free 1; have HY7 := Lib.hid hy7; have HZ7 := Lib.hid hz7; have HT7 := Lib.hid ht7; clear hM7 hfr7 hlk hy7 hz7 ht7 hfr hfob cD t60 y61)
            | (at_builtin; refine wpl_app_m rfl _ _ rfl rfl rfl HSq.out.fR HX7.out HB7.out HFin.out.2.2.1 HFin.out.2.2.2.2.1 ?_; intro A8 n8 c8 w8 hl8 hr8 hg8 hn8; clear hl8; have hy8 := (grown_neT HSq.out.fR hg8 HY7.out (by decide)).trans HY7.out; have hz8 := (grown_neT HSq.out.fR hg8 HZ7.out (by decide)).trans HZ7.out; have ht8 := (grown_neT HSq.out.fR hg8 HT7.out (by decide)).trans HT7.out; have HSq8 := Lib.hid (HSq.out.appM HB.out hr8 hg8 hn8); have HY8 : Hid (Fb w8 (W.heap.size + 1) 69 _) := Lib.hid hy8; have HZ8 : Hid (Fb w8 W.heap.size 69 _) := Lib.hid hz8; have HT8 : Hid (Fb w8 w5.heap.size 69 _) := Lib.hid ht8; clear y0 y1 y2 yf0 yf1 yf2 t0 t1 t2 tf1 hy8 hz8 ht8 hr8 hg8 hn8; have y0 := HY8.out.cell 0; have y1 := HY8.out.cell 1; have y2 := HY8.out.cell 2; have yf0 := HY8.out.free 0; have yf1 := HY8.out.free 1; have yf2 := HY8.out.free 2; have t0 := HT8.out.cell 0; have t1 := HT8.out.cell 1; have t2 := HT8.out.cell 2; have tf1 := HT8.out.free 1; have HSq9 := Lib.hid (HSq8.out.set HY8.out (Nat.le_succ _) HB.out 0 (.slice A8 n8 c8)); have HY9 := Lib.hid (HY8.out.set 0 (.slice A8 n8 c8)); have HZ9 := Lib.hid (HZ8.out.far (g' := W.heap.size + 1) 0 (.slice A8 n8 c8) (by omega)); have HT9 := Lib.hid (HT8.out.far (g' := W.heap.size + 1) 0 (.slice A8 n8 c8) (by omega)); have HB9 := Lib.hid (show B ≤ (w8.setCell ⟨W.heap.size + 1, 0, none⟩ (.slice A8 n8 c8)).heap.size from Nat.le_trans HB.out HSq9.out.bd.fr.b.size)))
          go_roundg (ts.length - (j + 1))
          case measure => have := HJ.out; have := HLT.out; omega
          case rel =>
            have hSq := ((HSq9.out.set HY9.out (Nat.le_succ _) HB.out 1 (.slice Ay g2.l.length cy)).set (HY9.out.set 1 (.slice Ay g2.l.length cy)) (Nat.le_succ _) HB.out 2 (.bool false))
            have hf : g.f ++ (if g.em = true then g2.f else []) = (g.f ++ g2.f) := by rw [← HE1.out]; simp
            have hl : g2.l ++ (if g2.em = true then g.l else []) = g2.l := by rw [← HE2.out]; simp
            have hfin := seq_fin H1.out H2r.out HLk.out hSq.bd (by show MvR B _ _ (g.f ++ (if g.em = true then g2.f else [])); rw [hf]; exact hSq.fR) hSq.fo (by show InR B _ _ (g2.l ++ (if g2.em = true then g.l else [])); rw [hl]; exact hSq.yR) hSq.yo
            refine ⟨j + 1, _, _, _, _, _, _, T3, sy2, seqG g g2, _, by have := HLT.out; omega, by rw [Int.natCast_add]; rfl, ?_, ?_, ((HZ9.out.far 1 (.slice Ay g2.l.length cy) (by omega)).far 2 (.bool false) (by omega)), ((HY9.out.set 1 (.slice Ay g2.l.length cy)).set 2 (.bool false))⟩
            · show _ = (g.em && g2.em)
              rw [← HE1.out, ← HE2.out]
              rfl
            · rw [langs_take ts j t HT.out, lvs_take ts j t HT.out]
              exact hfin.iff (fun w => (seql_snoc _ _ w).symm)
        | true =>
          go_wp2_with (first
            | (go_at_call 31; (with_reducible refine cD.mono ?_); rintro e w7 ⟨rfl, T3, hM7, hfr7, hlk⟩; have hy7 := hfr7.k _ _ _ HY6.out (by decide) (by decide) (OB.not H26.out.ma HY6.out (by decide)); have hz7 := hfr7.k _ _ _ HZ6.out (by decide) (by decide) (OB.not H26.out.ma HZ6.out (by decide)); have ht7 := hfr7.k _ _ _ HT6.out (by decide) (by decide) (OB.not H26.out.ma HT6.out (by decide)); have hfr := (H1.out.fr.trans H2r.out.fr).trans ((Fr.below HB6.out HB5.out).trans hfr7); have hfob := H1.out.fob (H2r.out.fr.trans ((Fr.below HB6.out HB5.out).trans hfr7)); have HSq := Lib.hid (Sq.mk (Bd.mk hM7 hfr) (hfr7.row HF6.out (by decide) (by decide) (fun k hk => (H1.out.fob (H2r.out.fr.trans (Fr.below HB6.out HB5.out)) k hk).1)) hfob (hfr7.row HL6.out (by decide) (by decide) (fun k hk => by obtain ⟨cs, hc⟩ := row_type HL6.out hk; exact OB.not H26.out.ma hc (by decide))) H1.out.ld (hfr7.row H26.out.lR (by decide) (by decide) (fun k hk => by obtain ⟨cs, hc⟩ := row_type H26.out.lR hk; exact OB.not H26.out.ma hc (by decide))) (fun q hq => Nat.le_trans (Nat.le_trans H1.out.fr.b.size HB2.out.size) (H26.out.ld q hq))); have HX7 := Lib.hid (hfr7.row H26.out.fR (by decide) (by decide) (fun k hk => (H26.out.fd k hk).1)); have HLk := Lib.hid hlk; have HB7 := Lib.hid (Nat.le_trans HB.out hfr.b.size); have y0 := hy7.cell 0; have y1 := hy7.cell 1; have y2 := hy7.cell 2; have yf0 := hy7.free 0; have yf1 := hy7.free 1; have yf2 := hy7.free 2; have t0 := ht7.cell 0; have t1 := ht7.cell 1; have t2 := ht7.cell 2; have tf1 := ht7.free 1; have HY7 := Lib.hid hy7; have HZ7 := Lib.hid hz7; have HT7 := Lib.hid ht7; clear hM7 hfr7 hlk hy7 hz7 ht7 hfr hfob cD t60 y61)
            | (at_builtin; refine wpl_app_m rfl _ _ rfl rfl rfl HSq.out.fR HX7.out HB7.out HFin.out.2.2.1 HFin.out.2.2.2.2.1 ?_; intro A8 n8 c8 w8 hl8 hr8 hg8 hn8; clear hl8; have hy8 := (grown_neT HSq.out.fR hg8 HY7.out (by decide)).trans HY7.out; have hz8 := (grown_neT HSq.out.fR hg8 HZ7.out (by decide)).trans HZ7.out; have ht8 := (grown_neT HSq.out.fR hg8 HT7.out (by decide)).trans HT7.out; have HSq8 := Lib.hid (HSq.out.appM HB.out hr8 hg8 hn8); have HY8 : Hid (Fb w8 (W.heap.size + 1) 69 _) := Lib.hid hy8; have HZ8 : Hid (Fb w8 W.heap.size 69 _) := Lib.hid hz8; have HT8 : Hid (Fb w8 w5.heap.size 69 _) := Lib.hid ht8; clear y0 y1 y2 yf0 yf1 yf2 t0 t1 t2 tf1 hy8 hz8 ht8 hr8 hg8 hn8; have y0 := HY8.out.cell 0; have y1 := HY8.out.cell 1; have y2 := HY8.out.cell 2; have yf0 := HY8.out.free 0; have yf1 := HY8.out.free 1; have yf2 := HY8.out.free 2; have t0 := HT8.out.cell 0; have t1 := HT8.out.cell 1; have t2 := HT8.out.cell 2; have tf1 := HT8.out.free 1; have HSq9 := Lib.hid (HSq8.out.set HY8.out (Nat.le_succ _) HB.out 0 (.slice A8 n8 c8)); have HY9 := Lib.hid (HY8.out.set 0 (.slice A8 n8 c8)); have HZ9 := Lib.hid (HZ8.out.far (g' := W.heap.size + 1) 0 (.slice A8 n8 c8) (by omega)); have HT9 := Lib.hid (HT8.out.far (g' := W.heap.size + 1) 0 (.slice A8 n8 c8) (by omega)); have HB9 := Lib.hid (show B ≤ (w8.setCell ⟨W.heap.size + 1, 0, none⟩ (.slice A8 n8 c8)).heap.size from Nat.le_trans HB.out HSq9.out.bd.fr.b.size))
            | (at_builtin; refine wpl_app_i rfl _ _ rfl rfl rfl HSq9.out.yR HSq9.out.lR HB9.out HFin.out.2.2.2.2.2 HFin.out.2.2.2.1 ?_; intro A10 n10 c10 w10 hl10 hr10 hg10 hn10; clear hl10; have hy10 := (grown_neT HSq9.out.yR hg10 HY9.out (by decide)).trans HY9.out; have hz10 := (grown_neT HSq9.out.yR hg10 HZ9.out (by decide)).trans HZ9.out; have ht10 := (grown_neT HSq9.out.yR hg10 HT9.out (by decide)).trans HT9.out; have HSq10 := Lib.hid (HSq9.out.appI HB.out hr10 hg10 hn10); have HY10 : Hid (Fb w10 (W.heap.size + 1) 69 _) := Lib.hid hy10; have HZ10 : Hid (Fb w10 W.heap.size 69 _) := Lib.hid hz10; have HT10 : Hid (Fb w10 w5.heap.size 69 _) := Lib.hid ht10; clear y0 y1 y2 yf0 yf1 yf2 t0 t1 t2 tf1 hy10 hz10 ht10 hr10 hg10 hn10; have y0 := HY10.out.cell 0; have y1 := HY10.out.cell 1; have y2 := HY10.out.cell 2; have yf0 := HY10.out.free 0; have yf1 := HY10.out.free 1; have yf2 := HY10.out.free 2; have t0 := HT10.out.cell 0; have t1 := HT10.out.cell 1; have t2 := HT10.out.cell 2; have tf1 := HT10.out.free 1))
          go_roundg (ts.length - (j + 1))
          case measure => have := HJ.out; have := HLT.out; omega
          case rel =>
            have hSq := (((HSq10.out.set HT10.out (Nat.le_trans (Nat.le_succ _) (Nat.le_of_lt hlt8)) HB.out 1 (.slice A10 n10 c10)).set (HY10.out.far 1 (.slice A10 n10 c10) (by omega)) (Nat.le_succ _) HB.out 1 (.slice A10 n10 c10)).set ((HY10.out.far 1 (.slice A10 n10 c10) (by omega)).set 1 (.slice A10 n10 c10)) (Nat.le_succ _) HB.out 2 (.bool true))
            have hf : g.f ++ (if g.em = true then g2.f else []) = (g.f ++ g2.f) := by rw [← HE1.out]; simp
            have hl : g2.l ++ (if g2.em = true then g.l else []) = (g2.l ++ g.l) := by rw [← HE2.out]; simp
            have hfin := seq_fin H1.out H2r.out HLk.out hSq.bd (by show MvR B _ _ (g.f ++ (if g.em = true then g2.f else [])); rw [hf]; exact hSq.fR) hSq.fo (by show InR B _ _ (g2.l ++ (if g2.em = true then g.l else [])); rw [hl]; exact hSq.yR) hSq.yo
            refine ⟨j + 1, _, _, _, _, _, _, T3, sy2, seqG g g2, _, by have := HLT.out; omega, by rw [Int.natCast_add]; rfl, ?_, ?_, (((HZ10.out.far 1 (.slice A10 n10 c10) (by omega)).far 1 (.slice A10 n10 c10) (by omega)).far 2 (.bool true) (by omega)), (((HY10.out.far 1 (.slice A10 n10 c10) (by omega)).set 1 (.slice A10 n10 c10)).set 2 (.bool true))⟩
            · show _ = (g.em && g2.em)
              rw [← HE1.out, ← HE2.out]
              rfl
            · rw [langs_take ts j t HT.out, lvs_take ts j t HT.out]
              exact hfin.iff (fun w => (seql_snoc _ _ w).symm)
    · obtain rfl : j = ts.length := by omega
      have hn := HN0.out
      have j1 : ¬ ((ts.length : Int) < (n0 : Int)) := by omega
      have z0 := hz.cell 0
      have z1 := hz.cell 1
      have z2 := hz.cell 2
      have zf0 := hz.free 0
      have zf1 := hz.free 1
      have zf2 := hz.free 2
      have y0 := hy.cell 0
      have y1 := hy.cell 1
      have y2 := hy.cell 2
      have HZ9 := Lib.hid hz
      have H1 := Lib.hid h1
      have HE1 := Lib.hid hem
      clear h1 hz hy hem hj hlt hn
      go_wp2
      have hY9 : Fb (((wr.setCell ⟨W.heap.size, 0, none⟩ (.slice Af nf cf)).setCell ⟨W.heap.size, 1, none⟩ (.slice Al nl cl)).setCell ⟨W.heap.size, 2, none⟩ (.bool em)) W.heap.size 69 #[.slice Af nf cf, .slice Al nl cl, .bool em] := ((HZ9.out.set 0 _).set 1 _).set 2 _
      have hL9 := ((H1.out.set HZ9.out (Nat.le_refl _) HB.out 0 (.slice Af nf cf)).set (HZ9.out.set 0 _) (Nat.le_refl _) HB.out 1 (.slice Al nl cl)).set ((HZ9.out.set 0 _).set 1 _) (Nat.le_refl _) HB.out 2 (.bool em)
      obtain ⟨W9, hW9⟩ : ∃ W9, W9 = (((wr.setCell ⟨W.heap.size, 0, none⟩ (.slice Af nf cf)).setCell ⟨W.heap.size, 1, none⟩ (.slice Al nl cl)).setCell ⟨W.heap.size, 2, none⟩ (.bool em)) := ⟨_, rfl⟩
      rw [← hW9] at hY9 hL9
      rw [← hW9]
      have v0 := hY9.cell 0
      have v1 := hY9.cell 1
      have v2 := hY9.cell 2
      clear hW9
      try simp only [Exit.inBlock, Exit.then]
      refine bodyPost_ret (results_cell_row (P := Try.prog) rfl _ W9 W.heap.size 69 _ (0, 0) _ rfl hY9 Try.underlying69 rfl (by kernel_rfl)) rfl ?_
      rw [List.take_length] at hL9
      exact ⟨_, _, _, _, g, by rw [← HE1.out], hL9⟩
end Go.Proofs.Ytghlajfalgdkfaa

/-
  alt, any.
-/
namespace Go.Proofs.Ytghlajfalgdkfaa
open Go.RowKit
set_option linter.unusedVariables false
set_option linter.unusedSimpArgs false
set_option maxRecDepth 100000

def AlR (B d : Nat) (T : List St) (sy : Nat → Sy) (W : World) (ts : List PT) (gk : Nat) (s : Value) (wr : World) : Prop := ∃ (j : Nat) (Af : Option Addr) (nf cf : Nat) (Al : Option Addr) (nl cl : Nat) (T1 : List St) (sy1 : Nat → Sy) (g : Gd) (em : Bool), j + gk = ts.length ∧ s = .int .i64 (j : Int) ∧ em = g.em ∧
  LyR B d T sy (Altl (langs (ts.take j))) (lvs (ts.take j)) W (.slice Af nf cf) (.slice Al nl cl) T1 sy1 g wr ∧ Fb wr W.heap.size 69 #[.slice none 0 0, .slice none 0 0, .bool false] ∧ Fb wr (W.heap.size + 1) 69 #[.slice Af nf cf, .slice Al nl cl, .bool em]
set_option maxHeartbeats 32000000 in
theorem alt_any {B d n0 c0 : Nat} {A0 : Option Addr} {T : List St} {sy : Nat → Sy} {W : World} {ts : List PT} {ps : List Pa} (hM : Ma B d T W) (hw : Wt sy T) (hR : RowP W (.slice A0 n0 c0) ps) (hP : Pths W ts ps) (hn0 : n0 = ts.length) (hT : T.length + lvs ts ≤ 1000) (hB : B ≤ W.heap.size) (hts : ts.length ≤ 1000) (IH : ∀ t ∈ ts, LayAll B d t) :
    Calls Try.prog 50 #[.pointer (some ⟨d, 0, none⟩), .slice A0 n0 c0] W (LyQ2 B d T sy (Altl (langs ts)) (lvs ts) W) := by
  obtain ⟨W1, hW1⟩ : ∃ W1, W1 = (W.alloc (.cells #[.slice none 0 0, .slice none 0 0, .bool false] 69)).alloc (.cells #[.slice none 0 0, .slice none 0 0, .bool false] 69) := ⟨_, rfl⟩
  have hb1 : Below W.heap.size W W1 := by rw [hW1]; exact ((Below.refl _ _).alloc (Nat.le_refl _) _).alloc (by simp) _
  have hZ : Fb W1 W.heap.size 69 #[.slice none 0 0, .slice none 0 0, .bool false] := by rw [hW1]; exact (Fb.new W _ _).alloc _
  have hY : Fb W1 (W.heap.size + 1) 69 #[.slice none 0 0, .slice none 0 0, .bool false] := by
    have := Fb.new (W.alloc (.cells #[.slice none 0 0, .slice none 0 0, .bool false] 69)) 69 #[.slice none 0 0, .slice none 0 0, .bool false]
    rw [World.size_alloc] at this
    rw [hW1]; exact this
  have H0 := Lib.hid (show AlR B d T sy W ts ts.length (.int .i64 0) W1 from ⟨0, none, 0, 0, none, 0, 0, T, sy, _, false, by omega, rfl, rfl, start_seq (hM.below hb1) hw (Fr.below hb1 hB) false (fun w => by simp [langs, Altl]), hZ, hY⟩)
  have HPart := Lib.hid (fun (j : Nat) (t : PT) (hj : ts[j]? = some t) => part_at hM hR hP hj)
  have HIH := Lib.hid IH
  have HB := Lib.hid hB
  have HTl := Lib.hid hT
  have HTS := Lib.hid hts
  have n0I : (0 : Int) ≤ (n0 : Int) := by omega
  have n1I : (n0 : Int) ≤ 1000 := by omega
  have HN0 := Lib.hid hn0
  have HW1 := Lib.hid hW1
  clear hM hw hR hP hT hB hts IH hb1 hZ hY hn0
  go_enter Try.func50, Try.ntmps50
  go_wp2
  rw [← HW1.out]
  clear hW1
  go_loopg [11] ts.length (fun gk s wr => AlR B d T sy W ts gk s wr)
  case atStart => exact H0.out
  case round =>
    obtain ⟨j, Af, nf, cf, Al, nl, cl, T1, sy1, g, em, hj, rfl, hem, h1, hz, hy⟩ := hrel
    have HJ := Lib.hid hj
    by_cases hlt : j < ts.length
    · obtain ⟨t, ht⟩ : ∃ t, ts[j]? = some t := ⟨_, List.getElem?_eq_getElem hlt⟩
      obtain ⟨gp, kd, nn, A9, m9, c9, hs, hat⟩ := HPart.out j t ht
      obtain ⟨hpt, x0, x1, x2⟩ := hat wr T1 h1.fr
      have hs1 : A0 = some ⟨gp, 0, none⟩ := by simpa using (Value.slice.inj hs).1
      subst hs1
      have hn := HN0.out
      have j0 : (0 : Int) ≤ (j : Int) := by omega
      have j1 : (j : Int) < (n0 : Int) := by omega
      obtain ⟨w2, hw2⟩ : ∃ w2, w2 = wr.alloc (.cells #[.int .i64 kd, .int .i64 nn, .slice A9 m9 c9] 28) := ⟨_, rfl⟩
      have hb2 : Below wr.heap.size wr w2 := by rw [hw2]; exact (Below.refl _ _).alloc (Nat.le_refl _) _
      have hBr : B ≤ wr.heap.size := Nat.le_trans HB.out h1.fr.b.size
      have hlen := h1.len
      have hlv := lvs_take ts j t ht
      have hlv2 := lvs_take_le ts (j + 1)
      have hTl := HTl.out
      have cL := HIH.out t (List.mem_of_getElem? ht) kd nn A9 m9 c9 T1 sy1 w2 (hpt.below hb2) (h1.ma.below hb2) h1.wt (by omega) (Nat.le_trans hBr hb2.size)
      have HT := Lib.hid ht
      have H1 := Lib.hid h1
      have HE1 := Lib.hid hem
      have HZ := Lib.hid (hz.below hb2)
      have HY := Lib.hid (hy.below hb2)
      have HNoY := Lib.hid (fun (q : Nat) (cs : Array Value) (hq : Fb w2 q 69 cs) => OB.not (h1.ma.below hb2) hq (by decide))
      have HB2 := Lib.hid hb2
      have HBr := Lib.hid hBr
      have HLT := Lib.hid hlt
      have HLv := Lib.hid (And.intro hlv (And.intro hlv2 hlen))
      clear hj hem h1 hz hy hlt ht hs hat hpt hn hb2 hBr hlen hlv hlv2 hTl
      subst hw2
      go_upto_region 6 with (first
        | (go_at_call 30; (with_reducible refine cL.mono ?_); rintro e w5 ⟨f2, l2, T2, sy2, g2, rfl, h2⟩; obtain ⟨Ax, cx, rfl, _⟩ := h2.fR.shape; obtain ⟨Ay, cy, rfl, _⟩ := h2.lR.shape; have H2 := Lib.hid h2; clear h2))
      have h1 := H1.out
      have h2 := H2.out
      obtain ⟨e2, he2⟩ : ∃ e2, e2 = g2.em := ⟨_, rfl⟩
      rw [← he2]
      have hy5 := h2.fr.k _ _ _ HY.out (by decide) (by decide) (HNoY.out _ _ HY.out)
      have hz5 := h2.fr.k _ _ _ HZ.out (by decide) (by decide) (HNoY.out _ _ HZ.out)
      have h2r := h2.from HB2.out HBr.out
      obtain ⟨w6, hw6⟩ : ∃ w6, w6 = w5.alloc (.cells #[.slice Ax g2.f.length cx, .slice Ay g2.l.length cy, .bool e2] 69) := ⟨_, rfl⟩
      have hb6 : Below w5.heap.size w5 w6 := by rw [hw6]; exact (Below.refl _ _).alloc (Nat.le_refl _) _
      have ht6 : Fb w6 w5.heap.size 69 #[.slice Ax g2.f.length cx, .slice Ay g2.l.length cy, .bool e2] := by rw [hw6]; exact Fb.new w5 _ _
      have hy6 := hy5.below hb6
      have hz6 := hz5.below hb6
      have hlt8 : W.heap.size + 1 < w5.heap.size := hy5.lt
      have hB5 : B ≤ w5.heap.size := Nat.le_trans HBr.out h2r.fr.b.size
      obtain ⟨hv1, hv2, hv3⟩ := HLv.out
      have hTl := HTl.out
      have hT2 : T2.length ≤ 1000 := by have := h2.len; omega
      obtain ⟨hfl1, hfl2⟩ := h1.fl
      obtain ⟨hxl1, hxl2⟩ := h2.fl
      have hf6 : MvR B w6 (.slice Af nf cf) g.f := row_below (h2r.fr.row h1.fR (by decide) (by decide) fun k hk => (h1.fd k hk).1) hb6
      have hl6 : InR B w6 (.slice Al nl cl) g.l := row_below (h2r.fr.row h1.lR (by decide) (by decide) fun k hk => by
        obtain ⟨cs, hc⟩ := row_type h1.lR hk
        exact OB.not h1.ma hc (by decide)) hb6
      have h26 := h2.below hb6 hB5
      have hll : ∀ q ∈ g.l, q < T2.length := fun q hq => by have h3 := (h1.ok.l q hq).2; have h4 := h1.hi; have h5 := h2.len; omega
      have HFin := Lib.hid (And.intro hll (And.intro hT2 (And.intro (show g.f.length ≤ 1000 by omega) (And.intro (show g.l.length ≤ 1000 by omega) (And.intro (show g2.f.length ≤ 1000 by omega) (show g2.l.length ≤ 1000 by omega))))))
      have HF6 := Lib.hid hf6
      have HL6 := Lib.hid hl6
      have H26 := Lib.hid h26
      have H2r := Lib.hid h2r
      have HY6 := Lib.hid hy6
      have HZ6 := Lib.hid hz6
      have HT6 := Lib.hid ht6
      have HB6 := Lib.hid hb6
      have HB5 := Lib.hid hB5
      have HE2 := Lib.hid he2
      have t60 := ht6.cell 0
      have y61 := hy6.cell 1
      have y60 := hy6.cell 0
      have yf60 := hy6.free 0
      clear h1 h2 hy5 hz5 h2r hb6 ht6 hy6 hz6 hB5 hv1 hv2 hv3 hTl hfl1 hfl2 hxl1 hxl2 hf6 hl6 h26 he2 HY HZ hll hT2 x0 x1 x2 cL
      rw [← hw6]
      clear hw6
      have HSq := Lib.hid (Sq.mk (Bd.mk H26.out.ma ((H1.out.fr.trans H2r.out.fr).trans (Fr.below HB6.out HB5.out))) HF6.out (H1.out.fob (H2r.out.fr.trans (Fr.below HB6.out HB5.out))) H26.out.lR (fun q hq => Nat.le_trans (Nat.le_trans H1.out.fr.b.size HB2.out.size) (H26.out.ld q hq)) HL6.out H1.out.ld)
      have HB7 := Lib.hid (Nat.le_trans HB5.out HB6.out.size)
      cases em with
      | false =>
        cases e2 with
        | false =>
          go_wp2_with (first
            | (at_builtin; refine wpl_app_m rfl _ _ rfl rfl rfl HSq.out.fR H26.out.fR HB7.out HFin.out.2.2.1 HFin.out.2.2.2.2.1 ?_; intro A8 n8 c8 w8 hl8 hr8 hg8 hn8; clear hl8; have hy8 := (grown_neT HSq.out.fR hg8 HY6.out (by decide)).trans HY6.out; have hz8 := (grown_neT HSq.out.fR hg8 HZ6.out (by decide)).trans HZ6.out; have ht8 := (grown_neT HSq.out.fR hg8 HT6.out (by decide)).trans HT6.out; have HSq8 := Lib.hid (HSq.out.appM HB.out hr8 hg8 hn8); have HY8 : Hid (Fb w8 (W.heap.size + 1) 69 _) := Lib.hid hy8; have HZ8 : Hid (Fb w8 W.heap.size 69 _) := Lib.hid hz8; have HT8 : Hid (Fb w8 w5.heap.size 69 _) := Lib.hid ht8; clear t60 y61 y60 yf60 hy8 hz8 ht8 hr8 hg8 hn8; have y0 := HY8.out.cell 0; have y1 := HY8.out.cell 1; have y2 := HY8.out.cell 2; have yf0 := HY8.out.free 0; have yf1 := HY8.out.free 1; have yf2 := HY8.out.free 2; have t0 := HT8.out.cell 0; have t1 := HT8.out.cell 1; have t2 := HT8.out.cell 2; have HSq9 := Lib.hid (HSq8.out.set HY8.out (Nat.le_succ _) HB.out 0 (.slice A8 n8 c8)); have HY9 := Lib.hid (HY8.out.set 0 (.slice A8 n8 c8)); have HZ9 := Lib.hid (HZ8.out.far (g' := W.heap.size + 1) 0 (.slice A8 n8 c8) (by omega)); have HT9 := Lib.hid (HT8.out.far (g' := W.heap.size + 1) 0 (.slice A8 n8 c8) (by omega)); have HB9 := Lib.hid (show B ≤ (w8.setCell ⟨W.heap.size + 1, 0, none⟩ (.slice A8 n8 c8)).heap.size from Nat.le_trans HB.out HSq9.out.bd.fr.b.size))
            | (at_builtin; refine wpl_app_i rfl _ _ rfl rfl rfl HSq9.out.yR HSq9.out.lR HB9.out HFin.out.2.2.2.1 HFin.out.2.2.2.2.2 ?_; intro A10 n10 c10 w10 hl10 hr10 hg10 hn10; clear hl10; have hy10 := (grown_neT HSq9.out.yR hg10 HY9.out (by decide)).trans HY9.out; have hz10 := (grown_neT HSq9.out.yR hg10 HZ9.out (by decide)).trans HZ9.out; have ht10 := (grown_neT HSq9.out.yR hg10 HT9.out (by decide)).trans HT9.out; have HSq10 := Lib.hid (HSq9.out.appI HB.out hr10 hg10 hn10); have HY10 : Hid (Fb w10 (W.heap.size + 1) 69 _) := Lib.hid hy10; have HZ10 : Hid (Fb w10 W.heap.size 69 _) := Lib.hid hz10; have HT10 : Hid (Fb w10 w5.heap.size 69 _) := Lib.hid ht10; clear y0 y1 y2 yf0 yf1 yf2 t0 t1 t2 hy10 hz10 ht10 hr10 hg10 hn10; have y0 := HY10.out.cell 0; have y1 := HY10.out.cell 1; have y2 := HY10.out.cell 2; have yf0 := HY10.out.free 0; have yf1 := HY10.out.free 1; have yf2 := HY10.out.free 2; have t0 := HT10.out.cell 0; have t1 := HT10.out.cell 1; have t2 := HT10.out.cell 2))
          go_roundg (ts.length - (j + 1))
          case measure => have := HJ.out; have := HLT.out; omega
          case rel =>
            have hSq := ((HSq10.out.set HY10.out (Nat.le_succ _) HB.out 1 (.slice A10 n10 c10)).set (HY10.out.set 1 (.slice A10 n10 c10)) (Nat.le_succ _) HB.out 2 (.bool false))
            have hfin := alt_fin H1.out H2r.out hSq.bd hSq.fR hSq.fo hSq.yR hSq.yo
            refine ⟨j + 1, _, _, _, _, _, _, T2, sy2, altG g g2, _, by have := HLT.out; omega, by rw [Int.natCast_add]; rfl, ?_, ?_, ((HZ10.out.far 1 (.slice A10 n10 c10) (by omega)).far 2 (.bool false) (by omega)), ((HY10.out.set 1 (.slice A10 n10 c10)).set 2 (.bool false))⟩
            · show _ = (g.em || g2.em)
              rw [← HE1.out, ← HE2.out]
              rfl
            · rw [langs_take ts j t HT.out, lvs_take ts j t HT.out]
              exact hfin.iff (fun w => (altl_snoc _ _ w).symm)
        | true =>
          go_wp2_with (first
            | (at_builtin; refine wpl_app_m rfl _ _ rfl rfl rfl HSq.out.fR H26.out.fR HB7.out HFin.out.2.2.1 HFin.out.2.2.2.2.1 ?_; intro A8 n8 c8 w8 hl8 hr8 hg8 hn8; clear hl8; have hy8 := (grown_neT HSq.out.fR hg8 HY6.out (by decide)).trans HY6.out; have hz8 := (grown_neT HSq.out.fR hg8 HZ6.out (by decide)).trans HZ6.out; have ht8 := (grown_neT HSq.out.fR hg8 HT6.out (by decide)).trans HT6.out; have HSq8 := Lib.hid (HSq.out.appM HB.out hr8 hg8 hn8); have HY8 : Hid (Fb w8 (W.heap.size + 1) 69 _) := Lib.hid hy8; have HZ8 : Hid (Fb w8 W.heap.size 69 _) := Lib.hid hz8; have HT8 : Hid (Fb w8 w5.heap.size 69 _) := Lib.hid ht8; clear t60 y61 y60 yf60 hy8 hz8 ht8 hr8 hg8 hn8; have y0 := HY8.out.cell 0; have y1 := HY8.out.cell 1; have y2 := HY8.out.cell 2; have yf0 := HY8.out.free 0; have yf1 := HY8.out.free 1; have yf2 := HY8.out.free 2; have t0 := HT8.out.cell 0; have t1 := HT8.out.cell 1; have t2 := HT8.out.cell 2; have HSq9 := Lib.hid (HSq8.out.set HY8.out (Nat.le_succ _) HB.out 0 (.slice A8 n8 c8)); have HY9 := Lib.hid (HY8.out.set 0 (.slice A8 n8 c8)); have HZ9 := Lib.hid (HZ8.out.far (g' := W.heap.size + 1) 0 (.slice A8 n8 c8) (by omega)); have HT9 := Lib.hid (HT8.out.far (g' := W.heap.size + 1) 0 (.slice A8 n8 c8) (by omega)); have HB9 := Lib.hid (show B ≤ (w8.setCell ⟨W.heap.size + 1, 0, none⟩ (.slice A8 n8 c8)).heap.size from Nat.le_trans HB.out HSq9.out.bd.fr.b.size))
            | (at_builtin; refine wpl_app_i rfl _ _ rfl rfl rfl HSq9.out.yR HSq9.out.lR HB9.out HFin.out.2.2.2.1 HFin.out.2.2.2.2.2 ?_; intro A10 n10 c10 w10 hl10 hr10 hg10 hn10; clear hl10; have hy10 := (grown_neT HSq9.out.yR hg10 HY9.out (by decide)).trans HY9.out; have hz10 := (grown_neT HSq9.out.yR hg10 HZ9.out (by decide)).trans HZ9.out; have ht10 := (grown_neT HSq9.out.yR hg10 HT9.out (by decide)).trans HT9.out; have HSq10 := Lib.hid (HSq9.out.appI HB.out hr10 hg10 hn10); have HY10 : Hid (Fb w10 (W.heap.size + 1) 69 _) := Lib.hid hy10; have HZ10 : Hid (Fb w10 W.heap.size 69 _) := Lib.hid hz10; have HT10 : Hid (Fb w10 w5.heap.size 69 _) := Lib.hid ht10; clear y0 y1 y2 yf0 yf1 yf2 t0 t1 t2 hy10 hz10 ht10 hr10 hg10 hn10; have y0 := HY10.out.cell 0; have y1 := HY10.out.cell 1; have y2 := HY10.out.cell 2; have yf0 := HY10.out.free 0; have yf1 := HY10.out.free 1; have yf2 := HY10.out.free 2; have t0 := HT10.out.cell 0; have t1 := HT10.out.cell 1; have t2 := HT10.out.cell 2))
          go_roundg (ts.length - (j + 1))
          case measure => have := HJ.out; have := HLT.out; omega
          case rel =>
            have hSq := ((HSq10.out.set HY10.out (Nat.le_succ _) HB.out 1 (.slice A10 n10 c10)).set (HY10.out.set 1 (.slice A10 n10 c10)) (Nat.le_succ _) HB.out 2 (.bool true))
            have hfin := alt_fin H1.out H2r.out hSq.bd hSq.fR hSq.fo hSq.yR hSq.yo
            refine ⟨j + 1, _, _, _, _, _, _, T2, sy2, altG g g2, _, by have := HLT.out; omega, by rw [Int.natCast_add]; rfl, ?_, ?_, ((HZ10.out.far 1 (.slice A10 n10 c10) (by omega)).far 2 (.bool true) (by omega)), ((HY10.out.set 1 (.slice A10 n10 c10)).set 2 (.bool true))⟩
            · show _ = (g.em || g2.em)
              rw [← HE1.out, ← HE2.out]
              rfl
            · rw [langs_take ts j t HT.out, lvs_take ts j t HT.out]
              exact hfin.iff (fun w => (altl_snoc _ _ w).symm)
      | true =>
        cases e2 with
        | false =>
          go_wp2_with (first
            | (at_builtin; refine wpl_app_m rfl _ _ rfl rfl rfl HSq.out.fR H26.out.fR HB7.out HFin.out.2.2.1 HFin.out.2.2.2.2.1 ?_; intro A8 n8 c8 w8 hl8 hr8 hg8 hn8; clear hl8; have hy8 := (grown_neT HSq.out.fR hg8 HY6.out (by decide)).trans HY6.out; have hz8 := (grown_neT HSq.out.fR hg8 HZ6.out (by decide)).trans HZ6.out; have ht8 := (grown_neT HSq.out.fR hg8 HT6.out (by decide)).trans HT6.out; have HSq8 := Lib.hid (HSq.out.appM HB.out hr8 hg8 hn8); have HY8 : Hid (Fb w8 (W.heap.size + 1) 69 _) := Lib.hid hy8; have HZ8 : Hid (Fb w8 W.heap.size 69 _) := Lib.hid hz8; have HT8 : Hid (Fb w8 w5.heap.size 69 _) := Lib.hid ht8; clear t60 y61 y60 yf60 hy8 hz8 ht8 hr8 hg8 hn8; have y0 := HY8.out.cell 0; have y1 := HY8.out.cell 1; have y2 := HY8.out.cell 2; have yf0 := HY8.out.free 0; have yf1 := HY8.out.free 1; have yf2 := HY8.out.free 2; have t0 := HT8.out.cell 0; have t1 := HT8.out.cell 1; have t2 := HT8.out.cell 2; have HSq9 := Lib.hid (HSq8.out.set HY8.out (Nat.le_succ _) HB.out 0 (.slice A8 n8 c8)); have HY9 := Lib.hid (HY8.out.set 0 (.slice A8 n8 c8)); have HZ9 := Lib.hid (HZ8.out.far (g' := W.heap.size + 1) 0 (.slice A8 n8 c8) (by omega)); have HT9 := Lib.hid (HT8.out.far (g' := W.heap.size + 1) 0 (.slice A8 n8 c8) (by omega)); have HB9 := Lib.hid (show B ≤ (w8.setCell ⟨W.heap.size + 1, 0, none⟩ (.slice A8 n8 c8)).heap.size from Nat.le_trans HB.out HSq9.out.bd.fr.b.size))
            | (at_builtin; refine wpl_app_i rfl _ _ rfl rfl rfl HSq9.out.yR HSq9.out.lR HB9.out HFin.out.2.2.2.1 HFin.out.2.2.2.2.2 ?_; intro A10 n10 c10 w10 hl10 hr10 hg10 hn10; clear hl10; have hy10 := (grown_neT HSq9.out.yR hg10 HY9.out (by decide)).trans HY9.out; have hz10 := (grown_neT HSq9.out.yR hg10 HZ9.out (by decide)).trans HZ9.out; have ht10 := (grown_neT HSq9.out.yR hg10 HT9.out (by decide)).trans HT9.out; have HSq10 := Lib.hid (HSq9.out.appI HB.out hr10 hg10 hn10); have HY10 : Hid (Fb w10 (W.heap.size + 1) 69 _) := Lib.hid hy10; have HZ10 : Hid (Fb w10 W.heap.size 69 _) := Lib.hid hz10; have HT10 : Hid (Fb w10 w5.heap.size 69 _) := Lib.hid ht10; clear y0 y1 y2 yf0 yf1 yf2 t0 t1 t2 hy10 hz10 ht10 hr10 hg10 hn10; have y0 := HY10.out.cell 0; have y1 := HY10.out.cell 1; have y2 := HY10.out.cell 2; have yf0 := HY10.out.free 0; have yf1 := HY10.out.free 1; have yf2 := HY10.out.free 2; have t0 := HT10.out.cell 0; have t1 := HT10.out.cell 1; have t2 := HT10.out.cell 2))
          go_roundg (ts.length - (j + 1))
          case measure => have := HJ.out; have := HLT.out; omega
          case rel =>
            have hSq := ((HSq10.out.set HY10.out (Nat.le_succ _) HB.out 1 (.slice A10 n10 c10)).set (HY10.out.set 1 (.slice A10 n10 c10)) (Nat.le_succ _) HB.out 2 (.bool true))
            have hfin := alt_fin H1.out H2r.out hSq.bd hSq.fR hSq.fo hSq.yR hSq.yo
            refine ⟨j + 1, _, _, _, _, _, _, T2, sy2, altG g g2, _, by have := HLT.out; omega, by rw [Int.natCast_add]; rfl, ?_, ?_, ((HZ10.out.far 1 (.slice A10 n10 c10) (by omega)).far 2 (.bool true) (by omega)), ((HY10.out.set 1 (.slice A10 n10 c10)).set 2 (.bool true))⟩
            · show _ = (g.em || g2.em)
              rw [← HE1.out, ← HE2.out]
              rfl
            · rw [langs_take ts j t HT.out, lvs_take ts j t HT.out]
              exact hfin.iff (fun w => (altl_snoc _ _ w).symm)
        | true =>
          go_wp2_with (first
            | (at_builtin; refine wpl_app_m rfl _ _ rfl rfl rfl HSq.out.fR H26.out.fR HB7.out HFin.out.2.2.1 HFin.out.2.2.2.2.1 ?_; intro A8 n8 c8 w8 hl8 hr8 hg8 hn8; clear hl8; have hy8 := (grown_neT HSq.out.fR hg8 HY6.out (by decide)).trans HY6.out; have hz8 := (grown_neT HSq.out.fR hg8 HZ6.out (by decide)).trans HZ6.out; have ht8 := (grown_neT HSq.out.fR hg8 HT6.out (by decide)).trans HT6.out; have HSq8 := Lib.hid (HSq.out.appM HB.out hr8 hg8 hn8); have HY8 : Hid (Fb w8 (W.heap.size + 1) 69 _) := Lib.hid hy8; have HZ8 : Hid (Fb w8 W.heap.size 69 _) := Lib.hid hz8; have HT8 : Hid (Fb w8 w5.heap.size 69 _) := Lib.hid ht8; clear t60 y61 y60 yf60 hy8 hz8 ht8 hr8 hg8 hn8; have y0 := HY8.out.cell 0; have y1 := HY8.out.cell 1; have y2 := HY8.out.cell 2; have yf0 := HY8.out.free 0; have yf1 := HY8.out.free 1; have yf2 := HY8.out.free 2; have t0 := HT8.out.cell 0; have t1 := HT8.out.cell 1; have t2 := HT8.out.cell 2; have HSq9 := Lib.hid (HSq8.out.set HY8.out (Nat.le_succ _) HB.out 0 (.slice A8 n8 c8)); have HY9 := Lib.hid (HY8.out.set 0 (.slice A8 n8 c8)); have HZ9 := Lib.hid (HZ8.out.far (g' := W.heap.size + 1) 0 (.slice A8 n8 c8) (by omega)); have HT9 := Lib.hid (HT8.out.far (g' := W.heap.size + 1) 0 (.slice A8 n8 c8) (by omega)); have HB9 := Lib.hid (show B ≤ (w8.setCell ⟨W.heap.size + 1, 0, none⟩ (.slice A8 n8 c8)).heap.size from Nat.le_trans HB.out HSq9.out.bd.fr.b.size))
            | (at_builtin; refine wpl_app_i rfl _ _ rfl rfl rfl HSq9.out.yR HSq9.out.lR HB9.out HFin.out.2.2.2.1 HFin.out.2.2.2.2.2 ?_; intro A10 n10 c10 w10 hl10 hr10 hg10 hn10; clear hl10; have hy10 := (grown_neT HSq9.out.yR hg10 HY9.out (by decide)).trans HY9.out; have hz10 := (grown_neT HSq9.out.yR hg10 HZ9.out (by decide)).trans HZ9.out; have ht10 := (grown_neT HSq9.out.yR hg10 HT9.out (by decide)).trans HT9.out; have HSq10 := Lib.hid (HSq9.out.appI HB.out hr10 hg10 hn10); have HY10 : Hid (Fb w10 (W.heap.size + 1) 69 _) := Lib.hid hy10; have HZ10 : Hid (Fb w10 W.heap.size 69 _) := Lib.hid hz10; have HT10 : Hid (Fb w10 w5.heap.size 69 _) := Lib.hid ht10; clear y0 y1 y2 yf0 yf1 yf2 t0 t1 t2 hy10 hz10 ht10 hr10 hg10 hn10; have y0 := HY10.out.cell 0; have y1 := HY10.out.cell 1; have y2 := HY10.out.cell 2; have yf0 := HY10.out.free 0; have yf1 := HY10.out.free 1; have yf2 := HY10.out.free 2; have t0 := HT10.out.cell 0; have t1 := HT10.out.cell 1; have t2 := HT10.out.cell 2))
          go_roundg (ts.length - (j + 1))
          case measure => have := HJ.out; have := HLT.out; omega
          case rel =>
            have hSq := ((HSq10.out.set HY10.out (Nat.le_succ _) HB.out 1 (.slice A10 n10 c10)).set (HY10.out.set 1 (.slice A10 n10 c10)) (Nat.le_succ _) HB.out 2 (.bool true))
            have hfin := alt_fin H1.out H2r.out hSq.bd hSq.fR hSq.fo hSq.yR hSq.yo
            refine ⟨j + 1, _, _, _, _, _, _, T2, sy2, altG g g2, _, by have := HLT.out; omega, by rw [Int.natCast_add]; rfl, ?_, ?_, ((HZ10.out.far 1 (.slice A10 n10 c10) (by omega)).far 2 (.bool true) (by omega)), ((HY10.out.set 1 (.slice A10 n10 c10)).set 2 (.bool true))⟩
            · show _ = (g.em || g2.em)
              rw [← HE1.out, ← HE2.out]
              rfl
            · rw [langs_take ts j t HT.out, lvs_take ts j t HT.out]
              exact hfin.iff (fun w => (altl_snoc _ _ w).symm)
    · obtain rfl : j = ts.length := by omega
      have hn := HN0.out
      have j1 : ¬ ((ts.length : Int) < (n0 : Int)) := by omega
      have z0 := hz.cell 0
      have z1 := hz.cell 1
      have z2 := hz.cell 2
      have zf0 := hz.free 0
      have zf1 := hz.free 1
      have zf2 := hz.free 2
      have y0 := hy.cell 0
      have y1 := hy.cell 1
      have y2 := hy.cell 2
      have HZ9 := Lib.hid hz
      have H1 := Lib.hid h1
      have HE1 := Lib.hid hem
      clear h1 hz hy hem hj hlt hn
      go_wp2
      have hY9 : Fb (((wr.setCell ⟨W.heap.size, 0, none⟩ (.slice Af nf cf)).setCell ⟨W.heap.size, 1, none⟩ (.slice Al nl cl)).setCell ⟨W.heap.size, 2, none⟩ (.bool em)) W.heap.size 69 #[.slice Af nf cf, .slice Al nl cl, .bool em] := ((HZ9.out.set 0 _).set 1 _).set 2 _
      have hL9 := ((H1.out.set HZ9.out (Nat.le_refl _) HB.out 0 (.slice Af nf cf)).set (HZ9.out.set 0 _) (Nat.le_refl _) HB.out 1 (.slice Al nl cl)).set ((HZ9.out.set 0 _).set 1 _) (Nat.le_refl _) HB.out 2 (.bool em)
      obtain ⟨W9, hW9⟩ : ∃ W9, W9 = (((wr.setCell ⟨W.heap.size, 0, none⟩ (.slice Af nf cf)).setCell ⟨W.heap.size, 1, none⟩ (.slice Al nl cl)).setCell ⟨W.heap.size, 2, none⟩ (.bool em)) := ⟨_, rfl⟩
      rw [← hW9] at hY9 hL9
      rw [← hW9]
      have v0 := hY9.cell 0
      have v1 := hY9.cell 1
      have v2 := hY9.cell 2
      clear hW9
      try simp only [Exit.inBlock, Exit.then]
      refine bodyPost_ret (results_cell_row (P := Try.prog) rfl _ W9 W.heap.size 69 _ (0, 0) _ rfl hY9 Try.underlying69 rfl (by kernel_rfl)) rfl ?_
      rw [List.take_length] at hL9
      exact ⟨_, _, _, _, g, by rw [← HE1.out], hL9⟩
end Go.Proofs.Ytghlajfalgdkfaa

/-
  again: any.
-/
namespace Go.Proofs.Ytghlajfalgdkfaa
open Go.RowKit
set_option linter.unusedVariables false
set_option linter.unusedSimpArgs false
set_option maxRecDepth 100000

def agL (k : Int) (A : Lg) : Lg := if k = 4 then StarL A else if k = 5 then plusL A else fun w => w = [] ∨ A w
def AgR (B d n : Nat) (T : List St) (sy sy1 : Nat → Sy) (A' : Lg) (W w : World) (f l : Value) (T1 : List St) (e : Ending) (w' : World) : Prop := ∃ T3 g', e = .returned (.agg #[f, l, .bool g'.em]) ∧ LyR B d T sy A' n W f l T3 sy1 g' w' ∧ Fr B T1 T3 w w'
set_option maxHeartbeats 16000000 in
theorem again_gen {B d n : Nat} {k : Int} {T T1 : List St} {sy sy1 : Nat → Sy} {A : Lg} {Af Al : Option Addr} {nf cf nl cl : Nat} {em : Bool} {g : Gd} {W w : World} (h : LyR B d T sy A n W (.slice Af nf cf) (.slice Al nl cl) T1 sy1 g w) (hem : em = g.em) (hT : T1.length ≤ 1000) (hB : B ≤ W.heap.size) (hk : k = 4 ∨ k = 5 ∨ k = 6) :
    Calls Try.prog 51 #[.pointer (some ⟨d, 0, none⟩), .int .i64 k, .agg #[.slice Af nf cf, .slice Al nl cl, .bool em]] w (AgR B d n T sy sy1 (agL k A) W w (.slice Af nf cf) (.slice Al nl cl) T1) := by
  obtain ⟨W1, hW1⟩ : ∃ W1, W1 = (w.alloc (.cells #[.slice Af nf cf, .slice Al nl cl, .bool em] 69)).alloc (.cells #[.slice none 0 0, .slice none 0 0, .bool false] 69) := ⟨_, rfl⟩
  have hb1 : Below w.heap.size w W1 := by rw [hW1]; exact ((Below.refl _ _).alloc (Nat.le_refl _) _).alloc (by simp) _
  have hX : Fb W1 w.heap.size 69 #[.slice Af nf cf, .slice Al nl cl, .bool em] := by rw [hW1]; exact (Fb.new w _ _).alloc _
  have hY : Fb W1 (w.heap.size + 1) 69 #[.slice none 0 0, .slice none 0 0, .bool false] := by
    have := Fb.new (w.alloc (.cells #[.slice Af nf cf, .slice Al nl cl, .bool em] 69)) 69 #[.slice none 0 0, .slice none 0 0, .bool false]
    rw [World.size_alloc] at this
    rw [hW1]; exact this
  have hBw : B ≤ w.heap.size := Nat.le_trans hB h.fr.b.size
  have h1 := h.below hb1 hBw
  have hlen := h.len
  obtain ⟨hf1, hf2⟩ := h.fl
  have hll : ∀ q ∈ g.l, q < T1.length := fun q hq => by have := (h.ok.l q hq).2; have := h.hi; omega
  have cD := lead_any (B1 := B) (B2 := B) h1.ma h1.wt h1.fg hT h1.lR h1.fR (fun q hq => (h1.fd q hq).1) hll (by omega) (by omega) hT (Nat.le_trans hBw hb1.size)
  have hNX := OB.not h1.ma hX (by decide)
  have hNY := OB.not h1.ma hY (by decide)
  have HL1 := Lib.hid h1
  have H0 := Lib.hid h
  have HB1 := Lib.hid (Fr.below (T := T1) hb1 hBw)
  have HX := Lib.hid (And.intro hX hNX)
  have HY := Lib.hid (And.intro hY hNY)
  have x0 := hX.cell 0
  have x1 := hX.cell 1
  have x2 := hX.cell 2
  have HBB := Lib.hid hB
  have HWw := Lib.hid h.fr.b.size
  have HBw := Lib.hid hBw
  have HE := Lib.hid hem
  have HL := Lib.hid h.L
  clear h h1 hB hb1 hX hY hBw hlen hf1 hf2 hll hNX hNY hem
  subst hW1
  rcases hk with rfl | rfl | rfl
  · cases em with
    | false =>
      go_enter Try.func51, Try.ntmps51
      go_wp2_with (go_at_call 31; (with_reducible refine cD.mono ?_); rintro e w5 ⟨rfl, T3, hM5, hfr5, hlk⟩; have hx5 := hfr5.k _ _ _ HX.out.1 (by decide) (by decide) HX.out.2; have hy5 := hfr5.k _ _ _ HY.out.1 (by decide) (by decide) HY.out.2; have r0 := hx5.cell 0; have r1 := hx5.cell 1; have r2 := hx5.cell 2; have rf := hx5.free 2; have t0 := hy5.cell 0; have t1 := hy5.cell 1; have t2 := hy5.cell 2; have u0 := hy5.free 0; have u1 := hy5.free 1; have u2 := hy5.free 2; have HM5 := Lib.hid hM5; have HF5 := Lib.hid hfr5; have HK5 := Lib.hid hlk; have HX5 := Lib.hid hx5; have HY5 := Lib.hid hy5; clear hM5 hfr5 hlk hx5 hy5)
      have hL0 := again_fin HL1.out HK5.out HM5.out HF5.out true (fun w => by rw [star_L (a := g)]; exact (starL_congr HL.out w) : ∀ w, (Gd.mk g.lo g.hi g.f g.l true).L (linked g.l g.f (dl T1)) w ↔ agL 4 A w)
      have hxw : W.heap.size ≤ w.heap.size := HWw.out
      have hY9 : Fb ((((w5.setCell ⟨w.heap.size, 2, none⟩ (.bool true)).setCell ⟨w.heap.size + 1, 0, none⟩ (.slice Af nf cf)).setCell ⟨w.heap.size + 1, 1, none⟩ (.slice Al nl cl)).setCell ⟨w.heap.size + 1, 2, none⟩ (.bool true)) (w.heap.size + 1) 69 #[.slice Af nf cf, .slice Al nl cl, .bool true] := (((HY5.out.far _ _ (by omega)).set 0 _).set 1 _).set 2 _
      have hL9 := (((hL0.set HX5.out hxw HBB.out 2 (.bool true)).set (HY5.out.far (g' := w.heap.size) 2 (.bool true) (by omega)) (by omega) HBB.out 0 (.slice Af nf cf)).set ((HY5.out.far (g' := w.heap.size) 2 (.bool true) (by omega)).set 0 _) (by omega) HBB.out 1 (.slice Al nl cl)).set (((HY5.out.far (g' := w.heap.size) 2 (.bool true) (by omega)).set 0 _).set 1 _) (by omega) HBB.out 2 (.bool true)
      have hF9 : Fr B T1 T3 w ((((w5.setCell ⟨w.heap.size, 2, none⟩ (.bool true)).setCell ⟨w.heap.size + 1, 0, none⟩ (.slice Af nf cf)).setCell ⟨w.heap.size + 1, 1, none⟩ (.slice Al nl cl)).setCell ⟨w.heap.size + 1, 2, none⟩ (.bool true)) := ⟨(((HB1.out.trans HF5.out).b.setCell HBw.out _).setCell (Nat.le_trans HBw.out (Nat.le_succ _)) _ |>.setCell (Nat.le_trans HBw.out (Nat.le_succ _)) _).setCell (Nat.le_trans HBw.out (Nat.le_succ _)) _, fun q t cs hf a1 a2 a3 => (((((HB1.out.trans HF5.out).k q t cs hf a1 a2 a3).far _ _ (by have := hf.lt; omega)).far _ _ (by have := hf.lt; omega)).far _ _ (by have := hf.lt; omega)).far _ _ (by have := hf.lt; omega), (HB1.out.trans HF5.out).o⟩
      obtain ⟨W9, hW9⟩ : ∃ W9, W9 = ((((w5.setCell ⟨w.heap.size, 2, none⟩ (.bool true)).setCell ⟨w.heap.size + 1, 0, none⟩ (.slice Af nf cf)).setCell ⟨w.heap.size + 1, 1, none⟩ (.slice Al nl cl)).setCell ⟨w.heap.size + 1, 2, none⟩ (.bool true)) := ⟨_, rfl⟩
      rw [← hW9] at hY9 hL9 hF9
      rw [← hW9]
      have v0 := hY9.cell 0
      have v1 := hY9.cell 1
      have v2 := hY9.cell 2
      clear hW9
      try simp only [Exit.inBlock, Exit.then]
      refine bodyPost_ret (results_cell_row (P := Try.prog) rfl _ W9 (w.heap.size + 1) 69 _ (0, 0) _ rfl hY9 Try.underlying69 rfl (by kernel_rfl)) rfl ?_
      exact ⟨_, _, rfl, hL9, hF9⟩
    | true =>
      go_enter Try.func51, Try.ntmps51
      go_wp2_with (go_at_call 31; (with_reducible refine cD.mono ?_); rintro e w5 ⟨rfl, T3, hM5, hfr5, hlk⟩; have hx5 := hfr5.k _ _ _ HX.out.1 (by decide) (by decide) HX.out.2; have hy5 := hfr5.k _ _ _ HY.out.1 (by decide) (by decide) HY.out.2; have r0 := hx5.cell 0; have r1 := hx5.cell 1; have r2 := hx5.cell 2; have rf := hx5.free 2; have t0 := hy5.cell 0; have t1 := hy5.cell 1; have t2 := hy5.cell 2; have u0 := hy5.free 0; have u1 := hy5.free 1; have u2 := hy5.free 2; have HM5 := Lib.hid hM5; have HF5 := Lib.hid hfr5; have HK5 := Lib.hid hlk; have HX5 := Lib.hid hx5; have HY5 := Lib.hid hy5; clear hM5 hfr5 hlk hx5 hy5)
      have hL0 := again_fin HL1.out HK5.out HM5.out HF5.out true (fun w => by rw [star_L (a := g)]; exact (starL_congr HL.out w) : ∀ w, (Gd.mk g.lo g.hi g.f g.l true).L (linked g.l g.f (dl T1)) w ↔ agL 4 A w)
      have hxw : W.heap.size ≤ w.heap.size := HWw.out
      have hY9 : Fb ((((w5.setCell ⟨w.heap.size, 2, none⟩ (.bool true)).setCell ⟨w.heap.size + 1, 0, none⟩ (.slice Af nf cf)).setCell ⟨w.heap.size + 1, 1, none⟩ (.slice Al nl cl)).setCell ⟨w.heap.size + 1, 2, none⟩ (.bool true)) (w.heap.size + 1) 69 #[.slice Af nf cf, .slice Al nl cl, .bool true] := (((HY5.out.far _ _ (by omega)).set 0 _).set 1 _).set 2 _
      have hL9 := (((hL0.set HX5.out hxw HBB.out 2 (.bool true)).set (HY5.out.far (g' := w.heap.size) 2 (.bool true) (by omega)) (by omega) HBB.out 0 (.slice Af nf cf)).set ((HY5.out.far (g' := w.heap.size) 2 (.bool true) (by omega)).set 0 _) (by omega) HBB.out 1 (.slice Al nl cl)).set (((HY5.out.far (g' := w.heap.size) 2 (.bool true) (by omega)).set 0 _).set 1 _) (by omega) HBB.out 2 (.bool true)
      have hF9 : Fr B T1 T3 w ((((w5.setCell ⟨w.heap.size, 2, none⟩ (.bool true)).setCell ⟨w.heap.size + 1, 0, none⟩ (.slice Af nf cf)).setCell ⟨w.heap.size + 1, 1, none⟩ (.slice Al nl cl)).setCell ⟨w.heap.size + 1, 2, none⟩ (.bool true)) := ⟨(((HB1.out.trans HF5.out).b.setCell HBw.out _).setCell (Nat.le_trans HBw.out (Nat.le_succ _)) _ |>.setCell (Nat.le_trans HBw.out (Nat.le_succ _)) _).setCell (Nat.le_trans HBw.out (Nat.le_succ _)) _, fun q t cs hf a1 a2 a3 => (((((HB1.out.trans HF5.out).k q t cs hf a1 a2 a3).far _ _ (by have := hf.lt; omega)).far _ _ (by have := hf.lt; omega)).far _ _ (by have := hf.lt; omega)).far _ _ (by have := hf.lt; omega), (HB1.out.trans HF5.out).o⟩
      obtain ⟨W9, hW9⟩ : ∃ W9, W9 = ((((w5.setCell ⟨w.heap.size, 2, none⟩ (.bool true)).setCell ⟨w.heap.size + 1, 0, none⟩ (.slice Af nf cf)).setCell ⟨w.heap.size + 1, 1, none⟩ (.slice Al nl cl)).setCell ⟨w.heap.size + 1, 2, none⟩ (.bool true)) := ⟨_, rfl⟩
      rw [← hW9] at hY9 hL9 hF9
      rw [← hW9]
      have v0 := hY9.cell 0
      have v1 := hY9.cell 1
      have v2 := hY9.cell 2
      clear hW9
      try simp only [Exit.inBlock, Exit.then]
      refine bodyPost_ret (results_cell_row (P := Try.prog) rfl _ W9 (w.heap.size + 1) 69 _ (0, 0) _ rfl hY9 Try.underlying69 rfl (by kernel_rfl)) rfl ?_
      exact ⟨_, _, rfl, hL9, hF9⟩
  · cases em with
    | false =>
      go_enter Try.func51, Try.ntmps51
      go_wp2_with (go_at_call 31; (with_reducible refine cD.mono ?_); rintro e w5 ⟨rfl, T3, hM5, hfr5, hlk⟩; have hx5 := hfr5.k _ _ _ HX.out.1 (by decide) (by decide) HX.out.2; have hy5 := hfr5.k _ _ _ HY.out.1 (by decide) (by decide) HY.out.2; have r0 := hx5.cell 0; have r1 := hx5.cell 1; have r2 := hx5.cell 2; have rf := hx5.free 2; have t0 := hy5.cell 0; have t1 := hy5.cell 1; have t2 := hy5.cell 2; have u0 := hy5.free 0; have u1 := hy5.free 1; have u2 := hy5.free 2; have HM5 := Lib.hid hM5; have HF5 := Lib.hid hfr5; have HK5 := Lib.hid hlk; have HX5 := Lib.hid hx5; have HY5 := Lib.hid hy5; clear hM5 hfr5 hlk hx5 hy5)
      have hL0 := again_fin HL1.out HK5.out HM5.out HF5.out false (fun w => by rw [show (false : Bool) = g.em from HE.out, plus_L (a := g)]; exact (plusL_congr HL.out w) : ∀ w, (Gd.mk g.lo g.hi g.f g.l false).L (linked g.l g.f (dl T1)) w ↔ agL 5 A w)
      have hxw : W.heap.size ≤ w.heap.size := HWw.out
      have hY9 : Fb ((((w5.setCell ⟨w.heap.size, 2, none⟩ (.bool false)).setCell ⟨w.heap.size + 1, 0, none⟩ (.slice Af nf cf)).setCell ⟨w.heap.size + 1, 1, none⟩ (.slice Al nl cl)).setCell ⟨w.heap.size + 1, 2, none⟩ (.bool false)) (w.heap.size + 1) 69 #[.slice Af nf cf, .slice Al nl cl, .bool false] := (((HY5.out.far _ _ (by omega)).set 0 _).set 1 _).set 2 _
      have hL9 := (((hL0.set HX5.out hxw HBB.out 2 (.bool false)).set (HY5.out.far (g' := w.heap.size) 2 (.bool false) (by omega)) (by omega) HBB.out 0 (.slice Af nf cf)).set ((HY5.out.far (g' := w.heap.size) 2 (.bool false) (by omega)).set 0 _) (by omega) HBB.out 1 (.slice Al nl cl)).set (((HY5.out.far (g' := w.heap.size) 2 (.bool false) (by omega)).set 0 _).set 1 _) (by omega) HBB.out 2 (.bool false)
      have hF9 : Fr B T1 T3 w ((((w5.setCell ⟨w.heap.size, 2, none⟩ (.bool false)).setCell ⟨w.heap.size + 1, 0, none⟩ (.slice Af nf cf)).setCell ⟨w.heap.size + 1, 1, none⟩ (.slice Al nl cl)).setCell ⟨w.heap.size + 1, 2, none⟩ (.bool false)) := ⟨(((HB1.out.trans HF5.out).b.setCell HBw.out _).setCell (Nat.le_trans HBw.out (Nat.le_succ _)) _ |>.setCell (Nat.le_trans HBw.out (Nat.le_succ _)) _).setCell (Nat.le_trans HBw.out (Nat.le_succ _)) _, fun q t cs hf a1 a2 a3 => (((((HB1.out.trans HF5.out).k q t cs hf a1 a2 a3).far _ _ (by have := hf.lt; omega)).far _ _ (by have := hf.lt; omega)).far _ _ (by have := hf.lt; omega)).far _ _ (by have := hf.lt; omega), (HB1.out.trans HF5.out).o⟩
      obtain ⟨W9, hW9⟩ : ∃ W9, W9 = ((((w5.setCell ⟨w.heap.size, 2, none⟩ (.bool false)).setCell ⟨w.heap.size + 1, 0, none⟩ (.slice Af nf cf)).setCell ⟨w.heap.size + 1, 1, none⟩ (.slice Al nl cl)).setCell ⟨w.heap.size + 1, 2, none⟩ (.bool false)) := ⟨_, rfl⟩
      rw [← hW9] at hY9 hL9 hF9
      rw [← hW9]
      have v0 := hY9.cell 0
      have v1 := hY9.cell 1
      have v2 := hY9.cell 2
      clear hW9
      try simp only [Exit.inBlock, Exit.then]
      refine bodyPost_ret (results_cell_row (P := Try.prog) rfl _ W9 (w.heap.size + 1) 69 _ (0, 0) _ rfl hY9 Try.underlying69 rfl (by kernel_rfl)) rfl ?_
      exact ⟨_, _, rfl, hL9, hF9⟩
    | true =>
      go_enter Try.func51, Try.ntmps51
      go_wp2_with (go_at_call 31; (with_reducible refine cD.mono ?_); rintro e w5 ⟨rfl, T3, hM5, hfr5, hlk⟩; have hx5 := hfr5.k _ _ _ HX.out.1 (by decide) (by decide) HX.out.2; have hy5 := hfr5.k _ _ _ HY.out.1 (by decide) (by decide) HY.out.2; have r0 := hx5.cell 0; have r1 := hx5.cell 1; have r2 := hx5.cell 2; have rf := hx5.free 2; have t0 := hy5.cell 0; have t1 := hy5.cell 1; have t2 := hy5.cell 2; have u0 := hy5.free 0; have u1 := hy5.free 1; have u2 := hy5.free 2; have HM5 := Lib.hid hM5; have HF5 := Lib.hid hfr5; have HK5 := Lib.hid hlk; have HX5 := Lib.hid hx5; have HY5 := Lib.hid hy5; clear hM5 hfr5 hlk hx5 hy5)
      have hL0 := again_fin HL1.out HK5.out HM5.out HF5.out true (fun w => by rw [show (true : Bool) = g.em from HE.out, plus_L (a := g)]; exact (plusL_congr HL.out w) : ∀ w, (Gd.mk g.lo g.hi g.f g.l true).L (linked g.l g.f (dl T1)) w ↔ agL 5 A w)
      have hxw : W.heap.size ≤ w.heap.size := HWw.out
      have hY9 : Fb ((((w5.setCell ⟨w.heap.size, 2, none⟩ (.bool true)).setCell ⟨w.heap.size + 1, 0, none⟩ (.slice Af nf cf)).setCell ⟨w.heap.size + 1, 1, none⟩ (.slice Al nl cl)).setCell ⟨w.heap.size + 1, 2, none⟩ (.bool true)) (w.heap.size + 1) 69 #[.slice Af nf cf, .slice Al nl cl, .bool true] := (((HY5.out.far _ _ (by omega)).set 0 _).set 1 _).set 2 _
      have hL9 := (((hL0.set HX5.out hxw HBB.out 2 (.bool true)).set (HY5.out.far (g' := w.heap.size) 2 (.bool true) (by omega)) (by omega) HBB.out 0 (.slice Af nf cf)).set ((HY5.out.far (g' := w.heap.size) 2 (.bool true) (by omega)).set 0 _) (by omega) HBB.out 1 (.slice Al nl cl)).set (((HY5.out.far (g' := w.heap.size) 2 (.bool true) (by omega)).set 0 _).set 1 _) (by omega) HBB.out 2 (.bool true)
      have hF9 : Fr B T1 T3 w ((((w5.setCell ⟨w.heap.size, 2, none⟩ (.bool true)).setCell ⟨w.heap.size + 1, 0, none⟩ (.slice Af nf cf)).setCell ⟨w.heap.size + 1, 1, none⟩ (.slice Al nl cl)).setCell ⟨w.heap.size + 1, 2, none⟩ (.bool true)) := ⟨(((HB1.out.trans HF5.out).b.setCell HBw.out _).setCell (Nat.le_trans HBw.out (Nat.le_succ _)) _ |>.setCell (Nat.le_trans HBw.out (Nat.le_succ _)) _).setCell (Nat.le_trans HBw.out (Nat.le_succ _)) _, fun q t cs hf a1 a2 a3 => (((((HB1.out.trans HF5.out).k q t cs hf a1 a2 a3).far _ _ (by have := hf.lt; omega)).far _ _ (by have := hf.lt; omega)).far _ _ (by have := hf.lt; omega)).far _ _ (by have := hf.lt; omega), (HB1.out.trans HF5.out).o⟩
      obtain ⟨W9, hW9⟩ : ∃ W9, W9 = ((((w5.setCell ⟨w.heap.size, 2, none⟩ (.bool true)).setCell ⟨w.heap.size + 1, 0, none⟩ (.slice Af nf cf)).setCell ⟨w.heap.size + 1, 1, none⟩ (.slice Al nl cl)).setCell ⟨w.heap.size + 1, 2, none⟩ (.bool true)) := ⟨_, rfl⟩
      rw [← hW9] at hY9 hL9 hF9
      rw [← hW9]
      have v0 := hY9.cell 0
      have v1 := hY9.cell 1
      have v2 := hY9.cell 2
      clear hW9
      try simp only [Exit.inBlock, Exit.then]
      refine bodyPost_ret (results_cell_row (P := Try.prog) rfl _ W9 (w.heap.size + 1) 69 _ (0, 0) _ rfl hY9 Try.underlying69 rfl (by kernel_rfl)) rfl ?_
      exact ⟨_, _, rfl, hL9, hF9⟩
  · cases em with
    | false =>
      have hY9 : Fb ((w.alloc (.cells #[.slice Af nf cf, .slice Al nl cl, .bool true] 69)).alloc (.cells #[.slice Af nf cf, .slice Al nl cl, .bool true] 69)) (w.heap.size + 1) 69 #[.slice Af nf cf, .slice Al nl cl, .bool true] := by
        have := Fb.new (w.alloc (.cells #[.slice Af nf cf, .slice Al nl cl, .bool true] 69)) 69 #[.slice Af nf cf, .slice Al nl cl, .bool true]
        rw [World.size_alloc] at this
        exact this
      have hb9 : Below w.heap.size w ((w.alloc (.cells #[.slice Af nf cf, .slice Al nl cl, .bool true] 69)).alloc (.cells #[.slice Af nf cf, .slice Al nl cl, .bool true] 69)) := ((Below.refl _ _).alloc (Nat.le_refl _) _).alloc (by simp) _
      have HY9 := Lib.hid hY9
      have HB9 := Lib.hid hb9
      clear hY9 hb9 cD x0 x1 x2
      have HG := Lib.hid H0.out
      go_enter Try.func51, Try.ntmps51
      go_wp2
      try simp only [Exit.inBlock, Exit.then]
      refine bodyPost_ret (results_cell_row (P := Try.prog) rfl _ _ (w.heap.size + 1) 69 _ (0, 0) _ rfl HY9.out Try.underlying69 rfl (by kernel_rfl)) rfl ?_
      exact ⟨T1, _, rfl, (opt_fin HG.out).below HB9.out HBw.out, Fr.below HB9.out HBw.out⟩
    | true =>
      have hY9 : Fb ((w.alloc (.cells #[.slice Af nf cf, .slice Al nl cl, .bool true] 69)).alloc (.cells #[.slice Af nf cf, .slice Al nl cl, .bool true] 69)) (w.heap.size + 1) 69 #[.slice Af nf cf, .slice Al nl cl, .bool true] := by
        have := Fb.new (w.alloc (.cells #[.slice Af nf cf, .slice Al nl cl, .bool true] 69)) 69 #[.slice Af nf cf, .slice Al nl cl, .bool true]
        rw [World.size_alloc] at this
        exact this
      have hb9 : Below w.heap.size w ((w.alloc (.cells #[.slice Af nf cf, .slice Al nl cl, .bool true] 69)).alloc (.cells #[.slice Af nf cf, .slice Al nl cl, .bool true] 69)) := ((Below.refl _ _).alloc (Nat.le_refl _) _).alloc (by simp) _
      have HY9 := Lib.hid hY9
      have HB9 := Lib.hid hb9
      clear hY9 hb9 cD x0 x1 x2
      have HG := Lib.hid H0.out
      go_enter Try.func51, Try.ntmps51
      go_wp2
      try simp only [Exit.inBlock, Exit.then]
      refine bodyPost_ret (results_cell_row (P := Try.prog) rfl _ _ (w.heap.size + 1) 69 _ (0, 0) _ rfl HY9.out Try.underlying69 rfl (by kernel_rfl)) rfl ?_
      exact ⟨T1, _, rfl, (opt_fin HG.out).below HB9.out HBw.out, Fr.below HB9.out HBw.out⟩
end Go.Proofs.Ytghlajfalgdkfaa
