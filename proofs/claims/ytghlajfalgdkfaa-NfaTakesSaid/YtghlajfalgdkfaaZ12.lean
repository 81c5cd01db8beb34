/-
  MERGED (a claim has at most 60 files): NgLy, NgBd, NgBe, NgBs.
-/
import Derived.Test.YtghlajfalgdkfaaZ09
/-
  What lay leaves, of any path; lay of a step.
-/
namespace Go.Proofs.Ytghlajfalgdkfaa
open Go.RowKit
set_option linter.unusedVariables false
set_option linter.unusedSimpArgs false
set_option maxRecDepth 100000

def dl (T : List St) : Nat → Mo → Prop := fun q x => ∃ s, T[q]? = some s ∧ x ∈ s.2.1
def Wt (sy : Nat → Sy) (T : List St) : Prop := ∀ (j : Nat) (s : St), T[j]? = some s → s.2.1.Pairwise ltM ∧ Gm sy T.length s.2.1
/-- What lay leaves: f, l where they lie, T' the states by now, g what was laid. -/
structure LyR (B d : Nat) (T : List St) (sy : Nat → Sy) (A : Lg) (n : Nat) (W : World) (f l : Value) (T' : List St) (sy' : Nat → Sy) (g : Gd) (w : World) : Prop where
  ma : Ma B d T' w
  fr : Fr B T T' W w
  pre : ∀ (j : Nat) (s : St), T[j]? = some s → ∃ s', T'[j]? = some s' ∧ s'.2.2 = s.2.2 ∧ ∀ x, x ∈ s'.2.1 ↔ x ∈ s.2.1
  len : T'.length = T.length + n
  sy : ∀ q, q < T.length → sy' q = sy q
  wt : Wt sy' T'
  fin : ∀ (j : Nat) (s : St), T'[j]? = some s → T.length ≤ j → s.2.2 = false
  lo : g.lo = T.length
  hi : g.hi = T'.length
  ok : g.Ok (dl T')
  L : ∀ w, g.L (dl T') w ↔ A w
  fR : MvR B w f g.f
  fd : ∀ q, f.ownBlock = some q → ¬ OB T' q ∧ W.heap.size ≤ q
  fg : Gm sy' T'.length g.f
  fn : (g.f.map (·.2)).Nodup
  lR : InR B w l g.l
  ld : ∀ q, l.ownBlock = some q → W.heap.size ≤ q
  ln : g.l.Nodup
def LyQ2 (B d : Nat) (T : List St) (sy : Nat → Sy) (A : Lg) (n : Nat) (W : World) (e : Ending) (w : World) : Prop := ∃ f l T' sy' g, e = .returned (.agg #[f, l, .bool g.em]) ∧ LyR B d T sy A n W f l T' sy' g w
/-- A machine stays where its blocks stay. -/
theorem Ma.keep {B d : Nat} {T : List St} {W w : World} (h : Ma B d T W) (hk : ∀ q t cs, Fb W q t cs → (t = 66 ∨ t = 73 ∨ OB T q) → w.heap[q]? = W.heap[q]?) : Ma B d T w := by
  obtain ⟨⟨A, c, h1, h2⟩, h3, h4, h5⟩ := h
  refine ⟨⟨A, c, (hk d _ _ h1 (.inl rfl)).trans h1, row_keep h2 fun k hk' => ?_⟩, fun i t ht => row_keep (h3 i t ht) fun k hk' => ?_, h4, h5⟩
  · obtain ⟨cs, hc⟩ := row_type h2 hk'
    exact hk k _ cs hc (.inr (.inl rfl))
  · obtain ⟨cs, hc⟩ := row_type (h3 i t ht) hk'
    exact hk k _ cs hc (.inr (.inr ⟨i, t, ht, hk'⟩))
section
variable {B d n : Nat} {T T' : List St} {sy sy' : Nat → Sy} {A : Lg} {W w w' : World} {f l : Value} {g : Gd}
/-- All stays but blocks that were made since, and aren't the result's. -/
theorem LyR.keep (h : LyR B d T sy A n W f l T' sy' g w) (hb : Below B w w') (hk : ∀ q t cs, Fb w q t cs → (q < W.heap.size ∨ t = 66 ∨ t = 73 ∨ t = 84 ∨ t = 3) → w'.heap[q]? = w.heap[q]?) : LyR B d T sy A n W f l T' sy' g w' :=
  { h with
    ma := h.ma.keep fun q t cs hf ht => hk q t cs hf (.inr (by
      rcases ht with ht | ht | ht
      · exact .inl ht
      · exact .inr (.inl ht)
      · obtain ⟨cs', hc⟩ := OB.type h.ma ht
        unfold Fb at hf hc
        rw [hf] at hc
        injection hc with hc
        injection hc with _ hc
        exact .inr (.inr (.inl hc))))
    fr := ⟨h.fr.b.trans hb, fun q t cs hf h1 h2 h3 => by
      have hq := h.fr.k q t cs hf h1 h2 h3
      exact (hk q t cs hq (.inl hf.lt)).trans hq, h.fr.o⟩
    fR := row_keep h.fR fun k hk' => by
      obtain ⟨cs, hc⟩ := row_type h.fR hk'
      exact hk k _ cs hc (.inr (.inr (.inr (.inl rfl))))
    lR := row_keep h.lR fun k hk' => by
      obtain ⟨cs, hc⟩ := row_type h.lR hk'
      exact hk k _ cs hc (.inr (.inr (.inr (.inr rfl)))) }
theorem LyR.below (h : LyR B d T sy A n W f l T' sy' g w) (hb : Below w.heap.size w w') (hB : B ≤ w.heap.size) : LyR B d T sy A n W f l T' sy' g w' := h.keep (hb.mono hB) fun q t cs hf _ => hb.block q hf.lt
theorem LyR.set (h : LyR B d T sy A n W f l T' sy' g w) {x : Nat} {cs : Array Value} (hx : Fb w x 69 cs) (hxW : W.heap.size ≤ x) (hB : B ≤ W.heap.size) (i : Nat) (v : Value) : LyR B d T sy A n W f l T' sy' g (w.setCell ⟨x, i, none⟩ v) :=
  h.keep ((Below.refl B w).setCell (Nat.le_trans hB hxW) v) fun q t cs' hf ht => heap_setCell_other _ _ _ _ (by
    rcases ht with ht | rfl | rfl | rfl | rfl
    · show q ≠ x; omega
    all_goals exact hf.nt hx (by decide))
theorem LyR.from {W0 : World} (h : LyR B d T sy A n W f l T' sy' g w) (hb : Below W0.heap.size W0 W) (hB : B ≤ W0.heap.size) : LyR B d T sy A n W0 f l T' sy' g w :=
  { h with
    fr := (Fr.below hb hB).trans h.fr
    fd := fun q hq => ⟨(h.fd q hq).1, Nat.le_trans hb.size (h.fd q hq).2⟩
    ld := fun q hq => Nat.le_trans hb.size (h.ld q hq) }
theorem LyR.iff {A' : Lg} (h : LyR B d T sy A n W f l T' sy' g w) (hA : ∀ w, A w ↔ A' w) : LyR B d T sy A' n W f l T' sy' g w := { h with L := fun w => (h.L w).trans (hA w) }
end
theorem Wt.more {sy : Nat → Sy} {T : List St} (h : Wt sy T) (s : Sy) : Wt (fun q => if q = T.length then s else sy q) (T ++ [(.slice none 0 0, [], false)]) := fun j t hj => by
  rw [List.getElem?_append] at hj
  split at hj
  · obtain ⟨h1, h2⟩ := h j t hj
    refine ⟨h1, fun y hy => ?_⟩
    obtain ⟨h3, h4⟩ := h2 y hy
    exact ⟨by rw [List.length_append]; omega, by show (if y.2 = T.length then s else sy y.2) = y.1; rw [if_neg (by omega)]; exact h4⟩
  · have := List.mem_of_getElem? hj
    have : t = (.slice none 0 0, [], false) := by simpa using this
    subst this
    exact ⟨List.Pairwise.nil, fun y hy => by cases hy⟩
theorem leaf_ok {T : List St} {sy : Nat → Sy} (h : Wt sy T) (s : Sy) : (Gd.mk T.length (T.length + 1) [(s, T.length)] [T.length] false).Ok (dl (T ++ [(.slice none 0 0, [], false)])) ∧ ∀ w, (Gd.mk T.length (T.length + 1) [(s, T.length)] [T.length] false).L (dl (T ++ [(.slice none 0 0, [], false)])) w ↔ w = [s] := by
  have hno : ∀ x, ¬ dl (T ++ [(.slice none 0 0, [], false)]) T.length x := by
    rintro x ⟨t, ht, hx⟩
    rw [List.getElem?_append_right (Nat.le_refl _)] at ht
    simp at ht
    subst ht
    cases hx
  refine ⟨⟨Nat.le_succ _, fun x hx => ?_, fun q hq => ?_, fun q x hq hx => ?_⟩, fun w => ?_⟩
  · simp at hx; subst hx; exact ⟨Nat.le_refl _, Nat.lt_succ_self _⟩
  · simp at hq; subst hq; exact ⟨Nat.le_refl _, Nat.lt_succ_self _⟩
  · unfold Gd.in at hq
    simp only at hq
    obtain rfl : q = T.length := by omega
    exact absurd hx (hno x)
  · constructor
    · rintro (⟨_, h⟩ | ⟨s', w', p, q, rfl, hp, hr, hq⟩)
      · cases h
      · simp at hp hq
        obtain ⟨rfl, rfl⟩ := hp
        cases hr with
        | nil => rfl
        | cons a _ => exact absurd a (hno _)
    · rintro rfl
      exact .inr ⟨s, [], T.length, T.length, rfl, by simp, .nil _, by simp⟩
set_option maxHeartbeats 16000000 in
theorem lay_step0 {B d : Nat} {T : List St} {sy : Nat → Sy} {N k : Int} {W : World} {A : Option Addr} {m c : Nat} (hM : Ma B d T W) (hw : Wt sy T) (hT : T.length ≤ 1000) (hB : B ≤ W.heap.size) (hk : k = 0 ∨ k = 1) :
    Calls Try.prog 30 #[.pointer (some ⟨d, 0, none⟩), .agg #[.int .i64 k, .int .i64 N, .slice A m c]] W (LyQ2 B d T sy (fun w => w = [(N, decide (k = 1))]) 1 W) := by
  obtain ⟨W2, hW2⟩ : ∃ W2, W2 = (W.alloc (.cells #[.int .i64 k, .int .i64 N, .slice A m c] 28)).alloc (.cells #[.slice none 0 0, .slice none 0 0, .bool false] 69) := ⟨_, rfl⟩
  have hb2 : Below W.heap.size W W2 := by rw [hW2]; exact ((Below.refl _ _).alloc (Nat.le_refl _) _).alloc (by simp) _
  have hX : Fb W2 W.heap.size 28 #[.int .i64 k, .int .i64 N, .slice A m c] := by rw [hW2]; exact (Fb.new W _ _).alloc _
  have hY : Fb W2 (W.heap.size + 1) 69 #[.slice none 0 0, .slice none 0 0, .bool false] := by
    have := Fb.new (W.alloc (.cells #[.int .i64 k, .int .i64 N, .slice A m c] 28)) 69 #[.slice none 0 0, .slice none 0 0, .bool false]
    rw [World.size_alloc] at this
    rw [hW2]; exact this
  have cS := symbol_any W2 k N A m c
  have HM := Lib.hid (fun (w : World) (hw : Below W2.heap.size W2 w) => ng_more ((hM.below hb2).below hw) hT (Nat.le_trans hB (Nat.le_trans hb2.size hw.size)))
  have hNoY := OB.not (hM.below hb2) hY (by decide)
  have HB2 := Lib.hid hb2
  have HY := Lib.hid (And.intro hY hNoY)
  have x0 := hX.cell 0
  have x1 := hX.cell 1
  have x2 := hX.cell 2
  have HBB := Lib.hid hB
  have HWt := Lib.hid hw
  have HTl := Lib.hid hT
  unfold SmQ at cS
  obtain ⟨r, hr⟩ : ∃ r, r = decide (k = 1) := ⟨_, rfl⟩
  rw [← hr] at cS ⊢
  clear hM hw hT hB hb2 hX hY hNoY hr
  subst hW2
  rcases hk with rfl | rfl
  all_goals
    go_enter Try.func30, Try.ntmps30
    go_wp2_with (first
      | (go_at_call 52; (with_reducible refine cS.mono ?_); rintro e w5 ⟨rfl, hb5⟩; have cM := HM.out w5 hb5; have HB5 := Lib.hid hb5; clear hb5)
      | (go_at_call 29; (with_reducible refine cM.mono ?_); rintro e w6 ⟨rfl, hms, hk6⟩; have hy6 := hk6.k _ _ _ (HY.out.1.below HB5.out) (by decide) (by decide) HY.out.2; have ha6 : Fb (((w6.alloc (.cells #[.int .i64 N, .bool r, .int .i64 (T.length : Int)] 84)).alloc (.cells #[.int .i64 N, .bool r, .int .i64 (T.length : Int)] 84)).alloc (.cells #[.int .i64 (T.length : Int)] 3)) (W.heap.size + 1) 69 #[.slice none 0 0, .slice none 0 0, .bool false] := ((hy6.alloc _).alloc _).alloc _; have t0 := ha6.cell 0; have t1 := ha6.cell 1; have t2 := ha6.cell 2; have u0 := ha6.free 0; have u1 := ha6.free 1; have u2 := ha6.free 2; clear ha6; have HMS := Lib.hid hms; have HK6 := Lib.hid hk6; have HY6 := Lib.hid hy6; clear hms hk6 hy6))
    have hb6 : Below w6.heap.size w6 (((w6.alloc (.cells #[.int .i64 N, .bool r, .int .i64 (T.length : Int)] 84)).alloc (.cells #[.int .i64 N, .bool r, .int .i64 (T.length : Int)] 84)).alloc (.cells #[.int .i64 (T.length : Int)] 3)) := (((Below.refl _ _).alloc (Nat.le_refl _) _).alloc (by rw [World.size_alloc]; omega) _).alloc (by rw [World.size_alloc, World.size_alloc]; omega) _
    obtain ⟨w8, hw8⟩ : ∃ w8, w8 = (w6.alloc (.cells #[.int .i64 N, .bool r, .int .i64 (T.length : Int)] 84)).alloc (.cells #[.int .i64 N, .bool r, .int .i64 (T.length : Int)] 84) := ⟨_, rfl⟩
    have hs8 : w8.heap.size = w6.heap.size + 1 + 1 := by rw [hw8]; simp
    rw [← hw8] at hb6
    rw [← hw8]
    have hB6 : B ≤ w6.heap.size := Nat.le_trans HBB.out (Nat.le_trans HB2.out.size (Nat.le_trans HB5.out.size HK6.out.b.size))
    have hW6 : W.heap.size ≤ w6.heap.size := Nat.le_trans HB2.out.size (Nat.le_trans HB5.out.size HK6.out.b.size)
    have hf : MvR B (w8.alloc (.cells #[.int .i64 (T.length : Int)] 3)) (.slice (some ⟨w6.heap.size + 1, 0, none⟩) 1 1) [((N, r), T.length)] := by
      have := World.ownsRow_lit (base := B) (e := 84) (size := 3) (w6.alloc (.cells #[.int .i64 N, .bool r, .int .i64 (T.length : Int)] 84)) #[.int .i64 N, .bool r, .int .i64 (T.length : Int)] 1 (by rw [World.size_alloc]; omega) (by unfold maxLen; omega) rfl
      rw [World.size_alloc, ← hw8] at this
      exact this.alloc _
    have hl : InR B (w8.alloc (.cells #[.int .i64 (T.length : Int)] 3)) (.slice (some ⟨w6.heap.size + 1 + 1, 0, none⟩) 1 1) [T.length] := by
      have := World.ownsRow_lit (base := B) (e := 3) (size := 1) w8 #[.int .i64 (T.length : Int)] 1 (by omega) (by unfold maxLen; omega) rfl
      rw [hs8] at this
      exact this
    have hob : ∀ q, OB (T ++ [((.slice none 0 0, [], false) : St)]) q → q < w6.heap.size := fun q ⟨j, s, hj, e⟩ => (row_lt (HMS.out.mv j s hj) q e).2
    have hLok := leaf_ok HWt.out (N, r)
    have hL0 : LyR B d T sy (fun w => w = [(N, r)]) 1 W (.slice (some ⟨w6.heap.size + 1, 0, none⟩) 1 1) (.slice (some ⟨w6.heap.size + 1 + 1, 0, none⟩) 1 1) (T ++ [(.slice none 0 0, [], false)]) (fun q => if q = T.length then (N, r) else sy q) (Gd.mk T.length (T.length + 1) [((N, r), T.length)] [T.length] false) (w8.alloc (.cells #[.int .i64 (T.length : Int)] 3)) :=
      { ma := HMS.out.below hb6
        fr := ((Fr.below (HB2.out.trans (HB5.out.mono HB2.out.size)) HBB.out).trans HK6.out).trans (Fr.below hb6 hB6)
        pre := fun j s hj => ⟨s, by rw [List.getElem?_append_left (List.getElem?_eq_some_iff.1 hj).1]; exact hj, rfl, fun _ => Iff.rfl⟩
        len := by rw [List.length_append]; rfl
        sy := fun q hq => if_neg (by omega)
        wt := HWt.out.more (N, r)
        fin := fun j s hj hle => by
          rw [List.getElem?_append_right hle] at hj
          have := List.mem_of_getElem? hj
          have : s = (.slice none 0 0, [], false) := by simpa using this
          subst this
          rfl
        lo := rfl
        hi := by rw [List.length_append]; rfl
        ok := hLok.1
        L := hLok.2
        fR := hf
        fd := fun q hq => by
          have hq' : q = w6.heap.size + 1 := by
            have : some (w6.heap.size + 1) = some q := hq
            injection this with this
            exact this.symm
          subst hq'
          exact ⟨fun h => by have := hob _ h; omega, by omega⟩
        fg := fun y hy => by
          simp at hy
          subst hy
          exact ⟨by rw [List.length_append]; exact Nat.lt_succ_self _, if_pos rfl⟩
        fn := by simp
        lR := hl
        ld := fun q hq => by
          have hq' : q = w6.heap.size + 1 + 1 := by
            have : some (w6.heap.size + 1 + 1) = some q := hq
            injection this with this
            exact this.symm
          omega
        ln := by simp }
    have hY6 := HY6.out.below hb6
    have hY9 : Fb ((((w8.alloc (.cells #[.int .i64 (T.length : Int)] 3)).setCell ⟨W.heap.size + 1, 0, none⟩ (.slice (some ⟨w6.heap.size + 1, 0, none⟩) 1 1)).setCell ⟨W.heap.size + 1, 1, none⟩ (.slice (some ⟨w6.heap.size + 1 + 1, 0, none⟩) 1 1)).setCell ⟨W.heap.size + 1, 2, none⟩ (.bool false)) (W.heap.size + 1) 69 #[.slice (some ⟨w6.heap.size + 1, 0, none⟩) 1 1, .slice (some ⟨w6.heap.size + 1 + 1, 0, none⟩) 1 1, .bool false] := ((hY6.set 0 _).set 1 _).set 2 _
    have hL9 := ((hL0.set hY6 (Nat.le_succ _) HBB.out 0 (.slice (some ⟨w6.heap.size + 1, 0, none⟩) 1 1)).set (hY6.set 0 _) (Nat.le_succ _) HBB.out 1 (.slice (some ⟨w6.heap.size + 1 + 1, 0, none⟩) 1 1)).set ((hY6.set 0 _).set 1 _) (Nat.le_succ _) HBB.out 2 (.bool false)
    obtain ⟨W9, hW9⟩ : ∃ W9, W9 = (((w8.alloc (.cells #[.int .i64 (T.length : Int)] 3)).setCell ⟨W.heap.size + 1, 0, none⟩ (.slice (some ⟨w6.heap.size + 1, 0, none⟩) 1 1)).setCell ⟨W.heap.size + 1, 1, none⟩ (.slice (some ⟨w6.heap.size + 1 + 1, 0, none⟩) 1 1)).setCell ⟨W.heap.size + 1, 2, none⟩ (.bool false) := ⟨_, rfl⟩
    rw [← hW9] at hY9 hL9
    rw [← hW9]
    have v0 := hY9.cell 0
    have v1 := hY9.cell 1
    have v2 := hY9.cell 2
    clear hW9
    try simp only [Exit.inBlock, Exit.then]
    refine bodyPost_ret (results_cell_row (P := Try.prog) rfl _ W9 (W.heap.size + 1) 69 _ (0, 0) _ rfl hY9 Try.underlying69 rfl (by kernel_rfl)) rfl ?_
    exact ⟨_, _, _, _, _, rfl, hL9⟩
end Go.Proofs.Ytghlajfalgdkfaa

/-
  A machine and what is laid, while lists grow: what seq and alt leave.
-/
namespace Go.Proofs.Ytghlajfalgdkfaa
open Go.RowKit
set_option linter.unusedVariables false
set_option linter.unusedSimpArgs false
set_option maxRecDepth 100000

theorem wpl_app_m {ops : Array Oper} {rest : List Oper} {o : Oper} {a : Act} {w : World} {Q : Exit → Act → World → Prop} (hgd : o.guard = none) (s x : Operand)
    (ho : o.op = .call { callee := .builtin .append, args := #[s, x], argTypes := #[67, 67] }) {B : Nat} {v u : Value} {L M : List Mo} (hs : a.eval s = v) (hx : a.eval x = u) (hL : MvR B w v L) (hM : MvR B w u M) (hB : B ≤ w.heap.size) (h1 : L.length ≤ 1000) (h2 : M.length ≤ 1000)
    (h : ∀ A n c w', n = (L ++ M).length → MvR B w' (.slice A n c) (L ++ M) → w.grownBy w' v.ownBlock → (∀ k, Value.ownBlock (.slice A n c) = some k → v.ownBlock = some k ∨ w.heap.size ≤ k) → wpList Try.prog ops Q rest (a.put o.dst (.slice A n c)) w') : wpList Try.prog ops Q (o :: rest) a w := by
  obtain ⟨iT, hT0, hT1, hT2, hT3⟩ := info_parts keyZ
  dsimp only at hT1 hT2 hT3
  refine wpList_plain hgd fun _ hK => ?_
  refine wp_app_any s x 67 ho 84 iT (.agg #[.int .i64 0, .bool false, .int .i64 0]) 3 24 Try.underlying67 hT0 hT1 hT2 hT3 rfl (by decide) (by decide) hs hx hL hM (ktc_one _) (by omega) hB fun v' w' h3 h4 h5 => hK _ _ ?_
  have hr : MvR B w' v' (L ++ M) := by
    unfold MvR
    rw [List.length_append, List.flatMap_append]
    exact h3
  obtain ⟨A, c, rfl, _⟩ := hr.shape
  exact h A _ c w' rfl hr h4 h5
theorem wpl_app_i {ops : Array Oper} {rest : List Oper} {o : Oper} {a : Act} {w : World} {Q : Exit → Act → World → Prop} (hgd : o.guard = none) (s x : Operand)
    (ho : o.op = .call { callee := .builtin .append, args := #[s, x], argTypes := #[51, 51] }) {B : Nat} {v u : Value} {L M : List Nat} (hs : a.eval s = v) (hx : a.eval x = u) (hL : InR B w v L) (hM : InR B w u M) (hB : B ≤ w.heap.size) (h1 : L.length ≤ 1000) (h2 : M.length ≤ 1000)
    (h : ∀ A n c w', n = (L ++ M).length → InR B w' (.slice A n c) (L ++ M) → w.grownBy w' v.ownBlock → (∀ k, Value.ownBlock (.slice A n c) = some k → v.ownBlock = some k ∨ w.heap.size ≤ k) → wpList Try.prog ops Q rest (a.put o.dst (.slice A n c)) w') : wpList Try.prog ops Q (o :: rest) a w := by
  obtain ⟨iT, hT0, hT1, hT2, hT3⟩ := info_parts nfInt
  dsimp only at hT1 hT2 hT3
  refine wpList_plain hgd fun _ hK => ?_
  refine wp_app_any s x 51 ho 3 iT (.int .i64 0) 1 8 Try.underlying51 hT0 hT1 hT2 hT3 rfl (by decide) (by decide) hs hx hL hM (fun u hu => by obtain ⟨q, _, rfl⟩ := List.mem_map.1 hu; rfl) (by omega) hB fun v' w' h3 h4 h5 => hK _ _ ?_
  have hr : InR B w' v' (L ++ M) := by
    unfold InR
    rw [List.length_append, List.map_append]
    exact h3
  obtain ⟨A, c, rfl, _⟩ := hr.shape
  exact h A _ c w' rfl hr h4 h5
/-- Blocks of another type stay when a row grows. -/
theorem grown_neT {B : Nat} {w w' : World} {e : TypeId} {z n : Nat} {v : Value} {xs : List Value} (hv : w.ownsRow B e z v n xs) (hg : w.grownBy w' v.ownBlock) {q : Nat} {t : TypeId} {cs : Array Value} (hf : Fb w q t cs) (ht : t ≠ e) : w'.heap[q]? = w.heap[q]? :=
  hg.block q hf.lt (fun e' => by
    obtain ⟨cs', hc⟩ := row_type hv e'.symm
    exact (hf.nt hc ht) rfl)
/-- The machine by now. -/
structure Bd (B d : Nat) (T T3 : List St) (W w : World) : Prop where
  ma : Ma B d T3 w
  fr : Fr B T T3 W w
theorem Bd.keep {B d : Nat} {T T3 : List St} {W w w' : World} (h : Bd B d T T3 W w) (hb : Below B w w') (hk : ∀ q t cs, Fb w q t cs → (q < W.heap.size ∨ t = 66 ∨ t = 73 ∨ OB T3 q) → w'.heap[q]? = w.heap[q]?) : Bd B d T T3 W w' :=
  ⟨h.ma.keep fun q t cs hf ht => hk q t cs hf (.inr ht), h.fr.b.trans hb, fun q t cs hf h1 h2 h3 => by
    have hq := h.fr.k q t cs hf h1 h2 h3
    exact (hk q t cs hq (.inl hf.lt)).trans hq, h.fr.o⟩
theorem Bd.set {B d : Nat} {T T3 : List St} {W w : World} (h : Bd B d T T3 W w) {x : Nat} {cs : Array Value} (hx : Fb w x 69 cs) (hxW : W.heap.size ≤ x) (hB : B ≤ W.heap.size) (i : Nat) (v : Value) : Bd B d T T3 W (w.setCell ⟨x, i, none⟩ v) :=
  h.keep ((Below.refl B w).setCell (Nat.le_trans hB hxW) v) fun q t cs' hf ht => heap_setCell_other _ _ _ _ (by
    rcases ht with ht | rfl | rfl | ht
    · show q ≠ x; omega
    · exact hf.nt hx (by decide)
    · exact hf.nt hx (by decide)
    · obtain ⟨cs2, hc⟩ := OB.type h.ma ht
      exact hc.nt hx (by decide))
theorem Bd.grow {B d : Nat} {T T3 : List St} {W w w' : World} (h : Bd B d T T3 W w) (hB : B ≤ W.heap.size) {v : Value} (hg : w.grownBy w' v.ownBlock) (hv : ∀ q, v.ownBlock = some q → ¬ OB T3 q ∧ W.heap.size ≤ q) {e : TypeId} {z n : Nat} {xs : List Value} (hr : w.ownsRow B e z v n xs) (h1 : e ≠ 66) (h2 : e ≠ 73) : Bd B d T T3 W w' :=
  h.keep ((Below.refl B w).grown hg (Nat.le_trans hB h.fr.b.size) (fun k hk => Nat.le_trans hB (hv k hk).2)) fun q t cs hf ht => by
    rcases ht with ht | rfl | rfl | ht
    · exact hg.block q hf.lt (fun e' => by have := (hv q e'.symm).2; omega)
    · exact grown_neT hr hg hf (fun e => h1 e.symm)
    · exact grown_neT hr hg hf (fun e => h2 e.symm)
    · exact hg.block q hf.lt (fun e' => (hv q e'.symm).1 ht)
theorem Bd.below {B d : Nat} {T T3 : List St} {W w w' : World} (h : Bd B d T T3 W w) (hb : Below w.heap.size w w') (hB : B ≤ w.heap.size) : Bd B d T T3 W w' := h.keep (hb.mono hB) fun q t cs hf _ => hb.block q hf.lt
theorem nodup_app {α : Type} {l m : List α} (hl : l.Nodup) (hm : m.Nodup) (hd : ∀ x, x ∈ l → x ∈ m → False) : (l ++ m).Nodup := List.nodup_append.2 ⟨hl, hm, fun a ha b hb e => hd a ha (e ▸ hb)⟩
section
variable {B d n n2 : Nat} {T T1 T2 T3 : List St} {sy sy1 sy2 : Nat → Sy} {A A2 : Lg} {W wr w5 w : World} {f l fx lx f' l' : Value} {g1 g2 : Gd}
theorem LyR.fl (h : LyR B d T sy A n W f l T1 sy1 g1 wr) : g1.f.length ≤ n ∧ g1.l.length ≤ n := by
  have h1 := h.len
  have h2 := h.lo
  have h3 := h.hi
  constructor
  · have := nodup_le n ((g1.f.map (·.2)).map (fun q => q - T.length)) (by
      refine List.pairwise_map.2 (h.fn.imp_of_mem ?_)
      intro a b ha hb hab e
      obtain ⟨x, hx, rfl⟩ := List.mem_map.1 ha
      obtain ⟨y, hy, rfl⟩ := List.mem_map.1 hb
      have := (h.ok.f x hx).1
      have := (h.ok.f y hy).1
      omega) (fun q hq => by
      obtain ⟨p, hp, rfl⟩ := List.mem_map.1 hq
      obtain ⟨x, hx, rfl⟩ := List.mem_map.1 hp
      have := h.ok.f x hx
      unfold Gd.in at this
      omega)
    simpa using this
  · have := nodup_le n (g1.l.map (fun q => q - T.length)) (by
      refine List.pairwise_map.2 (h.ln.imp_of_mem ?_)
      intro a b ha hb hab e
      have := (h.ok.l a ha).1
      have := (h.ok.l b hb).1
      omega) (fun q hq => by
      obtain ⟨x, hx, rfl⟩ := List.mem_map.1 hq
      have := h.ok.l x hx
      unfold Gd.in at this
      omega)
    simpa using this
/-- f's block is none of the states' later on. -/
theorem LyR.fob (h : LyR B d T sy A n W f l T1 sy1 g1 wr) (hfr : Fr B T1 T3 wr w) : ∀ q, f.ownBlock = some q → ¬ OB T3 q ∧ W.heap.size ≤ q := fun q hq =>
  ⟨fun ho => (hfr.o q ho).elim (h.fd q hq).1 (fun hle => by have := (row_lt h.fR q hq).2; omega), (h.fd q hq).2⟩
theorem dl_link (hk : Lk T2 T3 (fun j x => j ∈ g1.l ∧ x ∈ g2.f)) (hlt : ∀ q ∈ g1.l, q < T2.length) (q : Nat) (x : Mo) : dl T3 q x ↔ linked g1.l g2.f (dl T2) q x := by
  unfold dl linked
  constructor
  · rintro ⟨s, hs, hx⟩
    have hq : q < T2.length := by rw [← hk.len]; exact (List.getElem?_eq_some_iff.1 hs).1
    obtain ⟨s', h1, h2, h3, h4⟩ := hk.st q _ (List.getElem?_eq_getElem hq)
    rw [hs] at h1
    injection h1 with h1
    subst h1
    exact ((h4 x).1 hx).imp (fun h => ⟨_, List.getElem?_eq_getElem hq, h⟩) id
  · intro h
    have hq : q < T2.length := by
      rcases h with ⟨s, hs, _⟩ | ⟨h, _⟩
      · exact (List.getElem?_eq_some_iff.1 hs).1
      · exact hlt q h
    obtain ⟨s', h1, h2, h3, h4⟩ := hk.st q _ (List.getElem?_eq_getElem hq)
    refine ⟨s', h1, (h4 x).2 (h.imp ?_ id)⟩
    rintro ⟨s, hs, hx⟩
    rw [List.getElem?_eq_getElem hq] at hs
    injection hs with hs
    subst hs
    exact hx
theorem dl_pre (h2 : LyR B d T1 sy1 A2 n2 wr fx lx T2 sy2 g2 w5) (q : Nat) (x : Mo) (hq : q < T1.length) : dl T2 q x ↔ dl T1 q x := by
  obtain ⟨s', h3, h4, h5⟩ := h2.pre q _ (List.getElem?_eq_getElem hq)
  constructor
  · rintro ⟨s, hs, hx⟩
    rw [h3] at hs
    injection hs with hs
    subst hs
    exact ⟨_, List.getElem?_eq_getElem hq, (h5 x).1 hx⟩
  · rintro ⟨s, hs, hx⟩
    rw [List.getElem?_eq_getElem hq] at hs
    injection hs with hs
    subst hs
    exact ⟨s', h3, (h5 x).2 hx⟩
theorem seq_fin (h1 : LyR B d T sy A n W f l T1 sy1 g1 wr) (h2 : LyR B d T1 sy1 A2 n2 wr fx lx T2 sy2 g2 w5) (hk : Lk T2 T3 (fun j x => j ∈ g1.l ∧ x ∈ g2.f)) (hbd : Bd B d T T3 W w)
    (hf : MvR B w f' (seqG g1 g2).f) (hfd : ∀ q, f'.ownBlock = some q → ¬ OB T3 q ∧ W.heap.size ≤ q) (hl : InR B w l' (seqG g1 g2).l) (hld : ∀ q, l'.ownBlock = some q → W.heap.size ≤ q) :
    LyR B d T sy (CatL A A2) (n + n2) W f' l' T3 sy2 (seqG g1 g2) w := by
  have e1 := h1.len
  have e2 := h2.len
  have e3 := h1.lo
  have e4 := h1.hi
  have e5 := h2.lo
  have e6 := h2.hi
  have hll : ∀ q ∈ g1.l, q < T2.length := fun q hq => by have := (h1.ok.l q hq).2; omega
  have hok1 : g1.Ok (dl T2) := h1.ok.of fun q x hq => dl_pre h2 q x (by have := hq.2; omega)
  have hL1 : ∀ w, g1.L (dl T2) w ↔ A w := fun w => (Gd.L.of h1.ok (fun q x hq => dl_pre h2 q x (by have := hq.2; omega)) w).trans (h1.L w)
  have hab : g1.hi = g2.lo := by omega
  have hd3 := dl_link hk hll
  have hok := (seq_ok hok1 h2.ok hab)
  refine ⟨hbd.ma, hbd.fr, fun j s hj => ?_, by rw [hk.len]; omega, fun q hq => (h2.sy q (by omega)).trans (h1.sy q hq), fun j s hj => ?_, fun j s hj hle => ?_, e3, by show g2.hi = _; rw [hk.len]; omega, hok.of fun q x _ => hd3 q x, fun w => ?_, hf, hfd, fun y hy => ?_, ?_, hl, hld, ?_⟩
  · obtain ⟨s1, a1, a2, a3⟩ := h1.pre j s hj
    obtain ⟨s2, b1, b2, b3⟩ := h2.pre j s1 a1
    obtain ⟨s3, c1, c2, _, c4⟩ := hk.st j s2 b1
    have hjl := (List.getElem?_eq_some_iff.1 hj).1
    refine ⟨s3, c1, c2.trans (b2.trans a2), fun x => (c4 x).trans ?_⟩
    constructor
    · rintro (h | ⟨h, _⟩)
      · exact (a3 x).1 ((b3 x).1 h)
      · have := (h1.ok.l j h).1; omega
    · intro h; exact .inl ((b3 x).2 ((a3 x).2 h))
  · have := hk.gm (fun j s hj => (h2.wt j s hj).2) (fun j x hp => h2.fg x hp.2) hj
    rw [hk.len]; exact this
  · have hj2 : j < T2.length := by rw [← hk.len]; exact (List.getElem?_eq_some_iff.1 hj).1
    obtain ⟨s', k1, k2, _⟩ := hk.st j _ (List.getElem?_eq_getElem hj2)
    rw [hj] at k1
    injection k1 with k1
    subst k1
    rw [k2]
    by_cases h : j < T1.length
    · obtain ⟨s1, b1, b2, _⟩ := h2.pre j _ (List.getElem?_eq_getElem h)
      rw [List.getElem?_eq_getElem hj2] at b1
      injection b1 with b1
      rw [b1, b2]
      exact h1.fin j _ (List.getElem?_eq_getElem h) hle
    · exact h2.fin j _ (List.getElem?_eq_getElem hj2) (by omega)
  · rw [Gd.L.of hok (fun q x _ => hd3 q x) w, seq_L hok1 h2.ok hab]
    exact catL_congr hL1 h2.L w
  · rw [hk.len]
    rcases List.mem_append.1 hy with hy | hy
    · obtain ⟨k1, k2⟩ := h1.fg y hy
      exact ⟨by omega, by rw [h2.sy _ k1]; exact k2⟩
    · split at hy
      · exact h2.fg y hy
      · cases hy
  · show ((g1.f ++ if g1.em = true then g2.f else []).map (·.2)).Nodup
    rw [List.map_append]
    refine nodup_app h1.fn ?_ fun q hq hq' => ?_
    · split
      · exact h2.fn
      · simp
    · split at hq'
      · obtain ⟨x, hx, rfl⟩ := List.mem_map.1 hq
        obtain ⟨y, hy, e⟩ := List.mem_map.1 hq'
        have := (h1.ok.f x hx).2
        have := (h2.ok.f y hy).1
        omega
      · cases hq'
  · show (g2.l ++ if g2.em = true then g1.l else []).Nodup
    refine nodup_app h2.ln ?_ fun q hq hq' => ?_
    · split
      · exact h1.ln
      · simp
    · split at hq'
      · have := (h1.ok.l q hq').2
        have := (h2.ok.l q hq).1
        omega
      · cases hq'
end
end Go.Proofs.Ytghlajfalgdkfaa

/-
  What alt and again leave.
-/
namespace Go.Proofs.Ytghlajfalgdkfaa
open Go.RowKit
set_option linter.unusedVariables false
set_option linter.unusedSimpArgs false
set_option maxRecDepth 100000

section
variable {B d n n2 : Nat} {T T1 T2 T3 : List St} {sy sy1 sy2 : Nat → Sy} {A A2 : Lg} {W wr w5 w : World} {f l fx lx f' l' : Value} {g1 g2 : Gd}
def altG (a b : Gd) : Gd := ⟨a.lo, b.hi, a.f ++ b.f, a.l ++ b.l, a.em || b.em⟩
theorem alt_fin (h1 : LyR B d T sy A n W f l T1 sy1 g1 wr) (h2 : LyR B d T1 sy1 A2 n2 wr fx lx T2 sy2 g2 w5) (hbd : Bd B d T T2 W w)
    (hf : MvR B w f' (altG g1 g2).f) (hfd : ∀ q, f'.ownBlock = some q → ¬ OB T2 q ∧ W.heap.size ≤ q) (hl : InR B w l' (altG g1 g2).l) (hld : ∀ q, l'.ownBlock = some q → W.heap.size ≤ q) :
    LyR B d T sy (fun w => A w ∨ A2 w) (n + n2) W f' l' T2 sy2 (altG g1 g2) w := by
  have e1 := h1.len
  have e2 := h2.len
  have e3 := h1.lo
  have e4 := h1.hi
  have e5 := h2.lo
  have e6 := h2.hi
  have hok1 : g1.Ok (dl T2) := h1.ok.of fun q x hq => dl_pre h2 q x (by have := hq.2; omega)
  have hL1 : ∀ w, g1.L (dl T2) w ↔ A w := fun w => (Gd.L.of h1.ok (fun q x hq => dl_pre h2 q x (by have := hq.2; omega)) w).trans (h1.L w)
  have hab : g1.hi = g2.lo := by omega
  refine ⟨hbd.ma, hbd.fr, fun j s hj => ?_, by omega, fun q hq => (h2.sy q (by omega)).trans (h1.sy q hq), h2.wt, fun j s hj hle => ?_, e3, e6, alt_ok hok1 h2.ok hab, fun w => ?_, hf, hfd, fun y hy => ?_, ?_, hl, hld, ?_⟩
  · obtain ⟨s1, a1, a2, a3⟩ := h1.pre j s hj
    obtain ⟨s2, b1, b2, b3⟩ := h2.pre j s1 a1
    exact ⟨s2, b1, b2.trans a2, fun x => (b3 x).trans (a3 x)⟩
  · by_cases h : j < T1.length
    · obtain ⟨s1, b1, b2, _⟩ := h2.pre j _ (List.getElem?_eq_getElem h)
      rw [hj] at b1
      injection b1 with b1
      rw [b1, b2]
      exact h1.fin j _ (List.getElem?_eq_getElem h) hle
    · exact h2.fin j _ hj (by omega)
  · rw [show (altG g1 g2).L (dl T2) w ↔ _ from alt_L hok1 h2.ok hab w, hL1, h2.L]
  · rcases List.mem_append.1 hy with hy | hy
    · obtain ⟨k1, k2⟩ := h1.fg y hy
      exact ⟨by omega, by rw [h2.sy _ k1]; exact k2⟩
    · exact h2.fg y hy
  · show ((g1.f ++ g2.f).map (·.2)).Nodup
    rw [List.map_append]
    refine nodup_app h1.fn h2.fn fun q hq hq' => ?_
    obtain ⟨x, hx, rfl⟩ := List.mem_map.1 hq
    obtain ⟨y, hy, e⟩ := List.mem_map.1 hq'
    have := (h1.ok.f x hx).2
    have := (h2.ok.f y hy).1
    omega
  · refine nodup_app h1.ln h2.ln fun q hq hq' => ?_
    have := (h1.ok.l q hq).2
    have := (h2.ok.l q hq').1
    omega
/-- Again and again: linked from its last ones to its first ones. -/
theorem again_fin (h1 : LyR B d T sy A n W f l T1 sy1 g1 wr) (hk : Lk T1 T3 (fun j x => j ∈ g1.l ∧ x ∈ g1.f)) (hM : Ma B d T3 w) (hfr : Fr B T1 T3 wr w) (em : Bool) {A' : Lg} (hA : ∀ w, (Gd.mk g1.lo g1.hi g1.f g1.l em).L (linked g1.l g1.f (dl T1)) w ↔ A' w) :
    LyR B d T sy A' n W f l T3 sy1 (Gd.mk g1.lo g1.hi g1.f g1.l em) w := by
  have e1 := h1.len
  have e3 := h1.lo
  have e4 := h1.hi
  have hll : ∀ q ∈ g1.l, q < T1.length := fun q hq => by have := (h1.ok.l q hq).2; omega
  have hd3 := dl_link hk hll
  have hok := plus_ok h1.ok em
  refine ⟨hM, h1.fr.trans hfr, fun j s hj => ?_, by rw [hk.len]; omega, h1.sy, fun j s hj => ?_, fun j s hj hle => ?_, e3, by show g1.hi = _; rw [hk.len]; omega, hok.of fun q x _ => hd3 q x, fun w => ?_, ?_, h1.fob hfr, ?_, h1.fn, ?_, h1.ld, h1.ln⟩
  · obtain ⟨s1, a1, a2, a3⟩ := h1.pre j s hj
    obtain ⟨s3, c1, c2, _, c4⟩ := hk.st j s1 a1
    have hjl := (List.getElem?_eq_some_iff.1 hj).1
    refine ⟨s3, c1, c2.trans a2, fun x => (c4 x).trans ?_⟩
    constructor
    · rintro (h | ⟨h, _⟩)
      · exact (a3 x).1 h
      · have := (h1.ok.l j h).1; omega
    · intro h; exact .inl ((a3 x).2 h)
  · have := hk.gm (fun j s hj => (h1.wt j s hj).2) (fun j x hp => h1.fg x hp.2) hj
    rw [hk.len]; exact this
  · have hj2 : j < T1.length := by rw [← hk.len]; exact (List.getElem?_eq_some_iff.1 hj).1
    obtain ⟨s', k1, k2, _⟩ := hk.st j _ (List.getElem?_eq_getElem hj2)
    rw [hj] at k1
    injection k1 with k1
    subst k1
    rw [k2]
    exact h1.fin j _ (List.getElem?_eq_getElem hj2) hle
  · rw [Gd.L.of hok (fun q x _ => hd3 q x) w]
    exact hA w
  · exact hfr.row h1.fR (by decide) (by decide) fun k hk' => (h1.fd k hk').1
  · intro y hy; rw [hk.len]; exact h1.fg y hy
  · exact hfr.row h1.lR (by decide) (by decide) fun k hk' => by
      obtain ⟨cs, hc⟩ := row_type h1.lR hk'
      exact OB.not h1.ma hc (by decide)
theorem opt_fin (h1 : LyR B d T sy A n W f l T1 sy1 g1 w) : LyR B d T sy (fun w => w = [] ∨ A w) n W f l T1 sy1 (Gd.mk g1.lo g1.hi g1.f g1.l true) w :=
  { h1 with
    ok := ⟨h1.ok.le, h1.ok.f, h1.ok.l, h1.ok.d⟩
    L := fun w => (opt_L (a := g1) w).trans (or_congr Iff.rfl (h1.L w)) }
/-- Nothing yet: ahead of the first part. -/
theorem start_seq (hM : Ma B d T wr) (hw : Wt sy T) (hfr : Fr B T T W wr) (em : Bool) {A : Lg} (hA : ∀ w, (w = [] ∧ em = true) ↔ A w) : LyR B d T sy A 0 W (.slice none 0 0) (.slice none 0 0) T sy (Gd.mk T.length T.length [] [] em) wr :=
  { ma := hM
    fr := hfr
    pre := fun j s hj => ⟨s, hj, rfl, fun _ => Iff.rfl⟩
    len := rfl
    sy := fun _ _ => rfl
    wt := hw
    fin := fun j s hj hle => by have := (List.getElem?_eq_some_iff.1 hj).1; omega
    lo := rfl
    hi := rfl
    ok := ⟨Nat.le_refl _, (fun x hx => by cases hx), (fun q hq => by cases hq), (fun q x hq _ => by have h1 := hq.1; have h2 := hq.2; simp only at h1 h2; omega)⟩
    L := fun w => by
      refine Iff.trans ?_ (hA w)
      constructor
      · rintro (h | ⟨s, w', p, q, _, hp, _⟩)
        · exact h
        · cases hp
      · exact .inl
    fR := World.ownsRow_nil _ _ _ _
    fd := fun q hq => by cases hq
    fg := fun y hy => by cases hy
    fn := List.nodup_nil
    lR := World.ownsRow_nil _ _ _ _
    ld := fun q hq => by cases hq
    ln := List.nodup_nil }
end
end Go.Proofs.Ytghlajfalgdkfaa

/-
  seq and alt: what is there while lists grow.
-/
namespace Go.Proofs.Ytghlajfalgdkfaa
open Go.RowKit
set_option linter.unusedVariables false
set_option linter.unusedSimpArgs false
set_option maxRecDepth 100000

structure Sq (B d : Nat) (T T3 : List St) (W : World) (vf : Value) (F : List Mo) (vl : Value) (L : List Nat) (vy : Value) (Y : List Nat) (w : World) : Prop where
  bd : Bd B d T T3 W w
  fR : MvR B w vf F
  fo : ∀ q, vf.ownBlock = some q → ¬ OB T3 q ∧ W.heap.size ≤ q
  lR : InR B w vl L
  lo : ∀ q, vl.ownBlock = some q → W.heap.size ≤ q
  yR : InR B w vy Y
  yo : ∀ q, vy.ownBlock = some q → W.heap.size ≤ q
section
variable {B d : Nat} {T T3 : List St} {W w w' : World} {vf vl vy : Value} {F X : List Mo} {L Y : List Nat}
theorem Sq.set (h : Sq B d T T3 W vf F vl L vy Y w) {x : Nat} {cs : Array Value} (hx : Fb w x 69 cs) (hxW : W.heap.size ≤ x) (hB : B ≤ W.heap.size) (i : Nat) (v : Value) : Sq B d T T3 W vf F vl L vy Y (w.setCell ⟨x, i, none⟩ v) :=
  ⟨h.bd.set hx hxW hB i v,
   row_keep h.fR fun k hk => heap_setCell_other _ _ _ _ (by obtain ⟨cs2, hc⟩ := row_type h.fR hk; exact hc.nt hx (by decide)), h.fo,
   row_keep h.lR fun k hk => heap_setCell_other _ _ _ _ (by obtain ⟨cs2, hc⟩ := row_type h.lR hk; exact hc.nt hx (by decide)), h.lo,
   row_keep h.yR fun k hk => heap_setCell_other _ _ _ _ (by obtain ⟨cs2, hc⟩ := row_type h.yR hk; exact hc.nt hx (by decide)), h.yo⟩
theorem Sq.appM (h : Sq B d T T3 W vf F vl L vy Y w) (hB : B ≤ W.heap.size) {v' : Value} {F' : List Mo} (hr : MvR B w' v' F') (hg : w.grownBy w' vf.ownBlock) (hn : ∀ k, v'.ownBlock = some k → vf.ownBlock = some k ∨ w.heap.size ≤ k) : Sq B d T T3 W v' F' vl L vy Y w' :=
  ⟨h.bd.grow hB hg h.fo h.fR (by decide) (by decide), hr, fun q hq => (hn q hq).elim (h.fo q) (fun hle => ⟨fun ho => by
      obtain ⟨cs, hc⟩ := OB.type h.bd.ma ho
      have := hc.lt; omega, Nat.le_trans h.bd.fr.b.size hle⟩),
   row_keep h.lR fun k hk => by obtain ⟨cs2, hc⟩ := row_type h.lR hk; exact grown_neT h.fR hg hc (by decide), h.lo,
   row_keep h.yR fun k hk => by obtain ⟨cs2, hc⟩ := row_type h.yR hk; exact grown_neT h.fR hg hc (by decide), h.yo⟩
theorem Sq.appI (h : Sq B d T T3 W vf F vl L vy Y w) (hB : B ≤ W.heap.size) {v' : Value} {Y' : List Nat} (hr : InR B w' v' Y') (hg : w.grownBy w' vy.ownBlock) (hn : ∀ k, v'.ownBlock = some k → vy.ownBlock = some k ∨ w.heap.size ≤ k) : Sq B d T T3 W vf F (.slice none 0 0) [] v' Y' w' :=
  ⟨h.bd.grow hB hg (fun q hq => ⟨by
      obtain ⟨cs, hc⟩ := row_type h.yR hq
      exact OB.not h.bd.ma hc (by decide), h.yo q hq⟩) h.yR (by decide) (by decide),
   row_keep h.fR fun k hk => by obtain ⟨cs2, hc⟩ := row_type h.fR hk; exact grown_neT h.yR hg hc (by decide), h.fo,
   World.ownsRow_nil _ _ _ _, (fun q hq => by cases hq), hr, fun q hq => (hn q hq).elim (h.yo q) (fun hle => Nat.le_trans h.bd.fr.b.size hle)⟩
end
/-- lay of a path, wherever it is asked. -/
def LayAll (B d : Nat) (t : PT) : Prop := ∀ (kd nn : Int) (A : Option Addr) (m c : Nat) (T : List St) (sy : Nat → Sy) (W : World), Pth W t ⟨kd, nn, .slice A m c⟩ → Ma B d T W → Wt sy T → T.length + lv t ≤ 1000 → B ≤ W.heap.size →
  Calls Try.prog 30 #[.pointer (some ⟨d, 0, none⟩), .agg #[.int .i64 kd, .int .i64 nn, .slice A m c]] W (LyQ2 B d T sy (lang t) (lv t) W)
/-- What a part reads, whatever a call on the machine has done since. -/
theorem part_at {B d : Nat} {T : List St} {W : World} (hM : Ma B d T W) {s : Value} {ts : List PT} {ps : List Pa} (hR : RowP W s ps) (hP : Pths W ts ps) {j : Nat} {t : PT} (hj : ts[j]? = some t) :
    ∃ g kd nn A m c, s = .slice (some ⟨g, 0, none⟩) ts.length (match s with | .slice _ _ k => k | _ => 0) ∧ ∀ (w : World) (T' : List St), Fr B T T' W w → Pth w t ⟨kd, nn, .slice A m c⟩ ∧ w.cell? ⟨g, j * 3, none⟩ = some (.int .i64 kd) ∧ w.cell? ⟨g, j * 3 + 1, none⟩ = some (.int .i64 nn) ∧ w.cell? ⟨g, j * 3 + 2, none⟩ = some (.slice A m c) := by
  obtain ⟨e, hof⟩ := Pths.of hP
  have hlt : j < ps.length := by rw [← e]; exact (List.getElem?_eq_some_iff.1 hj).1
  have hp := List.getElem?_eq_getElem hlt
  obtain ⟨p, hpe⟩ : ∃ p, p = ps[j] := ⟨_, rfl⟩
  rw [← hpe] at hp
  have hpt := hof j t p hj hp
  obtain ⟨A, m, c, hs⟩ := hpt.slice
  obtain ⟨kd, nn, sv⟩ := p
  simp only at hs
  subst hs
  rcases hR with ⟨rfl, _⟩ | ⟨g, c', cs, h1, h2, h3⟩
  · simp at hlt
  · refine ⟨g, kd, nn, A, m, c, by rw [h1, e], fun w T' hfr => ?_⟩
    have hf := hfr.k g _ cs h2 (by decide) (by decide) (OB.not hM h2 (by decide))
    obtain ⟨k1, k2, k3⟩ := h3 j _ hp
    exact ⟨hfr.pth hM hpt, (hf.cell _).trans k1, (hf.cell _).trans k2, (hf.cell _).trans k3⟩
end Go.Proofs.Ytghlajfalgdkfaa
