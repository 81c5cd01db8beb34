/-
  MERGED (a claim has at most 60 files): NgLay.
-/
import Derived.Test.YtghlajfalgdkfaaZ13
import Derived.Test.YtghlajfalgdkfaaZ14
import Derived.Deep.RegionHeld3
/-
  lay: any path.
-/
namespace Go.Proofs.Ytghlajfalgdkfaa
open Go.RowKit
set_option linter.unusedVariables false
set_option linter.unusedSimpArgs false
set_option maxRecDepth 100000

set_option maxHeartbeats 16000000 in
theorem lay_gseq {B d n0 c0 : Nat} {nn : Int} {A0 : Option Addr} {T : List St} {sy : Nat → Sy} {W : World} {ts : List PT} {ps : List Pa} (hM : Ma B d T W) (hw : Wt sy T) (hR : RowP W (.slice A0 n0 c0) ps) (hP : Pths W ts ps) (hn0 : n0 = ts.length) (hT : T.length + lvs ts ≤ 1000) (hB : B ≤ W.heap.size) (hts : ts.length ≤ 1000) (IH : ∀ t ∈ ts, LayAll B d t) :
    Calls Try.prog 30 #[.pointer (some ⟨d, 0, none⟩), .agg #[.int .i64 2, .int .i64 nn, .slice A0 n0 c0]] W (LyQ2 B d T sy (Seql (langs ts)) (lvs ts) W) := by
  obtain ⟨W2, hW2⟩ : ∃ W2, W2 = (W.alloc (.cells #[.int .i64 2, .int .i64 nn, .slice A0 n0 c0] 28)).alloc (.cells #[.slice none 0 0, .slice none 0 0, .bool false] 69) := ⟨_, rfl⟩
  have hb2 : Below W.heap.size W W2 := by rw [hW2]; exact ((Below.refl _ _).alloc (Nat.le_refl _) _).alloc (by simp) _
  have hX : Fb W2 W.heap.size 28 #[.int .i64 2, .int .i64 nn, .slice A0 n0 c0] := by rw [hW2]; exact (Fb.new W _ _).alloc _
  have hY : Fb W2 (W.heap.size + 1) 69 #[.slice none 0 0, .slice none 0 0, .bool false] := by
    have := Fb.new (W.alloc (.cells #[.int .i64 2, .int .i64 nn, .slice A0 n0 c0] 28)) 69 #[.slice none 0 0, .slice none 0 0, .bool false]
    rw [World.size_alloc] at this
    rw [hW2]; exact this
  have hM2 := hM.below hb2
  have hB2 := Nat.le_trans hB hb2.size
  have cS := seq_any hM2 hw (hR.keep (fun g cs hf => hf.below hb2)) (Pths.mk (Pths.of hP).1 (fun j t p h1 h2 => ((Pths.of hP).2 j t p h1 h2).below hb2)) hn0 hT hB2 hts IH
  have hNY := OB.not hM2 hY (by decide)
  have HB2 := Lib.hid hb2
  have HY := Lib.hid (And.intro hY hNY)
  have x0 := hX.cell 0
  have x1 := hX.cell 1
  have x2 := hX.cell 2
  have HBB := Lib.hid hB
  clear hM hw hR hP hn0 hT hB hts IH hb2 hX hY hM2 hB2 hNY
  subst hW2
  go_enter Try.func30, Try.ntmps30
  go_wp2_with (go_at_call 49; (with_reducible refine cS.mono ?_); rintro e w5 ⟨f, l, T', sy', g, rfl, hly⟩; obtain ⟨Af, cf, rfl, _⟩ := hly.fR.shape; obtain ⟨Al, cl, rfl, _⟩ := hly.lR.shape; obtain ⟨nf, hnf⟩ : ∃ nf, nf = g.f.length := ⟨_, rfl⟩; obtain ⟨nl, hnl⟩ : ∃ nl, nl = g.l.length := ⟨_, rfl⟩; rw [← hnf, ← hnl] at hly ⊢; obtain ⟨em, hem⟩ : ∃ em, em = g.em := ⟨_, rfl⟩; rw [← hem]; have hy5 := hly.fr.k _ _ _ HY.out.1 (by decide) (by decide) HY.out.2; have v0 := hy5.cell 0; have v1 := hy5.cell 1; have v2 := hy5.cell 2; have u0 := hy5.free 0; have u1 := hy5.free 1; have u2 := hy5.free 2; have HLY := Lib.hid (hly.from HB2.out HBB.out); have HY5 := Lib.hid hy5; have HE := Lib.hid hem; clear hly hy5 hnf hnl hem)
  have hY9 : Fb (((w5.setCell ⟨W.heap.size + 1, 0, none⟩ (.slice Af nf cf)).setCell ⟨W.heap.size + 1, 1, none⟩ (.slice Al nl cl)).setCell ⟨W.heap.size + 1, 2, none⟩ (.bool em)) (W.heap.size + 1) 69 #[.slice Af nf cf, .slice Al nl cl, .bool em] := ((HY5.out.set 0 _).set 1 _).set 2 _
  have hL9 := ((HLY.out.set HY5.out (Nat.le_succ _) HBB.out 0 (.slice Af nf cf)).set (HY5.out.set 0 _) (Nat.le_succ _) HBB.out 1 (.slice Al nl cl)).set ((HY5.out.set 0 _).set 1 _) (Nat.le_succ _) HBB.out 2 (.bool em)
  obtain ⟨W9, hW9⟩ : ∃ W9, W9 = ((w5.setCell ⟨W.heap.size + 1, 0, none⟩ (.slice Af nf cf)).setCell ⟨W.heap.size + 1, 1, none⟩ (.slice Al nl cl)).setCell ⟨W.heap.size + 1, 2, none⟩ (.bool em) := ⟨_, rfl⟩
  rw [← hW9] at hY9 hL9
  rw [← hW9]
  have v0 := hY9.cell 0
  have v1 := hY9.cell 1
  have v2 := hY9.cell 2
  clear hW9
  try simp only [Exit.inBlock, Exit.then]
  refine bodyPost_ret (results_cell_row (P := Try.prog) rfl _ W9 (W.heap.size + 1) 69 _ (0, 0) _ rfl hY9 Try.underlying69 rfl (by kernel_rfl)) rfl ?_
  exact ⟨_, _, _, _, g, by rw [← HE.out], hL9⟩
set_option maxHeartbeats 16000000 in
theorem lay_galt {B d n0 c0 : Nat} {nn : Int} {A0 : Option Addr} {T : List St} {sy : Nat → Sy} {W : World} {ts : List PT} {ps : List Pa} (hM : Ma B d T W) (hw : Wt sy T) (hR : RowP W (.slice A0 n0 c0) ps) (hP : Pths W ts ps) (hn0 : n0 = ts.length) (hT : T.length + lvs ts ≤ 1000) (hB : B ≤ W.heap.size) (hts : ts.length ≤ 1000) (IH : ∀ t ∈ ts, LayAll B d t) :
    Calls Try.prog 30 #[.pointer (some ⟨d, 0, none⟩), .agg #[.int .i64 3, .int .i64 nn, .slice A0 n0 c0]] W (LyQ2 B d T sy (Altl (langs ts)) (lvs ts) W) := by
  obtain ⟨W2, hW2⟩ : ∃ W2, W2 = (W.alloc (.cells #[.int .i64 3, .int .i64 nn, .slice A0 n0 c0] 28)).alloc (.cells #[.slice none 0 0, .slice none 0 0, .bool false] 69) := ⟨_, rfl⟩
  have hb2 : Below W.heap.size W W2 := by rw [hW2]; exact ((Below.refl _ _).alloc (Nat.le_refl _) _).alloc (by simp) _
  have hX : Fb W2 W.heap.size 28 #[.int .i64 3, .int .i64 nn, .slice A0 n0 c0] := by rw [hW2]; exact (Fb.new W _ _).alloc _
  have hY : Fb W2 (W.heap.size + 1) 69 #[.slice none 0 0, .slice none 0 0, .bool false] := by
    have := Fb.new (W.alloc (.cells #[.int .i64 3, .int .i64 nn, .slice A0 n0 c0] 28)) 69 #[.slice none 0 0, .slice none 0 0, .bool false]
    rw [World.size_alloc] at this
    rw [hW2]; exact this
  have hM2 := hM.below hb2
  have hB2 := Nat.le_trans hB hb2.size
  have cS := alt_any hM2 hw (hR.keep (fun g cs hf => hf.below hb2)) (Pths.mk (Pths.of hP).1 (fun j t p h1 h2 => ((Pths.of hP).2 j t p h1 h2).below hb2)) hn0 hT hB2 hts IH
  have hNY := OB.not hM2 hY (by decide)
  have HB2 := Lib.hid hb2
  have HY := Lib.hid (And.intro hY hNY)
  have x0 := hX.cell 0
  have x1 := hX.cell 1
  have x2 := hX.cell 2
  have HBB := Lib.hid hB
  clear hM hw hR hP hn0 hT hB hts IH hb2 hX hY hM2 hB2 hNY
  subst hW2
  go_enter Try.func30, Try.ntmps30
  go_wp2_with (go_at_call 50; (with_reducible refine cS.mono ?_); rintro e w5 ⟨f, l, T', sy', g, rfl, hly⟩; obtain ⟨Af, cf, rfl, _⟩ := hly.fR.shape; obtain ⟨Al, cl, rfl, _⟩ := hly.lR.shape; obtain ⟨nf, hnf⟩ : ∃ nf, nf = g.f.length := ⟨_, rfl⟩; obtain ⟨nl, hnl⟩ : ∃ nl, nl = g.l.length := ⟨_, rfl⟩; rw [← hnf, ← hnl] at hly ⊢; obtain ⟨em, hem⟩ : ∃ em, em = g.em := ⟨_, rfl⟩; rw [← hem]; have hy5 := hly.fr.k _ _ _ HY.out.1 (by decide) (by decide) HY.out.2; have v0 := hy5.cell 0; have v1 := hy5.cell 1; have v2 := hy5.cell 2; have u0 := hy5.free 0; have u1 := hy5.free 1; have u2 := hy5.free 2; have HLY := Lib.hid (hly.from HB2.out HBB.out); have HY5 := Lib.hid hy5; have HE := Lib.hid hem; clear hly hy5 hnf hnl hem)
  have hY9 : Fb (((w5.setCell ⟨W.heap.size + 1, 0, none⟩ (.slice Af nf cf)).setCell ⟨W.heap.size + 1, 1, none⟩ (.slice Al nl cl)).setCell ⟨W.heap.size + 1, 2, none⟩ (.bool em)) (W.heap.size + 1) 69 #[.slice Af nf cf, .slice Al nl cl, .bool em] := ((HY5.out.set 0 _).set 1 _).set 2 _
  have hL9 := ((HLY.out.set HY5.out (Nat.le_succ _) HBB.out 0 (.slice Af nf cf)).set (HY5.out.set 0 _) (Nat.le_succ _) HBB.out 1 (.slice Al nl cl)).set ((HY5.out.set 0 _).set 1 _) (Nat.le_succ _) HBB.out 2 (.bool em)
  obtain ⟨W9, hW9⟩ : ∃ W9, W9 = ((w5.setCell ⟨W.heap.size + 1, 0, none⟩ (.slice Af nf cf)).setCell ⟨W.heap.size + 1, 1, none⟩ (.slice Al nl cl)).setCell ⟨W.heap.size + 1, 2, none⟩ (.bool em) := ⟨_, rfl⟩
  rw [← hW9] at hY9 hL9
  rw [← hW9]
  have v0 := hY9.cell 0
  have v1 := hY9.cell 1
  have v2 := hY9.cell 2
  clear hW9
  try simp only [Exit.inBlock, Exit.then]
  refine bodyPost_ret (results_cell_row (P := Try.prog) rfl _ W9 (W.heap.size + 1) 69 _ (0, 0) _ rfl hY9 Try.underlying69 rfl (by kernel_rfl)) rfl ?_
  exact ⟨_, _, _, _, g, by rw [← HE.out], hL9⟩
theorem setfar3 {w : World} {g x : Nat} {a b c : Value} (h : w.cell? ⟨g, 0, none⟩ = some a ∧ w.cell? ⟨g, 1, none⟩ = some b ∧ w.cell? ⟨g, 2, none⟩ = some c) (hne : g ≠ x) (u v z : Value) :
    (((w.setCell ⟨x, 0, none⟩ u).setCell ⟨x, 1, none⟩ v).setCell ⟨x, 2, none⟩ z).cell? ⟨g, 0, none⟩ = some a ∧ (((w.setCell ⟨x, 0, none⟩ u).setCell ⟨x, 1, none⟩ v).setCell ⟨x, 2, none⟩ z).cell? ⟨g, 1, none⟩ = some b ∧ (((w.setCell ⟨x, 0, none⟩ u).setCell ⟨x, 1, none⟩ v).setCell ⟨x, 2, none⟩ z).cell? ⟨g, 2, none⟩ = some c := by
  have key : ∀ (w : World) (i : Nat) (t : Value) (j : Nat), (w.setCell ⟨x, i, none⟩ t).cell? ⟨g, j, none⟩ = w.cell? ⟨g, j, none⟩ := fun w i t j => World.cell?_setCell_far w _ _ t (fun e => hne e.symm)
  simp only [key]
  exact h
set_option maxHeartbeats 16000000 in
theorem lay_gagain {B d n0 c0 : Nat} {nn k : Int} {A0 : Option Addr} {T : List St} {sy : Nat → Sy} {W : World} {t : PT} {ps : List Pa} (hM : Ma B d T W) (hw : Wt sy T) (hR : RowP W (.slice A0 n0 c0) ps) (hP : Pths W [t] ps) (hn0 : n0 = 1) (hT : T.length + lv t ≤ 1000) (hB : B ≤ W.heap.size) (IH : LayAll B d t) (hk : k = 4 ∨ k = 5 ∨ k = 6) :
    Calls Try.prog 30 #[.pointer (some ⟨d, 0, none⟩), .agg #[.int .i64 k, .int .i64 nn, .slice A0 n0 c0]] W (LyQ2 B d T sy (agL k (lang t)) (lv t) W) := by
  obtain ⟨gp, kd, n9, A9, m9, c9, hs, hat⟩ := part_at hM hR hP (j := 0) (t := t) rfl
  simp only [Nat.zero_mul, Nat.zero_add] at hat
  have hs1 : A0 = some ⟨gp, 0, none⟩ := by simpa using (Value.slice.inj hs).1
  subst hs1
  obtain ⟨W2, hW2⟩ : ∃ W2, W2 = (W.alloc (.cells #[.int .i64 k, .int .i64 nn, .slice (some ⟨gp, 0, none⟩) n0 c0] 28)).alloc (.cells #[.slice none 0 0, .slice none 0 0, .bool false] 69) := ⟨_, rfl⟩
  have hb2 : Below W.heap.size W W2 := by rw [hW2]; exact ((Below.refl _ _).alloc (Nat.le_refl _) _).alloc (by simp) _
  have hX : Fb W2 W.heap.size 28 #[.int .i64 k, .int .i64 nn, .slice (some ⟨gp, 0, none⟩) n0 c0] := by rw [hW2]; exact (Fb.new W _ _).alloc _
  have hY : Fb W2 (W.heap.size + 1) 69 #[.slice none 0 0, .slice none 0 0, .bool false] := by
    have := Fb.new (W.alloc (.cells #[.int .i64 k, .int .i64 nn, .slice (some ⟨gp, 0, none⟩) n0 c0] 28)) 69 #[.slice none 0 0, .slice none 0 0, .bool false]
    rw [World.size_alloc] at this
    rw [hW2]; exact this
  have hM2 := hM.below hb2
  have hB2 := Nat.le_trans hB hb2.size
  obtain ⟨hpt, b0, b1, b2⟩ := hat W2.drew T ((Fr.below (hb2.drew) hB))
  have cS := IH kd n9 A9 m9 c9 T sy W2.drew hpt (hM2.below ((Below.refl _ _).drew)) hw hT hB2
  have HAt := Lib.hid (fun (w : World) (T' : List St) (h : Fr B T T' W2.drew w) => (hat w T' ((Fr.below (hb2.drew) hB).trans h)).2)
  have hNX := OB.not (hM2.below ((Below.refl W2.heap.size W2).drew)) hX.drew (by decide)
  have hNY := OB.not (hM2.below ((Below.refl W2.heap.size W2).drew)) hY.drew (by decide)
  have HB2 := Lib.hid (hb2.drew)
  have HX := Lib.hid (And.intro hX.drew hNX)
  have HY := Lib.hid (And.intro hY.drew hNY)
  have x0 := hX.cell 0
  have x2 := hX.cell 2
  have HBB := Lib.hid hB
  have HA := Lib.hid (fun (Af Al : Option Addr) (nf cf nl cl : Nat) (T1 : List St) (sy1 : Nat → Sy) (g : Gd) (em : Bool) (w : World) (h : LyR B d T sy (lang t) (lv t) W (.slice Af nf cf) (.slice Al nl cl) T1 sy1 g w) (hem : em = g.em) => again_gen h hem (by have := h.len; omega) hB hk)
  have HN1 := Lib.hid hn0
  have hn1 : (0 : Int) < (n0 : Int) := by omega
  have hn1n : 0 < n0 := by omega
  have n1 : W.heap.size ≠ W.heap.size + 1 := by omega
  have HNe := Lib.hid n1
  have HGP := Lib.hid (show gp ≠ W.heap.size + 1 from fun e => by
    rcases hR with ⟨rfl, _⟩ | ⟨g', c', cs, h1, h2, _⟩
    · obtain ⟨e1, _⟩ := Pths.of hP; simp at e1
    · have := h2.lt
      have : gp = g' := by simpa using (Value.slice.inj h1).1
      omega)
  clear hM hw hR hP hn0 hT hB IH hb2 hX hY hM2 hB2 hNX hNY hs hat hpt n1
  rcases hk with rfl | rfl | rfl
  · go_enter Try.func30, Try.ntmps30
    go_wp2
    rw [← hW2]
    clear hW2
    go_region_held3 (fun w => w.cell? ⟨W.heap.size, 0, none⟩ = some (.int .i64 4) ∧ w.cell? ⟨W.heap.size, 2, none⟩ = some (.slice (some ⟨gp, 0, none⟩) n0 c0) ∧ w.cell? ⟨gp, 0, none⟩ = some (.int .i64 kd) ∧ w.cell? ⟨gp, 1, none⟩ = some (.int .i64 n9) ∧ w.cell? ⟨gp, 2, none⟩ = some (.slice A9 m9 c9))
      (first | exact ⟨x0, x2, b0, b1, b2⟩ | exact ⟨hx5.cell 0, hx5.cell 2, hb5⟩ | exact ⟨hx6.cell 0, hx6.cell 2, hb6⟩ | exact ⟨hx7.cell 0, hx7.cell 2, hb7⟩)
      (first
        | (go_at_call 30; (with_reducible refine cS.mono ?_); rintro e w5 ⟨f, l, T1, sy1, g, rfl, hly⟩; obtain ⟨Af, cf, rfl, _⟩ := hly.fR.shape; obtain ⟨Al, cl, rfl, _⟩ := hly.lR.shape; obtain ⟨nf, hnf⟩ : ∃ nf, nf = g.f.length := ⟨_, rfl⟩; obtain ⟨nl, hnl⟩ : ∃ nl, nl = g.l.length := ⟨_, rfl⟩; rw [← hnf, ← hnl] at hly ⊢; obtain ⟨em, hem⟩ : ∃ em, em = g.em := ⟨_, rfl⟩; rw [← hem]; have hx5 := hly.fr.k _ _ _ HX.out.1 (by decide) (by decide) HX.out.2; have hy5 := hly.fr.k _ _ _ HY.out.1 (by decide) (by decide) HY.out.2; have hb5 := HAt.out w5 T1 hly.fr; have HF5 := Lib.hid hly.fr; have hNX5 := OB.not hly.ma hx5 (by decide); have hNY5 := OB.not hly.ma hy5 (by decide); have cA := HA.out Af Al nf cf nl cl T1 sy1 g em w5 (hly.from HB2.out HBB.out) hem; clear hly hnf hnl hem)
        | (go_at_call 51; (with_reducible refine cA.mono ?_); rintro e w6 ⟨T3, g', rfl, hl6, hfr6⟩; obtain ⟨em', hem'⟩ : ∃ em', em' = g'.em := ⟨_, rfl⟩; rw [← hem']; have hx6 := hfr6.k _ _ _ hx5 (by decide) (by decide) hNX5; have hy6 := hfr6.k _ _ _ hy5 (by decide) (by decide) hNY5; have hb6 := HAt.out w6 T3 (HF5.out.trans hfr6); have hx7 := ((hx6.far 0 (.slice Af nf cf) HNe.out).far 1 (.slice Al nl cl) HNe.out).far 2 (.bool em') HNe.out; have hb7 := setfar3 hb6 HGP.out (.slice Af nf cf) (.slice Al nl cl) (.bool em'); have v0 := hy6.cell 0; have v1 := hy6.cell 1; have v2 := hy6.cell 2; have u0 := hy6.free 0; have u1 := hy6.free 1; have u2 := hy6.free 2; have HLY := Lib.hid hl6; have HY6 := Lib.hid hy6; have HE := Lib.hid hem'; clear hem')
        | fail)
    all_goals
      clear cA cS x0 x2 b0 b1 b2 hx5 hy5 hb5 hx6 hy6 hb6 hx7 hb7 v0 v1 v2
      go_wp2
      have hY9 : Fb (((w6.setCell ⟨W.heap.size + 1, 0, none⟩ (.slice Af nf cf)).setCell ⟨W.heap.size + 1, 1, none⟩ (.slice Al nl cl)).setCell ⟨W.heap.size + 1, 2, none⟩ (.bool em')) (W.heap.size + 1) 69 #[.slice Af nf cf, .slice Al nl cl, .bool em'] := ((HY6.out.set 0 _).set 1 _).set 2 _
      have hL9 := ((HLY.out.set HY6.out (Nat.le_succ _) HBB.out 0 (.slice Af nf cf)).set (HY6.out.set 0 _) (Nat.le_succ _) HBB.out 1 (.slice Al nl cl)).set ((HY6.out.set 0 _).set 1 _) (Nat.le_succ _) HBB.out 2 (.bool em')
      obtain ⟨W9, hW9⟩ : ∃ W9, W9 = ((w6.setCell ⟨W.heap.size + 1, 0, none⟩ (.slice Af nf cf)).setCell ⟨W.heap.size + 1, 1, none⟩ (.slice Al nl cl)).setCell ⟨W.heap.size + 1, 2, none⟩ (.bool em') := ⟨_, rfl⟩
      rw [← hW9] at hY9 hL9
      rw [← hW9]
      have v0 := hY9.cell 0
      have v1 := hY9.cell 1
      have v2 := hY9.cell 2
      clear hW9
      try simp only [Exit.inBlock, Exit.then]
      refine bodyPost_ret (results_cell_row (P := Try.prog) rfl _ W9 (W.heap.size + 1) 69 _ (0, 0) _ rfl hY9 Try.underlying69 rfl (by kernel_rfl)) rfl ?_
      exact ⟨_, _, _, _, g', by rw [← HE.out], hL9⟩
  · go_enter Try.func30, Try.ntmps30
    go_wp2
    rw [← hW2]
    clear hW2
    go_region_held3 (fun w => w.cell? ⟨W.heap.size, 0, none⟩ = some (.int .i64 5) ∧ w.cell? ⟨W.heap.size, 2, none⟩ = some (.slice (some ⟨gp, 0, none⟩) n0 c0) ∧ w.cell? ⟨gp, 0, none⟩ = some (.int .i64 kd) ∧ w.cell? ⟨gp, 1, none⟩ = some (.int .i64 n9) ∧ w.cell? ⟨gp, 2, none⟩ = some (.slice A9 m9 c9))
      (first | exact ⟨x0, x2, b0, b1, b2⟩ | exact ⟨hx5.cell 0, hx5.cell 2, hb5⟩ | exact ⟨hx6.cell 0, hx6.cell 2, hb6⟩ | exact ⟨hx7.cell 0, hx7.cell 2, hb7⟩)
      (first
        | (go_at_call 30; (with_reducible refine cS.mono ?_); rintro e w5 ⟨f, l, T1, sy1, g, rfl, hly⟩; obtain ⟨Af, cf, rfl, _⟩ := hly.fR.shape; obtain ⟨Al, cl, rfl, _⟩ := hly.lR.shape; obtain ⟨nf, hnf⟩ : ∃ nf, nf = g.f.length := ⟨_, rfl⟩; obtain ⟨nl, hnl⟩ : ∃ nl, nl = g.l.length := ⟨_, rfl⟩; rw [← hnf, ← hnl] at hly ⊢; obtain ⟨em, hem⟩ : ∃ em, em = g.em := ⟨_, rfl⟩; rw [← hem]; have hx5 := hly.fr.k _ _ _ HX.out.1 (by decide) (by decide) HX.out.2; have hy5 := hly.fr.k _ _ _ HY.out.1 (by decide) (by decide) HY.out.2; have hb5 := HAt.out w5 T1 hly.fr; have HF5 := Lib.hid hly.fr; have hNX5 := OB.not hly.ma hx5 (by decide); have hNY5 := OB.not hly.ma hy5 (by decide); have cA := HA.out Af Al nf cf nl cl T1 sy1 g em w5 (hly.from HB2.out HBB.out) hem; clear hly hnf hnl hem)
        | (go_at_call 51; (with_reducible refine cA.mono ?_); rintro e w6 ⟨T3, g', rfl, hl6, hfr6⟩; obtain ⟨em', hem'⟩ : ∃ em', em' = g'.em := ⟨_, rfl⟩; rw [← hem']; have hx6 := hfr6.k _ _ _ hx5 (by decide) (by decide) hNX5; have hy6 := hfr6.k _ _ _ hy5 (by decide) (by decide) hNY5; have hb6 := HAt.out w6 T3 (HF5.out.trans hfr6); have hx7 := ((hx6.far 0 (.slice Af nf cf) HNe.out).far 1 (.slice Al nl cl) HNe.out).far 2 (.bool em') HNe.out; have hb7 := setfar3 hb6 HGP.out (.slice Af nf cf) (.slice Al nl cl) (.bool em'); have v0 := hy6.cell 0; have v1 := hy6.cell 1; have v2 := hy6.cell 2; have u0 := hy6.free 0; have u1 := hy6.free 1; have u2 := hy6.free 2; have HLY := Lib.hid hl6; have HY6 := Lib.hid hy6; have HE := Lib.hid hem'; clear hem')
        | fail)
    all_goals
      clear cA cS x0 x2 b0 b1 b2 hx5 hy5 hb5 hx6 hy6 hb6 hx7 hb7 v0 v1 v2
      go_wp2
      have hY9 : Fb (((w6.setCell ⟨W.heap.size + 1, 0, none⟩ (.slice Af nf cf)).setCell ⟨W.heap.size + 1, 1, none⟩ (.slice Al nl cl)).setCell ⟨W.heap.size + 1, 2, none⟩ (.bool em')) (W.heap.size + 1) 69 #[.slice Af nf cf, .slice Al nl cl, .bool em'] := ((HY6.out.set 0 _).set 1 _).set 2 _
      have hL9 := ((HLY.out.set HY6.out (Nat.le_succ _) HBB.out 0 (.slice Af nf cf)).set (HY6.out.set 0 _) (Nat.le_succ _) HBB.out 1 (.slice Al nl cl)).set ((HY6.out.set 0 _).set 1 _) (Nat.le_succ _) HBB.out 2 (.bool em')
      obtain ⟨W9, hW9⟩ : ∃ W9, W9 = ((w6.setCell ⟨W.heap.size + 1, 0, none⟩ (.slice Af nf cf)).setCell ⟨W.heap.size + 1, 1, none⟩ (.slice Al nl cl)).setCell ⟨W.heap.size + 1, 2, none⟩ (.bool em') := ⟨_, rfl⟩
      rw [← hW9] at hY9 hL9
      rw [← hW9]
      have v0 := hY9.cell 0
      have v1 := hY9.cell 1
      have v2 := hY9.cell 2
      clear hW9
      try simp only [Exit.inBlock, Exit.then]
      refine bodyPost_ret (results_cell_row (P := Try.prog) rfl _ W9 (W.heap.size + 1) 69 _ (0, 0) _ rfl hY9 Try.underlying69 rfl (by kernel_rfl)) rfl ?_
      exact ⟨_, _, _, _, g', by rw [← HE.out], hL9⟩
  · go_enter Try.func30, Try.ntmps30
    go_wp2
    rw [← hW2]
    clear hW2
    go_region_held3 (fun w => w.cell? ⟨W.heap.size, 0, none⟩ = some (.int .i64 6) ∧ w.cell? ⟨W.heap.size, 2, none⟩ = some (.slice (some ⟨gp, 0, none⟩) n0 c0) ∧ w.cell? ⟨gp, 0, none⟩ = some (.int .i64 kd) ∧ w.cell? ⟨gp, 1, none⟩ = some (.int .i64 n9) ∧ w.cell? ⟨gp, 2, none⟩ = some (.slice A9 m9 c9))
      (first | exact ⟨x0, x2, b0, b1, b2⟩ | exact ⟨hx5.cell 0, hx5.cell 2, hb5⟩ | exact ⟨hx6.cell 0, hx6.cell 2, hb6⟩ | exact ⟨hx7.cell 0, hx7.cell 2, hb7⟩)
      (first
        | (go_at_call 30; (with_reducible refine cS.mono ?_); rintro e w5 ⟨f, l, T1, sy1, g, rfl, hly⟩; obtain ⟨Af, cf, rfl, _⟩ := hly.fR.shape; obtain ⟨Al, cl, rfl, _⟩ := hly.lR.shape; obtain ⟨nf, hnf⟩ : ∃ nf, nf = g.f.length := ⟨_, rfl⟩; obtain ⟨nl, hnl⟩ : ∃ nl, nl = g.l.length := ⟨_, rfl⟩; rw [← hnf, ← hnl] at hly ⊢; obtain ⟨em, hem⟩ : ∃ em, em = g.em := ⟨_, rfl⟩; rw [← hem]; have hx5 := hly.fr.k _ _ _ HX.out.1 (by decide) (by decide) HX.out.2; have hy5 := hly.fr.k _ _ _ HY.out.1 (by decide) (by decide) HY.out.2; have hb5 := HAt.out w5 T1 hly.fr; have HF5 := Lib.hid hly.fr; have hNX5 := OB.not hly.ma hx5 (by decide); have hNY5 := OB.not hly.ma hy5 (by decide); have cA := HA.out Af Al nf cf nl cl T1 sy1 g em w5 (hly.from HB2.out HBB.out) hem; clear hly hnf hnl hem)
        | (go_at_call 51; (with_reducible refine cA.mono ?_); rintro e w6 ⟨T3, g', rfl, hl6, hfr6⟩; obtain ⟨em', hem'⟩ : ∃ em', em' = g'.em := ⟨_, rfl⟩; rw [← hem']; have hx6 := hfr6.k _ _ _ hx5 (by decide) (by decide) hNX5; have hy6 := hfr6.k _ _ _ hy5 (by decide) (by decide) hNY5; have hb6 := HAt.out w6 T3 (HF5.out.trans hfr6); have hx7 := ((hx6.far 0 (.slice Af nf cf) HNe.out).far 1 (.slice Al nl cl) HNe.out).far 2 (.bool em') HNe.out; have hb7 := setfar3 hb6 HGP.out (.slice Af nf cf) (.slice Al nl cl) (.bool em'); have v0 := hy6.cell 0; have v1 := hy6.cell 1; have v2 := hy6.cell 2; have u0 := hy6.free 0; have u1 := hy6.free 1; have u2 := hy6.free 2; have HLY := Lib.hid hl6; have HY6 := Lib.hid hy6; have HE := Lib.hid hem'; clear hem')
        | fail)
    all_goals
      clear cA cS x0 x2 b0 b1 b2 hx5 hy5 hb5 hx6 hy6 hb6 hx7 hb7 v0 v1 v2
      go_wp2
      have hY9 : Fb (((w6.setCell ⟨W.heap.size + 1, 0, none⟩ (.slice Af nf cf)).setCell ⟨W.heap.size + 1, 1, none⟩ (.slice Al nl cl)).setCell ⟨W.heap.size + 1, 2, none⟩ (.bool em')) (W.heap.size + 1) 69 #[.slice Af nf cf, .slice Al nl cl, .bool em'] := ((HY6.out.set 0 _).set 1 _).set 2 _
      have hL9 := ((HLY.out.set HY6.out (Nat.le_succ _) HBB.out 0 (.slice Af nf cf)).set (HY6.out.set 0 _) (Nat.le_succ _) HBB.out 1 (.slice Al nl cl)).set ((HY6.out.set 0 _).set 1 _) (Nat.le_succ _) HBB.out 2 (.bool em')
      obtain ⟨W9, hW9⟩ : ∃ W9, W9 = ((w6.setCell ⟨W.heap.size + 1, 0, none⟩ (.slice Af nf cf)).setCell ⟨W.heap.size + 1, 1, none⟩ (.slice Al nl cl)).setCell ⟨W.heap.size + 1, 2, none⟩ (.bool em') := ⟨_, rfl⟩
      rw [← hW9] at hY9 hL9
      rw [← hW9]
      have v0 := hY9.cell 0
      have v1 := hY9.cell 1
      have v2 := hY9.cell 2
      clear hW9
      try simp only [Exit.inBlock, Exit.then]
      refine bodyPost_ret (results_cell_row (P := Try.prog) rfl _ W9 (W.heap.size + 1) 69 _ (0, 0) _ rfl hY9 Try.underlying69 rfl (by kernel_rfl)) rfl ?_
      exact ⟨_, _, _, _, g', by rw [← HE.out], hL9⟩
end Go.Proofs.Ytghlajfalgdkfaa
