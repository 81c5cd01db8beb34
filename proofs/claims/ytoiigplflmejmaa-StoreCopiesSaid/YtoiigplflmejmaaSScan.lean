/-
  Store.Scan's closure, the law's own as its yield: how often a key is told.
-/
import Derived.Test.YtoiigplflmejmaaSFromN
import Derived.RangeFuncNested
import Derived.RangeFuncBound
import Derived.RangeFuncCalls
import Derived.RangeFuncLeaves
import Derived.Shelf.Abstract
import Derived.Shelf.RegionOpen
import Derived.WalkKit
import Derived.OwnWalkIn
import Derived.TacticsInMore
import Derived.LoopNIn
import Derived.LoopIn
import Derived.Deep.RegionHeld3
namespace Go.Proofs.Ytoiigplflmejmaa
open Go.RowKit Go.Shelf
set_option linter.unusedVariables false
set_option linter.unusedSimpArgs false
set_option maxRecDepth 100000
attribute [local go_sem] Oper.semAt_some


theorem sfromF_lx {n0 gn : Nat} {w : World} (hw : n0 ≤ w.heap.size) {B d o : Nat} {n : Int} {x : Value} {l : List Kt} {F : List Nat} {k : Kt} {bl bk : Nat} (h : Lx B w d o n x l F) (hd : d < w.heap.size) (hl : l.length ≤ 1000)
    (hbl : Fb w bl 67 #[.pointer (some ⟨d, o, none⟩)]) (hbk : Fb w bk 37 #[.int .i64 k.a, .int .i64 k.b, .int .i64 k.c]) (q1 : bl < n0 ∧ bl ≠ gn) (q2 : d < n0 ∧ d ≠ gn) (qF : ∀ q ∈ F, q < n0 ∧ q ≠ gn) :
    SeqStopsK Fence.wide 4 Try.prog 42 #[.pointer (some ⟨bl, 0, none⟩), .pointer (some ⟨bk, 0, none⟩)] encK (But n0 gn) (FromS n l k) (FromP n l k) l.length w := by
  obtain ⟨c0, c1, h⟩ := h
  rcases h with ⟨rfl, ⟨A0, c0', rfl⟩, _⟩ | ⟨gb, cb, v, g, rfl, hvg, rfl, hm, hp, hs, hge⟩
  · exact sfromF_nil hw c0 c1 hd hbl hbk q1 q2
  · rcases id hm.hr.2 with ⟨hv, hl0⟩ | ⟨g', cap, cur, hv, _, _, hcap, _⟩
    · omega
    · have e : g = g' := by rw [hv] at hvg; exact (Option.some.inj hvg).symm
      subst e
      subst hv
      exact sfromF_one hw hm hl hp hs hcap hbl hbk ⟨q1, q2, qF gb (by simp), qF g (by simp)⟩
/-- The list of a pattern's order. -/
theorem sy_list {B d : Nat} {room many : Int} {m : List Kt} {x0 x1 x2 : Value} {l0 l1 l2 : List Kt} {F0 F1 F2 : List Nat} {W : World} (h : Sy B d room many m m m x0 x1 x2 l0 l1 l2 F0 F1 F2 W) (p : Kt) :
    ∃ (o : Nat) (x : Value) (l : List Kt) (F : List Nat), ordK p = (o : Int) ∧ o < 3 ∧ Lx B W d (2 + o * 2) (ordK p) x l F ∧ l.Perm m := by
  rcases ordK_cases p with ⟨ho, _⟩ | ⟨ho, _⟩ | ⟨ho, _⟩ <;> rw [ho]
  · exact ⟨1, _, _, _, rfl, by decide, h.a1, h.p1⟩
  · exact ⟨2, _, _, _, rfl, by decide, h.a2, h.p2⟩
  · exact ⟨0, _, _, _, rfl, by decide, h.a0, h.p0⟩
theorem tw_all {f : Kt → Bool} : ∀ {L : List Kt}, (∀ z ∈ L, f z = true) → L.takeWhile f = L
  | [], _ => rfl
  | y :: L, h => by rw [List.takeWhile_cons, if_pos (h y (.head _)), tw_all (fun z hz => h z (.tail _ hz))]
theorem tw_stop {f : Kt → Bool} {x : Kt} (hx : f x = false) : ∀ {pre L : List Kt}, (pre ++ [x]) <+: L → (∀ z ∈ pre, f z = true) → L.takeWhile f = pre
  | [], L, h, _ => by
    obtain ⟨t, rfl⟩ := h
    simp [List.takeWhile_cons, hx]
  | y :: pre, L, h, ha => by
    obtain ⟨t, rfl⟩ := h
    rw [List.cons_append, List.cons_append, List.takeWhile_cons, if_pos (ha y (.head _)), tw_stop hx ⟨t, rfl⟩ (fun z hz => ha z (.tail _ hz))]
theorem cnt1_snoc (x k : Kt) (y : Int) (pre : List Kt) : cnt1 x k (y + ((pre.count k : Nat) : Int)) = y + (((pre ++ [x]).count k : Nat) : Int) := by
  unfold cnt1
  rw [List.count_append, List.count_singleton]
  by_cases h : x = k
  · rw [if_pos h]; simp [h]; omega
  · rw [if_neg h]
    have : (x == k) = false := by simp [h]
    simp [this]
theorem fb_ty_ne {w : World} {g h : Nat} {t u : TypeId} {cs ds : Array Value} (a : Fb w g t cs) (b : Fb w h u ds) (hne : t ≠ u) : g ≠ h := fun e => by
  subst e
  unfold Fb at a b
  rw [a] at b
  injection b with b
  injection b with _ b
  exact hne b
theorem Fb.but {n0 gn : Nat} {A B : World} {g : Nat} {t : TypeId} {cs : Array Value} (h : Fb A g t cs) (hb : But n0 gn A B) (h1 : g < n0) (h2 : g ≠ gn) : Fb B g t cs := (hb.block g h1 h2).trans h
theorem cn_of {gn : Nat} {Y : Int} {W w3 W6 W7 : World} (h1 : Below W.heap.size W w3) (h2 : But w3.heap.size gn w3 W6) (h3 : Below w3.heap.size W6 W7) (hf : Fb W7 gn 3 #[.int .i64 Y]) : Cn gn Y W W7 :=
  ⟨h3.os.trans (h2.os.trans h1.os), h3.tape.trans (h2.tape.trans h1.tape), h3.output.trans (h2.output.trans h1.output), Nat.le_trans h1.size (Nat.le_trans h2.size h3.size), fun q hq hn => by
    have hq3 : q < w3.heap.size := Nat.lt_of_lt_of_le hq h1.size
    exact (h3.block q hq3).trans ((h2.block q hq3 hn).trans (h1.block q hq)), hf⟩
theorem keeps_below {B : Nat} {W W' : World} (h : Below W.heap.size W W') : KeepsFrom B W W' := ⟨h.size, fun k o _ hk _ => (h.block k (Array.getElem?_eq_some_iff.1 hk).1).trans hk⟩
theorem keeps_cn {B gn : Nat} {Y : Int} {W W' : World} (h : Cn gn Y W W') (hB : gn < B) : KeepsFrom B W W' := ⟨h.size, fun k o hk hk2 _ => (h.block k (Array.getElem?_eq_some_iff.1 hk2).1 (by omega)).trans hk2⟩
theorem but_cn {n0 gn : Nat} {Y : Int} {W W' : World} (h : Cn gn Y W W') (hn : n0 ≤ W.heap.size) : But n0 gn W W' := ⟨h.os, h.tape, h.output, h.size, fun q hq hne => h.block q (Nat.lt_of_lt_of_le hq hn) hne⟩
theorem lx_ne {B : Nat} {W : World} {d o : Nat} {n : Int} {x : Value} {l : List Kt} {F : List Nat} {gn : Nat} {cs : Array Value} (h : Lx B W d o n x l F) (hn : Fb W gn 3 cs) : ∀ q ∈ F, q ≠ gn := fun q hq e => by
  subst e
  obtain ⟨_, _, h⟩ := h
  rcases h with ⟨_, _, rfl⟩ | ⟨gb, cb, v, g, _, hvg, rfl, hm, _, _, _⟩
  · cases hq
  · simp at hq
    rcases hq with rfl | rfl
    · exact fb_ty_ne hm.hb.choose_spec hn (by decide) rfl
    · rcases id hm.hr.2 with ⟨hv, _⟩ | ⟨g', cap, cur, hv, _, hg, _⟩
      · rw [hv] at hvg; cases hvg
      · have e : q = g' := by rw [hv] at hvg; exact (Option.some.inj hvg).symm
        subst e
        exact fb_ty_ne (show Fb W q 37 cur from hg) hn (by decide) rfl
theorem lx_rises {B : Nat} {W : World} {d o : Nat} {n : Int} {x : Value} {l : List Kt} {F : List Nat} (h : Lx B W d o n x l F) : Rs n l := by
  obtain ⟨_, _, h⟩ := h
  rcases h with ⟨rfl, _, _⟩ | ⟨gb, cb, v, g, _, hvg, _, hm, _, hs, _⟩
  · exact List.Pairwise.nil
  · exact hs
/-- Between two rounds. -/
def ScI (w3 : World) (gn : Nat) (y : Int) (p k : Kt) (pre : List Kt) (w : World) : Prop := Fb w gn 3 #[.int .i64 (y + ((pre.count k : Nat) : Int))] ∧ But w3.heap.size gn w3 w ∧ ∀ z ∈ pre, fitK p z = true
def ScX (w3 : World) (gn : Nat) (y : Int) (p k : Kt) (c : Code) (qs : List Kt) (w : World) : Prop := c = .ret ∧ ∃ pre x, qs = pre ++ [x] ∧ fitK p x = false ∧ ScI w3 gn y p k pre w
theorem fb_grown {w w' : World} {row : Option Nat} {B g : Nat} {t : TypeId} {cs : Array Value} (h : Fb w g t cs) (hg : w.grownBy w' row) (hr : ∀ r, row = some r → B ≤ r ∧ ∃ o : Obj, w.heap[r]? = some o ∧ o.isCells = false) : Fb w' g t cs := by
  refine (hg.block g h.lt fun e => ?_).trans h
  obtain ⟨_, o, ho, hc⟩ := hr g e.symm
  unfold Fb at h
  rw [h] at ho
  injection ho with ho
  subst ho
  cases hc
theorem but_grown {w3 w w' : World} {row : Option Nat} {gn : Nat} (h : But w3.heap.size gn w3 w) (hg : w.grownBy w' row) (hr : ∀ r, row = some r → w3.heap.size ≤ r ∧ ∃ o : Obj, w.heap[r]? = some o ∧ o.isCells = false) : But w3.heap.size gn w3 w' :=
  h.trans ⟨hg.os, hg.tape, hg.output, hg.size, fun q hq _ => hg.block q (Nat.lt_of_lt_of_le hq h.size) fun e => by have := (hr q e.symm).1; omega⟩
theorem scI_own (w3 : World) (gn : Nat) (y : Int) (p k : Kt) : OwnFrom w3.heap.size (ScI w3 gn y p k) := fun pre W W' row h hg hr => ⟨fb_grown h.1 hg hr, but_grown h.2.1 hg hr, h.2.2⟩
theorem scX_own (w3 : World) (gn : Nat) (y : Int) (p k : Kt) (c : Code) : OwnFrom w3.heap.size (ScX w3 gn y p k c) := fun qs W W' row h hg hr => by
  obtain ⟨hc, pre, x, hq, hf, hi⟩ := h
  exact ⟨hc, pre, x, hq, hf, scI_own w3 gn y p k pre W W' row hi hg hr⟩
def ScanIs (gn : Nat) (y : Int) (m : List Kt) (p k : Kt) (W W' : World) : Prop := ∃ l i, List.Perm l m ∧ SeaAt (notA (ordK p) l (leastK p)) l.length i ∧ Rs (ordK p) l ∧ Cn gn (y + ((toldK l i p).count k : Nat)) W W'
set_option maxHeartbeats 16000000 in
theorem sscanF_any {B d bs bp gk gn : Nat} {room many y : Int} {m : List Kt} {W : World} (hS : Sx B d room many m m m W) (hm : m.length ≤ 1000) (p k : Kt) (hbs : Fb W bs 24 #[.pointer (some ⟨d, 0, none⟩)]) (hbp : Fb W bp 48 #[.int .i64 p.a, .int .i64 p.b, .int .i64 p.c])
    (hk : Fb W gk 31 #[.int .i64 k.a, .int .i64 k.b, .int .i64 k.c]) (hn : Fb W gn 3 #[.int .i64 y]) (y0 : 0 ≤ y) (y1 : y ≤ 1000) :
    Calls Try.prog 31 #[.func (.func 22) #[] #[.pointer (some ⟨gk, 0, none⟩), .pointer (some ⟨gn, 0, none⟩)], .pointer (some ⟨bs, 0, none⟩), .pointer (some ⟨bp, 0, none⟩)] W fun e w' => (∃ v, e = .returned v) ∧ ScanIs gn y m p k W w' := by
  obtain ⟨W1, hW1⟩ : ∃ W1, W1 = W.alloc (.cells #[.func (.func 22) #[] #[.pointer (some ⟨gk, 0, none⟩), .pointer (some ⟨gn, 0, none⟩)]] 39) := ⟨_, rfl⟩
  obtain ⟨by_, hby⟩ : ∃ b, b = W.heap.size := ⟨_, rfl⟩
  have hB1 : Below W.heap.size W W1 := by rw [hW1]; exact (Below.refl _ _).alloc (Nat.le_refl _) _
  have hF1 : Fb W1 by_ 39 #[.func (.func 22) #[] #[.pointer (some ⟨gk, 0, none⟩), .pointer (some ⟨gn, 0, none⟩)]] := by rw [hW1, hby]; exact Fb.new _ _ _
  have hS1 := hS.below hB1
  have hbs1 := hbs.below hB1
  have hbp1 := hbp.below hB1
  have hk1 := hk.below hB1
  have hn1 := hn.below hB1
  obtain ⟨x0, x1, x2, l0, l1, l2, F0, F1, F2, hS2⟩ := hS1
  obtain ⟨o, x, l, F, ho, ho3, hL, hperm⟩ := sy_list hS2 p
  have cO := fun W => sorder_any p.a p.b p.c W
  have cL := fun W => sleast_any p.a p.b p.c W
  have hpo : ordP p.a p.b p.c = (o : Int) := ho
  rw [hpo] at cO
  have K : ∀ w, Below W1.heap.size W1 w → w.cell? ⟨bs, 0, none⟩ = some (.pointer (some ⟨d, 0, none⟩)) ∧ w.cell? ⟨bp, 0, none⟩ = some (.int .i64 p.a) ∧ w.cell? ⟨bp, 1, none⟩ = some (.int .i64 p.b) ∧ w.cell? ⟨bp, 2, none⟩ = some (.int .i64 p.c) := fun w hb => ⟨(hbs1.below hb).cell 0, (hbp1.below hb).cell 0, (hbp1.below hb).cell 1, (hbp1.below hb).cell 2⟩
  have hoI : (0 : Int) ≤ (o : Int) := by omega
  have hoI3 : (o : Int) < 3 := by omega
  have HS := Lib.hid hS2
  have HL := Lib.hid hL
  have HP := Lib.hid hperm
  have HRS := Lib.hid (lx_rises hL)
  have HO := Lib.hid ho
  have HK := Lib.hid (And.intro hk1 hn1)
  have HB := Lib.hid (And.intro hbs1 hbp1)
  have HY := Lib.hid (And.intro y0 y1)
  have HM := Lib.hid hm
  have HF1 := Lib.hid hF1
  have HB1 := Lib.hid hB1
  have HW1 := Lib.hid hW1
  have HBY := Lib.hid hby
  have HGN := Lib.hid hn.lt
  clear hk hn hbs hbp y0 y1 hm hS hS2 hL hperm ho hpo ho3 hbs1 hbp1 hk1 hn1 hF1 hB1 hW1 hby
  refine (callsIn_wide (n := 5)).1 ?_
  refine callsIn_of_wp_marks Try.func31 rfl trivial ?_ rfl
  simp only [Try.ntmps31, List.size_toArray, List.length_cons, List.length_nil, Nat.reduceAdd, Nat.reduceSub, Array.replicate_succ, Array.replicate_zero, List.push_toArray, List.append_toArray, List.nil_append, List.cons_append]
  gi_wp2
  rw [← HW1.out, ← HBY.out]
  refine wpIn_wide.2 ?_
  go_region_held3 (fun w => w.cell? ⟨bs, 0, none⟩ = some (.pointer (some ⟨d, 0, none⟩)) ∧ w.cell? ⟨bp, 0, none⟩ = some (.int .i64 p.a) ∧ w.cell? ⟨bp, 1, none⟩ = some (.int .i64 p.b) ∧ w.cell? ⟨bp, 2, none⟩ = some (.int .i64 p.c))
    (first | (refine K _ ?_; repeat (first | with_reducible assumption | with_reducible exact Below.refl _ _ | with_reducible refine Below.drew ?_ | with_reducible refine Below.alloc ?_ (by first | exact Nat.le_refl _ | (simp; done) | (simp; omega) | (have := hZ1.size; simp; omega) | (have := hZ2.size; simp; omega)) _)))
    (first
      | (go_at_call 23; (with_reducible refine (cO _).mono ?_); rintro e z1 ⟨rfl, hz1⟩; have hZ1 : Below W1.heap.size W1 z1 := Below.trans (by repeat (first | with_reducible assumption | with_reducible exact Below.refl _ _ | with_reducible refine Below.drew ?_ | with_reducible refine Below.alloc ?_ (by first | exact Nat.le_refl _ | (simp; done) | (simp; omega) | (have := hZ1.size; simp; omega) | (have := hZ2.size; simp; omega)) _)) (hz1.mono (by simp)))
      | (go_at_call 33; (with_reducible refine (cL _).mono ?_); rintro e z2 ⟨rfl, hz2⟩; have hZ2 : Below W1.heap.size W1 z2 := Below.trans (by repeat (first | with_reducible assumption | with_reducible exact Below.refl _ _ | with_reducible refine Below.drew ?_ | with_reducible refine Below.alloc ?_ (by first | exact Nat.le_refl _ | (simp; done) | (simp; omega) | (have := hZ1.size; simp; omega) | (have := hZ2.size; simp; omega)) _)) (hz2.mono (by have := hZ1.size; first | exact this | (simp; done) | (simp; omega))))
      | (go_at_call 32; (with_reducible refine (slfrom_any _ _ _ _ _ _).mono ?_); rintro e z3 ⟨rfl, rfl⟩)
      | fail)
  obtain ⟨w3, hw3⟩ : ∃ w3, w3 = (z2.alloc (.cells #[.pointer (some ⟨d, 2 + o * 2, none⟩)] 67)).alloc (.cells #[.int .i64 (max p.a 0), .int .i64 (max p.b 0), .int .i64 (max p.c 0)] 37) := ⟨_, rfl⟩
  rw [← hw3]
  have hb1 : Fb w3 z2.heap.size 67 #[.pointer (some ⟨d, 2 + o * 2, none⟩)] := by rw [hw3]; exact (Fb.new _ _ _).alloc _
  have hb2 : Fb w3 (z2.heap.size + 1) 37 #[.int .i64 (leastK p).a, .int .i64 (leastK p).b, .int .i64 (leastK p).c] := by
    have := Fb.new (z2.alloc (.cells #[.pointer (some ⟨d, 2 + o * 2, none⟩)] 67)) 37 #[.int .i64 (max p.a 0), .int .i64 (max p.b 0), .int .i64 (max p.c 0)]
    rw [World.size_alloc] at this
    rw [hw3]; exact this
  have hZ3 : Below W1.heap.size W1 w3 := by rw [hw3]; exact (hZ2.alloc hZ2.size _).alloc (by have := hZ2.size; simp; omega) _
  have hsz : z2.heap.size + 2 = w3.heap.size := by rw [hw3]; simp
  have hzl := hZ2.size
  have hgn1 : gn < W1.heap.size := HK.out.2.lt
  have hgn3 : gn < w3.heap.size := Nat.lt_of_lt_of_le hgn1 hZ3.size
  have hby1 : by_ ≠ gn := fb_ty_ne HF1.out HK.out.2 (by decide)
  have q1 : z2.heap.size < w3.heap.size ∧ z2.heap.size ≠ gn := by omega
  have q2 : d < w3.heap.size ∧ d ≠ gn := ⟨(HS.out.fb.below hZ3).lt, fb_ty_ne HS.out.fb HK.out.2 (by decide)⟩
  have qF : ∀ q ∈ F, q < w3.heap.size ∧ q ≠ gn := fun q hq => ⟨Nat.lt_of_lt_of_le (HL.out.ge q hq).2 hZ3.size, lx_ne HL.out HK.out.2 q hq⟩
  have hL3 := HL.out.below HS.out.fb.lt hZ3
  have hseq := sfromF_lx (n0 := w3.heap.size) (gn := gn) (Nat.le_refl _) (k := leastK p) hL3 (HS.out.fb.below hZ3).lt (by rw [HP.out.length_eq]; exact HM.out) hb1 hb2 q1 q2 qF
  have HFB := Lib.hid (fun (w : World) (hb : But w3.heap.size gn w3 w) => (⟨(HB.out.2.below hZ3).but hb (HB.out.2.below hZ3).lt (fb_ty_ne HB.out.2 HK.out.2 (by decide)), (HK.out.1.below hZ3).but hb (HK.out.1.below hZ3).lt (fb_ty_ne HK.out.1 HK.out.2 (by decide)), (HF1.out.below hZ3).but hb (HF1.out.below hZ3).lt hby1⟩ : Fb w bp 48 #[.int .i64 p.a, .int .i64 p.b, .int .i64 p.c] ∧ Fb w gk 31 #[.int .i64 k.a, .int .i64 k.b, .int .i64 k.c] ∧ Fb w by_ 39 #[.func (.func 22) #[] #[.pointer (some ⟨gk, 0, none⟩), .pointer (some ⟨gn, 0, none⟩)]]))
  have HCN := Lib.hid (fun (Y : Int) (W6 W7 : World) (h2 : But w3.heap.size gn w3 W6) (h3 : Below w3.heap.size W6 W7) (hf : Fb W7 gn 3 #[.int .i64 Y]) => cn_of (HB1.out.trans (hZ3.mono HB1.out.size)) h2 h3 hf)
  have HI0 : Hid (ScI w3 gn y p k [] w3) := Lib.hid ⟨by simpa using HK.out.2.below hZ3, But.refl _ _ _, fun z hz => by cases hz⟩
  have hlen : l.length ≤ 1000 := by rw [HP.out.length_eq]; exact HM.out
  have HLN := Lib.hid hlen
  have HGN3 := Lib.hid hgn3
  clear hb1 hb2 hZ3 hsz hzl hgn1 hgn3 hby1 q1 q2 qF hL3 hZ1 hZ2 hz1 hz2 K cO cL hlen hw3
  gi_wp2
  refine wpIn_rangeFunc_ownH rfl (by decide) (gf := 42) (lb := #[.pointer (some ⟨z2.heap.size, 0, none⟩), .pointer (some ⟨z2.heap.size + 1, 0, none⟩)]) rfl trivial (enters_of Try.func42 (by kernel_rfl) rfl) hseq (fun h k => h.trans k) (but_b (Nat.le_refl _)) (Below.refl _ _) (fun _ => rfl)
    (ScI w3 gn y p k) (ScX w3 gn y p k) (scI_own w3 gn y p k) (scX_own w3 gn y p k) HI0.out
    (fun x a' w => ∃ Bx, w3.heap.size ≤ Bx ∧ Fb w Bx 37 #[.int .i64 x.a, .int .i64 x.b, .int .i64 x.c] ∧ a' = { tmps := #[.func (.func 22) #[] #[.pointer (some ⟨gk, 0, none⟩), .pointer (some ⟨gn, 0, none⟩)], .pointer (some ⟨bs, 0, none⟩), .pointer (some ⟨bp, 0, none⟩), .pointer (some ⟨by_, 0, none⟩), .pointer (some ⟨Bx, 0, none⟩), .pointer (some ⟨d, 0, none⟩), .agg #[.int .i64 p.a, .int .i64 p.b, .int .i64 p.c], .int .i64 o, .pointer (some ⟨d, 0, none⟩), .pointer (some ⟨d, 2, none⟩), .pointer (some ⟨d, 2 + o * 2, none⟩), .agg #[.int .i64 p.a, .int .i64 p.b, .int .i64 p.c], .agg #[.int .i64 (max p.a 0), .int .i64 (max p.b 0), .int .i64 (max p.c 0)], .func (.func 42) #[] #[.pointer (some ⟨z2.heap.size, 0, none⟩), .pointer (some ⟨z2.heap.size + 1, 0, none⟩)], .agg #[.int .i64 x.a, .int .i64 x.b, .int .i64 x.c], undef, undef, undef, undef, undef, undef, undef, undef, undef, undef], defers := [] })
    (fun x a' _ W5 W6 row h hg hr => by
      obtain ⟨Bx, h1, h2, h3⟩ := h
      exact ⟨Bx, h1, fb_grown h2 hg hr, h3⟩) ?assign ?body ?done ?stop
  case assign =>
    rintro lr pre x W5 K hI hK
    have HI := Lib.hid hI
    have hal : Below W5.heap.size W5 (W5.alloc (.cells #[.int .i64 x.a, .int .i64 x.b, .int .i64 x.c] 37)) := (Below.refl _ _).alloc (Nat.le_refl _) _
    have HAL := Lib.hid hal
    clear hseq hI hal
    unfold encK
    gi_wp2
    exact hK _ _ (keeps_below HAL.out) (But.of HAL.out HI.out.2.1.size) ⟨HI.out.1.alloc _, HI.out.2.1.trans (But.of HAL.out HI.out.2.1.size), HI.out.2.2⟩ ⟨W5.heap.size, HI.out.2.1.size, Fb.new _ _ _, rfl⟩
  case body =>
    rintro lr pre x a' W5 hlr ⟨r, hr⟩ ⟨hf, hb, ha⟩ ⟨Bx, hBx, bX, rfl⟩ hlt
    obtain ⟨fp, fk, fy⟩ := HFB.out W5 hb
    have p0 := fp.cell 0
    have p1 := fp.cell 1
    have p2 := fp.cell 2
    have b0 := bX.cell 0
    have b1 := bX.cell 1
    have b2 := bX.cell 2
    have cF : Calls Try.prog 34 #[.agg #[.int .i64 p.a, .int .i64 p.b, .int .i64 p.c], .agg #[.int .i64 x.a, .int .i64 x.b, .int .i64 x.c]] W5 fun e w' => e = .returned (.bool (fitK p x)) ∧ Below W5.heap.size W5 w' := sfits_any p.a p.b p.c x.a x.b x.c W5
    have HR := Lib.hid (And.intro hf (And.intro hb ha))
    have HX := Lib.hid (And.intro bX (And.intro fk fy))
    have hc0 : (pre.count k : Int) ≤ 1000 := by have := List.count_le_length (a := k) (l := pre); have := HLN.out; omega
    have HC := Lib.hid (show 0 ≤ y + ((pre.count k : Nat) : Int) ∧ y + ((pre.count k : Nat) : Int) ≤ 100000 from by have := HY.out.1; have := HY.out.2; omega)
    clear hseq hf hb ha fp fk fy bX hc0 hlr hr hlt hBx
    cases hfx : fitK p x with
    | false =>
      rw [hfx] at cF
      have HFX := Lib.hid hfx
      clear hfx
      gi_wp2_with (refine ⟨trivial, ?_⟩; gi_at_call 34; refine (CallsIn.inRound lr (callsIn_wide.2 cF)).mono ?_; rintro e z4 ⟨rfl, hz4⟩)
      refine ⟨fun _ h => (by cases h), ?_⟩
      gi_wp2
      exact ⟨keeps_below hz4, rfl, pre, x, rfl, HFX.out, HR.out.1.below hz4, HR.out.2.1.trans (But.of hz4 HR.out.2.1.size), HR.out.2.2⟩
    | true =>
      rw [hfx] at cF
      have HFX := Lib.hid hfx
      clear hfx
      have cY := fun (w : World) (h : Below W5.heap.size W5 w) => syield_any x k (HX.out.2.1.below h) (HR.out.1.below h) HC.out.1 HC.out.2
      have HXC := Lib.hid (fun (w : World) (h : Below W5.heap.size W5 w) => (⟨(HX.out.1.below h).cell 0, (HX.out.1.below h).cell 1, (HX.out.1.below h).cell 2, (HX.out.2.2.below h).cell 0⟩ : _ ∧ _ ∧ _ ∧ _))
      gi_wp2_with (first
        | (refine ⟨trivial, ?_⟩; gi_at_call 34; refine (CallsIn.inRound lr (callsIn_wide.2 cF)).mono ?_; rintro e z4 ⟨rfl, hz4⟩; obtain ⟨v0, v1, v2, v3⟩ := HXC.out _ hz4)
        | (refine ⟨trivial, ?_⟩; gi_at_call 22; refine (CallsIn.inRound lr (callsIn_wide.2 (cY _ hz4))).mono ?_; rintro e z5 ⟨rfl, hz5⟩))
      exact ⟨(keeps_below hz4).trans (keeps_cn hz5 HGN3.out), (But.of hz4 HR.out.2.1.size).trans (but_cn hz5 (Nat.le_trans HR.out.2.1.size hz4.size)), by rw [← cnt1_snoc]; exact hz5.cn, (HR.out.2.1.trans (But.of hz4 HR.out.2.1.size)).trans (but_cn hz5 (Nat.le_trans HR.out.2.1.size hz4.size)), fun z hz => by
        rcases List.mem_append.1 hz with h | h
        · exact HR.out.2.2 z h
        · rw [List.mem_singleton.1 h]; exact HFX.out⟩
  case done =>
    rintro D ys W6 hD ⟨i, hsi, rfl⟩ hI hK
    have HI := Lib.hid hI
    have HSI := Lib.hid hsi
    have hB7 : Below w3.heap.size W6 (W6.putObj D (.deferred none)) := belowK_b (w := w3) (n₀ := w3.heap.size) (Nat.le_refl _) W6 D _ _ hD hK rfl rfl
    have HB7 := Lib.hid hB7
    clear hseq hI hsi hB7
    gi_wp2
    refine ⟨by simp, .inl ⟨_, _, rfl, run_takeDeferred hK, ?_⟩⟩
    refine ⟨_, results_none rfl _ _ _, ⟨_, rfl⟩, l, i, HP.out, HSI.out, HRS.out, ?_⟩
    have e : toldK l i p = l.drop i := tw_all HI.out.2.2
    rw [e]
    exact HCN.out _ W6 _ HI.out.2.1 HB7.out ((HB7.out.block gn HGN3.out).trans HI.out.1)
  case stop =>
    rintro D c qs W6 hD ⟨i, hsi, hpre⟩ ⟨rfl, pre, x, rfl, hfx, hI⟩ hK
    have HI := Lib.hid hI
    have HSI := Lib.hid (And.intro hsi (And.intro hpre hfx))
    have hB7 : Below w3.heap.size W6 (W6.putObj D (.deferred none)) := belowK_b (w := w3) (n₀ := w3.heap.size) (Nat.le_refl _) W6 D _ _ hD hK rfl rfl
    have HB7 := Lib.hid hB7
    clear hseq hI hsi hpre hfx hB7
    gi_wp2
    refine ⟨by simp, .inl ⟨_, _, rfl, run_takeDeferred hK, ?_⟩⟩
    refine ⟨_, results_none rfl _ _ _, ⟨_, rfl⟩, l, i, HP.out, HSI.out.1, HRS.out, ?_⟩
    have e : toldK l i p = pre := tw_stop HSI.out.2.2 HSI.out.2.1 HI.out.2.2
    rw [e]
    exact HCN.out _ W6 _ HI.out.2.1 HB7.out ((HB7.out.block gn HGN3.out).trans HI.out.1)
end Go.Proofs.Ytoiigplflmejmaa
