/-
  SScanS, SScanned, joined.
-/
import Derived.Test.YtoiigplflmejmaaSScanG
import Derived.Test.YtoiigplflmejmaaSKplain
import Derived.Deep.QuietTactic
import Derived.BigQuiet
import Derived.StillTailTactics
import Derived.BigRegion
import Derived.Deep.RegionHeld3
import Derived.RangeFuncNested
import Derived.RangeFuncBound
import Derived.RangeFuncCalls
import Derived.RangeFuncLeaves
import Derived.Shelf.Abstract
import Derived.Shelf.RegionOpen
import Derived.WalkKit
import Derived.OwnWalkIn
import Derived.TacticsInMore
import Derived.LoopNIn
import Derived.LoopIn
import Derived.Test.YtoiigplflmejmaaSSumE
import Derived.Test.YtoiigplflmejmaaSKscan
import Derived.Deep.CutRange
import Derived.Deep.CutBlock
namespace Go.Proofs.Ytoiigplflmejmaa
open Go.RowKit Go.Shelf
set_option linter.unusedVariables false
set_option linter.unusedSimpArgs false
set_option maxRecDepth 100000
attribute [local go_sem] Oper.semAt_some


def okn (b : Bool) (WL : List Kt) (i : Nat) (x : Kt) : Bool := b && decide (WL[i]? = some x)
structure Yn (gok gi : Nat) (b : Bool) (i : Nat) (W W' : World) : Prop where
  kq : Kq (fun q => q = gok ∨ q = gi) W W'
  f1 : Fb W' gok 4 #[.bool b]
  f2 : Fb W' gi 3 #[.int .i64 (i : Nat)]
theorem yn_of {W W1 : World} {gok gi : Nat} {b b' : Bool} {i : Nat} (hb : Below W.heap.size W W1) (h1 : Fb W gok 4 #[.bool b]) (h2 : Fb W gi 3 #[.int .i64 (i : Nat)]) : Yn gok gi b' (i + 1) W ((W1.setCell ⟨gok, 0, none⟩ (.bool b')).setCell ⟨gi, 0, none⟩ (.int .i64 ((i : Int) + 1))) := by
  have hne : gok ≠ gi := fb_ty_ne h1 h2 (by decide)
  refine ⟨⟨hb.os, hb.tape, hb.output, by simpa [World.setCell] using hb.size, fun q o hn hq => ?_⟩, ?_, ?_⟩
  · have n1 : q ≠ gi := fun e => hn (.inr e)
    have n2 : q ≠ gok := fun e => hn (.inl e)
    exact (Below.heap_setCell _ _ _ _ n1).trans ((Below.heap_setCell _ _ _ _ n2).trans ((hb.block q (Array.getElem?_eq_some_iff.1 hq).1).trans hq))
  · exact ((h1.below hb).set 0 (.bool b')).far 0 _ hne
  · have := ((h2.below hb).far 0 (.bool b') hne.symm).set 0 (.int .i64 ((i : Int) + 1))
    simpa using this
set_option maxHeartbeats 16000000 in
theorem syieldS_any {W : World} {gok gi gw gm B c : Nat} {A : Option Addr} {WL : List Kt} {b : Bool} {i : Nat} {most : Int} (x : Kt) (h1 : Fb W gok 4 #[.bool b]) (h2 : Fb W gi 3 #[.int .i64 (i : Nat)]) (h3 : Fb W gw 28 #[.slice A WL.length c]) (h4 : Fb W gm 3 #[.int .i64 most]) (hr : KtD B W (.slice A WL.length c) WL) (hi : i ≤ 100000) (hn : gi ≠ gm) :
    Calls Try.prog 26 #[.agg #[.int .i64 x.a, .int .i64 x.b, .int .i64 x.c], .pointer (some ⟨gok, 0, none⟩), .pointer (some ⟨gi, 0, none⟩), .pointer (some ⟨gw, 0, none⟩), .pointer (some ⟨gm, 0, none⟩)] W fun e w' => e = .returned (.bool (decide ((i : Int) + 1 < most))) ∧ Yn gok gi (okn b WL i x) (i + 1) W w' := by
  have hoi : gok ≠ gi := fb_ty_ne h1 h2 (by decide)
  have hom : gok ≠ gm := fb_ty_ne h1 h4 (by decide)
  have n1 : ¬ gok = gi := hoi
  have n2 : ¬ gi = gok := fun e => hoi e.symm
  have n3 : ¬ gok = gm := hom
  have n4 : ¬ gm = gok := fun e => hom e.symm
  have n5 : ¬ gi = gm := hn
  have n6 : ¬ gm = gi := fun e => hn e.symm
  obtain ⟨W1, hW1⟩ : ∃ W1, W1 = W.alloc (.cells #[.int .i64 x.a, .int .i64 x.b, .int .i64 x.c] 37) := ⟨_, rfl⟩
  have hb : Below W.heap.size W W1 := by rw [hW1]; exact (Below.refl _ _).alloc (Nat.le_refl _) _
  have hk : Fb W1 W.heap.size 37 #[.int .i64 x.a, .int .i64 x.b, .int .i64 x.c] := by rw [hW1]; exact Fb.new _ _ _
  have l1 : gok < W1.heap.size := (h1.below hb).lt
  have l2 : gi < W1.heap.size := (h2.below hb).lt
  have c1 : W1.cell? ⟨gok, 0, none⟩ = some (.bool b) := (h1.below hb).cell 0
  have f1 : W1.frozen? ⟨gok, 0, none⟩ = false := (h1.below hb).free 0
  have c2 : W1.cell? ⟨gi, 0, none⟩ = some (.int .i64 (i : Nat)) := (h2.below hb).cell 0
  have f2 : W1.frozen? ⟨gi, 0, none⟩ = false := (h2.below hb).free 0
  have c3 : W1.cell? ⟨gw, 0, none⟩ = some (.slice A WL.length c) := (h3.below hb).cell 0
  have c4 : W1.cell? ⟨gm, 0, none⟩ = some (.int .i64 most) := (h4.below hb).cell 0
  have k0 : W1.cell? ⟨W.heap.size, 0, none⟩ = some (.int .i64 x.a) := hk.cell 0
  have k1 : W1.cell? ⟨W.heap.size, 1, none⟩ = some (.int .i64 x.b) := hk.cell 1
  have k2 : W1.cell? ⟨W.heap.size, 2, none⟩ = some (.int .i64 x.c) := hk.cell 2
  have hi0 : (0 : Int) ≤ (i : Int) := by omega
  have hw : wrap64 ((i : Int) + 1) = (i : Int) + 1 := IntWalk.wrap64_in _ ⟨by omega, by omega⟩
  have HY := Lib.hid (fun (b' : Bool) (W2 : World) (hb2 : Below W1.heap.size W1 W2) => yn_of (b' := b') (W1 := W2) (hb.trans (hb2.mono hb.size)) h1 h2)
  have HW1 := Lib.hid hW1
  clear hW1
  obtain ⟨g, hg⟩ : ∃ g, g = decide ((i : Int) + 1 < most) := ⟨_, rfl⟩
  rw [← hg]
  have hg1 : decide ((i : Int) + 1 < most) = g := hg.symm
  clear hg
  have HG := Lib.hid hg1
  clear hg1
  cases hbb : okn b WL i x with
  | false =>
    cases b with
    | false =>
      clear h1 h2 h3 h4 hr hb hk hoi hom hn hi
      generalize x.a = xa at *
      generalize x.b = xb at *
      generalize x.c = xc at *
      go_enter Try.func26, Try.ntmps26
      go_wp2
      rw [← HW1.out]
      have hg1 := HG.out
      go_region
      all_goals
        go_wp2
        go_ret
        exact ⟨rfl, HY.out false W1.drew (Below.drew (Below.refl _ _))⟩
    | true =>
      by_cases hin : (i : Int) < (WL.length : Int)
      · obtain ⟨y, hy⟩ : ∃ y, WL[i]? = some y := ⟨_, List.getElem?_eq_getElem (by omega)⟩
        have hxy : ¬ x = y := fun e => by unfold okn at hbb; rw [hy, e] at hbb; simp at hbb
        have hE := eqKey2 x y
        rw [decide_eq_false hxy] at hE
        obtain ⟨gb, cb, ev, hgb, q0, q1, q2⟩ := ktD_at (hr.below hb) hy
        injection ev with ev1 ev2 ev3
        subst ev1
        clear ev2 ev3 hbb hy hxy hgb
        generalize y.a = ya at *
        generalize y.b = yb at *
        generalize y.c = yc at *
        clear h1 h2 h3 h4 hr hb hk hoi hom hn hi
        generalize x.a = xa at *
        generalize x.b = xb at *
        generalize x.c = xc at *
        go_enter Try.func26, Try.ntmps26
        go_wp2
        rw [← HW1.out]
        have hg1 := HG.out
        go_region
        all_goals
          go_wp2
          go_ret
          exact ⟨rfl, HY.out false W1.drew (Below.drew (Below.refl _ _))⟩
      · have hd : decide ((i : Int) < (WL.length : Int)) = false := decide_eq_false hin
        have hin2 : ¬ i < WL.length := by omega
        have hd2 : decide (i < WL.length) = false := decide_eq_false hin2
        clear hbb
        clear h1 h2 h3 h4 hr hb hk hoi hom hn hi
        generalize x.a = xa at *
        generalize x.b = xb at *
        generalize x.c = xc at *
        go_enter Try.func26, Try.ntmps26
        go_wp2
        rw [← HW1.out]
        have hg1 := HG.out
        go_region
        all_goals
          go_wp2
          go_ret
          exact ⟨rfl, HY.out false W1.drew (Below.drew (Below.refl _ _))⟩
  | true =>
    obtain rfl : b = true := by unfold okn at hbb; cases b <;> simp_all
    have hy : WL[i]? = some x := by unfold okn at hbb; simpa using hbb
    have hin : (i : Int) < (WL.length : Int) := by have := (List.getElem?_eq_some_iff.1 hy).1; omega
    have hE := eqKey2 x x
    rw [decide_eq_true rfl] at hE
    obtain ⟨gb, cb, ev, hgb, q0, q1, q2⟩ := ktD_at (hr.below hb) hy
    injection ev with ev1 ev2 ev3
    subst ev1
    clear ev2 ev3 hbb hy hgb
    clear h1 h2 h3 h4 hr hb hk hoi hom hn hi
    generalize x.a = xa at *
    generalize x.b = xb at *
    generalize x.c = xc at *
    go_enter Try.func26, Try.ntmps26
    go_wp2
    rw [← HW1.out]
    have hg1 := HG.out
    go_region
    all_goals
      go_wp2
      go_ret
      exact ⟨rfl, HY.out true W1.drew (Below.drew (Below.refl _ _))⟩
def goAll (go : Nat → Bool) (n : Nat) : Prop := ∀ j, j < n → go (j + 1) = true
theorem goAll_succ {go : Nat → Bool} {n : Nat} (h : goAll go n) (hg : go (n + 1) = true) : goAll go (n + 1) := fun j hj => by
  rcases Nat.lt_or_eq_of_le (Nat.le_of_lt_succ hj) with h1 | h1
  · exact h j h1
  · rw [h1]; exact hg
def ShI (J : List Kt → World → Prop) (go : Nat → Bool) (X : Nat → Prop) (w3 : World) (p : Kt) (pre : List Kt) (w : World) : Prop := J pre w ∧ Ck X w3 w ∧ (∀ z ∈ pre, fitK p z = true) ∧ goAll go pre.length
def ShX (J : List Kt → World → Prop) (go : Nat → Bool) (X : Nat → Prop) (w3 : World) (p : Kt) (c : Code) (qs : List Kt) (w : World) : Prop := c = .ret ∧ ((∃ pre x, qs = pre ++ [x] ∧ fitK p x = false ∧ ShI J go X w3 p pre w) ∨ (∃ pre x, qs = pre ++ [x] ∧ fitK p x = true ∧ (∀ z ∈ pre, fitK p z = true) ∧ goAll go pre.length ∧ go (pre.length + 1) = false ∧ J qs w))
theorem shI_own {J : List Kt → World → Prop} {go : Nat → Bool} {X : Nat → Prop} {w3 : World} {p : Kt} {B : Nat} (hJ : OwnFrom B J) : OwnFrom B (ShI J go X w3 p) := fun pre W W' row h hg hr => ⟨hJ pre W W' row h.1 hg hr, ck_grown h.2.1 hg (fun r e => (hr r e).2), h.2.2⟩
theorem shX_own {J : List Kt → World → Prop} {go : Nat → Bool} {X : Nat → Prop} {w3 : World} {p : Kt} {B : Nat} (hJ : OwnFrom B J) (c : Code) : OwnFrom B (ShX J go X w3 p c) := fun qs W W' row h hg hr => by
  obtain ⟨hc, ⟨pre, x, hq, hf, hi⟩ | ⟨pre, x, hq, hf, ha, hga, hgo, hj⟩⟩ := h
  · exact ⟨hc, .inl ⟨pre, x, hq, hf, shI_own hJ pre W W' row hi hg hr⟩⟩
  · exact ⟨hc, .inr ⟨pre, x, hq, hf, ha, hga, hgo, hJ qs W W' row hj hg hr⟩⟩
/-- What is told, as far as it is asked. -/
def StopS (p : Kt) (m : List Kt) (go : Nat → Bool) (xs : List Kt) : Prop := ∃ ys, ToldS p m ys ∧ ((xs = ys ∧ goAll go ys.length) ∨ ∃ pre x, xs = pre ++ [x] ∧ xs <+: ys ∧ goAll go pre.length ∧ go (pre.length + 1) = false)
theorem tw_pre {f : Kt → Bool} {x : Kt} (hx : f x = true) : ∀ {pre L : List Kt}, (pre ++ [x]) <+: L → (∀ z ∈ pre, f z = true) → (pre ++ [x]) <+: L.takeWhile f
  | [], L, h, _ => by
    obtain ⟨t, rfl⟩ := h
    simp [List.takeWhile_cons, hx]
  | y :: pre, L, h, ha => by
    obtain ⟨t, rfl⟩ := h
    rw [List.cons_append, List.cons_append, List.takeWhile_cons, if_pos (ha y (.head _))]
    exact (List.cons_prefix_cons).2 ⟨rfl, tw_pre hx ⟨t, rfl⟩ (fun z hz => ha z (.tail _ hz))⟩
set_option maxHeartbeats 16000000 in
theorem sscanS_any {X : Nat → Prop} {B d bs bp gok gi gw gm : Nat} {room many : Int} {m : List Kt} {go : Nat → Bool} {W : World} (hS0 : Sx B d room many m m m W) (hm : m.length ≤ 1000) (p : Kt) (hbs0 : Fb W bs 24 #[.pointer (some ⟨d, 0, none⟩)]) (hbp0 : Fb W bp 48 #[.int .i64 p.a, .int .i64 p.b, .int .i64 p.c])
    (nX : ∀ q, q < W.heap.size → (∃ cs, Fb W q 60 cs) ∨ (∃ cs, Fb W q 70 cs) ∨ (∃ cs, Fb W q 37 cs) ∨ (∃ cs, Fb W q 24 cs) ∨ (∃ cs, Fb W q 48 cs) → ¬ X q) (hXW : ∀ q, W.heap.size ≤ q → ¬ X q)
    (J : List Kt → World → Prop) (hJ : OwnFrom W.heap.size J) (hY : ∀ (pre : List Kt) (x : Kt) (W1 : World), J pre W1 → pre.length < m.length → Calls Try.prog 26 #[.agg #[.int .i64 x.a, .int .i64 x.b, .int .i64 x.c], .pointer (some ⟨gok, 0, none⟩), .pointer (some ⟨gi, 0, none⟩), .pointer (some ⟨gw, 0, none⟩), .pointer (some ⟨gm, 0, none⟩)] W1 fun e W' => e = .returned (.bool (go (pre.length + 1))) ∧ J (pre ++ [x]) W' ∧ Kq X W1 W') (h0 : J [] W) :
    Calls Try.prog 31 #[.func (.func 26) #[] #[.pointer (some ⟨gok, 0, none⟩), .pointer (some ⟨gi, 0, none⟩), .pointer (some ⟨gw, 0, none⟩), .pointer (some ⟨gm, 0, none⟩)], .pointer (some ⟨bs, 0, none⟩), .pointer (some ⟨bp, 0, none⟩)] W fun e W' => (∃ v, e = .returned v) ∧ ∃ xs, StopS p m go xs ∧ J xs W' := by
  have hW := Below.refl W.heap.size W
  have nbs : ¬ X bs := nX bs hbs0.lt (.inr (.inr (.inr (.inl ⟨_, hbs0⟩))))
  have nbp : ¬ X bp := nX bp hbp0.lt (.inr (.inr (.inr (.inr ⟨_, hbp0⟩))))
  obtain ⟨x0, x1, x2, l0, l1, l2, F0, F1, F2, hS2⟩ := hS0
  have nd : ¬ X d := nX d hS2.fb.lt (.inl ⟨_, hS2.fb⟩)
  obtain ⟨o, x, l, F, ho, ho3, hL0, hperm⟩ := sy_list hS2 p
  have nF : ∀ q ∈ F, ¬ X q := fun q hq => nX q (hL0.ge q hq).2 (by rcases hL0.ty q hq with h | h; exact .inr (.inl h); exact .inr (.inr (.inl h)))
  have hS2W := hS2.below hW
  have hL := hL0.below hS2.fb.lt hW
  have hrs := lx_rises hL0
  obtain ⟨W1, hW1⟩ : ∃ W1, W1 = W.alloc (.cells #[.func (.func 26) #[] #[.pointer (some ⟨gok, 0, none⟩), .pointer (some ⟨gi, 0, none⟩), .pointer (some ⟨gw, 0, none⟩), .pointer (some ⟨gm, 0, none⟩)]] 39) := ⟨_, rfl⟩
  obtain ⟨by_, hby⟩ : ∃ b, b = W.heap.size := ⟨_, rfl⟩
  have hB1 : Below W.heap.size W W1 := by rw [hW1]; exact (Below.refl _ _).alloc (Nat.le_refl _) _
  have hF1 : Fb W1 by_ 39 #[.func (.func 26) #[] #[.pointer (some ⟨gok, 0, none⟩), .pointer (some ⟨gi, 0, none⟩), .pointer (some ⟨gw, 0, none⟩), .pointer (some ⟨gm, 0, none⟩)]] := by rw [hW1, hby]; exact Fb.new _ _ _
  have nby : ¬ X by_ := hXW by_ (by rw [hby]; exact Nat.le_refl _)
  have hbs1 := (hbs0.below hW).below hB1
  have hbp1 := (hbp0.below hW).below hB1
  have hL1 := hL.below hS2W.fb.lt hB1
  have hS1 := hS2W.below hB1
  have cO := fun W => sorder_any p.a p.b p.c W
  have cL := fun W => sleast_any p.a p.b p.c W
  have hpo : ordP p.a p.b p.c = (o : Int) := ho
  rw [hpo] at cO
  have K : ∀ w, Below W1.heap.size W1 w → w.cell? ⟨bs, 0, none⟩ = some (.pointer (some ⟨d, 0, none⟩)) ∧ w.cell? ⟨bp, 0, none⟩ = some (.int .i64 p.a) ∧ w.cell? ⟨bp, 1, none⟩ = some (.int .i64 p.b) ∧ w.cell? ⟨bp, 2, none⟩ = some (.int .i64 p.c) := fun w hb => ⟨(hbs1.below hb).cell 0, (hbp1.below hb).cell 0, (hbp1.below hb).cell 1, (hbp1.below hb).cell 2⟩
  have hoI : (0 : Int) ≤ (o : Int) := by omega
  have hoI3 : (o : Int) < 3 := by omega
  have HS := Lib.hid hS1
  have HL := Lib.hid hL1
  have HP := Lib.hid hperm
  have HB := Lib.hid (And.intro hbs1 hbp1)
  have HM := Lib.hid hm
  have HF1 := Lib.hid hF1
  have HB1 := Lib.hid hB1
  have HW1 := Lib.hid hW1
  have HBY := Lib.hid hby
  have HN := Lib.hid (And.intro nd (And.intro nbs (And.intro nbp (And.intro nby nF))))
  have HX := Lib.hid hXW
  have HJ := Lib.hid hJ
  have HY := Lib.hid hY
  have HJ0 := Lib.hid h0
  have HRS := Lib.hid hrs
  clear hm hS2 hS2W hS1 hL0 hL hL1 hperm ho hpo ho3 hbs0 hbp0 hbs1 hbp1 hF1 hB1 hW1 hby nX nd nbs nbp nby nF hXW hJ hY h0 hW hrs
  refine (callsIn_wide (n := 5)).1 ?_
  refine callsIn_of_wp_marks Try.func31 rfl trivial ?_ rfl
  simp only [Try.ntmps31, List.size_toArray, List.length_cons, List.length_nil, Nat.reduceAdd, Nat.reduceSub, Array.replicate_succ, Array.replicate_zero, List.push_toArray, List.append_toArray, List.nil_append, List.cons_append]
  gi_wp2
  rw [← HW1.out, ← HBY.out]
  refine wpIn_wide.2 ?_
  go_region_held3 (fun w => w.cell? ⟨bs, 0, none⟩ = some (.pointer (some ⟨d, 0, none⟩)) ∧ w.cell? ⟨bp, 0, none⟩ = some (.int .i64 p.a) ∧ w.cell? ⟨bp, 1, none⟩ = some (.int .i64 p.b) ∧ w.cell? ⟨bp, 2, none⟩ = some (.int .i64 p.c))
    (first | (refine K _ ?_; repeat (first | with_reducible assumption | with_reducible exact Below.refl _ _ | with_reducible refine Below.drew ?_ | with_reducible refine Below.alloc ?_ (by first | exact Nat.le_refl _ | (simp; done) | (simp; omega) | (have := hZ1.size; simp; omega) | (have := hZ2.size; simp; omega)) _)))
    (first
      | (go_at_call 23; (with_reducible refine (cO _).mono ?_); rintro e z1 ⟨rfl, hz1⟩; have hZ1 : Below W1.heap.size W1 z1 := Below.trans (by repeat (first | with_reducible assumption | with_reducible exact Below.refl _ _ | with_reducible refine Below.drew ?_ | with_reducible refine Below.alloc ?_ (by first | exact Nat.le_refl _ | (simp; done) | (simp; omega) | (have := hZ1.size; simp; omega) | (have := hZ2.size; simp; omega)) _)) (hz1.mono (by simp)))
      | (go_at_call 33; (with_reducible refine (cL _).mono ?_); rintro e z2 ⟨rfl, hz2⟩; have hZ2 : Below W1.heap.size W1 z2 := Below.trans (by repeat (first | with_reducible assumption | with_reducible exact Below.refl _ _ | with_reducible refine Below.drew ?_ | with_reducible refine Below.alloc ?_ (by first | exact Nat.le_refl _ | (simp; done) | (simp; omega) | (have := hZ1.size; simp; omega) | (have := hZ2.size; simp; omega)) _)) (hz2.mono (by have := hZ1.size; first | exact this | (simp; done) | (simp; omega))))
      | (go_at_call 32; (with_reducible refine (slfrom_any _ _ _ _ _ _).mono ?_); rintro e z3 ⟨rfl, rfl⟩)
      | fail)
  obtain ⟨w3, hw3⟩ : ∃ w3, w3 = (z2.alloc (.cells #[.pointer (some ⟨d, 2 + o * 2, none⟩)] 67)).alloc (.cells #[.int .i64 (max p.a 0), .int .i64 (max p.b 0), .int .i64 (max p.c 0)] 37) := ⟨_, rfl⟩
  rw [← hw3]
  have hb1 : Fb w3 z2.heap.size 67 #[.pointer (some ⟨d, 2 + o * 2, none⟩)] := by rw [hw3]; exact (Fb.new _ _ _).alloc _
  have hb2 : Fb w3 (z2.heap.size + 1) 37 #[.int .i64 (leastK p).a, .int .i64 (leastK p).b, .int .i64 (leastK p).c] := by
    have := Fb.new (z2.alloc (.cells #[.pointer (some ⟨d, 2 + o * 2, none⟩)] 67)) 37 #[.int .i64 (max p.a 0), .int .i64 (max p.b 0), .int .i64 (max p.c 0)]
    rw [World.size_alloc] at this
    rw [hw3]; exact this
  have hZ3 : Below W1.heap.size W1 w3 := by rw [hw3]; exact (hZ2.alloc hZ2.size _).alloc (by have := hZ2.size; simp; omega) _
  have hzW : W.heap.size ≤ z2.heap.size := Nat.le_trans HB1.out.size hZ2.size
  have hW3 : W.heap.size ≤ w3.heap.size := Nat.le_trans HB1.out.size hZ3.size
  have nbl : ¬ X z2.heap.size := HX.out _ hzW
  have hseq := sfromG_lx (X := X) (k := leastK p) (HL.out.below HS.out.fb.lt hZ3) (HS.out.fb.below hZ3).lt (by rw [HP.out.length_eq]; exact HM.out) hb1 hb2 nbl HN.out.1 HN.out.2.2.2.2
  have HFB := Lib.hid (fun (w : World) (hb : Ck X w3 w) => (⟨hb.fb (HB.out.2.below hZ3) HN.out.2.2.1, hb.fb (HF1.out.below hZ3) HN.out.2.2.2.1⟩ : Fb w bp 48 #[.int .i64 p.a, .int .i64 p.b, .int .i64 p.c] ∧ Fb w by_ 39 #[.func (.func 26) #[] #[.pointer (some ⟨gok, 0, none⟩), .pointer (some ⟨gi, 0, none⟩), .pointer (some ⟨gw, 0, none⟩), .pointer (some ⟨gm, 0, none⟩)]]))
  have HX3 := Lib.hid (fun (q : Nat) (hq : w3.heap.size ≤ q) => HX.out q (Nat.le_trans hW3 hq))
  have HOJ := Lib.hid (own_le HJ.out hW3)
  have HI0 : Hid (ShI J go X w3 p [] w3) := Lib.hid ⟨own_below HJ.out HJ0.out (HB1.out.trans (hZ3.mono HB1.out.size)), Ck.refl _ _, (fun z hz => by cases hz), fun j hj => absurd hj (Nat.not_lt_zero _)⟩
  have HLN := Lib.hid (show l.length = m.length from HP.out.length_eq)
  clear hb1 hb2 hZ3 hzW hW3 nbl hZ1 hZ2 hz1 hz2 K cO cL hw3
  gi_wp2
  refine wpIn_rangeFunc_ownH rfl (by decide) (gf := 42) (lb := #[.pointer (some ⟨z2.heap.size, 0, none⟩), .pointer (some ⟨z2.heap.size + 1, 0, none⟩)]) rfl trivial (enters_of Try.func42 (by kernel_rfl) rfl) hseq (fun h k => h.trans k) (fun W l o o' _ hl ho _ => ck_put W l o o' hl ho) (Below.refl _ _) (fun _ => rfl)
    (ShI J go X w3 p) (ShX J go X w3 p) (shI_own HOJ.out) (fun c => shX_own HOJ.out c) HI0.out
    (fun x a' w => ∃ Bx, w3.heap.size ≤ Bx ∧ Fb w Bx 37 #[.int .i64 x.a, .int .i64 x.b, .int .i64 x.c] ∧ a' = { tmps := #[.func (.func 26) #[] #[.pointer (some ⟨gok, 0, none⟩), .pointer (some ⟨gi, 0, none⟩), .pointer (some ⟨gw, 0, none⟩), .pointer (some ⟨gm, 0, none⟩)], .pointer (some ⟨bs, 0, none⟩), .pointer (some ⟨bp, 0, none⟩), .pointer (some ⟨by_, 0, none⟩), .pointer (some ⟨Bx, 0, none⟩), .pointer (some ⟨d, 0, none⟩), .agg #[.int .i64 p.a, .int .i64 p.b, .int .i64 p.c], .int .i64 o, .pointer (some ⟨d, 0, none⟩), .pointer (some ⟨d, 2, none⟩), .pointer (some ⟨d, 2 + o * 2, none⟩), .agg #[.int .i64 p.a, .int .i64 p.b, .int .i64 p.c], .agg #[.int .i64 (max p.a 0), .int .i64 (max p.b 0), .int .i64 (max p.c 0)], .func (.func 42) #[] #[.pointer (some ⟨z2.heap.size, 0, none⟩), .pointer (some ⟨z2.heap.size + 1, 0, none⟩)], .agg #[.int .i64 x.a, .int .i64 x.b, .int .i64 x.c], undef, undef, undef, undef, undef, undef, undef, undef, undef, undef], defers := [] })
    (fun x a' _ W5 W6 row h hg hr => by
      obtain ⟨Bx, h1, h2, h3⟩ := h
      exact ⟨Bx, h1, fb_grown h2 hg hr, h3⟩) ?assign ?body ?done ?stop
  case assign =>
    rintro lr2 pre x W5 K hI hK
    have HI := Lib.hid hI
    have hal : Below W5.heap.size W5 (W5.alloc (.cells #[.int .i64 x.a, .int .i64 x.b, .int .i64 x.c] 37)) := (Below.refl _ _).alloc (Nat.le_refl _) _
    have HAL := Lib.hid hal
    clear hseq hI hal
    unfold encK
    gi_wp2
    exact hK _ _ (keeps_below HAL.out) (Ck.of HAL.out) ⟨own_below HOJ.out HI.out.1 HAL.out, HI.out.2.1.trans (Ck.of HAL.out), HI.out.2.2⟩ ⟨W5.heap.size, HI.out.2.1.size, Fb.new _ _ _, rfl⟩
  case body =>
    rintro lr2 pre x a' W5 hlr ⟨r, hr⟩ ⟨hf, hb, ha⟩ ⟨Bx, hBx, bX, rfl⟩ hlt
    obtain ⟨fp, fy⟩ := HFB.out W5 hb
    have p0 := fp.cell 0
    have p1 := fp.cell 1
    have p2 := fp.cell 2
    have b0 := bX.cell 0
    have b1 := bX.cell 1
    have b2 := bX.cell 2
    have cF : Calls Try.prog 34 #[.agg #[.int .i64 p.a, .int .i64 p.b, .int .i64 p.c], .agg #[.int .i64 x.a, .int .i64 x.b, .int .i64 x.c]] W5 fun e w' => e = .returned (.bool (fitK p x)) ∧ Below W5.heap.size W5 w' := sfits_any p.a p.b p.c x.a x.b x.c W5
    have HR := Lib.hid (And.intro hf (And.intro hb ha))
    have HLT := Lib.hid (show pre.length < m.length from by rw [← HLN.out]; exact hlt)
    have HXX := Lib.hid (And.intro bX fy)
    clear hseq hf hb ha fp fy bX hlr hr hlt hBx
    cases hfx : fitK p x with
    | false =>
      rw [hfx] at cF
      have HFX := Lib.hid hfx
      clear hfx
      gi_wp2_with (refine ⟨trivial, ?_⟩; gi_at_call 34; refine (CallsIn.inRound lr2 (callsIn_wide.2 cF)).mono ?_; rintro e z4 ⟨rfl, hz4⟩)
      refine ⟨fun _ h => (by cases h), ?_⟩
      gi_wp2
      exact ⟨keeps_below hz4, rfl, .inl ⟨pre, x, rfl, HFX.out, own_below HOJ.out HR.out.1 hz4, HR.out.2.1.trans (Ck.of hz4), HR.out.2.2⟩⟩
    | true =>
      rw [hfx] at cF
      have HFX := Lib.hid hfx
      clear hfx
      have HYF := fun (z : World) (h : Below W5.heap.size W5 z) => HY.out pre x z (own_below HOJ.out HR.out.1 h) HLT.out
      have HXC := Lib.hid (fun (w : World) (h : Below W5.heap.size W5 w) => (⟨(HXX.out.1.below h).cell 0, (HXX.out.1.below h).cell 1, (HXX.out.1.below h).cell 2, (HXX.out.2.below h).cell 0⟩ : _ ∧ _ ∧ _ ∧ _))
      cases hgo : go (pre.length + 1) with
      | true =>
        rw [hgo] at HYF
        have HGO := Lib.hid hgo
        clear hgo
        gi_wp2_with (first
          | (refine ⟨trivial, ?_⟩; gi_at_call 34; refine (CallsIn.inRound lr2 (callsIn_wide.2 cF)).mono ?_; rintro e z4 ⟨rfl, hz4⟩; obtain ⟨v0, v1, v2, v3⟩ := HXC.out _ hz4)
          | (refine ⟨trivial, ?_⟩; gi_at_call 26; refine (CallsIn.inRound lr2 (callsIn_wide.2 (HYF _ hz4))).mono ?_; rintro e W7 ⟨rfl, hJ7, hk7⟩))
        exact ⟨(keeps_below hz4).trans (keeps_kq hk7 HX3.out), (Ck.of hz4).trans hk7.ck, hJ7, (HR.out.2.1.trans (Ck.of hz4)).trans hk7.ck, (fun z hz => by
          rcases List.mem_append.1 hz with h | h
          · exact HR.out.2.2.1 z h
          · rw [List.mem_singleton.1 h]; exact HFX.out), by rw [List.length_append]; exact goAll_succ HR.out.2.2.2 HGO.out⟩
      | false =>
        rw [hgo] at HYF
        have HGO := Lib.hid hgo
        clear hgo
        gi_wp2_with (first
          | (refine ⟨trivial, ?_⟩; gi_at_call 34; refine (CallsIn.inRound lr2 (callsIn_wide.2 cF)).mono ?_; rintro e z4 ⟨rfl, hz4⟩; obtain ⟨v0, v1, v2, v3⟩ := HXC.out _ hz4)
          | (refine ⟨trivial, ?_⟩; gi_at_call 26; refine (CallsIn.inRound lr2 (callsIn_wide.2 (HYF _ hz4))).mono ?_; rintro e W7 ⟨rfl, hJ7, hk7⟩))
        exact ⟨(keeps_below hz4).trans (keeps_kq hk7 HX3.out), rfl, .inr ⟨pre, x, rfl, HFX.out, HR.out.2.2.1, HR.out.2.2.2, HGO.out, hJ7⟩⟩
  case done =>
    rintro D ys W6 hD ⟨i, hsi, rfl⟩ hI hK
    have HI := Lib.hid hI
    have HSI := Lib.hid hsi
    have HD := Lib.hid hD
    clear hseq hI hsi hD
    gi_wp2
    refine ⟨by simp, .inl ⟨_, _, rfl, run_takeDeferred hK, ?_⟩⟩
    have e : toldK l i p = l.drop i := tw_all HI.out.2.2.1
    exact ⟨_, results_none rfl _ _ _, ⟨_, rfl⟩, _, ⟨_, ⟨l, i, HP.out, HSI.out, HRS.out, rfl⟩, .inl ⟨e.symm, by rw [e]; exact HI.out.2.2.2⟩⟩, HOJ.out.putObj _ HI.out.1 HD.out hK rfl⟩
  case stop =>
    rintro D c qs W6 hD ⟨i, hsi, hpre⟩ ⟨rfl, hw⟩ hK
    have HW := Lib.hid hw
    have HSI := Lib.hid (And.intro hsi hpre)
    have HD := Lib.hid hD
    clear hseq hsi hpre hw hD
    gi_wp2
    refine ⟨by simp, .inl ⟨_, _, rfl, run_takeDeferred hK, ?_⟩⟩
    rcases HW.out with ⟨pre, x, rfl, hfx, hI⟩ | ⟨pre, x, rfl, hfx, ha, hga, hgo, hj⟩
    · have e : toldK l i p = pre := tw_stop hfx HSI.out.2 hI.2.2.1
      exact ⟨_, results_none rfl _ _ _, ⟨_, rfl⟩, _, ⟨_, ⟨l, i, HP.out, HSI.out.1, HRS.out, rfl⟩, .inl ⟨e.symm, by rw [e]; exact hI.2.2.2⟩⟩, HOJ.out.putObj _ hI.1 HD.out hK rfl⟩
    · exact ⟨_, results_none rfl _ _ _, ⟨_, rfl⟩, _, ⟨_, ⟨l, i, HP.out, HSI.out.1, HRS.out, rfl⟩, .inr ⟨pre, x, rfl, tw_pre hfx HSI.out.2 ha, hga, hgo⟩⟩, HOJ.out.putObj _ hj HD.out hK rfl⟩
end Go.Proofs.Ytoiigplflmejmaa
namespace Go.Proofs.Ytoiigplflmejmaa
open Go.RowKit
set_option linter.unusedVariables false
set_option linter.unusedSimpArgs false
set_option maxRecDepth 100000

noncomputable def okL (WL pre : List Kt) : Bool := decide (pre <+: WL)
theorem pre_snoc {WL pre : List Kt} {x : Kt} : pre ++ [x] <+: WL ↔ pre <+: WL ∧ WL[pre.length]? = some x := by
  constructor
  · rintro ⟨t, rfl⟩
    refine ⟨⟨[x] ++ t, by simp⟩, ?_⟩
    simp
  · rintro ⟨⟨t, rfl⟩, h⟩
    rw [List.getElem?_append_right (Nat.le_refl _), Nat.sub_self] at h
    cases t with
    | nil => cases h
    | cons y t =>
      obtain rfl : y = x := by simpa using h
      exact ⟨t, by simp⟩
theorem okL_snoc (WL pre : List Kt) (x : Kt) : okL WL (pre ++ [x]) = okn (okL WL pre) WL pre.length x := by
  unfold okL okn
  by_cases h1 : pre <+: WL
  · by_cases h2 : WL[pre.length]? = some x
    · rw [decide_eq_true (pre_snoc.2 ⟨h1, h2⟩), decide_eq_true h1, decide_eq_true h2]; rfl
    · rw [decide_eq_false (fun h => h2 (pre_snoc.1 h).2), decide_eq_true h1, decide_eq_false h2]; rfl
  · rw [decide_eq_false (fun h => h1 (pre_snoc.1 h).1), decide_eq_false h1]; rfl
structure Sj (W : World) (gok gi gw gm B : Nat) (A : Option Addr) (c : Nat) (WL : List Kt) (most : Int) (pre : List Kt) (w : World) : Prop where
  f1 : Fb w gok 4 #[.bool (okL WL pre)]
  f2 : Fb w gi 3 #[.int .i64 (pre.length : Nat)]
  f3 : Fb w gw 28 #[.slice A WL.length c]
  f4 : Fb w gm 3 #[.int .i64 most]
  fr : KtD B w (.slice A WL.length c) WL
  b : Below W.heap.size W w
theorem sj_own {W : World} {gok gi gw gm B : Nat} {A : Option Addr} {c : Nat} {WL : List Kt} {most : Int} {n : Nat} (hn : W.heap.size ≤ n) : OwnFrom n (Sj W gok gi gw gm B A c WL most) := fun pre w w' row h hg hr =>
  ⟨fb_grown h.f1 hg hr, fb_grown h.f2 hg hr, fb_grown h.f3 hg hr, fb_grown h.f4 hg hr, row_heapB h.fr (fun g cur _ e => fb_grown (t := 31) e hg hr), h.b.grown hg h.b.size (fun r e => Nat.le_trans hn (hr r e).1)⟩
theorem sj_step {W : World} {gok gi gw gm B : Nat} {A : Option Addr} {c : Nat} {WL : List Kt} {most : Int} {pre : List Kt} {x : Kt} {w w' : World} (h : Sj W gok gi gw gm B A c WL most pre w) (hy : Yn gok gi (okn (okL WL pre) WL pre.length x) (pre.length + 1) w w') (hi : W.heap.size ≤ gi) (ho : W.heap.size ≤ gok) (hne : gi ≠ gm) : Sj W gok gi gw gm B A c WL most (pre ++ [x]) w' := by
  have hk : ∀ (q : Nat) (t : TypeId) (cs : Array Value), w.heap[q]? = some (Obj.cells cs t (0, 0)) → q ≠ gok → q ≠ gi → w'.heap[q]? = some (Obj.cells cs t (0, 0)) := fun q t cs hq h1 h2 => hy.kq.block q _ (fun e => e.elim h1 h2) hq
  refine ⟨by rw [okL_snoc]; exact hy.f1, by rw [List.length_append]; exact hy.f2, hk _ _ _ h.f3 (fb_ty_ne h.f3 h.f1 (by decide)) (fb_ty_ne h.f3 h.f2 (by decide)), hk _ _ _ h.f4 (fb_ty_ne h.f4 h.f1 (by decide)) hne.symm, row_heapB h.fr (fun g cur _ e => hk _ _ _ e (fb_ty_ne (t := 31) e h.f1 (by decide)) (fb_ty_ne (t := 31) e h.f2 (by decide))), ⟨hy.kq.os.trans h.b.os, hy.kq.tape.trans h.b.tape, hy.kq.output.trans h.b.output, Nat.le_trans h.b.size hy.kq.size, fun q hq => ?_⟩⟩
  have hb := h.b.block q hq
  rw [← hb]
  have hqw : q < w.heap.size := Nat.lt_of_lt_of_le hq h.b.size
  rw [Array.getElem?_eq_getElem hqw]
  exact hy.kq.block q _ (fun e => by rcases e with e | e <;> omega) (Array.getElem?_eq_getElem hqw)
def goM (most : Int) (n : Nat) : Bool := decide ((n : Int) < most)
/-- How many are told. -/
theorem stop_all {p : Kt} {m L xs : List Kt} {most : Int} (h : StopS p m (goM most) xs) (hp : L.Perm m) (hn : ∀ k ∈ m, nnK k) : xs <+: scanD p L ∧ ((xs.length : Nat) : Int) = (if (if most < 1 then 1 else most) < ((scanD p L).length : Int) then (if most < 1 then 1 else most) else ((scanD p L).length : Int)) := by
  obtain ⟨ys, ht, h⟩ := h
  rw [← told_scan ht hp hn]
  rcases h with ⟨rfl, hg⟩ | ⟨pre, x, rfl, hpre, hg, hgo⟩
  · refine ⟨List.prefix_refl _, ?_⟩
    by_cases h0 : xs.length = 0
    · rw [h0]; split <;> split at * <;> omega
    · have := hg (xs.length - 1) (by omega)
      unfold goM at this
      rw [show xs.length - 1 + 1 = xs.length by omega] at this
      have := of_decide_eq_true this
      split <;> split at * <;> omega
  · refine ⟨hpre, ?_⟩
    have hl := hpre.length_le
    unfold goM at hgo
    have hgo := of_decide_eq_false hgo
    rw [List.length_append, List.length_singleton] at hl ⊢
    by_cases h0 : pre.length = 0
    · rw [h0] at hgo hl ⊢; split <;> split at * <;> omega
    · have := hg (pre.length - 1) (by omega)
      unfold goM at this
      rw [show pre.length - 1 + 1 = pre.length by omega] at this
      have := of_decide_eq_true this
      split <;> split at * <;> omega
set_option maxHeartbeats 32000000 in
theorem scanned_any {B d : Nat} {room : Int} {m L : List Kt} {W : World} {A : Option Addr} {c : Nat} (hS : Sx B d room (m.length : Int) m m m W) (hm : m.length ≤ 1000) (hL : KtD B W (.slice A L.length c) L) (hp : L.Perm m) (hn : ∀ k ∈ m, nnK k) (p : Kt) (rm most : Int) :
    Calls Try.prog 14 #[.pointer (some ⟨d, 0, none⟩), .agg #[.int .i64 rm, .slice A L.length c], .agg #[.int .i64 p.a, .int .i64 p.b, .int .i64 p.c], .int .i64 most] W fun e w' => e = .returned (.bool true) ∧ Below W.heap.size W w' := by
  obtain ⟨W0, hW0⟩ : ∃ W0, W0 = ((W.alloc (.cells #[.int .i64 rm, .slice A L.length c] 30)).alloc (.cells #[.int .i64 p.a, .int .i64 p.b, .int .i64 p.c] 31)).alloc (.cells #[.int .i64 most] 3) := ⟨_, rfl⟩
  have hb0 : Below W.heap.size W W0 := by rw [hW0]; exact (((Below.refl _ _).alloc (Nat.le_refl _) _).alloc (by simp) _).alloc (by simp; omega) _
  obtain ⟨gp, hgp⟩ : ∃ g, g = W.heap.size + 1 := ⟨_, rfl⟩
  obtain ⟨gm, hgm⟩ : ∃ g, g = gp + 1 := ⟨_, rfl⟩
  have f0 : Fb W0 W.heap.size 30 #[.int .i64 rm, .slice A L.length c] := by rw [hW0]; exact ((Fb.new _ _ _).alloc _).alloc _
  have fp : Fb W0 gp 31 #[.int .i64 p.a, .int .i64 p.b, .int .i64 p.c] := by
    have := (Fb.new (W.alloc (.cells #[.int .i64 rm, .slice A L.length c] 30)) 31 #[.int .i64 p.a, .int .i64 p.b, .int .i64 p.c]).alloc (.cells #[.int .i64 most] 3)
    rw [World.size_alloc] at this
    rw [hW0, hgp]; exact this
  have fm : Fb W0 gm 3 #[.int .i64 most] := by
    have := Fb.new ((W.alloc (.cells #[.int .i64 rm, .slice A L.length c] 30)).alloc (.cells #[.int .i64 p.a, .int .i64 p.b, .int .i64 p.c] 31)) 3 #[.int .i64 most]
    rw [World.size_alloc, World.size_alloc] at this
    rw [hW0, hgm, hgp]; exact this
  have hlen := hp.length_eq
  have cK := kscan_any (hL.below hb0) (by omega) rm p.a p.b p.c
  have r0 := f0.cell 0
  have r1 := f0.cell 1
  have p0 := fp.cell 0
  have p1 := fp.cell 1
  have p2 := fp.cell 2
  obtain ⟨WL, hWL⟩ : ∃ WL, WL = scanD p L := ⟨_, rfl⟩
  have cK2 : Calls Try.prog 20 #[.agg #[.int .i64 rm, .slice A L.length c], .agg #[.int .i64 p.a, .int .i64 p.b, .int .i64 p.c]] W0 fun e w' => ∃ v', e = .returned v' ∧ KtD W0.heap.size w' v' WL ∧ Below W0.heap.size W0 w' := by rw [hWL]; exact cK
  clear cK
  have lgm : gm < W0.heap.size := fm.lt
  have HS0 := Lib.hid (hS.below hb0)
  have HB0 := Lib.hid hb0
  have HPN := Lib.hid (And.intro hm (And.intro hp (And.intro hn hWL)))
  have HFP := Lib.hid fp
  have HFM := Lib.hid fm
  have HW0 := Lib.hid (And.intro hW0 (And.intro hgp hgm))
  have HGM := Lib.hid lgm
  clear hS hm hL hp hn hW0 hb0 f0 fp fm hlen hWL hgp hgm lgm
  go_enter Try.func14, Try.ntmps14
  go_upto_region 1 with (fail)
  rw [← HW0.out.1]
  simp only [← HW0.out.2.1]
  simp only [← HW0.out.2.2]
  go_upto_region 3 with (go_at_call 20; (with_reducible refine cK2.mono ?_); rintro e w1 ⟨v1, rfl, hr1, hb1⟩; obtain ⟨A1, c1, rfl⟩ := KtD.shape hr1; have HR1 := Lib.hid hr1; have HB1 := Lib.hid hb1; clear hr1 hb1)
  obtain ⟨gw, hgw⟩ : ∃ g, g = w1.heap.size := ⟨_, rfl⟩
  obtain ⟨gi, hgi⟩ : ∃ g, g = gw + 1 := ⟨_, rfl⟩
  obtain ⟨gok, hgok⟩ : ∃ g, g = gi + 1 := ⟨_, rfl⟩
  obtain ⟨W5, hW5⟩ : ∃ W5, W5 = ((w1.alloc (.cells #[.slice A1 WL.length c1] 28)).alloc (.cells #[.int .i64 0] 3)).alloc (.cells #[.bool true] 4) := ⟨_, rfl⟩
  rw [← hW5]
  simp only [← hgw]
  simp only [← hgi]
  simp only [← hgok]
  have hb15 : Below w1.heap.size w1 W5 := by rw [hW5]; exact (((Below.refl _ _).alloc (Nat.le_refl _) _).alloc (by simp) _).alloc (by simp; omega) _
  have g3 : Fb W5 gw 28 #[.slice A1 WL.length c1] := by rw [hW5, hgw]; exact ((Fb.new _ _ _).alloc _).alloc _
  have g2 : Fb W5 gi 3 #[.int .i64 0] := by
    have := (Fb.new (w1.alloc (.cells #[.slice A1 WL.length c1] 28)) 3 #[.int .i64 0]).alloc (.cells #[.bool true] 4)
    rw [World.size_alloc] at this
    rw [hW5, hgi, hgw]; exact this
  have g1 : Fb W5 gok 4 #[.bool true] := by
    have := Fb.new ((w1.alloc (.cells #[.slice A1 WL.length c1] 28)).alloc (.cells #[.int .i64 0] 3)) 4 #[.bool true]
    rw [World.size_alloc, World.size_alloc] at this
    rw [hW5, hgok, hgi, hgw]; exact this
  have hb05 : Below W0.heap.size W0 W5 := HB1.out.trans (hb15.mono HB1.out.size)
  have hwi : W0.heap.size ≤ gi := by have := HB1.out.size; omega
  have hwo : W0.heap.size ≤ gok := by omega
  have hne : gi ≠ gm := by have := HGM.out; omega
  obtain ⟨W6, hW6⟩ : ∃ W6, W6 = (W5.alloc (.cells #[.pointer (some ⟨d, 0, none⟩)] 24)).alloc (.cells #[.int .i64 p.a, .int .i64 p.b, .int .i64 p.c] 48) := ⟨_, rfl⟩
  have hb56 : Below W5.heap.size W5 W6 := by rw [hW6]; exact ((Below.refl _ _).alloc (Nat.le_refl _) _).alloc (by simp) _
  have hb06 := hb05.trans (hb56.mono hb05.size)
  have hbs : Fb W6 W5.heap.size 24 #[.pointer (some ⟨d, 0, none⟩)] := by rw [hW6]; exact (Fb.new _ _ _).alloc _
  have hbp : Fb W6 (W5.heap.size + 1) 48 #[.int .i64 p.a, .int .i64 p.b, .int .i64 p.c] := by
    have := Fb.new (W5.alloc (.cells #[.pointer (some ⟨d, 0, none⟩)] 24)) 48 #[.int .i64 p.a, .int .i64 p.b, .int .i64 p.c]
    rw [World.size_alloc] at this
    rw [hW6]; exact this
  have hj0 : Sj W0 gok gi gw gm W0.heap.size A1 c1 WL most [] W6 := ⟨by have := g1.below hb56; unfold okL; simpa using this, g2.below hb56, g3.below hb56, HFM.out.below hb06, (HR1.out.below hb15).below hb56, hb06⟩
  have cSc := sscan_any (.int .i64 0) p.a p.b p.c d W5
  rw [← hW6] at cSc
  have o1 := g1.below hb56
  have o2 := g2.below hb56
  have cF := sscanS_any (X := fun q => q = gok ∨ q = gi) (gok := gok) (gi := gi) (gw := gw) (gm := gm) (go := goM most) (HS0.out.below hb06) HPN.out.1 p hbs hbp
    (fun q _ hq hx => by
      rcases hx with rfl | rfl
      · rcases hq with ⟨cs, h⟩ | ⟨cs, h⟩ | ⟨cs, h⟩ | ⟨cs, h⟩ | ⟨cs, h⟩ <;> exact fb_ty_ne h o1 (by decide) rfl
      · rcases hq with ⟨cs, h⟩ | ⟨cs, h⟩ | ⟨cs, h⟩ | ⟨cs, h⟩ | ⟨cs, h⟩ <;> exact fb_ty_ne h o2 (by decide) rfl)
    (fun q hq hx => by
      have h1 := o1.lt
      have h2 := o2.lt
      rcases hx with rfl | rfl <;> omega)
    (Sj W0 gok gi gw gm W0.heap.size A1 c1 WL most) (sj_own hb06.size)
    (fun pre x W1 hj hlt => (syieldS_any x hj.f1 hj.f2 hj.f3 hj.f4 hj.fr (by have := HPN.out.1; omega) hne).mono fun e w' ⟨he, hy⟩ => ⟨by rw [he]; unfold goM; rw [Int.natCast_succ], sj_step hj hy hwi hwo hne, hy.kq⟩) hj0
  have s0 := (HFP.out.below hb05).cell 0
  have s1 := (HFP.out.below hb05).cell 1
  have s2 := (HFP.out.below hb05).cell 2
  clear hb15 g1 g2 g3 hb05 hwi hwo hne hb56 hb06 hbs hbp hj0 o1 o2 hW5 hW6 hgw hgi hgok
  go_upto_region 4 with (first
    | (go_at_call 21; (with_reducible refine cSc.mono ?_); rintro e w6 ⟨rfl, rfl⟩)
    | (go_at_call 31; (with_reducible refine cF.mono ?_); rintro e w7 ⟨⟨v7, rfl⟩, xs, hst, hj⟩; have HST := Lib.hid hst; have HJ := Lib.hid hj; clear hst hj))
  obtain ⟨hpre, hnum⟩ := stop_all HST.out HPN.out.2.1 HPN.out.2.2.1
  rw [← HPN.out.2.2.2] at hpre hnum
  have hok : okL WL xs = true := decide_eq_true hpre
  obtain ⟨n, hnn⟩ : ∃ n, n = xs.length := ⟨_, rfl⟩
  rw [← hnn] at hnum
  have hK : ∀ w, Below w7.heap.size w7 w → w.cell? ⟨gok, 0, none⟩ = some (.bool true) ∧ w.cell? ⟨gi, 0, none⟩ = some (.int .i64 (n : Nat)) ∧ w.cell? ⟨gw, 0, none⟩ = some (.slice A1 WL.length c1) ∧ w.cell? ⟨gm, 0, none⟩ = some (.int .i64 most) ∧ w.cell? ⟨gp, 0, none⟩ = some (.int .i64 p.a) ∧ w.cell? ⟨gp, 1, none⟩ = some (.int .i64 p.b) ∧ w.cell? ⟨gp, 2, none⟩ = some (.int .i64 p.c) := fun w hb => by
    have h1 := (HJ.out.f1.below hb).cell 0
    have h2 := (HJ.out.f2.below hb).cell 0
    rw [hok] at h1
    rw [← hnn] at h2
    exact ⟨h1, h2, (HJ.out.f3.below hb).cell 0, (HJ.out.f4.below hb).cell 0, ((HFP.out.below HJ.out.b).below hb).cell 0, ((HFP.out.below HJ.out.b).below hb).cell 1, ((HFP.out.below HJ.out.b).below hb).cell 2⟩
  have cC : ∀ (w : World), Below w7.heap.size w7 w → Calls Try.prog 19 #[.pointer (some ⟨d, 0, none⟩), .agg #[.int .i64 p.a, .int .i64 p.b, .int .i64 p.c]] w fun e w' => e = .returned (.int .i64 ((scanD p L).length : Nat)) ∧ Below w.heap.size w w' := fun w hb => (scount_any ((HS0.out.below HJ.out.b).below hb) HPN.out.1 p).mono fun e w' ⟨⟨xs, h1, h2⟩, hb'⟩ => ⟨by rw [← told_scan h1 HPN.out.2.1 HPN.out.2.2.1]; exact h2, hb'⟩
  rw [← HPN.out.2.2.2] at cC
  obtain ⟨mx, hmx⟩ : ∃ mx : Int, mx = (if most < 1 then 1 else most) := ⟨_, rfl⟩
  have hmax : ∀ (ts : Array TypeId) (ty : TypeId) w, (Builtin.max_ ts ty #[.int .i64 most, .int .i64 1]).run Try.prog w = .ok (.int .i64 mx) w := fun ts ty w => by
    have e : (if 1 > most then (1 : Int) else most) = mx := hmx.symm
    simp [Builtin.max_, Builtin.max2, e]
  have hmin : ∀ (ts : Array TypeId) (ty : TypeId) w, (Builtin.min_ ts ty #[.int .i64 (WL.length : Nat), .int .i64 mx]).run Try.prog w = .ok (.int .i64 (n : Nat)) w := fun ts ty w => by
    rw [← hmx] at hnum
    simp [Builtin.min_, Builtin.min2, hnum]
  have HK := Lib.hid hK
  obtain ⟨j1, j2, j3, j4, j5, j6, j7⟩ := hK _ (Below.refl _ _)
  clear hK hmx hnum hnn hok hpre
  go_region_held3 (fun w => w.cell? ⟨gok, 0, none⟩ = some (.bool true) ∧ w.cell? ⟨gi, 0, none⟩ = some (.int .i64 (n : Nat)) ∧ w.cell? ⟨gw, 0, none⟩ = some (.slice A1 WL.length c1) ∧ w.cell? ⟨gm, 0, none⟩ = some (.int .i64 most) ∧ w.cell? ⟨gp, 0, none⟩ = some (.int .i64 p.a) ∧ w.cell? ⟨gp, 1, none⟩ = some (.int .i64 p.b) ∧ w.cell? ⟨gp, 2, none⟩ = some (.int .i64 p.c))
    (first | (refine HK.out _ ?_; repeat (first | assumption | exact Below.refl _ _ | refine Below.drew ?_)))
    (first | (go_at_call 19; (with_reducible refine (cC _ (by repeat (first | assumption | exact Below.refl _ _ | refine Below.drew ?_))).mono ?_); rintro e w8 ⟨rfl, hb8⟩; have hB8 : Below w7.heap.size w7 w8 := Below.trans (by repeat (first | assumption | exact Below.refl _ _ | refine Below.drew ?_)) (hb8.mono (by simp))))
  all_goals
    go_wp2
    go_ret
    exact ⟨rfl, HB0.out.trans ((HJ.out.b.trans ((show Below w7.heap.size w7 _ from by repeat (first | assumption | exact Below.refl _ _ | refine Below.drew ?_)).mono HJ.out.b.size)).mono HB0.out.size)⟩
end Go.Proofs.Ytoiigplflmejmaa
