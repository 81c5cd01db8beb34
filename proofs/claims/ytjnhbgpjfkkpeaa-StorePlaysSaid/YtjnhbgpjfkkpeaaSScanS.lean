/-
  Store.Scan's closure, told to the closure of the laws' Scanned: as far as it is asked. (Out of SScanG.)
-/
import Derived.Test.YtjnhbgpjfkkpeaaSScanG
import Derived.Test.YtjnhbgpjfkkpeaaSKplain
import Derived.Deep.QuietTactic
import Derived.BigQuiet
import Derived.StillTailTactics
import Derived.BigRegion
import Derived.Deep.RegionHeld3
import Derived.RangeFuncNested
import Derived.RangeFuncBound
import Derived.RangeFuncCalls
import Derived.RangeFuncLeaves
import Derived.Shelf.Abstract
import Derived.Shelf.RegionOpen
import Derived.WalkKit
import Derived.OwnWalkIn
import Derived.TacticsInMore
import Derived.LoopNIn
import Derived.LoopIn
namespace Go.Proofs.Ytjnhbgpjfkkpeaa
open Go.RowKit Go.Shelf
set_option linter.unusedVariables false
set_option linter.unusedSimpArgs false
set_option maxRecDepth 100000
attribute [local go_sem] Oper.semAt_some


def okn (b : Bool) (WL : List Kt) (i : Nat) (x : Kt) : Bool := b && decide (WL[i]? = some x)
structure Yn (gok gi : Nat) (b : Bool) (i : Nat) (W W' : World) : Prop where
  kq : Kq (fun q => q = gok ∨ q = gi) W W'
  f1 : Fb W' gok 4 #[.bool b]
  f2 : Fb W' gi 3 #[.int .i64 (i : Nat)]
theorem yn_of {W W1 : World} {gok gi : Nat} {b b' : Bool} {i : Nat} (hb : Below W.heap.size W W1) (h1 : Fb W gok 4 #[.bool b]) (h2 : Fb W gi 3 #[.int .i64 (i : Nat)]) : Yn gok gi b' (i + 1) W ((W1.setCell ⟨gok, 0, none⟩ (.bool b')).setCell ⟨gi, 0, none⟩ (.int .i64 ((i : Int) + 1))) := by
  have hne : gok ≠ gi := fb_ty_ne h1 h2 (by decide)
  refine ⟨⟨hb.os, hb.tape, hb.output, by simpa [World.setCell] using hb.size, fun q o hn hq => ?_⟩, ?_, ?_⟩
  · have n1 : q ≠ gi := fun e => hn (.inr e)
    have n2 : q ≠ gok := fun e => hn (.inl e)
    exact (Below.heap_setCell _ _ _ _ n1).trans ((Below.heap_setCell _ _ _ _ n2).trans ((hb.block q (Array.getElem?_eq_some_iff.1 hq).1).trans hq))
  · exact ((h1.below hb).set 0 (.bool b')).far 0 _ hne
  · have := ((h2.below hb).far 0 (.bool b') hne.symm).set 0 (.int .i64 ((i : Int) + 1))
    simpa using this
set_option maxHeartbeats 16000000 in
theorem syieldS_any {W : World} {gok gi gw gm B c : Nat} {A : Option Addr} {WL : List Kt} {b : Bool} {i : Nat} {most : Int} (x : Kt) (h1 : Fb W gok 4 #[.bool b]) (h2 : Fb W gi 3 #[.int .i64 (i : Nat)]) (h3 : Fb W gw 28 #[.slice A WL.length c]) (h4 : Fb W gm 3 #[.int .i64 most]) (hr : KtD B W (.slice A WL.length c) WL) (hi : i ≤ 100000) (hn : gi ≠ gm) :
    Calls Try.prog 26 #[.agg #[.int .i64 x.a, .int .i64 x.b, .int .i64 x.c], .pointer (some ⟨gok, 0, none⟩), .pointer (some ⟨gi, 0, none⟩), .pointer (some ⟨gw, 0, none⟩), .pointer (some ⟨gm, 0, none⟩)] W fun e w' => e = .returned (.bool (decide ((i : Int) + 1 < most))) ∧ Yn gok gi (okn b WL i x) (i + 1) W w' := by
  have hoi : gok ≠ gi := fb_ty_ne h1 h2 (by decide)
  have hom : gok ≠ gm := fb_ty_ne h1 h4 (by decide)
  have n1 : ¬ gok = gi := hoi
  have n2 : ¬ gi = gok := fun e => hoi e.symm
  have n3 : ¬ gok = gm := hom
  have n4 : ¬ gm = gok := fun e => hom e.symm
  have n5 : ¬ gi = gm := hn
  have n6 : ¬ gm = gi := fun e => hn e.symm
  obtain ⟨W1, hW1⟩ : ∃ W1, W1 = W.alloc (.cells #[.int .i64 x.a, .int .i64 x.b, .int .i64 x.c] 37) := ⟨_, rfl⟩
  have hb : Below W.heap.size W W1 := by rw [hW1]; exact (Below.refl _ _).alloc (Nat.le_refl _) _
  have hk : Fb W1 W.heap.size 37 #[.int .i64 x.a, .int .i64 x.b, .int .i64 x.c] := by rw [hW1]; exact Fb.new _ _ _
  have l1 : gok < W1.heap.size := (h1.below hb).lt
  have l2 : gi < W1.heap.size := (h2.below hb).lt
  have c1 : W1.cell? ⟨gok, 0, none⟩ = some (.bool b) := (h1.below hb).cell 0
  have f1 : W1.frozen? ⟨gok, 0, none⟩ = false := (h1.below hb).free 0
  have c2 : W1.cell? ⟨gi, 0, none⟩ = some (.int .i64 (i : Nat)) := (h2.below hb).cell 0
  have f2 : W1.frozen? ⟨gi, 0, none⟩ = false := (h2.below hb).free 0
  have c3 : W1.cell? ⟨gw, 0, none⟩ = some (.slice A WL.length c) := (h3.below hb).cell 0
  have c4 : W1.cell? ⟨gm, 0, none⟩ = some (.int .i64 most) := (h4.below hb).cell 0
  have k0 : W1.cell? ⟨W.heap.size, 0, none⟩ = some (.int .i64 x.a) := hk.cell 0
  have k1 : W1.cell? ⟨W.heap.size, 1, none⟩ = some (.int .i64 x.b) := hk.cell 1
  have k2 : W1.cell? ⟨W.heap.size, 2, none⟩ = some (.int .i64 x.c) := hk.cell 2
  have hi0 : (0 : Int) ≤ (i : Int) := by omega
  have hw : wrap64 ((i : Int) + 1) = (i : Int) + 1 := IntWalk.wrap64_in _ ⟨by omega, by omega⟩
  have HY := Lib.hid (fun (b' : Bool) (W2 : World) (hb2 : Below W1.heap.size W1 W2) => yn_of (b' := b') (W1 := W2) (hb.trans (hb2.mono hb.size)) h1 h2)
  have HW1 := Lib.hid hW1
  clear hW1
  obtain ⟨g, hg⟩ : ∃ g, g = decide ((i : Int) + 1 < most) := ⟨_, rfl⟩
  rw [← hg]
  have hg1 : decide ((i : Int) + 1 < most) = g := hg.symm
  clear hg
  have HG := Lib.hid hg1
  clear hg1
  cases hbb : okn b WL i x with
  | false =>
    cases b with
    | false =>
      clear h1 h2 h3 h4 hr hb hk hoi hom hn hi
      generalize x.a = xa at *
      generalize x.b = xb at *
      generalize x.c = xc at *
      go_enter Try.func26, Try.ntmps26
      go_wp2
      rw [← HW1.out]
      have hg1 := HG.out
      go_region
      all_goals
        go_wp2
        go_ret
        exact ⟨rfl, HY.out false W1.drew (Below.drew (Below.refl _ _))⟩
    | true =>
      by_cases hin : (i : Int) < (WL.length : Int)
      · obtain ⟨y, hy⟩ : ∃ y, WL[i]? = some y := ⟨_, List.getElem?_eq_getElem (by omega)⟩
        have hxy : ¬ x = y := fun e => by unfold okn at hbb; rw [hy, e] at hbb; simp at hbb
        have hE := eqKey2 x y
        rw [decide_eq_false hxy] at hE
        obtain ⟨gb, cb, ev, hgb, q0, q1, q2⟩ := ktD_at (hr.below hb) hy
        injection ev with ev1 ev2 ev3
        subst ev1
        clear ev2 ev3 hbb hy hxy hgb
        generalize y.a = ya at *
        generalize y.b = yb at *
        generalize y.c = yc at *
        clear h1 h2 h3 h4 hr hb hk hoi hom hn hi
        generalize x.a = xa at *
        generalize x.b = xb at *
        generalize x.c = xc at *
        go_enter Try.func26, Try.ntmps26
        go_wp2
        rw [← HW1.out]
        have hg1 := HG.out
        go_region
        all_goals
          go_wp2
          go_ret
          exact ⟨rfl, HY.out false W1.drew (Below.drew (Below.refl _ _))⟩
      · have hd : decide ((i : Int) < (WL.length : Int)) = false := decide_eq_false hin
        have hin2 : ¬ i < WL.length := by omega
        have hd2 : decide (i < WL.length) = false := decide_eq_false hin2
        clear hbb
        clear h1 h2 h3 h4 hr hb hk hoi hom hn hi
        generalize x.a = xa at *
        generalize x.b = xb at *
        generalize x.c = xc at *
        go_enter Try.func26, Try.ntmps26
        go_wp2
        rw [← HW1.out]
        have hg1 := HG.out
        go_region
        all_goals
          go_wp2
          go_ret
          exact ⟨rfl, HY.out false W1.drew (Below.drew (Below.refl _ _))⟩
  | true =>
    obtain rfl : b = true := by unfold okn at hbb; cases b <;> simp_all
    have hy : WL[i]? = some x := by unfold okn at hbb; simpa using hbb
    have hin : (i : Int) < (WL.length : Int) := by have := (List.getElem?_eq_some_iff.1 hy).1; omega
    have hE := eqKey2 x x
    rw [decide_eq_true rfl] at hE
    obtain ⟨gb, cb, ev, hgb, q0, q1, q2⟩ := ktD_at (hr.below hb) hy
    injection ev with ev1 ev2 ev3
    subst ev1
    clear ev2 ev3 hbb hy hgb
    clear h1 h2 h3 h4 hr hb hk hoi hom hn hi
    generalize x.a = xa at *
    generalize x.b = xb at *
    generalize x.c = xc at *
    go_enter Try.func26, Try.ntmps26
    go_wp2
    rw [← HW1.out]
    have hg1 := HG.out
    go_region
    all_goals
      go_wp2
      go_ret
      exact ⟨rfl, HY.out true W1.drew (Below.drew (Below.refl _ _))⟩
def goAll (go : Nat → Bool) (n : Nat) : Prop := ∀ j, j < n → go (j + 1) = true
theorem goAll_succ {go : Nat → Bool} {n : Nat} (h : goAll go n) (hg : go (n + 1) = true) : goAll go (n + 1) := fun j hj => by
  rcases Nat.lt_or_eq_of_le (Nat.le_of_lt_succ hj) with h1 | h1
  · exact h j h1
  · rw [h1]; exact hg
def ShI (J : List Kt → World → Prop) (go : Nat → Bool) (X : Nat → Prop) (w3 : World) (p : Kt) (pre : List Kt) (w : World) : Prop := J pre w ∧ Ck X w3 w ∧ (∀ z ∈ pre, fitK p z = true) ∧ goAll go pre.length
def ShX (J : List Kt → World → Prop) (go : Nat → Bool) (X : Nat → Prop) (w3 : World) (p : Kt) (c : Code) (qs : List Kt) (w : World) : Prop := c = .ret ∧ ((∃ pre x, qs = pre ++ [x] ∧ fitK p x = false ∧ ShI J go X w3 p pre w) ∨ (∃ pre x, qs = pre ++ [x] ∧ fitK p x = true ∧ (∀ z ∈ pre, fitK p z = true) ∧ goAll go pre.length ∧ go (pre.length + 1) = false ∧ J qs w))
theorem shI_own {J : List Kt → World → Prop} {go : Nat → Bool} {X : Nat → Prop} {w3 : World} {p : Kt} {B : Nat} (hJ : OwnFrom B J) : OwnFrom B (ShI J go X w3 p) := fun pre W W' row h hg hr => ⟨hJ pre W W' row h.1 hg hr, ck_grown h.2.1 hg (fun r e => (hr r e).2), h.2.2⟩
theorem shX_own {J : List Kt → World → Prop} {go : Nat → Bool} {X : Nat → Prop} {w3 : World} {p : Kt} {B : Nat} (hJ : OwnFrom B J) (c : Code) : OwnFrom B (ShX J go X w3 p c) := fun qs W W' row h hg hr => by
  obtain ⟨hc, ⟨pre, x, hq, hf, hi⟩ | ⟨pre, x, hq, hf, ha, hga, hgo, hj⟩⟩ := h
  · exact ⟨hc, .inl ⟨pre, x, hq, hf, shI_own hJ pre W W' row hi hg hr⟩⟩
  · exact ⟨hc, .inr ⟨pre, x, hq, hf, ha, hga, hgo, hJ qs W W' row hj hg hr⟩⟩
/-- What is told, as far as it is asked. -/
def StopS (p : Kt) (m : List Kt) (go : Nat → Bool) (xs : List Kt) : Prop := ∃ ys, ToldS p m ys ∧ ((xs = ys ∧ goAll go ys.length) ∨ ∃ pre x, xs = pre ++ [x] ∧ xs <+: ys ∧ goAll go pre.length ∧ go (pre.length + 1) = false)
theorem tw_pre {f : Kt → Bool} {x : Kt} (hx : f x = true) : ∀ {pre L : List Kt}, (pre ++ [x]) <+: L → (∀ z ∈ pre, f z = true) → (pre ++ [x]) <+: L.takeWhile f
  | [], L, h, _ => by
    obtain ⟨t, rfl⟩ := h
    simp [List.takeWhile_cons, hx]
  | y :: pre, L, h, ha => by
    obtain ⟨t, rfl⟩ := h
    rw [List.cons_append, List.cons_append, List.takeWhile_cons, if_pos (ha y (.head _))]
    exact (List.cons_prefix_cons).2 ⟨rfl, tw_pre hx ⟨t, rfl⟩ (fun z hz => ha z (.tail _ hz))⟩
set_option maxHeartbeats 16000000 in
theorem sscanS_any {X : Nat → Prop} {B d bs bp gok gi gw gm : Nat} {room many : Int} {m : List Kt} {go : Nat → Bool} {W : World} (hS0 : Sx B d room many m m m W) (hm : m.length ≤ 1000) (p : Kt) (hbs0 : Fb W bs 24 #[.pointer (some ⟨d, 0, none⟩)]) (hbp0 : Fb W bp 48 #[.int .i64 p.a, .int .i64 p.b, .int .i64 p.c])
    (nX : ∀ q, q < W.heap.size → (∃ cs, Fb W q 60 cs) ∨ (∃ cs, Fb W q 70 cs) ∨ (∃ cs, Fb W q 37 cs) ∨ (∃ cs, Fb W q 24 cs) ∨ (∃ cs, Fb W q 48 cs) → ¬ X q) (hXW : ∀ q, W.heap.size ≤ q → ¬ X q)
    (J : List Kt → World → Prop) (hJ : OwnFrom W.heap.size J) (hY : ∀ (pre : List Kt) (x : Kt) (W1 : World), J pre W1 → pre.length < m.length → Calls Try.prog 26 #[.agg #[.int .i64 x.a, .int .i64 x.b, .int .i64 x.c], .pointer (some ⟨gok, 0, none⟩), .pointer (some ⟨gi, 0, none⟩), .pointer (some ⟨gw, 0, none⟩), .pointer (some ⟨gm, 0, none⟩)] W1 fun e W' => e = .returned (.bool (go (pre.length + 1))) ∧ J (pre ++ [x]) W' ∧ Kq X W1 W') (h0 : J [] W) :
    Calls Try.prog 31 #[.func (.func 26) #[] #[.pointer (some ⟨gok, 0, none⟩), .pointer (some ⟨gi, 0, none⟩), .pointer (some ⟨gw, 0, none⟩), .pointer (some ⟨gm, 0, none⟩)], .pointer (some ⟨bs, 0, none⟩), .pointer (some ⟨bp, 0, none⟩)] W fun e W' => (∃ v, e = .returned v) ∧ ∃ xs, StopS p m go xs ∧ J xs W' := by
  have hW := Below.refl W.heap.size W
  have nbs : ¬ X bs := nX bs hbs0.lt (.inr (.inr (.inr (.inl ⟨_, hbs0⟩))))
  have nbp : ¬ X bp := nX bp hbp0.lt (.inr (.inr (.inr (.inr ⟨_, hbp0⟩))))
  obtain ⟨x0, x1, x2, l0, l1, l2, F0, F1, F2, hS2⟩ := hS0
  have nd : ¬ X d := nX d hS2.fb.lt (.inl ⟨_, hS2.fb⟩)
  obtain ⟨o, x, l, F, ho, ho3, hL0, hperm⟩ := sy_list hS2 p
  have nF : ∀ q ∈ F, ¬ X q := fun q hq => nX q (hL0.ge q hq).2 (by rcases hL0.ty q hq with h | h; exact .inr (.inl h); exact .inr (.inr (.inl h)))
  have hS2W := hS2.below hW
  have hL := hL0.below hS2.fb.lt hW
  have hrs := lx_rises hL0
  obtain ⟨W1, hW1⟩ : ∃ W1, W1 = W.alloc (.cells #[.func (.func 26) #[] #[.pointer (some ⟨gok, 0, none⟩), .pointer (some ⟨gi, 0, none⟩), .pointer (some ⟨gw, 0, none⟩), .pointer (some ⟨gm, 0, none⟩)]] 39) := ⟨_, rfl⟩
  obtain ⟨by_, hby⟩ : ∃ b, b = W.heap.size := ⟨_, rfl⟩
  have hB1 : Below W.heap.size W W1 := by rw [hW1]; exact (Below.refl _ _).alloc (Nat.le_refl _) _
  have hF1 : Fb W1 by_ 39 #[.func (.func 26) #[] #[.pointer (some ⟨gok, 0, none⟩), .pointer (some ⟨gi, 0, none⟩), .pointer (some ⟨gw, 0, none⟩), .pointer (some ⟨gm, 0, none⟩)]] := by rw [hW1, hby]; exact Fb.new _ _ _
  have nby : ¬ X by_ := hXW by_ (by rw [hby]; exact Nat.le_refl _)
  have hbs1 := (hbs0.below hW).below hB1
  have hbp1 := (hbp0.below hW).below hB1
  have hL1 := hL.below hS2W.fb.lt hB1
  have hS1 := hS2W.below hB1
  have cO := fun W => sorder_any p.a p.b p.c W
  have cL := fun W => sleast_any p.a p.b p.c W
  have hpo : ordP p.a p.b p.c = (o : Int) := ho
  rw [hpo] at cO
  have K : ∀ w, Below W1.heap.size W1 w → w.cell? ⟨bs, 0, none⟩ = some (.pointer (some ⟨d, 0, none⟩)) ∧ w.cell? ⟨bp, 0, none⟩ = some (.int .i64 p.a) ∧ w.cell? ⟨bp, 1, none⟩ = some (.int .i64 p.b) ∧ w.cell? ⟨bp, 2, none⟩ = some (.int .i64 p.c) := fun w hb => ⟨(hbs1.below hb).cell 0, (hbp1.below hb).cell 0, (hbp1.below hb).cell 1, (hbp1.below hb).cell 2⟩
  have hoI : (0 : Int) ≤ (o : Int) := by omega
  have hoI3 : (o : Int) < 3 := by omega
  have HS := Lib.hid hS1
  have HL := Lib.hid hL1
  have HP := Lib.hid hperm
  have HB := Lib.hid (And.intro hbs1 hbp1)
  have HM := Lib.hid hm
  have HF1 := Lib.hid hF1
  have HB1 := Lib.hid hB1
  have HW1 := Lib.hid hW1
  have HBY := Lib.hid hby
  have HN := Lib.hid (And.intro nd (And.intro nbs (And.intro nbp (And.intro nby nF))))
  have HX := Lib.hid hXW
  have HJ := Lib.hid hJ
  have HY := Lib.hid hY
  have HJ0 := Lib.hid h0
  have HRS := Lib.hid hrs
  clear hm hS2 hS2W hS1 hL0 hL hL1 hperm ho hpo ho3 hbs0 hbp0 hbs1 hbp1 hF1 hB1 hW1 hby nX nd nbs nbp nby nF hXW hJ hY h0 hW hrs
  refine (callsIn_wide (n := 5)).1 ?_
  refine callsIn_of_wp_marks Try.func31 rfl trivial ?_ rfl
  simp only [Try.ntmps31, List.size_toArray, List.length_cons, List.length_nil, Nat.reduceAdd, Nat.reduceSub, Array.replicate_succ, Array.replicate_zero, List.push_toArray, List.append_toArray, List.nil_append, List.cons_append]
  gi_wp2
  rw [← HW1.out, ← HBY.out]
  refine wpIn_wide.2 ?_
  go_region_held3 (fun w => w.cell? ⟨bs, 0, none⟩ = some (.pointer (some ⟨d, 0, none⟩)) ∧ w.cell? ⟨bp, 0, none⟩ = some (.int .i64 p.a) ∧ w.cell? ⟨bp, 1, none⟩ = some (.int .i64 p.b) ∧ w.cell? ⟨bp, 2, none⟩ = some (.int .i64 p.c))
    (first | (refine K _ ?_; repeat (first | with_reducible assumption | with_reducible exact Below.refl _ _ | with_reducible refine Below.drew ?_ | with_reducible refine Below.alloc ?_ (by first | exact Nat.le_refl _ | (simp; done) | (simp; omega) | (have := hZ1.size; simp; omega) | (have := hZ2.size; simp; omega)) _)))
    (first
      | (go_at_call 23; (with_reducible refine (cO _).mono ?_); rintro e z1 ⟨rfl, hz1⟩; have hZ1 : Below W1.heap.size W1 z1 := Below.trans (by repeat (first | with_reducible assumption | with_reducible exact Below.refl _ _ | with_reducible refine Below.drew ?_ | with_reducible refine Below.alloc ?_ (by first | exact Nat.le_refl _ | (simp; done) | (simp; omega) | (have := hZ1.size; simp; omega) | (have := hZ2.size; simp; omega)) _)) (hz1.mono (by simp)))
      | (go_at_call 33; (with_reducible refine (cL _).mono ?_); rintro e z2 ⟨rfl, hz2⟩; have hZ2 : Below W1.heap.size W1 z2 := Below.trans (by repeat (first | with_reducible assumption | with_reducible exact Below.refl _ _ | with_reducible refine Below.drew ?_ | with_reducible refine Below.alloc ?_ (by first | exact Nat.le_refl _ | (simp; done) | (simp; omega) | (have := hZ1.size; simp; omega) | (have := hZ2.size; simp; omega)) _)) (hz2.mono (by have := hZ1.size; first | exact this | (simp; done) | (simp; omega))))
      | (go_at_call 32; (with_reducible refine (slfrom_any _ _ _ _ _ _).mono ?_); rintro e z3 ⟨rfl, rfl⟩)
      | fail)
  obtain ⟨w3, hw3⟩ : ∃ w3, w3 = (z2.alloc (.cells #[.pointer (some ⟨d, 2 + o * 2, none⟩)] 67)).alloc (.cells #[.int .i64 (max p.a 0), .int .i64 (max p.b 0), .int .i64 (max p.c 0)] 37) := ⟨_, rfl⟩
  rw [← hw3]
  have hb1 : Fb w3 z2.heap.size 67 #[.pointer (some ⟨d, 2 + o * 2, none⟩)] := by rw [hw3]; exact (Fb.new _ _ _).alloc _
  have hb2 : Fb w3 (z2.heap.size + 1) 37 #[.int .i64 (leastK p).a, .int .i64 (leastK p).b, .int .i64 (leastK p).c] := by
    have := Fb.new (z2.alloc (.cells #[.pointer (some ⟨d, 2 + o * 2, none⟩)] 67)) 37 #[.int .i64 (max p.a 0), .int .i64 (max p.b 0), .int .i64 (max p.c 0)]
    rw [World.size_alloc] at this
    rw [hw3]; exact this
  have hZ3 : Below W1.heap.size W1 w3 := by rw [hw3]; exact (hZ2.alloc hZ2.size _).alloc (by have := hZ2.size; simp; omega) _
  have hzW : W.heap.size ≤ z2.heap.size := Nat.le_trans HB1.out.size hZ2.size
  have hW3 : W.heap.size ≤ w3.heap.size := Nat.le_trans HB1.out.size hZ3.size
  have nbl : ¬ X z2.heap.size := HX.out _ hzW
  have hseq := sfromG_lx (X := X) (k := leastK p) (HL.out.below HS.out.fb.lt hZ3) (HS.out.fb.below hZ3).lt (by rw [HP.out.length_eq]; exact HM.out) hb1 hb2 nbl HN.out.1 HN.out.2.2.2.2
  have HFB := Lib.hid (fun (w : World) (hb : Ck X w3 w) => (⟨hb.fb (HB.out.2.below hZ3) HN.out.2.2.1, hb.fb (HF1.out.below hZ3) HN.out.2.2.2.1⟩ : Fb w bp 48 #[.int .i64 p.a, .int .i64 p.b, .int .i64 p.c] ∧ Fb w by_ 39 #[.func (.func 26) #[] #[.pointer (some ⟨gok, 0, none⟩), .pointer (some ⟨gi, 0, none⟩), .pointer (some ⟨gw, 0, none⟩), .pointer (some ⟨gm, 0, none⟩)]]))
  have HX3 := Lib.hid (fun (q : Nat) (hq : w3.heap.size ≤ q) => HX.out q (Nat.le_trans hW3 hq))
  have HOJ := Lib.hid (own_le HJ.out hW3)
  have HI0 : Hid (ShI J go X w3 p [] w3) := Lib.hid ⟨own_below HJ.out HJ0.out (HB1.out.trans (hZ3.mono HB1.out.size)), Ck.refl _ _, (fun z hz => by cases hz), fun j hj => absurd hj (Nat.not_lt_zero _)⟩
  have HLN := Lib.hid (show l.length = m.length from HP.out.length_eq)
  clear hb1 hb2 hZ3 hzW hW3 nbl hZ1 hZ2 hz1 hz2 K cO cL hw3
  gi_wp2
  refine wpIn_rangeFunc_ownH rfl (by decide) (gf := 42) (lb := #[.pointer (some ⟨z2.heap.size, 0, none⟩), .pointer (some ⟨z2.heap.size + 1, 0, none⟩)]) rfl trivial (enters_of Try.func42 (by kernel_rfl) rfl) hseq (fun h k => h.trans k) (fun W l o o' _ hl ho _ => ck_put W l o o' hl ho) (Below.refl _ _) (fun _ => rfl)
    (ShI J go X w3 p) (ShX J go X w3 p) (shI_own HOJ.out) (fun c => shX_own HOJ.out c) HI0.out
    (fun x a' w => ∃ Bx, w3.heap.size ≤ Bx ∧ Fb w Bx 37 #[.int .i64 x.a, .int .i64 x.b, .int .i64 x.c] ∧ a' = { tmps := #[.func (.func 26) #[] #[.pointer (some ⟨gok, 0, none⟩), .pointer (some ⟨gi, 0, none⟩), .pointer (some ⟨gw, 0, none⟩), .pointer (some ⟨gm, 0, none⟩)], .pointer (some ⟨bs, 0, none⟩), .pointer (some ⟨bp, 0, none⟩), .pointer (some ⟨by_, 0, none⟩), .pointer (some ⟨Bx, 0, none⟩), .pointer (some ⟨d, 0, none⟩), .agg #[.int .i64 p.a, .int .i64 p.b, .int .i64 p.c], .int .i64 o, .pointer (some ⟨d, 0, none⟩), .pointer (some ⟨d, 2, none⟩), .pointer (some ⟨d, 2 + o * 2, none⟩), .agg #[.int .i64 p.a, .int .i64 p.b, .int .i64 p.c], .agg #[.int .i64 (max p.a 0), .int .i64 (max p.b 0), .int .i64 (max p.c 0)], .func (.func 42) #[] #[.pointer (some ⟨z2.heap.size, 0, none⟩), .pointer (some ⟨z2.heap.size + 1, 0, none⟩)], .agg #[.int .i64 x.a, .int .i64 x.b, .int .i64 x.c], undef, undef, undef, undef, undef, undef, undef, undef, undef, undef], defers := [] })
    (fun x a' _ W5 W6 row h hg hr => by
      obtain ⟨Bx, h1, h2, h3⟩ := h
      exact ⟨Bx, h1, fb_grown h2 hg hr, h3⟩) ?assign ?body ?done ?stop
  case assign =>
    rintro lr2 pre x W5 K hI hK
    have HI := Lib.hid hI
    have hal : Below W5.heap.size W5 (W5.alloc (.cells #[.int .i64 x.a, .int .i64 x.b, .int .i64 x.c] 37)) := (Below.refl _ _).alloc (Nat.le_refl _) _
    have HAL := Lib.hid hal
    clear hseq hI hal
    unfold encK
    gi_wp2
    exact hK _ _ (keeps_below HAL.out) (Ck.of HAL.out) ⟨own_below HOJ.out HI.out.1 HAL.out, HI.out.2.1.trans (Ck.of HAL.out), HI.out.2.2⟩ ⟨W5.heap.size, HI.out.2.1.size, Fb.new _ _ _, rfl⟩
  case body =>
    rintro lr2 pre x a' W5 hlr ⟨r, hr⟩ ⟨hf, hb, ha⟩ ⟨Bx, hBx, bX, rfl⟩ hlt
    obtain ⟨fp, fy⟩ := HFB.out W5 hb
    have p0 := fp.cell 0
    have p1 := fp.cell 1
    have p2 := fp.cell 2
    have b0 := bX.cell 0
    have b1 := bX.cell 1
    have b2 := bX.cell 2
    have cF : Calls Try.prog 34 #[.agg #[.int .i64 p.a, .int .i64 p.b, .int .i64 p.c], .agg #[.int .i64 x.a, .int .i64 x.b, .int .i64 x.c]] W5 fun e w' => e = .returned (.bool (fitK p x)) ∧ Below W5.heap.size W5 w' := sfits_any p.a p.b p.c x.a x.b x.c W5
    have HR := Lib.hid (And.intro hf (And.intro hb ha))
    have HLT := Lib.hid (show pre.length < m.length from by rw [← HLN.out]; exact hlt)
    have HXX := Lib.hid (And.intro bX fy)
    clear hseq hf hb ha fp fy bX hlr hr hlt hBx
    cases hfx : fitK p x with
    | false =>
      rw [hfx] at cF
      have HFX := Lib.hid hfx
      clear hfx
      gi_wp2_with (refine ⟨trivial, ?_⟩; gi_at_call 34; refine (CallsIn.inRound lr2 (callsIn_wide.2 cF)).mono ?_; rintro e z4 ⟨rfl, hz4⟩)
      refine ⟨fun _ h => (by cases h), ?_⟩
      gi_wp2
      exact ⟨keeps_below hz4, rfl, .inl ⟨pre, x, rfl, HFX.out, own_below HOJ.out HR.out.1 hz4, HR.out.2.1.trans (Ck.of hz4), HR.out.2.2⟩⟩
    | true =>
      rw [hfx] at cF
      have HFX := Lib.hid hfx
      clear hfx
      have HYF := fun (z : World) (h : Below W5.heap.size W5 z) => HY.out pre x z (own_below HOJ.out HR.out.1 h) HLT.out
      have HXC := Lib.hid (fun (w : World) (h : Below W5.heap.size W5 w) => (⟨(HXX.out.1.below h).cell 0, (HXX.out.1.below h).cell 1, (HXX.out.1.below h).cell 2, (HXX.out.2.below h).cell 0⟩ : _ ∧ _ ∧ _ ∧ _))
      cases hgo : go (pre.length + 1) with
      | true =>
        rw [hgo] at HYF
        have HGO := Lib.hid hgo
        clear hgo
        gi_wp2_with (first
          | (refine ⟨trivial, ?_⟩; gi_at_call 34; refine (CallsIn.inRound lr2 (callsIn_wide.2 cF)).mono ?_; rintro e z4 ⟨rfl, hz4⟩; obtain ⟨v0, v1, v2, v3⟩ := HXC.out _ hz4)
          | (refine ⟨trivial, ?_⟩; gi_at_call 26; refine (CallsIn.inRound lr2 (callsIn_wide.2 (HYF _ hz4))).mono ?_; rintro e W7 ⟨rfl, hJ7, hk7⟩))
        exact ⟨(keeps_below hz4).trans (keeps_kq hk7 HX3.out), (Ck.of hz4).trans hk7.ck, hJ7, (HR.out.2.1.trans (Ck.of hz4)).trans hk7.ck, (fun z hz => by
          rcases List.mem_append.1 hz with h | h
          · exact HR.out.2.2.1 z h
          · rw [List.mem_singleton.1 h]; exact HFX.out), by rw [List.length_append]; exact goAll_succ HR.out.2.2.2 HGO.out⟩
      | false =>
        rw [hgo] at HYF
        have HGO := Lib.hid hgo
        clear hgo
        gi_wp2_with (first
          | (refine ⟨trivial, ?_⟩; gi_at_call 34; refine (CallsIn.inRound lr2 (callsIn_wide.2 cF)).mono ?_; rintro e z4 ⟨rfl, hz4⟩; obtain ⟨v0, v1, v2, v3⟩ := HXC.out _ hz4)
          | (refine ⟨trivial, ?_⟩; gi_at_call 26; refine (CallsIn.inRound lr2 (callsIn_wide.2 (HYF _ hz4))).mono ?_; rintro e W7 ⟨rfl, hJ7, hk7⟩))
        exact ⟨(keeps_below hz4).trans (keeps_kq hk7 HX3.out), rfl, .inr ⟨pre, x, rfl, HFX.out, HR.out.2.2.1, HR.out.2.2.2, HGO.out, hJ7⟩⟩
  case done =>
    rintro D ys W6 hD ⟨i, hsi, rfl⟩ hI hK
    have HI := Lib.hid hI
    have HSI := Lib.hid hsi
    have HD := Lib.hid hD
    clear hseq hI hsi hD
    gi_wp2
    refine ⟨by simp, .inl ⟨_, _, rfl, run_takeDeferred hK, ?_⟩⟩
    have e : toldK l i p = l.drop i := tw_all HI.out.2.2.1
    exact ⟨_, results_none rfl _ _ _, ⟨_, rfl⟩, _, ⟨_, ⟨l, i, HP.out, HSI.out, HRS.out, rfl⟩, .inl ⟨e.symm, by rw [e]; exact HI.out.2.2.2⟩⟩, HOJ.out.putObj _ HI.out.1 HD.out hK rfl⟩
  case stop =>
    rintro D c qs W6 hD ⟨i, hsi, hpre⟩ ⟨rfl, hw⟩ hK
    have HW := Lib.hid hw
    have HSI := Lib.hid (And.intro hsi hpre)
    have HD := Lib.hid hD
    clear hseq hsi hpre hw hD
    gi_wp2
    refine ⟨by simp, .inl ⟨_, _, rfl, run_takeDeferred hK, ?_⟩⟩
    rcases HW.out with ⟨pre, x, rfl, hfx, hI⟩ | ⟨pre, x, rfl, hfx, ha, hga, hgo, hj⟩
    · have e : toldK l i p = pre := tw_stop hfx HSI.out.2 hI.2.2.1
      exact ⟨_, results_none rfl _ _ _, ⟨_, rfl⟩, _, ⟨_, ⟨l, i, HP.out, HSI.out.1, HRS.out, rfl⟩, .inl ⟨e.symm, by rw [e]; exact hI.2.2.2⟩⟩, HOJ.out.putObj _ hI.1 HD.out hK rfl⟩
    · exact ⟨_, results_none rfl _ _ _, ⟨_, rfl⟩, _, ⟨_, ⟨l, i, HP.out, HSI.out.1, HRS.out, rfl⟩, .inr ⟨pre, x, rfl, tw_pre hfx HSI.out.2 ha, hga, hgo⟩⟩, HOJ.out.putObj _ hj HD.out hK rfl⟩
end Go.Proofs.Ytjnhbgpjfkkpeaa
