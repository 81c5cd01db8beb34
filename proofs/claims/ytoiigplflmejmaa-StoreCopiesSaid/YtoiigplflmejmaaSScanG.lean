/-
  Store.Scan's closure as an iterator: what is told of a pattern, to whatever loop body always goes on.
-/
import Derived.Test.YtoiigplflmejmaaSFromG
import Derived.Deep.RegionHeld3
import Derived.RangeFuncNested
import Derived.RangeFuncBound
import Derived.RangeFuncCalls
import Derived.RangeFuncLeaves
import Derived.Shelf.Abstract
import Derived.Shelf.RegionOpen
import Derived.WalkKit
import Derived.OwnWalkIn
import Derived.TacticsInMore
import Derived.LoopNIn
import Derived.LoopIn
namespace Go.Proofs.Ytoiigplflmejmaa
open Go.RowKit Go.Shelf
set_option linter.unusedVariables false
set_option linter.unusedSimpArgs false
set_option maxRecDepth 100000
attribute [local go_sem] Oper.semAt_some

theorem own_le {β : Type} {B B' : Nat} {J : β → World → Prop} (h : OwnFrom B J) (hb : B ≤ B') : OwnFrom B' J := fun s W W' row hs hg hr => h s W W' row hs hg (fun r e => ⟨Nat.le_trans hb (hr r e).1, (hr r e).2⟩)
theorem own_below {β : Type} {B : Nat} {J : β → World → Prop} (h : OwnFrom B J) {s : β} {W W' : World} (hs : J s W) (hb : Below W.heap.size W W') : J s W' := h s W W' none hs (below_grown hb) (fun r e => by cases e)
theorem ck_grown {X : Nat → Prop} {A W W' : World} {row : Option Nat} (h : Ck X A W) (hg : W.grownBy W' row) (hr : ∀ r, row = some r → ∃ o : Obj, W.heap[r]? = some o ∧ o.isCells = false) : Ck X A W' :=
  h.trans ⟨hg.os, hg.tape, hg.output, hg.size, fun q cs t fr _ hq => (hg.block q (Array.getElem?_eq_some_iff.1 hq).1 (fun e => by
    obtain ⟨o, ho, hc⟩ := hr q e.symm
    rw [hq] at ho
    injection ho with ho
    subst ho
    cases hc)).trans hq⟩
theorem keeps_kq {X : Nat → Prop} {B : Nat} {W W' : World} (h : Kq X W W') (hB : ∀ q, B ≤ q → ¬ X q) : KeepsFrom B W W' := ⟨h.size, fun k o hk hk2 _ => h.block k o (hB k hk) hk2⟩
def SgI (J : List Kt → World → Prop) (X : Nat → Prop) (w3 : World) (p : Kt) (pre : List Kt) (w : World) : Prop := J pre w ∧ Ck X w3 w ∧ ∀ z ∈ pre, fitK p z = true
def SgX (J : List Kt → World → Prop) (X : Nat → Prop) (w3 : World) (p : Kt) (c : Code) (qs : List Kt) (w : World) : Prop := c = .ret ∧ ∃ pre x, qs = pre ++ [x] ∧ fitK p x = false ∧ SgI J X w3 p pre w
theorem sgI_own {J : List Kt → World → Prop} {X : Nat → Prop} {w3 : World} {p : Kt} {B : Nat} (hJ : OwnFrom B J) : OwnFrom B (SgI J X w3 p) := fun pre W W' row h hg hr => ⟨hJ pre W W' row h.1 hg hr, ck_grown h.2.1 hg (fun r e => (hr r e).2), h.2.2⟩
theorem sgX_own {J : List Kt → World → Prop} {X : Nat → Prop} {w3 : World} {p : Kt} {B : Nat} (hJ : OwnFrom B J) (c : Code) : OwnFrom B (SgX J X w3 p c) := fun qs W W' row h hg hr => by
  obtain ⟨hc, pre, x, hq, hf, hi⟩ := h
  exact ⟨hc, pre, x, hq, hf, sgI_own hJ pre W W' row hi hg hr⟩
/-- What is told of a pattern. -/
def ToldS (p : Kt) (m : List Kt) (xs : List Kt) : Prop := ∃ l i, List.Perm l m ∧ SeaAt (notA (ordK p) l (leastK p)) l.length i ∧ Rs (ordK p) l ∧ xs = toldK l i p
set_option maxHeartbeats 16000000 in
theorem sscanG_any {X : Nat → Prop} {B d bs bp : Nat} {room many : Int} {m : List Kt} {w : World} (hS0 : Sx B d room many m m m w) (hm : m.length ≤ 1000) (p : Kt) (hbs0 : Fb w bs 24 #[.pointer (some ⟨d, 0, none⟩)]) (hbp0 : Fb w bp 48 #[.int .i64 p.a, .int .i64 p.b, .int .i64 p.c])
    (nX : ∀ q, q < w.heap.size → (∃ cs, Fb w q 60 cs) ∨ (∃ cs, Fb w q 70 cs) ∨ (∃ cs, Fb w q 37 cs) ∨ (∃ cs, Fb w q 24 cs) ∨ (∃ cs, Fb w q 48 cs) → ¬ X q) :
    GivesAll Try.prog 31 #[.pointer (some ⟨bs, 0, none⟩), .pointer (some ⟨bp, 0, none⟩)] encK X (ToldS p m) m.length w := fun lr J W hW hXW hJ hY h0 => by
  have nbs : ¬ X bs := nX bs hbs0.lt (.inr (.inr (.inr (.inl ⟨_, hbs0⟩))))
  have nbp : ¬ X bp := nX bp hbp0.lt (.inr (.inr (.inr (.inr ⟨_, hbp0⟩))))
  obtain ⟨x0, x1, x2, l0, l1, l2, F0, F1, F2, hS2⟩ := hS0
  have nd : ¬ X d := nX d hS2.fb.lt (.inl ⟨_, hS2.fb⟩)
  obtain ⟨o, x, l, F, ho, ho3, hL0, hperm⟩ := sy_list hS2 p
  have nF : ∀ q ∈ F, ¬ X q := fun q hq => nX q (hL0.ge q hq).2 (by rcases hL0.ty q hq with h | h; exact .inr (.inl h); exact .inr (.inr (.inl h)))
  have hS2W := hS2.below hW
  have hL := hL0.below hS2.fb.lt hW
  have hrs := lx_rises hL0
  obtain ⟨W1, hW1⟩ : ∃ W1, W1 = W.alloc (.cells #[.func (.yield lr) #[] #[]] 39) := ⟨_, rfl⟩
  obtain ⟨by_, hby⟩ : ∃ b, b = W.heap.size := ⟨_, rfl⟩
  have hB1 : Below W.heap.size W W1 := by rw [hW1]; exact (Below.refl _ _).alloc (Nat.le_refl _) _
  have hF1 : Fb W1 by_ 39 #[.func (.yield lr) #[] #[]] := by rw [hW1, hby]; exact Fb.new _ _ _
  have nby : ¬ X by_ := hXW by_ (by rw [hby]; exact Nat.le_refl _)
  have hbs1 := (hbs0.below hW).below hB1
  have hbp1 := (hbp0.below hW).below hB1
  have hL1 := hL.below hS2W.fb.lt hB1
  have hS1 := hS2W.below hB1
  have cO := fun W => sorder_any p.a p.b p.c W
  have cL := fun W => sleast_any p.a p.b p.c W
  have hpo : ordP p.a p.b p.c = (o : Int) := ho
  rw [hpo] at cO
  have K : ∀ w, Below W1.heap.size W1 w → w.cell? ⟨bs, 0, none⟩ = some (.pointer (some ⟨d, 0, none⟩)) ∧ w.cell? ⟨bp, 0, none⟩ = some (.int .i64 p.a) ∧ w.cell? ⟨bp, 1, none⟩ = some (.int .i64 p.b) ∧ w.cell? ⟨bp, 2, none⟩ = some (.int .i64 p.c) := fun w hb => ⟨(hbs1.below hb).cell 0, (hbp1.below hb).cell 0, (hbp1.below hb).cell 1, (hbp1.below hb).cell 2⟩
  have hoI : (0 : Int) ≤ (o : Int) := by omega
  have hoI3 : (o : Int) < 3 := by omega
  have HS := Lib.hid hS1
  have HL := Lib.hid hL1
  have HP := Lib.hid hperm
  have HB := Lib.hid (And.intro hbs1 hbp1)
  have HM := Lib.hid hm
  have HF1 := Lib.hid hF1
  have HB1 := Lib.hid hB1
  have HW1 := Lib.hid hW1
  have HBY := Lib.hid hby
  have HN := Lib.hid (And.intro nd (And.intro nbs (And.intro nbp (And.intro nby nF))))
  have HX := Lib.hid hXW
  have HJ := Lib.hid hJ
  have HY := Lib.hid hY
  have HJ0 := Lib.hid h0
  have HRS := Lib.hid hrs
  clear hm hS2 hS2W hS1 hL0 hL hL1 hperm ho hpo ho3 hbs0 hbp0 hbs1 hbp1 hF1 hB1 hW1 hby nX nd nbs nbp nby nF hXW hJ hY h0 hW hrs
  refine (callsIn_wide (n := 4)).2 ((callsIn_wide (n := 5)).1 ?_)
  refine callsIn_of_wp_marks Try.func31 rfl trivial ?_ rfl
  simp only [Try.ntmps31, List.size_toArray, List.length_cons, List.length_nil, Nat.reduceAdd, Nat.reduceSub, Array.replicate_succ, Array.replicate_zero, List.push_toArray, List.append_toArray, List.nil_append, List.cons_append]
  gi_wp2
  rw [← HW1.out, ← HBY.out]
  refine wpIn_wide.2 ?_
  go_region_held3 (fun w => w.cell? ⟨bs, 0, none⟩ = some (.pointer (some ⟨d, 0, none⟩)) ∧ w.cell? ⟨bp, 0, none⟩ = some (.int .i64 p.a) ∧ w.cell? ⟨bp, 1, none⟩ = some (.int .i64 p.b) ∧ w.cell? ⟨bp, 2, none⟩ = some (.int .i64 p.c))
    (first | (refine K _ ?_; repeat (first | with_reducible assumption | with_reducible exact Below.refl _ _ | with_reducible refine Below.drew ?_ | with_reducible refine Below.alloc ?_ (by first | exact Nat.le_refl _ | (simp; done) | (simp; omega) | (have := hZ1.size; simp; omega) | (have := hZ2.size; simp; omega)) _)))
    (first
      | (go_at_call 23; (with_reducible refine (cO _).mono ?_); rintro e z1 ⟨rfl, hz1⟩; have hZ1 : Below W1.heap.size W1 z1 := Below.trans (by repeat (first | with_reducible assumption | with_reducible exact Below.refl _ _ | with_reducible refine Below.drew ?_ | with_reducible refine Below.alloc ?_ (by first | exact Nat.le_refl _ | (simp; done) | (simp; omega) | (have := hZ1.size; simp; omega) | (have := hZ2.size; simp; omega)) _)) (hz1.mono (by simp)))
      | (go_at_call 33; (with_reducible refine (cL _).mono ?_); rintro e z2 ⟨rfl, hz2⟩; have hZ2 : Below W1.heap.size W1 z2 := Below.trans (by repeat (first | with_reducible assumption | with_reducible exact Below.refl _ _ | with_reducible refine Below.drew ?_ | with_reducible refine Below.alloc ?_ (by first | exact Nat.le_refl _ | (simp; done) | (simp; omega) | (have := hZ1.size; simp; omega) | (have := hZ2.size; simp; omega)) _)) (hz2.mono (by have := hZ1.size; first | exact this | (simp; done) | (simp; omega))))
      | (go_at_call 32; (with_reducible refine (slfrom_any _ _ _ _ _ _).mono ?_); rintro e z3 ⟨rfl, rfl⟩)
      | fail)
  obtain ⟨w3, hw3⟩ : ∃ w3, w3 = (z2.alloc (.cells #[.pointer (some ⟨d, 2 + o * 2, none⟩)] 67)).alloc (.cells #[.int .i64 (max p.a 0), .int .i64 (max p.b 0), .int .i64 (max p.c 0)] 37) := ⟨_, rfl⟩
  rw [← hw3]
  have hb1 : Fb w3 z2.heap.size 67 #[.pointer (some ⟨d, 2 + o * 2, none⟩)] := by rw [hw3]; exact (Fb.new _ _ _).alloc _
  have hb2 : Fb w3 (z2.heap.size + 1) 37 #[.int .i64 (leastK p).a, .int .i64 (leastK p).b, .int .i64 (leastK p).c] := by
    have := Fb.new (z2.alloc (.cells #[.pointer (some ⟨d, 2 + o * 2, none⟩)] 67)) 37 #[.int .i64 (max p.a 0), .int .i64 (max p.b 0), .int .i64 (max p.c 0)]
    rw [World.size_alloc] at this
    rw [hw3]; exact this
  have hZ3 : Below W1.heap.size W1 w3 := by rw [hw3]; exact (hZ2.alloc hZ2.size _).alloc (by have := hZ2.size; simp; omega) _
  have hzW : W.heap.size ≤ z2.heap.size := Nat.le_trans HB1.out.size hZ2.size
  have hW3 : W.heap.size ≤ w3.heap.size := Nat.le_trans HB1.out.size hZ3.size
  have nbl : ¬ X z2.heap.size := HX.out _ hzW
  have hseq := sfromG_lx (X := X) (k := leastK p) (HL.out.below HS.out.fb.lt hZ3) (HS.out.fb.below hZ3).lt (by rw [HP.out.length_eq]; exact HM.out) hb1 hb2 nbl HN.out.1 HN.out.2.2.2.2
  have HFB := Lib.hid (fun (w : World) (hb : Ck X w3 w) => (⟨hb.fb (HB.out.2.below hZ3) HN.out.2.2.1, hb.fb (HF1.out.below hZ3) HN.out.2.2.2.1⟩ : Fb w bp 48 #[.int .i64 p.a, .int .i64 p.b, .int .i64 p.c] ∧ Fb w by_ 39 #[.func (.yield lr) #[] #[]]))
  have HX3 := Lib.hid (fun (q : Nat) (hq : w3.heap.size ≤ q) => HX.out q (Nat.le_trans hW3 hq))
  have HOJ := Lib.hid (own_le HJ.out hW3)
  have HI0 : Hid (SgI J X w3 p [] w3) := Lib.hid ⟨own_below HJ.out HJ0.out (HB1.out.trans (hZ3.mono HB1.out.size)), Ck.refl _ _, fun z hz => by cases hz⟩
  have HLN := Lib.hid (show l.length = m.length from HP.out.length_eq)
  clear hb1 hb2 hZ3 hzW hW3 nbl hZ1 hZ2 hz1 hz2 K cO cL hw3
  gi_wp2
  refine wpIn_rangeFunc_ownH rfl (by decide) (gf := 42) (lb := #[.pointer (some ⟨z2.heap.size, 0, none⟩), .pointer (some ⟨z2.heap.size + 1, 0, none⟩)]) rfl trivial (enters_of Try.func42 (by kernel_rfl) rfl) hseq (fun h k => h.trans k) (fun W l o o' _ hl ho _ => ck_put W l o o' hl ho) (Below.refl _ _) (fun _ => rfl)
    (SgI J X w3 p) (SgX J X w3 p) (sgI_own HOJ.out) (fun c => sgX_own HOJ.out c) HI0.out
    (fun x a' w => ∃ Bx, w3.heap.size ≤ Bx ∧ Fb w Bx 37 #[.int .i64 x.a, .int .i64 x.b, .int .i64 x.c] ∧ a' = { tmps := #[.func (.yield lr) #[] #[], .pointer (some ⟨bs, 0, none⟩), .pointer (some ⟨bp, 0, none⟩), .pointer (some ⟨by_, 0, none⟩), .pointer (some ⟨Bx, 0, none⟩), .pointer (some ⟨d, 0, none⟩), .agg #[.int .i64 p.a, .int .i64 p.b, .int .i64 p.c], .int .i64 o, .pointer (some ⟨d, 0, none⟩), .pointer (some ⟨d, 2, none⟩), .pointer (some ⟨d, 2 + o * 2, none⟩), .agg #[.int .i64 p.a, .int .i64 p.b, .int .i64 p.c], .agg #[.int .i64 (max p.a 0), .int .i64 (max p.b 0), .int .i64 (max p.c 0)], .func (.func 42) #[] #[.pointer (some ⟨z2.heap.size, 0, none⟩), .pointer (some ⟨z2.heap.size + 1, 0, none⟩)], .agg #[.int .i64 x.a, .int .i64 x.b, .int .i64 x.c], undef, undef, undef, undef, undef, undef, undef, undef, undef, undef], defers := [] })
    (fun x a' _ W5 W6 row h hg hr => by
      obtain ⟨Bx, h1, h2, h3⟩ := h
      exact ⟨Bx, h1, fb_grown h2 hg hr, h3⟩) ?assign ?body ?done ?stop
  case assign =>
    rintro lr2 pre x W5 K hI hK
    have HI := Lib.hid hI
    have hal : Below W5.heap.size W5 (W5.alloc (.cells #[.int .i64 x.a, .int .i64 x.b, .int .i64 x.c] 37)) := (Below.refl _ _).alloc (Nat.le_refl _) _
    have HAL := Lib.hid hal
    clear hseq hI hal
    unfold encK
    gi_wp2
    exact hK _ _ (keeps_below HAL.out) (Ck.of HAL.out) ⟨own_below HOJ.out HI.out.1 HAL.out, HI.out.2.1.trans (Ck.of HAL.out), HI.out.2.2⟩ ⟨W5.heap.size, HI.out.2.1.size, Fb.new _ _ _, rfl⟩
  case body =>
    rintro lr2 pre x a' W5 hlr ⟨r, hr⟩ ⟨hf, hb, ha⟩ ⟨Bx, hBx, bX, rfl⟩ hlt
    obtain ⟨fp, fy⟩ := HFB.out W5 hb
    have p0 := fp.cell 0
    have p1 := fp.cell 1
    have p2 := fp.cell 2
    have b0 := bX.cell 0
    have b1 := bX.cell 1
    have b2 := bX.cell 2
    have cF : Calls Try.prog 34 #[.agg #[.int .i64 p.a, .int .i64 p.b, .int .i64 p.c], .agg #[.int .i64 x.a, .int .i64 x.b, .int .i64 x.c]] W5 fun e w' => e = .returned (.bool (fitK p x)) ∧ Below W5.heap.size W5 w' := sfits_any p.a p.b p.c x.a x.b x.c W5
    have HR := Lib.hid (And.intro hf (And.intro hb ha))
    have HLT := Lib.hid (show pre.length < m.length from by rw [← HLN.out]; exact hlt)
    have HXX := Lib.hid (And.intro bX fy)
    clear hseq hf hb ha fp fy bX hlr hr hlt hBx
    cases hfx : fitK p x with
    | false =>
      rw [hfx] at cF
      have HFX := Lib.hid hfx
      clear hfx
      gi_wp2_with (refine ⟨trivial, ?_⟩; gi_at_call 34; refine (CallsIn.inRound lr2 (callsIn_wide.2 cF)).mono ?_; rintro e z4 ⟨rfl, hz4⟩)
      refine ⟨fun _ h => (by cases h), ?_⟩
      gi_wp2
      exact ⟨keeps_below hz4, rfl, pre, x, rfl, HFX.out, own_below HOJ.out HR.out.1 hz4, HR.out.2.1.trans (Ck.of hz4), HR.out.2.2⟩
    | true =>
      rw [hfx] at cF
      have HFX := Lib.hid hfx
      clear hfx
      have HYF := Lib.hid (fun (z : World) (h : Below W5.heap.size W5 z) => HY.out pre x z (own_below HOJ.out HR.out.1 h) HLT.out)
      have HXC := Lib.hid (fun (w : World) (h : Below W5.heap.size W5 w) => (⟨(HXX.out.1.below h).cell 0, (HXX.out.1.below h).cell 1, (HXX.out.1.below h).cell 2, (HXX.out.2.below h).cell 0⟩ : _ ∧ _ ∧ _ ∧ _))
      gi_wp2_with (refine ⟨trivial, ?_⟩; gi_at_call 34; refine (CallsIn.inRound lr2 (callsIn_wide.2 cF)).mono ?_; rintro e z4 ⟨rfl, hz4⟩; obtain ⟨v0, v1, v2, v3⟩ := HXC.out _ hz4; obtain ⟨fn, tmps, asg, bdy, hy, hR⟩ := HYF.out _ hz4; unfold encK at hy)
      refine (round_in lr2 (round_wide hR)).mono ?_
      rintro e W7 ⟨rfl, hJ7, hk7⟩
      gi_wp2
      exact ⟨(keeps_below hz4).trans (keeps_kq hk7 HX3.out), (Ck.of hz4).trans hk7.ck, hJ7, (HR.out.2.1.trans (Ck.of hz4)).trans hk7.ck, fun z hz => by
        rcases List.mem_append.1 hz with h | h
        · exact HR.out.2.2 z h
        · rw [List.mem_singleton.1 h]; exact HFX.out⟩
  case done =>
    rintro D ys W6 hD ⟨i, hsi, rfl⟩ hI hK
    have HI := Lib.hid hI
    have HSI := Lib.hid hsi
    have HD := Lib.hid hD
    clear hseq hI hsi hD
    gi_wp2
    refine ⟨by simp, .inl ⟨_, _, rfl, run_takeDeferred hK, ?_⟩⟩
    refine ⟨_, results_none rfl _ _ _, ⟨_, rfl⟩, _, ⟨l, i, HP.out, HSI.out, HRS.out, rfl⟩, ?_⟩
    have e : toldK l i p = l.drop i := tw_all HI.out.2.2
    rw [e]
    exact HOJ.out.putObj _ HI.out.1 HD.out hK rfl
  case stop =>
    rintro D c qs W6 hD ⟨i, hsi, hpre⟩ ⟨rfl, pre, x, rfl, hfx, hI⟩ hK
    have HI := Lib.hid hI
    have HSI := Lib.hid (And.intro hsi (And.intro hpre hfx))
    have HD := Lib.hid hD
    clear hseq hI hsi hpre hfx hD
    gi_wp2
    refine ⟨by simp, .inl ⟨_, _, rfl, run_takeDeferred hK, ?_⟩⟩
    refine ⟨_, results_none rfl _ _ _, ⟨_, rfl⟩, _, ⟨l, i, HP.out, HSI.out.1, HRS.out, rfl⟩, ?_⟩
    have e : toldK l i p = pre := tw_stop HSI.out.2.2 HSI.out.2.1 HI.out.2.2
    rw [e]
    exact HOJ.out.putObj _ HI.out.1 HD.out hK rfl
end Go.Proofs.Ytoiigplflmejmaa
