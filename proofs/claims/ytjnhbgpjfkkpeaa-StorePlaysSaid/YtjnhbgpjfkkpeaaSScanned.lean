/-
  The laws' Scanned: true, whenever the program's keys are the document's.
-/
import Derived.Test.YtjnhbgpjfkkpeaaSScanS
import Derived.Test.YtjnhbgpjfkkpeaaSSumE
import Derived.Test.YtjnhbgpjfkkpeaaSKscan
import Derived.Deep.RegionHeld3
import Derived.Deep.CutRange
import Derived.Deep.CutBlock
namespace Go.Proofs.Ytjnhbgpjfkkpeaa
open Go.RowKit
set_option linter.unusedVariables false
set_option linter.unusedSimpArgs false
set_option maxRecDepth 100000

noncomputable def okL (WL pre : List Kt) : Bool := decide (pre <+: WL)
theorem pre_snoc {WL pre : List Kt} {x : Kt} : pre ++ [x] <+: WL ↔ pre <+: WL ∧ WL[pre.length]? = some x := by
  constructor
  · rintro ⟨t, rfl⟩
    refine ⟨⟨[x] ++ t, by simp⟩, ?_⟩
    simp
  · rintro ⟨⟨t, rfl⟩, h⟩
    rw [List.getElem?_append_right (Nat.le_refl _), Nat.sub_self] at h
    cases t with
    | nil => cases h
    | cons y t =>
      obtain rfl : y = x := by simpa using h
      exact ⟨t, by simp⟩
theorem okL_snoc (WL pre : List Kt) (x : Kt) : okL WL (pre ++ [x]) = okn (okL WL pre) WL pre.length x := by
  unfold okL okn
  by_cases h1 : pre <+: WL
  · by_cases h2 : WL[pre.length]? = some x
    · rw [decide_eq_true (pre_snoc.2 ⟨h1, h2⟩), decide_eq_true h1, decide_eq_true h2]; rfl
    · rw [decide_eq_false (fun h => h2 (pre_snoc.1 h).2), decide_eq_true h1, decide_eq_false h2]; rfl
  · rw [decide_eq_false (fun h => h1 (pre_snoc.1 h).1), decide_eq_false h1]; rfl
structure Sj (W : World) (gok gi gw gm B : Nat) (A : Option Addr) (c : Nat) (WL : List Kt) (most : Int) (pre : List Kt) (w : World) : Prop where
  f1 : Fb w gok 4 #[.bool (okL WL pre)]
  f2 : Fb w gi 3 #[.int .i64 (pre.length : Nat)]
  f3 : Fb w gw 28 #[.slice A WL.length c]
  f4 : Fb w gm 3 #[.int .i64 most]
  fr : KtD B w (.slice A WL.length c) WL
  b : Below W.heap.size W w
theorem sj_own {W : World} {gok gi gw gm B : Nat} {A : Option Addr} {c : Nat} {WL : List Kt} {most : Int} {n : Nat} (hn : W.heap.size ≤ n) : OwnFrom n (Sj W gok gi gw gm B A c WL most) := fun pre w w' row h hg hr =>
  ⟨fb_grown h.f1 hg hr, fb_grown h.f2 hg hr, fb_grown h.f3 hg hr, fb_grown h.f4 hg hr, row_heapB h.fr (fun g cur _ e => fb_grown (t := 31) e hg hr), h.b.grown hg h.b.size (fun r e => Nat.le_trans hn (hr r e).1)⟩
theorem sj_step {W : World} {gok gi gw gm B : Nat} {A : Option Addr} {c : Nat} {WL : List Kt} {most : Int} {pre : List Kt} {x : Kt} {w w' : World} (h : Sj W gok gi gw gm B A c WL most pre w) (hy : Yn gok gi (okn (okL WL pre) WL pre.length x) (pre.length + 1) w w') (hi : W.heap.size ≤ gi) (ho : W.heap.size ≤ gok) (hne : gi ≠ gm) : Sj W gok gi gw gm B A c WL most (pre ++ [x]) w' := by
  have hk : ∀ (q : Nat) (t : TypeId) (cs : Array Value), w.heap[q]? = some (Obj.cells cs t (0, 0)) → q ≠ gok → q ≠ gi → w'.heap[q]? = some (Obj.cells cs t (0, 0)) := fun q t cs hq h1 h2 => hy.kq.block q _ (fun e => e.elim h1 h2) hq
  refine ⟨by rw [okL_snoc]; exact hy.f1, by rw [List.length_append]; exact hy.f2, hk _ _ _ h.f3 (fb_ty_ne h.f3 h.f1 (by decide)) (fb_ty_ne h.f3 h.f2 (by decide)), hk _ _ _ h.f4 (fb_ty_ne h.f4 h.f1 (by decide)) hne.symm, row_heapB h.fr (fun g cur _ e => hk _ _ _ e (fb_ty_ne (t := 31) e h.f1 (by decide)) (fb_ty_ne (t := 31) e h.f2 (by decide))), ⟨hy.kq.os.trans h.b.os, hy.kq.tape.trans h.b.tape, hy.kq.output.trans h.b.output, Nat.le_trans h.b.size hy.kq.size, fun q hq => ?_⟩⟩
  have hb := h.b.block q hq
  rw [← hb]
  have hqw : q < w.heap.size := Nat.lt_of_lt_of_le hq h.b.size
  rw [Array.getElem?_eq_getElem hqw]
  exact hy.kq.block q _ (fun e => by rcases e with e | e <;> omega) (Array.getElem?_eq_getElem hqw)
def goM (most : Int) (n : Nat) : Bool := decide ((n : Int) < most)
/-- How many are told. -/
theorem stop_all {p : Kt} {m L xs : List Kt} {most : Int} (h : StopS p m (goM most) xs) (hp : L.Perm m) (hn : ∀ k ∈ m, nnK k) : xs <+: scanD p L ∧ ((xs.length : Nat) : Int) = (if (if most < 1 then 1 else most) < ((scanD p L).length : Int) then (if most < 1 then 1 else most) else ((scanD p L).length : Int)) := by
  obtain ⟨ys, ht, h⟩ := h
  rw [← told_scan ht hp hn]
  rcases h with ⟨rfl, hg⟩ | ⟨pre, x, rfl, hpre, hg, hgo⟩
  · refine ⟨List.prefix_refl _, ?_⟩
    by_cases h0 : xs.length = 0
    · rw [h0]; split <;> split at * <;> omega
    · have := hg (xs.length - 1) (by omega)
      unfold goM at this
      rw [show xs.length - 1 + 1 = xs.length by omega] at this
      have := of_decide_eq_true this
      split <;> split at * <;> omega
  · refine ⟨hpre, ?_⟩
    have hl := hpre.length_le
    unfold goM at hgo
    have hgo := of_decide_eq_false hgo
    rw [List.length_append, List.length_singleton] at hl ⊢
    by_cases h0 : pre.length = 0
    · rw [h0] at hgo hl ⊢; split <;> split at * <;> omega
    · have := hg (pre.length - 1) (by omega)
      unfold goM at this
      rw [show pre.length - 1 + 1 = pre.length by omega] at this
      have := of_decide_eq_true this
      split <;> split at * <;> omega
set_option maxHeartbeats 32000000 in
theorem scanned_any {B d : Nat} {room : Int} {m L : List Kt} {W : World} {A : Option Addr} {c : Nat} (hS : Sx B d room (m.length : Int) m m m W) (hm : m.length ≤ 1000) (hL : KtD B W (.slice A L.length c) L) (hp : L.Perm m) (hn : ∀ k ∈ m, nnK k) (p : Kt) (rm most : Int) :
    Calls Try.prog 14 #[.pointer (some ⟨d, 0, none⟩), .agg #[.int .i64 rm, .slice A L.length c], .agg #[.int .i64 p.a, .int .i64 p.b, .int .i64 p.c], .int .i64 most] W fun e w' => e = .returned (.bool true) ∧ Below W.heap.size W w' := by
  obtain ⟨W0, hW0⟩ : ∃ W0, W0 = ((W.alloc (.cells #[.int .i64 rm, .slice A L.length c] 30)).alloc (.cells #[.int .i64 p.a, .int .i64 p.b, .int .i64 p.c] 31)).alloc (.cells #[.int .i64 most] 3) := ⟨_, rfl⟩
  have hb0 : Below W.heap.size W W0 := by rw [hW0]; exact (((Below.refl _ _).alloc (Nat.le_refl _) _).alloc (by simp) _).alloc (by simp; omega) _
  obtain ⟨gp, hgp⟩ : ∃ g, g = W.heap.size + 1 := ⟨_, rfl⟩
  obtain ⟨gm, hgm⟩ : ∃ g, g = gp + 1 := ⟨_, rfl⟩
  have f0 : Fb W0 W.heap.size 30 #[.int .i64 rm, .slice A L.length c] := by rw [hW0]; exact ((Fb.new _ _ _).alloc _).alloc _
  have fp : Fb W0 gp 31 #[.int .i64 p.a, .int .i64 p.b, .int .i64 p.c] := by
    have := (Fb.new (W.alloc (.cells #[.int .i64 rm, .slice A L.length c] 30)) 31 #[.int .i64 p.a, .int .i64 p.b, .int .i64 p.c]).alloc (.cells #[.int .i64 most] 3)
    rw [World.size_alloc] at this
    rw [hW0, hgp]; exact this
  have fm : Fb W0 gm 3 #[.int .i64 most] := by
    have := Fb.new ((W.alloc (.cells #[.int .i64 rm, .slice A L.length c] 30)).alloc (.cells #[.int .i64 p.a, .int .i64 p.b, .int .i64 p.c] 31)) 3 #[.int .i64 most]
    rw [World.size_alloc, World.size_alloc] at this
    rw [hW0, hgm, hgp]; exact this
  have hlen := hp.length_eq
  have cK := kscan_any (hL.below hb0) (by omega) rm p.a p.b p.c
  have r0 := f0.cell 0
  have r1 := f0.cell 1
  have p0 := fp.cell 0
  have p1 := fp.cell 1
  have p2 := fp.cell 2
  obtain ⟨WL, hWL⟩ : ∃ WL, WL = scanD p L := ⟨_, rfl⟩
  have cK2 : Calls Try.prog 20 #[.agg #[.int .i64 rm, .slice A L.length c], .agg #[.int .i64 p.a, .int .i64 p.b, .int .i64 p.c]] W0 fun e w' => ∃ v', e = .returned v' ∧ KtD W0.heap.size w' v' WL ∧ Below W0.heap.size W0 w' := by rw [hWL]; exact cK
  clear cK
  have lgm : gm < W0.heap.size := fm.lt
  have HS0 := Lib.hid (hS.below hb0)
  have HB0 := Lib.hid hb0
  have HPN := Lib.hid (And.intro hm (And.intro hp (And.intro hn hWL)))
  have HFP := Lib.hid fp
  have HFM := Lib.hid fm
  have HW0 := Lib.hid (And.intro hW0 (And.intro hgp hgm))
  have HGM := Lib.hid lgm
  clear hS hm hL hp hn hW0 hb0 f0 fp fm hlen hWL hgp hgm lgm
  go_enter Try.func14, Try.ntmps14
  go_upto_region 1 with (fail)
  rw [← HW0.out.1]
  simp only [← HW0.out.2.1]
  simp only [← HW0.out.2.2]
  go_upto_region 3 with (go_at_call 20; (with_reducible refine cK2.mono ?_); rintro e w1 ⟨v1, rfl, hr1, hb1⟩; obtain ⟨A1, c1, rfl⟩ := KtD.shape hr1; have HR1 := Lib.hid hr1; have HB1 := Lib.hid hb1; clear hr1 hb1)
  obtain ⟨gw, hgw⟩ : ∃ g, g = w1.heap.size := ⟨_, rfl⟩
  obtain ⟨gi, hgi⟩ : ∃ g, g = gw + 1 := ⟨_, rfl⟩
  obtain ⟨gok, hgok⟩ : ∃ g, g = gi + 1 := ⟨_, rfl⟩
  obtain ⟨W5, hW5⟩ : ∃ W5, W5 = ((w1.alloc (.cells #[.slice A1 WL.length c1] 28)).alloc (.cells #[.int .i64 0] 3)).alloc (.cells #[.bool true] 4) := ⟨_, rfl⟩
  rw [← hW5]
  simp only [← hgw]
  simp only [← hgi]
  simp only [← hgok]
  have hb15 : Below w1.heap.size w1 W5 := by rw [hW5]; exact (((Below.refl _ _).alloc (Nat.le_refl _) _).alloc (by simp) _).alloc (by simp; omega) _
  have g3 : Fb W5 gw 28 #[.slice A1 WL.length c1] := by rw [hW5, hgw]; exact ((Fb.new _ _ _).alloc _).alloc _
  have g2 : Fb W5 gi 3 #[.int .i64 0] := by
    have := (Fb.new (w1.alloc (.cells #[.slice A1 WL.length c1] 28)) 3 #[.int .i64 0]).alloc (.cells #[.bool true] 4)
    rw [World.size_alloc] at this
    rw [hW5, hgi, hgw]; exact this
  have g1 : Fb W5 gok 4 #[.bool true] := by
    have := Fb.new ((w1.alloc (.cells #[.slice A1 WL.length c1] 28)).alloc (.cells #[.int .i64 0] 3)) 4 #[.bool true]
    rw [World.size_alloc, World.size_alloc] at this
    rw [hW5, hgok, hgi, hgw]; exact this
  have hb05 : Below W0.heap.size W0 W5 := HB1.out.trans (hb15.mono HB1.out.size)
  have hwi : W0.heap.size ≤ gi := by have := HB1.out.size; omega
  have hwo : W0.heap.size ≤ gok := by omega
  have hne : gi ≠ gm := by have := HGM.out; omega
  obtain ⟨W6, hW6⟩ : ∃ W6, W6 = (W5.alloc (.cells #[.pointer (some ⟨d, 0, none⟩)] 24)).alloc (.cells #[.int .i64 p.a, .int .i64 p.b, .int .i64 p.c] 48) := ⟨_, rfl⟩
  have hb56 : Below W5.heap.size W5 W6 := by rw [hW6]; exact ((Below.refl _ _).alloc (Nat.le_refl _) _).alloc (by simp) _
  have hb06 := hb05.trans (hb56.mono hb05.size)
  have hbs : Fb W6 W5.heap.size 24 #[.pointer (some ⟨d, 0, none⟩)] := by rw [hW6]; exact (Fb.new _ _ _).alloc _
  have hbp : Fb W6 (W5.heap.size + 1) 48 #[.int .i64 p.a, .int .i64 p.b, .int .i64 p.c] := by
    have := Fb.new (W5.alloc (.cells #[.pointer (some ⟨d, 0, none⟩)] 24)) 48 #[.int .i64 p.a, .int .i64 p.b, .int .i64 p.c]
    rw [World.size_alloc] at this
    rw [hW6]; exact this
  have hj0 : Sj W0 gok gi gw gm W0.heap.size A1 c1 WL most [] W6 := ⟨by have := g1.below hb56; unfold okL; simpa using this, g2.below hb56, g3.below hb56, HFM.out.below hb06, (HR1.out.below hb15).below hb56, hb06⟩
  have cSc := sscan_any (.int .i64 0) p.a p.b p.c d W5
  rw [← hW6] at cSc
  have o1 := g1.below hb56
  have o2 := g2.below hb56
  have cF := sscanS_any (X := fun q => q = gok ∨ q = gi) (gok := gok) (gi := gi) (gw := gw) (gm := gm) (go := goM most) (HS0.out.below hb06) HPN.out.1 p hbs hbp
    (fun q _ hq hx => by
      rcases hx with rfl | rfl
      · rcases hq with ⟨cs, h⟩ | ⟨cs, h⟩ | ⟨cs, h⟩ | ⟨cs, h⟩ | ⟨cs, h⟩ <;> exact fb_ty_ne h o1 (by decide) rfl
      · rcases hq with ⟨cs, h⟩ | ⟨cs, h⟩ | ⟨cs, h⟩ | ⟨cs, h⟩ | ⟨cs, h⟩ <;> exact fb_ty_ne h o2 (by decide) rfl)
    (fun q hq hx => by
      have h1 := o1.lt
      have h2 := o2.lt
      rcases hx with rfl | rfl <;> omega)
    (Sj W0 gok gi gw gm W0.heap.size A1 c1 WL most) (sj_own hb06.size)
    (fun pre x W1 hj hlt => (syieldS_any x hj.f1 hj.f2 hj.f3 hj.f4 hj.fr (by have := HPN.out.1; omega) hne).mono fun e w' ⟨he, hy⟩ => ⟨by rw [he]; unfold goM; rw [Int.natCast_succ], sj_step hj hy hwi hwo hne, hy.kq⟩) hj0
  have s0 := (HFP.out.below hb05).cell 0
  have s1 := (HFP.out.below hb05).cell 1
  have s2 := (HFP.out.below hb05).cell 2
  clear hb15 g1 g2 g3 hb05 hwi hwo hne hb56 hb06 hbs hbp hj0 o1 o2 hW5 hW6 hgw hgi hgok
  go_upto_region 4 with (first
    | (go_at_call 21; (with_reducible refine cSc.mono ?_); rintro e w6 ⟨rfl, rfl⟩)
    | (go_at_call 31; (with_reducible refine cF.mono ?_); rintro e w7 ⟨⟨v7, rfl⟩, xs, hst, hj⟩; have HST := Lib.hid hst; have HJ := Lib.hid hj; clear hst hj))
  obtain ⟨hpre, hnum⟩ := stop_all HST.out HPN.out.2.1 HPN.out.2.2.1
  rw [← HPN.out.2.2.2] at hpre hnum
  have hok : okL WL xs = true := decide_eq_true hpre
  obtain ⟨n, hnn⟩ : ∃ n, n = xs.length := ⟨_, rfl⟩
  rw [← hnn] at hnum
  have hK : ∀ w, Below w7.heap.size w7 w → w.cell? ⟨gok, 0, none⟩ = some (.bool true) ∧ w.cell? ⟨gi, 0, none⟩ = some (.int .i64 (n : Nat)) ∧ w.cell? ⟨gw, 0, none⟩ = some (.slice A1 WL.length c1) ∧ w.cell? ⟨gm, 0, none⟩ = some (.int .i64 most) ∧ w.cell? ⟨gp, 0, none⟩ = some (.int .i64 p.a) ∧ w.cell? ⟨gp, 1, none⟩ = some (.int .i64 p.b) ∧ w.cell? ⟨gp, 2, none⟩ = some (.int .i64 p.c) := fun w hb => by
    have h1 := (HJ.out.f1.below hb).cell 0
    have h2 := (HJ.out.f2.below hb).cell 0
    rw [hok] at h1
    rw [← hnn] at h2
    exact ⟨h1, h2, (HJ.out.f3.below hb).cell 0, (HJ.out.f4.below hb).cell 0, ((HFP.out.below HJ.out.b).below hb).cell 0, ((HFP.out.below HJ.out.b).below hb).cell 1, ((HFP.out.below HJ.out.b).below hb).cell 2⟩
  have cC : ∀ (w : World), Below w7.heap.size w7 w → Calls Try.prog 19 #[.pointer (some ⟨d, 0, none⟩), .agg #[.int .i64 p.a, .int .i64 p.b, .int .i64 p.c]] w fun e w' => e = .returned (.int .i64 ((scanD p L).length : Nat)) ∧ Below w.heap.size w w' := fun w hb => (scount_any ((HS0.out.below HJ.out.b).below hb) HPN.out.1 p).mono fun e w' ⟨⟨xs, h1, h2⟩, hb'⟩ => ⟨by rw [← told_scan h1 HPN.out.2.1 HPN.out.2.2.1]; exact h2, hb'⟩
  rw [← HPN.out.2.2.2] at cC
  obtain ⟨mx, hmx⟩ : ∃ mx : Int, mx = (if most < 1 then 1 else most) := ⟨_, rfl⟩
  have hmax : ∀ (ts : Array TypeId) (ty : TypeId) w, (Builtin.max_ ts ty #[.int .i64 most, .int .i64 1]).run Try.prog w = .ok (.int .i64 mx) w := fun ts ty w => by
    have e : (if 1 > most then (1 : Int) else most) = mx := hmx.symm
    simp [Builtin.max_, Builtin.max2, e]
  have hmin : ∀ (ts : Array TypeId) (ty : TypeId) w, (Builtin.min_ ts ty #[.int .i64 (WL.length : Nat), .int .i64 mx]).run Try.prog w = .ok (.int .i64 (n : Nat)) w := fun ts ty w => by
    rw [← hmx] at hnum
    simp [Builtin.min_, Builtin.min2, hnum]
  have HK := Lib.hid hK
  obtain ⟨j1, j2, j3, j4, j5, j6, j7⟩ := hK _ (Below.refl _ _)
  clear hK hmx hnum hnn hok hpre
  go_region_held3 (fun w => w.cell? ⟨gok, 0, none⟩ = some (.bool true) ∧ w.cell? ⟨gi, 0, none⟩ = some (.int .i64 (n : Nat)) ∧ w.cell? ⟨gw, 0, none⟩ = some (.slice A1 WL.length c1) ∧ w.cell? ⟨gm, 0, none⟩ = some (.int .i64 most) ∧ w.cell? ⟨gp, 0, none⟩ = some (.int .i64 p.a) ∧ w.cell? ⟨gp, 1, none⟩ = some (.int .i64 p.b) ∧ w.cell? ⟨gp, 2, none⟩ = some (.int .i64 p.c))
    (first | (refine HK.out _ ?_; repeat (first | assumption | exact Below.refl _ _ | refine Below.drew ?_)))
    (first | (go_at_call 19; (with_reducible refine (cC _ (by repeat (first | assumption | exact Below.refl _ _ | refine Below.drew ?_))).mono ?_); rintro e w8 ⟨rfl, hb8⟩; have hB8 : Below w7.heap.size w7 w8 := Below.trans (by repeat (first | assumption | exact Below.refl _ _ | refine Below.drew ?_)) (hb8.mono (by simp))))
  all_goals
    go_wp2
    go_ret
    exact ⟨rfl, HB0.out.trans ((HJ.out.b.trans ((show Below w7.heap.size w7 _ from by repeat (first | assumption | exact Below.refl _ _ | refine Below.drew ?_)).mono HJ.out.b.size)).mono HB0.out.size)⟩
end Go.Proofs.Ytjnhbgpjfkkpeaa
