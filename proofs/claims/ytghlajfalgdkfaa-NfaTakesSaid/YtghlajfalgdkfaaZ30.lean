/-
  MERGED (a claim has at most 60 files): NgTw, NgRv, NgTu.
-/
import Derived.Test.YtghlajfalgdkfaaZ29
import Derived.Deep.AppendLies
import Derived.Laws.OwnMore
import Derived.Deep.RegionHeld3
import Derived.Test.YtghlajfalgdkfaaZ11
/-
  turned: a path's turned one, in rows of its own (Reverse given).
-/
namespace Go.Proofs.Ytghlajfalgdkfaa
open Go.RowKit
set_option linter.unusedVariables false
set_option linter.unusedSimpArgs false
set_option maxRecDepth 100000

theorem tn_next {W wr w5 w8 : World} {ts : List PT} {kd nn : Int} {A Av : Option Addr} {m c j cv gA cap : Nat} {pas : List Pa} {t : PT} {k' n' : Int} {A' : Option Addr} {m' c' : Nat} (ht : ts[j]? = some t) (hrow : PpR (W.heap.size + 3) wr (.slice Av j cv) pas) (hpl : pas.length = j) (hpt : PtSs (fun g => W.heap.size + 3 ≤ g ∧ (Value.slice Av j cv).ownBlock ≠ some g) wr (turns (ts.take j)) pas) (hF3 : Fb wr (W.heap.size + 2) 28 #[.int .i64 kd, .int .i64 nn, .slice Av j cv]) (hF2 : Fb wr (W.heap.size + 1) 28 #[.int .i64 0, .int .i64 0, .slice none 0 0]) (hF1 : Fb wr W.heap.size 28 #[.int .i64 kd, .int .i64 nn, .slice A m c]) (hb : Below W.heap.size W wr)
    (hbw : Below wr.heap.size wr w5) (hpt5 : PtS (fun g => wr.heap.size + 1 ≤ g) w5 (turn t) ⟨k', n', .slice A' m' c'⟩) (hr8 : PpR (W.heap.size + 3) w8 (.slice (some ⟨gA, 0, none⟩) (j + 1) cap) (pas ++ [⟨k', n', .slice A' m' c'⟩])) (hk8 : ∀ g cs, (Value.slice Av j cv).ownBlock ≠ some g → Fb w5 g 28 cs → gA ≠ g ∧ Fb w8 g 28 cs) (hgA : W.heap.size + 3 ≤ gA) (hb8 : Below (W.heap.size + 3) w5 w8) :
    TnR W ts kd nn A m c (ts.length - (j + 1)) (.int .i64 ((j : Int) + 1)) (w8.setCell ⟨W.heap.size + 2, 2, none⟩ (.slice (some ⟨gA, 0, none⟩) (j + 1) cap)) := by
  have hv : ∀ g, g < W.heap.size + 3 → (Value.slice Av j cv).ownBlock ≠ some g := fun g hg e => by
    have := (row_lt hrow g e).1; omega
  have hvw : ∀ g, wr.heap.size ≤ g → (Value.slice Av j cv).ownBlock ≠ some g := fun g hg e => by
    have := (row_lt hrow g e).2; omega
  have hjl : j < ts.length := (List.getElem?_eq_some_iff.1 ht).1
  have hsz3 : W.heap.size + 3 ≤ wr.heap.size := hF3.lt
  have far : ∀ {g cs}, g ≠ W.heap.size + 2 → Fb w8 g 28 cs → Fb (w8.setCell ⟨W.heap.size + 2, 2, none⟩ (.slice (some ⟨gA, 0, none⟩) (j + 1) cap)) g 28 cs := fun {g cs} hg h => h.far _ _ hg
  have hr9 : PpR (W.heap.size + 3) (w8.setCell ⟨W.heap.size + 2, 2, none⟩ (.slice (some ⟨gA, 0, none⟩) (j + 1) cap)) (.slice (some ⟨gA, 0, none⟩) (j + 1) cap) (pas ++ [⟨k', n', .slice A' m' c'⟩]) := row_keep hr8 (fun k hk => heap_setCell_other _ _ _ _ (by
    have : gA = k := by simpa [Value.ownBlock] using hk
    show k ≠ W.heap.size + 2
    omega))
  refine ⟨j + 1, some ⟨gA, 0, none⟩, cap, pas ++ [⟨k', n', .slice A' m' c'⟩], by omega, by rw [Int.natCast_add]; rfl, hr9, by simp [hpl], ?_, ((hk8 _ _ (hv _ (by omega)) (hF3.below hbw)).2.set 2 _), far (by omega) (hk8 _ _ (hv _ (by omega)) (hF2.below hbw)).2, far (by omega) (hk8 _ _ (hv _ (by omega)) (hF1.below hbw)).2, ?_⟩
  · rw [take_snoc ht, turns_map, List.map_append, ← turns_map]
    refine PtSs.snoc (hpt.keep fun g cs hS hf => ?_) (PtS.keep (fun g cs hS hf => ?_) _ _ hpt5)
    · obtain ⟨h1, h2⟩ := hk8 g cs hS.2 (hf.below hbw)
      exact ⟨⟨hS.1, fun e => h1 (by simpa [Value.ownBlock] using e)⟩, far (by have := hS.1; omega) h2⟩
    · obtain ⟨h1, h2⟩ := hk8 g cs (hvw g (by omega)) hf
      exact ⟨⟨by omega, fun e => h1 (by simpa [Value.ownBlock] using e)⟩, far (by omega) h2⟩
  · exact ((hb.trans (hbw.mono hb.size)).trans (hb8.mono (by omega))).setCell (show W.heap.size ≤ (⟨W.heap.size + 2, 2, none⟩ : Addr).block from Nat.le_add_right _ _) _
theorem pts_slices {S : Nat → Prop} {W : World} {ts : List PT} {ps : List Pa} (h : PtSs S W ts ps) : ∀ p ∈ ps, ∃ A' m' c', p.s = .slice A' m' c' := fun p hp => by
  obtain ⟨e, h1⟩ := PtSs.of h
  obtain ⟨j, hj⟩ := List.mem_iff_getElem?.1 hp
  have hjl : j < ts.length := by have := (List.getElem?_eq_some_iff.1 hj).1; omega
  exact Pth.slice (PtS.pth _ _ (h1 j _ p (List.getElem?_eq_getElem hjl) hj))
/-- What stands when the path is answered. -/
structure TnF (W : World) (kd nn : Int) (ts : List PT) (v : Value) (wb : World) : Prop where
  f3 : Fb wb (W.heap.size + 2) 28 #[.int .i64 (tk kd), .int .i64 nn, v]
  f2 : Fb wb (W.heap.size + 1) 28 #[.int .i64 0, .int .i64 0, .slice none 0 0]
  q : ∃ pas, PpR (W.heap.size + 3) wb v pas ∧ PtSs (fun g => W.heap.size + 3 ≤ g) wb (if kd = 2 then (turns ts).reverse else turns ts) pas
  b : Below W.heap.size W wb
theorem tn_fin {W wb W9 : World} {kd nn : Int} {ts : List PT} {Av : Option Addr} {nv cv : Nat} (h : TnF W kd nn ts (.slice Av nv cv) wb) (hW9 : W9 = ((wb.setCell ⟨W.heap.size + 1, 0, none⟩ (.int .i64 (tk kd))).setCell ⟨W.heap.size + 1, 1, none⟩ (.int .i64 nn)).setCell ⟨W.heap.size + 1, 2, none⟩ (.slice Av nv cv)) :
    Fb W9 (W.heap.size + 1) 28 #[.int .i64 (tk kd), .int .i64 nn, .slice Av nv cv] ∧ PtS (fun g => W.heap.size ≤ g) W9 (turn (.mk kd nn ts)) ⟨tk kd, nn, .slice Av nv cv⟩ ∧ Below W.heap.size W W9 := by
  obtain ⟨pas, hr, hp⟩ := h.q
  have hup : ∀ g, W.heap.size + 3 ≤ g → W9.heap[g]? = wb.heap[g]? := fun g hg => by
    have hne : g ≠ W.heap.size + 1 := by omega
    rw [hW9]
    exact (heap_setCell_other _ _ _ _ hne).trans ((heap_setCell_other _ _ _ _ hne).trans (heap_setCell_other _ _ _ _ hne))
  refine ⟨by rw [hW9]; exact ((h.f2.set 0 (.int .i64 (tk kd))).set 1 (.int .i64 nn)).set 2 (.slice Av nv cv), ?_, ?_⟩
  · rw [turn]
    unfold PtS
    have hr' : PpR (W.heap.size + 3) W9 (.slice Av nv cv) pas := row_keep hr fun k hk => hup k (row_lt hr k hk).1
    exact ⟨rfl, rfl, pas, (PpR.pts hr').keep (fun g cs h1 h2 => ⟨by omega, h2⟩), hp.keep fun g cs h1 h2 => ⟨by omega, (hup g h1).trans h2⟩⟩
  · rw [hW9]
    exact ((h.b.setCell (show W.heap.size ≤ (⟨W.heap.size + 1, 0, none⟩ : Addr).block from Nat.le_succ _) _).setCell (show W.heap.size ≤ (⟨W.heap.size + 1, 1, none⟩ : Addr).block from Nat.le_succ _) _).setCell (show W.heap.size ≤ (⟨W.heap.size + 1, 2, none⟩ : Addr).block from Nat.le_succ _) _
theorem tn_kind {W wr : World} {kd nn : Int} {ts : List PT} {A Av : Option Addr} {m c j cv : Nat} {pas : List Pa} (hne : kd ≠ 2) (hrow : PpR (W.heap.size + 3) wr (.slice Av j cv) pas) (hpt : PtSs (fun g => W.heap.size + 3 ≤ g ∧ (Value.slice Av j cv).ownBlock ≠ some g) wr (turns ts) pas) (hF3 : Fb wr (W.heap.size + 2) 28 #[.int .i64 kd, .int .i64 nn, .slice Av j cv]) (hF2 : Fb wr (W.heap.size + 1) 28 #[.int .i64 0, .int .i64 0, .slice none 0 0]) (hb : Below W.heap.size W wr) : TnF W kd nn ts (.slice Av j cv) (wr.setCell ⟨W.heap.size + 2, 0, none⟩ (.int .i64 (tk kd))) := by
  have hup : ∀ g, W.heap.size + 3 ≤ g → (wr.setCell ⟨W.heap.size + 2, 0, none⟩ (.int .i64 (tk kd))).heap[g]? = wr.heap[g]? := fun g hg => heap_setCell_other _ _ _ _ (show g ≠ W.heap.size + 2 by omega)
  refine ⟨hF3.set 0 _, hF2.far _ _ (by omega), ⟨pas, row_keep hrow fun k hk => hup k (row_lt hrow k hk).1, ?_⟩, hb.setCell (show W.heap.size ≤ (⟨W.heap.size + 2, 0, none⟩ : Addr).block from Nat.le_add_right _ _) _⟩
  rw [if_neg hne]
  exact hpt.keep fun g cs h1 h2 => ⟨h1.1, (hup g h1.1).trans h2⟩
theorem tn_same {W wr : World} {kd nn : Int} {ts : List PT} {A Av : Option Addr} {m c j cv : Nat} {pas : List Pa} (hne : kd ≠ 2) (htk : tk kd = kd) (hrow : PpR (W.heap.size + 3) wr (.slice Av j cv) pas) (hpt : PtSs (fun g => W.heap.size + 3 ≤ g ∧ (Value.slice Av j cv).ownBlock ≠ some g) wr (turns ts) pas) (hF3 : Fb wr (W.heap.size + 2) 28 #[.int .i64 kd, .int .i64 nn, .slice Av j cv]) (hF2 : Fb wr (W.heap.size + 1) 28 #[.int .i64 0, .int .i64 0, .slice none 0 0]) (hb : Below W.heap.size W wr) : TnF W kd nn ts (.slice Av j cv) wr := by
  refine ⟨by rw [htk]; exact hF3, hF2, ⟨pas, hrow, ?_⟩, hb⟩
  rw [if_neg hne]
  exact hpt.keep fun g cs h1 h2 => ⟨h1.1, h2⟩
theorem tn_rev {W wr w' : World} {nn : Int} {ts : List PT} {A Av : Option Addr} {m c j cv : Nat} {pas : List Pa} (hrow : PpR (W.heap.size + 3) wr (.slice Av j cv) pas) (hpt : PtSs (fun g => W.heap.size + 3 ≤ g ∧ (Value.slice Av j cv).ownBlock ≠ some g) wr (turns ts) pas) (hF3 : Fb wr (W.heap.size + 2) 28 #[.int .i64 2, .int .i64 nn, .slice Av j cv]) (hF2 : Fb wr (W.heap.size + 1) 28 #[.int .i64 0, .int .i64 0, .slice none 0 0]) (hb : Below W.heap.size W wr) (hr : PpR (W.heap.size + 3) w' (.slice Av j cv) pas.reverse) (hg : wr.grownBy w' (Value.slice Av j cv).ownBlock) : TnF W 2 nn ts (.slice Av j cv) w' := by
  have hv : ∀ g, g < W.heap.size + 3 → some g ≠ (Value.slice Av j cv).ownBlock := fun g hg e => by
    have := (row_lt hrow g e.symm).1; omega
  refine ⟨(hg.block _ hF3.lt (hv _ (by omega))).trans hF3, (hg.block _ hF2.lt (hv _ (by omega))).trans hF2, ⟨pas.reverse, hr, ?_⟩, hb.grown hg hb.size fun k hk => by have := (row_lt hrow k hk).1; omega⟩
  rw [if_pos rfl]
  exact hpt.rev.keep fun g cs h1 h2 => ⟨h1.1, (hg.block _ h2.lt (fun e => h1.2 e.symm)).trans h2⟩
set_option pp.deepTerms true in
set_option pp.maxSteps 1000000 in
set_option maxHeartbeats 64000000 in
theorem turned_gen (hRev : ∀ (B : Nat) (W : World) (A : Option Addr) (n c : Nat) (ps : List Pa), PpR B W (.slice A n c) ps → (∀ p ∈ ps, ∃ A' m' c', p.s = .slice A' m' c') → ps.length ≤ 1000 → B ≤ W.heap.size → Calls Try.prog 58 #[.slice A n c] W (RvP B W (.slice A n c) ps)) : ∀ t : PT, TuAll t := by
  refine PT.ind fun k n ts ih hw kd nn A m c W hp => ?_
  unfold Wd at hw
  obtain ⟨hl, hws⟩ := hw
  have hm := (pth_part hp).2.2.1
  have hk := (pth_part hp).1
  have hn := (pth_part hp).2.1
  subst hk hn
  have HPart := Lib.hid (fun (w : World) (hb : Below W.heap.size W w) => (pth_part (hp.below hb)).2.2.2)
  have HIH := Lib.hid (fun (t : PT) (ht : t ∈ ts) => ih t ht (Wds.mem hws t ht))
  have m0 : (0 : Int) ≤ (m : Int) := by omega
  have m1 : (m : Int) ≤ 1000 := by omega
  obtain ⟨W3, hW3⟩ : ∃ W3, W3 = ((W.alloc (.cells #[.int .i64 kd, .int .i64 nn, .slice A m c] 28)).alloc (.cells #[.int .i64 0, .int .i64 0, .slice none 0 0] 28)).alloc (.cells #[.int .i64 kd, .int .i64 nn, .slice none 0 0] 28) := ⟨_, rfl⟩
  have hb3 : Below W.heap.size W W3 := by
    rw [hW3]
    exact (((Below.refl _ _).alloc (Nat.le_refl _) _).alloc (by simp) _).alloc (by simp; omega) _
  have hF1 : Fb W3 W.heap.size 28 #[.int .i64 kd, .int .i64 nn, .slice A m c] := by rw [hW3]; exact ((Fb.new W _ _).alloc _).alloc _
  have hF2 : Fb W3 (W.heap.size + 1) 28 #[.int .i64 0, .int .i64 0, .slice none 0 0] := by
    have := Fb.new (W.alloc (.cells #[.int .i64 kd, .int .i64 nn, .slice A m c] 28)) 28 #[.int .i64 0, .int .i64 0, .slice none 0 0]
    rw [World.size_alloc] at this
    rw [hW3]; exact this.alloc _
  have hF3 : Fb W3 (W.heap.size + 2) 28 #[.int .i64 kd, .int .i64 nn, .slice none 0 0] := by
    have := Fb.new ((W.alloc (.cells #[.int .i64 kd, .int .i64 nn, .slice A m c] 28)).alloc (.cells #[.int .i64 0, .int .i64 0, .slice none 0 0] 28)) 28 #[.int .i64 kd, .int .i64 nn, .slice none 0 0]
    rw [World.size_alloc, World.size_alloc] at this
    rw [hW3]; exact this
  have H0 := Lib.hid (show TnR W ts kd nn A m c ts.length (.int .i64 0) W3 from ⟨0, none, 0, [], by omega, rfl, World.ownsRow_nil _ _ _ _, rfl, PtSs.mk rfl fun j t p h => by simp [turns] at h, hF3, hF2, hF1, hb3⟩)
  have HM := Lib.hid hm
  have HL := Lib.hid hl
  have HW3 := Lib.hid hW3
  clear hp hl hws ih hm hb3 hF1 hF2 hF3 hW3
  have HRev := Lib.hid hRev
  clear hRev
  go_enter Try.func37, Try.ntmps37
  go_wp2
  rw [← HW3.out]
  clear HW3
  go_loopg [14] ts.length (fun gk s14 wr => TnR W ts kd nn A m c gk s14 wr)
  case atStart => exact H0.out
  case round =>
    clear H0
    obtain ⟨j, Av, cv, pas, hj, rfl, hrow, hpl, hpt, hF3, hF2, hF1, hb⟩ := hrel
    have hmm := HM.out
    have j0 : (0 : Int) ≤ (j : Int) := by omega
    by_cases hjm : j < m
    · obtain ⟨t, ht⟩ : ∃ t, ts[j]? = some t := ⟨_, List.getElem?_eq_getElem (by omega)⟩
      obtain ⟨g, kd', nn', A', m', c', hA, hpt', x0, x1, x2⟩ := HPart.out wr hb j t ht
      subst hA
      have HT := Lib.hid (fun (w : World) (hb : Below wr.heap.size wr w) => HIH.out t (List.mem_of_getElem? ht) kd' nn' A' m' c' w (hpt'.below hb))
      have j1 : (j : Int) < (m : Int) := by omega
      have hba : Below wr.heap.size wr (wr.alloc (.cells #[.int .i64 kd', .int .i64 nn', .slice A' m' c'] 28)) := (Below.refl _ _).alloc (Nat.le_refl _) _
      have HBA := Lib.hid hba
      have y2 := hF3.cell 2
      have y2a := (hF3.below hba).cell 2
      have HN := Lib.hid (fun (w5 w8 : World) (gA cap : Nat) (k5 n5 : Int) (A5 : Option Addr) (m5 c5 : Nat) (hbw : Below wr.heap.size wr w5) (hpt5 : PtS (fun g => wr.heap.size + 1 ≤ g) w5 (turn t) ⟨k5, n5, .slice A5 m5 c5⟩) (hr8 : PpR (W.heap.size + 3) w8 (.slice (some ⟨gA, 0, none⟩) (j + 1) cap) (pas ++ [⟨k5, n5, .slice A5 m5 c5⟩])) (hk8 : ∀ g cs, (Value.slice Av j cv).ownBlock ≠ some g → Fb w5 g 28 cs → gA ≠ g ∧ Fb w8 g 28 cs) (hgA : W.heap.size + 3 ≤ gA) (hb8 : Below (W.heap.size + 3) w5 w8) => tn_next ht hrow hpl hpt hF3 hF2 hF1 hb hbw hpt5 hr8 hk8 hgA hb8)
      have HF3 := Lib.hid (fun (w : World) (hb : Below wr.heap.size wr w) => hF3.below hb)
      have HRow := Lib.hid (fun (w : World) (hb : Below wr.heap.size wr w) => (row_below hrow hb : PpR (W.heap.size + 3) w (.slice Av j cv) pas))
      have HSz := Lib.hid (show W.heap.size + 3 ≤ wr.heap.size from hF3.lt)
      have HPl := Lib.hid hpl
      have HL1 : Hid (pas.length ≤ 1000) := Lib.hid (by have := HL.out; omega)
      have HV := Lib.hid (show (Value.slice Av j cv).ownBlock ≠ some (W.heap.size + 2) from fun e => by have := (row_lt hrow _ e).1; omega)
      have HJ := Lib.hid (And.intro hj hjm)
      clear hj hrow hpl hpt hF3 hF2 hF1 hb hmm hjm ht hpt' hba
      go_wp2
      go_region_law (first
        | (refine step_app_q rfl _ _ (by rfl) HPl.out (by rfl) (by rfl) (HRow.out w5 hbw5) (by first | exact ((Below.refl _ _).alloc (Nat.le_refl _) _) | exact (((Below.refl _ _).alloc (Nat.le_refl _) _).drew) | exact ((((Below.refl _ _).alloc (Nat.le_refl _) _).drew).drew)) ⟨(Fb.new _ _ _).cell 0, (Fb.new _ _ _).cell 1, (Fb.new _ _ _).cell 2⟩ (Nat.le_trans HSz.out hbw5.size) HL1.out ?_; intro gA c8 w8 hr8 hk8 hg8 hs8 hb8; have v2 := (hk8 _ _ HV.out (HF3.out w5 hbw5)).2.cell 2; have v3 := (hk8 _ _ HV.out (HF3.out w5 hbw5)).2.free 2; have HE8 := Lib.hid (HN.out w5 w8 gA c8 _ _ _ _ _ hbw5 HPT5.out hr8 hk8 hg8 hb8); clear hr8 hk8 hg8 hs8 hb8)
        | (go_simp; go_at_call 37; (with_reducible first | refine (HT.out _ HBA.out).mono ?_ | refine (HT.out _ HBA.out.drew).mono ?_ | refine (HT.out _ HBA.out.drew.drew).mono ?_); rintro e w5 ⟨k5, A5, m5, c5, rfl, hpt5, hb5⟩; have hbw5 : Below wr.heap.size wr w5 := (by first | exact HBA.out.trans (hb5.mono HBA.out.size) | exact HBA.out.drew.trans (hb5.mono HBA.out.size) | exact HBA.out.drew.drew.trans (hb5.mono HBA.out.size)); have y5 := (HF3.out w5 hbw5).cell 2; have y5a := ((HF3.out w5 hbw5).alloc (.cells #[.int .i64 k5, .int .i64 nn', .slice A5 m5 c5] 28)).cell 2; have HPT5 := Lib.hid (PtS.keep (S' := fun g => wr.heap.size + 1 ≤ g) (W' := w5) (fun g cs hS hf => ⟨by simpa using hS, hf⟩) _ _ hpt5); clear hb5 hpt5))
      all_goals
        go_wp2
        go_roundg (ts.length - (j + 1))
        case measure => have := HJ.out; have := HM.out; omega
        case rel => first | exact HE8.out | done
    · have hje : j = ts.length := by omega
      have j1 : ¬ ((j : Int) < (m : Int)) := by omega
      have htt : turns (ts.take j) = turns ts := by rw [hje, List.take_length]
      rw [htt] at hpt
      have k0 := hF1.cell 0
      have f30 := hF3.free 0
      have k30 := hF3.cell 0
      have k32 := hF3.cell 2
      clear hF1
      by_cases c0 : kd = 0
      · subst c0
        have HFn := Lib.hid (tn_kind (A := A) (m := m) (c := c) (by decide) hrow hpt hF3 hF2 hb)
        clear hj hrow hpl hpt hF3 hF2 hb hmm hjm hje htt
        go_upto_region 14 with fail
        obtain ⟨wb, hwb⟩ : ∃ wb, wb = wr.setCell ⟨W.heap.size + 2, 0, none⟩ (.int .i64 1) := ⟨_, rfl⟩
        have hwb' : wr.setCell ⟨W.heap.size + 1 + 1, 0, none⟩ (.int .i64 1) = wb := hwb.symm
        try rw [← hwb] 
        try rw [hwb']
        have HFn : Hid (TnF W 0 nn ts (.slice Av j cv) wb) := Lib.hid (by rw [hwb]; exact HFn.out)
        clear hwb hwb' k0 f30 k30 k32
        have y30 := HFn.out.f3.cell 0
        have y31 := HFn.out.f3.cell 1
        have y32 := HFn.out.f3.cell 2
        have y20 := HFn.out.f2.cell 0
        have y21 := HFn.out.f2.cell 1
        have y22 := HFn.out.f2.cell 2
        have e20 := HFn.out.f2.free 0
        have e21 := HFn.out.f2.free 1
        have e22 := HFn.out.f2.free 2
        go_wp2
        obtain ⟨W9, hW9⟩ : ∃ W9, W9 = ((wb.setCell ⟨W.heap.size + 1, 0, none⟩ (.int .i64 (tk 0))).setCell ⟨W.heap.size + 1, 1, none⟩ (.int .i64 nn)).setCell ⟨W.heap.size + 1, 2, none⟩ (.slice Av j cv) := ⟨_, rfl⟩
        rw [← hW9]
        obtain ⟨z1, z2, z3⟩ := tn_fin HFn.out hW9
        refine bodyPost_ret (results_cell_row (P := Try.prog) rfl _ W9 (W.heap.size + 1) 28 _ (0, 0) _ rfl z1 Try.underlying28 rfl (by kernel_rfl)) rfl ?_
        exact ⟨_, _, _, _, rfl, z2, z3⟩
      · by_cases c1 : kd = 1
        · subst c1
          have HFn := Lib.hid (tn_kind (A := A) (m := m) (c := c) (by decide) hrow hpt hF3 hF2 hb)
          clear hj hrow hpl hpt hF3 hF2 hb hmm hjm hje htt
          go_upto_region 14 with fail
          obtain ⟨wb, hwb⟩ : ∃ wb, wb = wr.setCell ⟨W.heap.size + 2, 0, none⟩ (.int .i64 0) := ⟨_, rfl⟩
          have hwb' : wr.setCell ⟨W.heap.size + 1 + 1, 0, none⟩ (.int .i64 0) = wb := hwb.symm
          try rw [← hwb] 
          try rw [hwb']
          have HFn : Hid (TnF W 1 nn ts (.slice Av j cv) wb) := Lib.hid (by rw [hwb]; exact HFn.out)
          clear hwb hwb' k0 f30 k30 k32
          have y30 := HFn.out.f3.cell 0
          have y31 := HFn.out.f3.cell 1
          have y32 := HFn.out.f3.cell 2
          have y20 := HFn.out.f2.cell 0
          have y21 := HFn.out.f2.cell 1
          have y22 := HFn.out.f2.cell 2
          have e20 := HFn.out.f2.free 0
          have e21 := HFn.out.f2.free 1
          have e22 := HFn.out.f2.free 2
          go_wp2
          obtain ⟨W9, hW9⟩ : ∃ W9, W9 = ((wb.setCell ⟨W.heap.size + 1, 0, none⟩ (.int .i64 (tk 1))).setCell ⟨W.heap.size + 1, 1, none⟩ (.int .i64 nn)).setCell ⟨W.heap.size + 1, 2, none⟩ (.slice Av j cv) := ⟨_, rfl⟩
          rw [← hW9]
          obtain ⟨z1, z2, z3⟩ := tn_fin HFn.out hW9
          refine bodyPost_ret (results_cell_row (P := Try.prog) rfl _ W9 (W.heap.size + 1) 28 _ (0, 0) _ rfl z1 Try.underlying28 rfl (by kernel_rfl)) rfl ?_
          exact ⟨_, _, _, _, rfl, z2, z3⟩
        · by_cases c2 : kd = 2
          · subst c2
            have cR := HRev.out (W.heap.size + 3) wr Av j cv pas hrow (pts_slices hpt) (by have := HL.out; omega) hF3.lt
            have HFn := Lib.hid (fun (w' : World) (hr : PpR (W.heap.size + 3) w' (.slice Av j cv) pas.reverse) (hg : wr.grownBy w' (Value.slice Av j cv).ownBlock) => tn_rev (A := A) (m := m) (c := c) hrow hpt hF3 hF2 hb hr hg)
            clear hj hrow hpl hpt hF3 hF2 hb hmm hjm hje htt
            go_upto_region 14 with (go_at_call 58; (with_reducible refine cR.mono ?_); rintro e wb ⟨rfl, hr9, hg9⟩; have HFn := Lib.hid (HFn.out wb hr9 hg9); clear hr9 hg9)
            clear k0 f30 k30 k32
            have y30 := HFn.out.f3.cell 0
            have y31 := HFn.out.f3.cell 1
            have y32 := HFn.out.f3.cell 2
            have y20 := HFn.out.f2.cell 0
            have y21 := HFn.out.f2.cell 1
            have y22 := HFn.out.f2.cell 2
            have e20 := HFn.out.f2.free 0
            have e21 := HFn.out.f2.free 1
            have e22 := HFn.out.f2.free 2
            go_wp2
            obtain ⟨W9, hW9⟩ : ∃ W9, W9 = ((wb.setCell ⟨W.heap.size + 1, 0, none⟩ (.int .i64 (tk 2))).setCell ⟨W.heap.size + 1, 1, none⟩ (.int .i64 nn)).setCell ⟨W.heap.size + 1, 2, none⟩ (.slice Av j cv) := ⟨_, rfl⟩
            rw [← hW9]
            obtain ⟨z1, z2, z3⟩ := tn_fin HFn.out hW9
            refine bodyPost_ret (results_cell_row (P := Try.prog) rfl _ W9 (W.heap.size + 1) 28 _ (0, 0) _ rfl z1 Try.underlying28 rfl (by kernel_rfl)) rfl ?_
            exact ⟨_, _, _, _, rfl, z2, z3⟩
          · have htk : tk kd = kd := by unfold tk; rw [if_neg c0, if_neg c1]
            obtain ⟨wb, hwb⟩ : ∃ wb, wb = wr := ⟨_, rfl⟩
            have HFn : Hid (TnF W kd nn ts (.slice Av j cv) wb) := Lib.hid (by rw [hwb]; exact tn_same (A := A) (m := m) (c := c) c2 htk hrow hpt hF3 hF2 hb)
            have c0' : (kd == 0) = false := beq_eq_false_iff_ne.2 c0
            have c1' : (kd == 1) = false := beq_eq_false_iff_ne.2 c1
            have c2' : (kd == 2) = false := beq_eq_false_iff_ne.2 c2
            clear hj hrow hpl hpt hF3 hF2 hb hmm hjm hje htt
            go_upto_region 14 with fail
            rw [← hwb]
            clear hwb k0 f30 k30 k32
            have y30 := HFn.out.f3.cell 0
            have y31 := HFn.out.f3.cell 1
            have y32 := HFn.out.f3.cell 2
            have y20 := HFn.out.f2.cell 0
            have y21 := HFn.out.f2.cell 1
            have y22 := HFn.out.f2.cell 2
            have e20 := HFn.out.f2.free 0
            have e21 := HFn.out.f2.free 1
            have e22 := HFn.out.f2.free 2
            go_wp2
            obtain ⟨W9, hW9⟩ : ∃ W9, W9 = ((wb.setCell ⟨W.heap.size + 1, 0, none⟩ (.int .i64 kd)).setCell ⟨W.heap.size + 1, 1, none⟩ (.int .i64 nn)).setCell ⟨W.heap.size + 1, 2, none⟩ (.slice Av j cv) := ⟨_, rfl⟩
            rw [← hW9]
            obtain ⟨z1, z2, z3⟩ := tn_fin (W9 := W9) HFn.out (by rw [htk]; exact hW9)
            rw [htk] at z1 z2
            refine bodyPost_ret (results_cell_row (P := Try.prog) rfl _ W9 (W.heap.size + 1) 28 _ (0, 0) _ rfl z1 Try.underlying28 rfl (by kernel_rfl)) rfl ?_
            exact ⟨_, _, _, _, rfl, z2, z3⟩
end Go.Proofs.Ytghlajfalgdkfaa

/-
  slices.Reverse of a row of paths of one's own.
-/
namespace Go.Proofs.Ytghlajfalgdkfaa
open Go.RowKit
set_option linter.unusedVariables false
set_option linter.unusedSimpArgs false
set_option maxRecDepth 100000

theorem grown_tr {a b c : World} {row : Option Nat} (h : a.grownBy b row) (k : b.grownBy c row) : a.grownBy c row := ⟨k.os.trans h.os, k.tape.trans h.tape, k.output.trans h.output, Nat.le_trans h.size k.size, fun i hi hr => (k.block i (Nat.lt_of_lt_of_le hi h.size) hr).trans (h.block i hi hr)⟩
theorem set3 : ∀ (L : List Pa) (i : Nat) (p : Pa), i < L.length → (((L.flatMap pac).set (i * 3) (.int .i64 p.kd)).set (i * 3 + 1) (.int .i64 p.n)).set (i * 3 + 2) p.s = (L.set i p).flatMap pac
  | [], i, p, h => by simp at h
  | x :: L, 0, p, h => by simp [pac]
  | x :: L, i + 1, p, h => by
    have ih := set3 L i p (by simpa using h)
    rw [List.set_cons_succ, List.flatMap_cons, List.flatMap_cons, ← ih]
    rw [List.set_append_right _ _ (by rw [pac_len]; omega), List.set_append_right _ _ (by rw [pac_len]; omega), List.set_append_right _ _ (by rw [pac_len]; omega), pac_len]
    rw [show (i + 1) * 3 - 3 = i * 3 by omega, show (i + 1) * 3 + 1 - 3 = i * 3 + 1 by omega, show (i + 1) * 3 + 2 - 3 = i * 3 + 2 by omega]
theorem ppr_set {B g n c i : Nat} {W : World} {L : List Pa} (h : PpR B W (.slice (some ⟨g, 0, none⟩) n c) L) (hn : n = L.length) (hi : i < L.length) (k m : Int) (s : Value) : PpR B (((W.setCell ⟨g, i * 3, none⟩ (.int .i64 k)).setCell ⟨g, i * 3 + 1, none⟩ (.int .i64 m)).setCell ⟨g, i * 3 + 2, none⟩ s) (.slice (some ⟨g, 0, none⟩) n c) (L.set i ⟨k, m, s⟩) ∧ W.grownBy (((W.setCell ⟨g, i * 3, none⟩ (.int .i64 k)).setCell ⟨g, i * 3 + 1, none⟩ (.int .i64 m)).setCell ⟨g, i * 3 + 2, none⟩ s) (some g) := by
  subst hn
  have h0 : W.ownsRow B 28 3 (.slice (some ⟨g, 0, none⟩) L.length c) L.length (L.flatMap pac) := h
  obtain ⟨a1, b1⟩ := h0.stored (i * 3) (.int .i64 k)
  obtain ⟨a2, b2⟩ := a1.stored (i * 3 + 1) (.int .i64 m)
  obtain ⟨a3, b3⟩ := a2.stored (i * 3 + 2) s
  refine ⟨?_, grown_tr (grown_tr b1 b2) b3⟩
  have e := set3 L i ⟨k, m, s⟩ hi
  rw [e] at a3
  unfold PpR
  rw [List.length_set]
  exact a3
theorem ppr_drew {B : Nat} {W : World} {v : Value} {L : List Pa} (h : PpR B W v L) : PpR B W.drew v L := h
theorem grown_drew {a b : World} {row : Option Nat} (h : a.grownBy b row) : a.grownBy b.drew row := ⟨h.os, h.tape, h.output, h.size, h.block⟩
def RvR (B : Nat) (W : World) (g n c : Nat) (ps : List Pa) (gk : Nat) (s2 s3 : Value) (wr : World) : Prop := ∃ (i : Nat) (jI : Int) (L : List Pa), s2 = .int .i64 (i : Int) ∧ s3 = .int .i64 jI ∧ (i : Int) + jI + 1 = (n : Int) ∧ i + gk = n ∧ L.length = n ∧ (∀ q, q < n → L[q]? = if q < i ∨ n ≤ q + i then ps[n - 1 - q]? else ps[q]?) ∧ PpR B wr (.slice (some ⟨g, 0, none⟩) n c) L ∧ W.grownBy wr (some g)
theorem rv_done {n i : Nat} {ps L : List Pa} (hn : n = ps.length) (hL : L.length = n) (h : ∀ q, q < n → L[q]? = if q < i ∨ n ≤ q + i then ps[n - 1 - q]? else ps[q]?) (hi : n ≤ 2 * i + 1) : L = ps.reverse := by
  refine List.ext_getElem? fun q => ?_
  rcases Nat.lt_or_ge q n with hq | hq
  · rw [h q hq, List.getElem?_reverse (by omega), ← hn]
    by_cases hc : q < i ∨ n ≤ q + i
    · rw [if_pos hc]
    · rw [if_neg hc, show n - 1 - q = q by omega]
  · rw [List.getElem?_eq_none (by omega), List.getElem?_eq_none (by simp; omega)]
theorem rv_step {n i jj : Nat} {ps L : List Pa} {a b : Pa} (hn : n = ps.length) (hL : L.length = n) (h : ∀ q, q < n → L[q]? = if q < i ∨ n ≤ q + i then ps[n - 1 - q]? else ps[q]?) (hij : i + jj + 1 = n) (hlt : i < jj) (ha : L[i]? = some a) (hb : L[jj]? = some b) : ∀ q, q < n → ((L.set i b).set jj a)[q]? = if q < i + 1 ∨ n ≤ q + (i + 1) then ps[n - 1 - q]? else ps[q]? := fun q hq => by
  have ha' := h i (by omega)
  rw [if_neg (by omega), ha] at ha'
  have hb' := h jj (by omega)
  rw [if_neg (by omega), hb] at hb'
  by_cases h1 : q = i
  · subst h1
    rw [List.getElem?_set_ne (by omega), List.getElem?_set_self (by omega), if_pos (by omega), show n - 1 - q = jj by omega, hb']
  · by_cases h2 : q = jj
    · subst h2
      rw [List.getElem?_set_self (by rw [List.length_set]; omega), if_pos (by omega), show n - 1 - q = i by omega, ha']
    · rw [List.getElem?_set_ne (fun e => h2 e.symm), List.getElem?_set_ne (fun e => h1 e.symm), h q hq]
      by_cases hc : q < i ∨ n ≤ q + i
      · rw [if_pos hc, if_pos (by omega)]
      · rw [if_neg hc, if_neg (by omega)]
set_option pp.deepTerms true in
set_option pp.maxSteps 1000000 in
set_option maxHeartbeats 64000000 in
theorem rev_any (B : Nat) (W : World) (A : Option Addr) (n c : Nat) (ps : List Pa) (h : PpR B W (.slice A n c) ps) (hs : ∀ p ∈ ps, ∃ A' m' c', p.s = .slice A' m' c') (hl : ps.length ≤ 1000) (hB : B ≤ W.heap.size) : Calls Try.prog 58 #[.slice A n c] W (RvP B W (.slice A n c) ps) := by
  rcases id h.2 with ⟨hv, h0⟩ | ⟨g, cap, cur, hv, hgB, hg, hrest⟩
  · obtain ⟨e1, e2, e3⟩ := Value.slice.inj hv
    subst e1 e2 e3
    have hps : ps = [] := List.length_eq_zero_iff.1 h0
    have HE := Lib.hid (show RvP B W (.slice none 0 0) ps (.returned (.tuple #[])) W from ⟨rfl, by rw [hps]; exact World.ownsRow_nil _ _ _ _, ⟨rfl, rfl, rfl, Nat.le_refl _, fun _ _ _ => rfl⟩⟩)
    clear h hs hl hB hv h0 hps
    go_enter Try.func58, Try.ntmps58
    go_wp2
    go_loopg [2, 3] 0 (fun gk s2 s3 wr => s2 = .int .i64 0 ∧ s3 = .int .i64 (-1) ∧ wr = W)
    case atStart => exact ⟨rfl, rfl, rfl⟩
    case round =>
      obtain ⟨rfl, rfl, rfl⟩ := hrel
      go_wp2
      go_end0
      exact HE.out
  · obtain ⟨e1, e2, e3⟩ := Value.slice.inj hv
    subst e1 e3
    have n0 : (0 : Int) ≤ (n : Int) := by omega
    have n1 : (n : Int) ≤ 1000 := by omega
    have H0 := Lib.hid (show RvR B W g n c ps n (.int .i64 0) (.int .i64 ((n : Int) - 1)) W from ⟨0, (n : Int) - 1, ps, rfl, rfl, by omega, by omega, e2.symm, fun q hq => by rw [if_neg (by omega)], h, ⟨rfl, rfl, rfl, Nat.le_refl _, fun _ _ _ => rfl⟩⟩)
    have HS := Lib.hid hs
    have HN := Lib.hid e2
    clear h hs hl hv hg hgB e2 hrest hB
    go_enter Try.func58, Try.ntmps58
    go_wp2
    go_loopg [2, 3] n (fun gk s2 s3 wr => RvR B W g n c ps gk s2 s3 wr)
    case atStart => exact H0.out
    case round =>
      clear H0
      obtain ⟨i, jI, L, rfl, rfl, hij, hgk, hL, hq, hr, hgr⟩ := hrel
      have i0 : (0 : Int) ≤ (i : Int) := by omega
      by_cases hlt : (i : Int) < jI
      · obtain ⟨jj, rfl⟩ : ∃ jj : Nat, jI = (jj : Int) := ⟨jI.toNat, by omega⟩
        have hiL : i < L.length := by omega
        have hjL : jj < L.length := by omega
        obtain ⟨a, ha⟩ : ∃ a, L[i]? = some a := ⟨_, List.getElem?_eq_getElem hiL⟩
        obtain ⟨b, hb⟩ : ∃ b, L[jj]? = some b := ⟨_, List.getElem?_eq_getElem hjL⟩
        have haS : ∃ A' m' c', a.s = .slice A' m' c' := by
          have := hq i (by omega)
          rw [ha, if_neg (by omega)] at this
          exact HS.out a (List.mem_of_getElem? this.symm)
        have hbS : ∃ A' m' c', b.s = .slice A' m' c' := by
          have := hq jj (by omega)
          rw [hb, if_neg (by omega)] at this
          exact HS.out b (List.mem_of_getElem? this.symm)
        obtain ⟨Aa, ma, ca, hsa⟩ := haS
        obtain ⟨Ab, mb, cb, hsb⟩ := hbS
        have cellsA : ∀ t u, t < 3 → (pac a)[t]? = some u → wr.cell? ⟨g, i * 3 + t, none⟩ = some u := fun t u ht hu => by
          have := World.ownsRow.cells hr (g := g) rfl (i * 3 + t) u ((flat_atN ha ht).trans hu)
          rwa [at_add, Nat.zero_add] at this
        have cellsB : ∀ t u, t < 3 → (pac b)[t]? = some u → wr.cell? ⟨g, jj * 3 + t, none⟩ = some u := fun t u ht hu => by
          have := World.ownsRow.cells hr (g := g) rfl (jj * 3 + t) u ((flat_atN hb ht).trans hu)
          rwa [at_add, Nat.zero_add] at this
        have x0 : wr.cell? ⟨g, i * 3, none⟩ = some (.int .i64 a.kd) := cellsA 0 _ (by decide) rfl
        have x1 : wr.cell? ⟨g, i * 3 + 1, none⟩ = some (.int .i64 a.n) := cellsA 1 _ (by decide) rfl
        have x2 : wr.cell? ⟨g, i * 3 + 2, none⟩ = some a.s := cellsA 2 _ (by decide) rfl
        have y0 : wr.cell? ⟨g, jj * 3, none⟩ = some (.int .i64 b.kd) := cellsB 0 _ (by decide) rfl
        have y1 : wr.cell? ⟨g, jj * 3 + 1, none⟩ = some (.int .i64 b.n) := cellsB 1 _ (by decide) rfl
        have y2 : wr.cell? ⟨g, jj * 3 + 2, none⟩ = some b.s := cellsB 2 _ (by decide) rfl
        rw [hsa] at x2
        rw [hsb] at y2
        obtain ⟨cs, hFb⟩ := row_type hr (k := g) rfl
        have f0 := hFb.free (i * 3)
        have f1 := hFb.free (i * 3 + 1)
        have f2 := hFb.free (i * 3 + 2)
        have f3 := hFb.free (jj * 3)
        have f4 := hFb.free (jj * 3 + 1)
        have f5 := hFb.free (jj * 3 + 2)
        have b1 : (i : Int) < (n : Int) := by omega
        have b2 : (jj : Int) < (n : Int) := by omega
        have b3 : i < n := by omega
        have b4 : jj < n := by omega
        have b5 : (0 : Int) ≤ (jj : Int) := by omega
        have b6 : ¬ i = jj := by omega
        have b7 : ¬ jj = i := by omega
        have E1 := ppr_set hr hL.symm hiL b.kd b.n b.s
        have E2 := ppr_set E1.1 (by rw [List.length_set]; exact hL.symm) (by rw [List.length_set]; exact hjL) a.kd a.n a.s
        have F1 := ppr_set hr hL.symm hjL a.kd a.n a.s
        have F2 := ppr_set F1.1 (by rw [List.length_set]; exact hL.symm) (by rw [List.length_set]; exact hiL) b.kd b.n b.s
        have hcomm : (L.set jj ⟨a.kd, a.n, a.s⟩).set i ⟨b.kd, b.n, b.s⟩ = (L.set i ⟨b.kd, b.n, b.s⟩).set jj ⟨a.kd, a.n, a.s⟩ := List.set_comm _ _ (by omega)
        rw [hcomm] at F2
        have HQ := Lib.hid (rv_step (a := ⟨a.kd, a.n, a.s⟩) (b := ⟨b.kd, b.n, b.s⟩) HN.out hL hq (by omega) (by omega) ha hb)
        have HE := Lib.hid (And.intro E2.1 (grown_tr hgr (grown_tr E1.2 E2.2)))
        have HF := Lib.hid (And.intro F2.1 (grown_tr hgr (grown_tr F1.2 F2.2)))
        rw [hsa, hsb] at HE HF
        rw [hsa, hsb] at HQ
        have HI := Lib.hid (show i + gk = n ∧ i + jj + 1 = n ∧ L.length = n from ⟨hgk, by omega, hL⟩)
        clear hq hr hgr hL hgk hiL hjL ha hb hsa hsb cellsA cellsB hFb E1 E2 F1 F2 hcomm hij
        go_wp2
        refine wp_region_noPanic ?_
        refine wp_region_held_drew (S := fun _ => True) (by kernel_rfl) trivial (fun hHeld => ?_)
        refine wpAnyH_take (i := 0) (oi := { dst := some 14, op := Go.Op.move (Go.Operand.tmp 0), type := 26, pos := "slices.go:485", after := #[], guard := none }) (v := ?_) rfl (by kernel_rfl) (by kernel_rfl) (by kernel_rfl) (fun _ _ _ h => h) (Or.inl ⟨by rfl, ?_⟩) (by assumption) ?_
        rotate_left
        · (intro w hSw; (try dsimp only at hSw); go_simp; try with_reducible rfl)
        try simp only [Act.put, List.setIfInBounds_toArray, List.set_cons_zero, List.set_cons_succ]
        refine wpAnyH_take (i := 1) (oi := { dst := some 15, op := Go.Op.move (Go.Operand.tmp 2), type := 3, pos := "slices.go:485", after := #[], guard := none }) (v := ?_) rfl (by kernel_rfl) (by kernel_rfl) (by kernel_rfl) (fun _ _ _ h => h) (Or.inl ⟨by rfl, ?_⟩) (by assumption) ?_
        rotate_left
        · (intro w hSw; (try dsimp only at hSw); go_simp; try with_reducible rfl)
        try simp only [Act.put, List.setIfInBounds_toArray, List.set_cons_zero, List.set_cons_succ]
        refine wpAnyH_take (i := 2) (oi := { dst := some 16, op := Go.Op.move (Go.Operand.tmp 0), type := 26, pos := "slices.go:485", after := #[{ on := 13, ground := Go.Ground.gcOnly Go.Departure.lateStores }], guard := none }) (v := ?_) rfl (by kernel_rfl) (by kernel_rfl) (by kernel_rfl) (fun _ _ _ h => h) (Or.inl ⟨by rfl, ?_⟩) (by assumption) ?_
        rotate_left
        · (intro w hSw; (try dsimp only at hSw); go_simp; try with_reducible rfl)
        try simp only [Act.put, List.setIfInBounds_toArray, List.set_cons_zero, List.set_cons_succ]
        refine wpAnyH_take (i := 3) (oi := { dst := some 17, op := Go.Op.move (Go.Operand.tmp 3), type := 3, pos := "slices.go:485", after := #[{ on := 13, ground := Go.Ground.gcOnly Go.Departure.lateStores }], guard := none }) (v := ?_) rfl (by kernel_rfl) (by kernel_rfl) (by kernel_rfl) (fun _ _ _ h => h) (Or.inl ⟨by rfl, ?_⟩) (by assumption) ?_
        rotate_left
        · (intro w hSw; (try dsimp only at hSw); go_simp; try with_reducible rfl)
        try simp only [Act.put, List.setIfInBounds_toArray, List.set_cons_zero, List.set_cons_succ]
        refine wpAnyH_take (i := 4) (oi := { dst := some 18, op := Go.Op.move (Go.Operand.tmp 0), type := 26, pos := "slices.go:485", after := #[], guard := none }) (v := ?_) rfl (by kernel_rfl) (by kernel_rfl) (by kernel_rfl) (fun _ _ _ h => h) (Or.inl ⟨by rfl, ?_⟩) (by assumption) ?_
        rotate_left
        · (intro w hSw; (try dsimp only at hSw); go_simp; try with_reducible rfl)
        try simp only [Act.put, List.setIfInBounds_toArray, List.set_cons_zero, List.set_cons_succ]
        refine wpAnyH_take (i := 5) (oi := { dst := some 19, op := Go.Op.move (Go.Operand.tmp 3), type := 3, pos := "slices.go:485", after := #[], guard := none }) (v := ?_) rfl (by kernel_rfl) (by kernel_rfl) (by kernel_rfl) (fun _ _ _ h => h) (Or.inl ⟨by rfl, ?_⟩) (by assumption) ?_
        rotate_left
        · (intro w hSw; (try dsimp only at hSw); go_simp; try with_reducible rfl)
        try simp only [Act.put, List.setIfInBounds_toArray, List.set_cons_zero, List.set_cons_succ]
        refine wpAnyH_take (i := 6) (oi := { dst := some 20, op := Go.Op.indexAddr 26 (Go.Operand.tmp 18) (Go.Operand.tmp 19), type := 0, pos := "slices.go:485", after := #[{ on := 4, ground := Go.Ground.data }, { on := 5, ground := Go.Ground.data }], guard := none }) (v := ?_) rfl (by kernel_rfl) (by kernel_rfl) (by kernel_rfl) (fun _ _ _ h => h) (Or.inl ⟨by rfl, ?_⟩) (by assumption) ?_
        rotate_left
        · (intro w hSw; (try dsimp only at hSw); go_simp; try with_reducible rfl)
        try simp only [Act.put, List.setIfInBounds_toArray, List.set_cons_zero, List.set_cons_succ]
        refine wpAnyH_take (i := 8) (oi := { dst := some 22, op := Go.Op.move (Go.Operand.tmp 0), type := 26, pos := "slices.go:485", after := #[], guard := none }) (v := ?_) rfl (by kernel_rfl) (by kernel_rfl) (by kernel_rfl) (fun _ _ _ h => h) (Or.inl ⟨by rfl, ?_⟩) (by assumption) ?_
        rotate_left
        · (intro w hSw; (try dsimp only at hSw); go_simp; try with_reducible rfl)
        try simp only [Act.put, List.setIfInBounds_toArray, List.set_cons_zero, List.set_cons_succ]
        refine wpAnyH_take (i := 9) (oi := { dst := some 23, op := Go.Op.move (Go.Operand.tmp 2), type := 3, pos := "slices.go:485", after := #[], guard := none }) (v := ?_) rfl (by kernel_rfl) (by kernel_rfl) (by kernel_rfl) (fun _ _ _ h => h) (Or.inl ⟨by rfl, ?_⟩) (by assumption) ?_
        rotate_left
        · (intro w hSw; (try dsimp only at hSw); go_simp; try with_reducible rfl)
        try simp only [Act.put, List.setIfInBounds_toArray, List.set_cons_zero, List.set_cons_succ]
        refine wpAnyH_take (i := 10) (oi := { dst := some 24, op := Go.Op.indexAddr 26 (Go.Operand.tmp 22) (Go.Operand.tmp 23), type := 0, pos := "slices.go:485", after := #[{ on := 8, ground := Go.Ground.data }, { on := 9, ground := Go.Ground.data }], guard := none }) (v := ?_) rfl (by kernel_rfl) (by kernel_rfl) (by kernel_rfl) (fun _ _ _ h => h) (Or.inl ⟨by rfl, ?_⟩) (by assumption) ?_
        rotate_left
        · (intro w hSw; (try dsimp only at hSw); go_simp; try with_reducible rfl)
        try simp only [Act.put, List.setIfInBounds_toArray, List.set_cons_zero, List.set_cons_succ]
        refine wpAnyH_ready (rs := [7, 11]) (by kernel_rfl) (by simp) ?_
        refine AllReadyH.cons (o := { dst := some 21, op := Go.Op.load 28 (Go.Operand.tmp 20), type := 28, pos := "slices.go:485", after := #[{ on := 6, ground := Go.Ground.data }], guard := none }) rfl (fun K' hS' => ?_) (AllReadyH.cons (o := { dst := some 25, op := Go.Op.load 28 (Go.Operand.tmp 24), type := 28, pos := "slices.go:485", after := #[{ on := 10, ground := Go.Ground.data }], guard := none }) rfl (fun K' hS' => ?_) AllReadyH.nil)
        · go_simp
          refine hS'.out _ _ trivial (fun hHeld => ?_)
          clear hS' K'
          try simp only [Act.put, List.setIfInBounds_toArray, List.set_cons_zero, List.set_cons_succ]
          refine wpAnyH_ready (rs := [11]) (by kernel_rfl) (by simp) ?_
          refine AllReadyH.cons (o := { dst := some 25, op := Go.Op.load 28 (Go.Operand.tmp 24), type := 28, pos := "slices.go:485", after := #[{ on := 10, ground := Go.Ground.data }], guard := none }) rfl (fun K' hS' => ?_) AllReadyH.nil
          go_simp
          refine hS'.out _ _ trivial (fun hHeld => ?_)
          clear hS' K'
          try simp only [Act.put, List.setIfInBounds_toArray, List.set_cons_zero, List.set_cons_succ]
          refine wpAnyH_take (i := 12) (oi := { dst := some 26, op := Go.Op.indexAddr 26 (Go.Operand.tmp 14) (Go.Operand.tmp 15), type := 0, pos := "slices.go:485", after := #[{ on := 0, ground := Go.Ground.data }, { on := 1, ground := Go.Ground.data }, { on := 0, ground := Go.Ground.phase }, { on := 1, ground := Go.Ground.phase }, { on := 2, ground := Go.Ground.textOnly Go.Departure.lateStores }, { on := 3, ground := Go.Ground.textOnly Go.Departure.lateStores }, { on := 4, ground := Go.Ground.phase }, { on := 5, ground := Go.Ground.phase }, { on := 6, ground := Go.Ground.phase }, { on := 7, ground := Go.Ground.phase }, { on := 8, ground := Go.Ground.textOnly Go.Departure.lateStores }, { on := 9, ground := Go.Ground.textOnly Go.Departure.lateStores }, { on := 10, ground := Go.Ground.textOnly Go.Departure.lateStoresUnsure }, { on := 11, ground := Go.Ground.phase }], guard := none }) (v := ?_) rfl (by kernel_rfl) (by kernel_rfl) (by kernel_rfl) (fun _ _ _ h => h) (Or.inl ⟨by rfl, ?_⟩) (by assumption) ?_
          rotate_left
          · (intro w hSw; (try dsimp only at hSw); go_simp; try with_reducible rfl)
          try simp only [Act.put, List.setIfInBounds_toArray, List.set_cons_zero, List.set_cons_succ]
          refine wpAnyH_ready (rs := [13]) (by kernel_rfl) (by simp) ?_
          refine AllReadyH.cons (o := { dst := none, op := Go.Op.store 28 (Go.Operand.tmp 26) (Go.Operand.tmp 21), type := 0, pos := "slices.go:485", after := #[{ on := 12, ground := Go.Ground.data }, { on := 7, ground := Go.Ground.data }, { on := 0, ground := Go.Ground.phase }, { on := 1, ground := Go.Ground.phase }, { on := 2, ground := Go.Ground.textOnly Go.Departure.lateStores }, { on := 3, ground := Go.Ground.textOnly Go.Departure.lateStores }, { on := 4, ground := Go.Ground.phase }, { on := 5, ground := Go.Ground.phase }, { on := 6, ground := Go.Ground.phase }, { on := 7, ground := Go.Ground.phase }, { on := 8, ground := Go.Ground.textOnly Go.Departure.lateStores }, { on := 9, ground := Go.Ground.textOnly Go.Departure.lateStores }, { on := 10, ground := Go.Ground.textOnly Go.Departure.lateStoresUnsure }, { on := 11, ground := Go.Ground.phase }], guard := none }) rfl (fun K' hS' => ?_) AllReadyH.nil
          go_simp
          refine hS'.out _ _ trivial (fun hHeld => ?_)
          clear hS' K'
          try simp only [Act.put, List.setIfInBounds_toArray, List.set_cons_zero, List.set_cons_succ]
          refine wpAnyH_take (i := 14) (oi := { dst := some 27, op := Go.Op.indexAddr 26 (Go.Operand.tmp 16) (Go.Operand.tmp 17), type := 0, pos := "slices.go:485", after := #[{ on := 2, ground := Go.Ground.data }, { on := 3, ground := Go.Ground.data }, { on := 0, ground := Go.Ground.phase }, { on := 1, ground := Go.Ground.phase }, { on := 2, ground := Go.Ground.phase }, { on := 3, ground := Go.Ground.phase }, { on := 4, ground := Go.Ground.phase }, { on := 5, ground := Go.Ground.phase }, { on := 6, ground := Go.Ground.phase }, { on := 7, ground := Go.Ground.phase }, { on := 8, ground := Go.Ground.phase }, { on := 9, ground := Go.Ground.phase }, { on := 10, ground := Go.Ground.phase }, { on := 11, ground := Go.Ground.phase }, { on := 12, ground := Go.Ground.phase }, { on := 13, ground := Go.Ground.phase }], guard := none }) (v := ?_) rfl (by kernel_rfl) (by kernel_rfl) (by kernel_rfl) (fun _ _ _ h => h) (Or.inl ⟨by rfl, ?_⟩) (by assumption) ?_
          rotate_left
          · (intro w hSw; (try dsimp only at hSw); go_simp; try with_reducible rfl)
          try simp only [Act.put, List.setIfInBounds_toArray, List.set_cons_zero, List.set_cons_succ]
          refine wpAnyH_ready (rs := [15]) (by kernel_rfl) (by simp) ?_
          refine AllReadyH.cons (o := { dst := none, op := Go.Op.store 28 (Go.Operand.tmp 27) (Go.Operand.tmp 25), type := 0, pos := "slices.go:485", after := #[{ on := 14, ground := Go.Ground.data }, { on := 11, ground := Go.Ground.data }, { on := 13, ground := Go.Ground.chain }, { on := 0, ground := Go.Ground.phase }, { on := 1, ground := Go.Ground.phase }, { on := 2, ground := Go.Ground.phase }, { on := 3, ground := Go.Ground.phase }, { on := 4, ground := Go.Ground.phase }, { on := 5, ground := Go.Ground.phase }, { on := 6, ground := Go.Ground.phase }, { on := 7, ground := Go.Ground.phase }, { on := 8, ground := Go.Ground.phase }, { on := 9, ground := Go.Ground.phase }, { on := 10, ground := Go.Ground.phase }, { on := 11, ground := Go.Ground.phase }, { on := 12, ground := Go.Ground.phase }, { on := 13, ground := Go.Ground.phase }], guard := none }) rfl (fun K' hS' => ?_) AllReadyH.nil
          go_simp
          refine hS'.out _ _ trivial (fun hHeld => ?_)
          clear hS' K'
          try simp only [Act.put, List.setIfInBounds_toArray, List.set_cons_zero, List.set_cons_succ]
          refine wpAnyH_done (by kernel_rfl) ?_ _
          refine NoPanic.normal ?_
          go_wp2
          go_roundg (n - (i + 1))
          case measure => have := HI.out; omega
          case rel =>
            refine ⟨i + 1, (jj : Int) - 1, _, by rw [Int.natCast_add]; rfl, rfl, by have := HI.out; omega, by have := HI.out; omega, ?_, HQ.out, ?_, ?_⟩
            · rw [List.length_set, List.length_set]; exact HI.out.2.2
            · exact ppr_drew HE.out.1
            · exact grown_drew HE.out.2
        · go_simp
          refine hS'.out _ _ trivial (fun hHeld => ?_)
          clear hS' K'
          try simp only [Act.put, List.setIfInBounds_toArray, List.set_cons_zero, List.set_cons_succ]
          refine wpAnyH_ready (rs := [7]) (by kernel_rfl) (by simp) ?_
          refine AllReadyH.cons (o := { dst := some 21, op := Go.Op.load 28 (Go.Operand.tmp 20), type := 28, pos := "slices.go:485", after := #[{ on := 6, ground := Go.Ground.data }], guard := none }) rfl (fun K' hS' => ?_) AllReadyH.nil
          go_simp
          refine hS'.out _ _ trivial (fun hHeld => ?_)
          clear hS' K'
          try simp only [Act.put, List.setIfInBounds_toArray, List.set_cons_zero, List.set_cons_succ]
          refine wpAnyH_take (i := 12) (oi := { dst := some 26, op := Go.Op.indexAddr 26 (Go.Operand.tmp 14) (Go.Operand.tmp 15), type := 0, pos := "slices.go:485", after := #[{ on := 0, ground := Go.Ground.data }, { on := 1, ground := Go.Ground.data }, { on := 0, ground := Go.Ground.phase }, { on := 1, ground := Go.Ground.phase }, { on := 2, ground := Go.Ground.textOnly Go.Departure.lateStores }, { on := 3, ground := Go.Ground.textOnly Go.Departure.lateStores }, { on := 4, ground := Go.Ground.phase }, { on := 5, ground := Go.Ground.phase }, { on := 6, ground := Go.Ground.phase }, { on := 7, ground := Go.Ground.phase }, { on := 8, ground := Go.Ground.textOnly Go.Departure.lateStores }, { on := 9, ground := Go.Ground.textOnly Go.Departure.lateStores }, { on := 10, ground := Go.Ground.textOnly Go.Departure.lateStoresUnsure }, { on := 11, ground := Go.Ground.phase }], guard := none }) (v := ?_) rfl (by kernel_rfl) (by kernel_rfl) (by kernel_rfl) (fun _ _ _ h => h) (Or.inl ⟨by rfl, ?_⟩) (by assumption) ?_
          rotate_left
          · (intro w hSw; (try dsimp only at hSw); go_simp; try with_reducible rfl)
          try simp only [Act.put, List.setIfInBounds_toArray, List.set_cons_zero, List.set_cons_succ]
          refine wpAnyH_ready (rs := [13]) (by kernel_rfl) (by simp) ?_
          refine AllReadyH.cons (o := { dst := none, op := Go.Op.store 28 (Go.Operand.tmp 26) (Go.Operand.tmp 21), type := 0, pos := "slices.go:485", after := #[{ on := 12, ground := Go.Ground.data }, { on := 7, ground := Go.Ground.data }, { on := 0, ground := Go.Ground.phase }, { on := 1, ground := Go.Ground.phase }, { on := 2, ground := Go.Ground.textOnly Go.Departure.lateStores }, { on := 3, ground := Go.Ground.textOnly Go.Departure.lateStores }, { on := 4, ground := Go.Ground.phase }, { on := 5, ground := Go.Ground.phase }, { on := 6, ground := Go.Ground.phase }, { on := 7, ground := Go.Ground.phase }, { on := 8, ground := Go.Ground.textOnly Go.Departure.lateStores }, { on := 9, ground := Go.Ground.textOnly Go.Departure.lateStores }, { on := 10, ground := Go.Ground.textOnly Go.Departure.lateStoresUnsure }, { on := 11, ground := Go.Ground.phase }], guard := none }) rfl (fun K' hS' => ?_) AllReadyH.nil
          go_simp
          refine hS'.out _ _ trivial (fun hHeld => ?_)
          clear hS' K'
          try simp only [Act.put, List.setIfInBounds_toArray, List.set_cons_zero, List.set_cons_succ]
          refine wpAnyH_take (i := 14) (oi := { dst := some 27, op := Go.Op.indexAddr 26 (Go.Operand.tmp 16) (Go.Operand.tmp 17), type := 0, pos := "slices.go:485", after := #[{ on := 2, ground := Go.Ground.data }, { on := 3, ground := Go.Ground.data }, { on := 0, ground := Go.Ground.phase }, { on := 1, ground := Go.Ground.phase }, { on := 2, ground := Go.Ground.phase }, { on := 3, ground := Go.Ground.phase }, { on := 4, ground := Go.Ground.phase }, { on := 5, ground := Go.Ground.phase }, { on := 6, ground := Go.Ground.phase }, { on := 7, ground := Go.Ground.phase }, { on := 8, ground := Go.Ground.phase }, { on := 9, ground := Go.Ground.phase }, { on := 10, ground := Go.Ground.phase }, { on := 11, ground := Go.Ground.phase }, { on := 12, ground := Go.Ground.phase }, { on := 13, ground := Go.Ground.phase }], guard := none }) (v := ?_) rfl (by kernel_rfl) (by kernel_rfl) (by kernel_rfl) (fun _ _ _ h => h) (Or.inl ⟨by rfl, ?_⟩) (by assumption) ?_
          rotate_left
          · (intro w hSw; (try dsimp only at hSw); go_simp; try with_reducible rfl)
          try simp only [Act.put, List.setIfInBounds_toArray, List.set_cons_zero, List.set_cons_succ]
          refine wpAnyH_ready (rs := [15]) (by kernel_rfl) (by simp) ?_
          refine AllReadyH.cons (o := { dst := none, op := Go.Op.store 28 (Go.Operand.tmp 27) (Go.Operand.tmp 25), type := 0, pos := "slices.go:485", after := #[{ on := 14, ground := Go.Ground.data }, { on := 11, ground := Go.Ground.data }, { on := 13, ground := Go.Ground.chain }, { on := 0, ground := Go.Ground.phase }, { on := 1, ground := Go.Ground.phase }, { on := 2, ground := Go.Ground.phase }, { on := 3, ground := Go.Ground.phase }, { on := 4, ground := Go.Ground.phase }, { on := 5, ground := Go.Ground.phase }, { on := 6, ground := Go.Ground.phase }, { on := 7, ground := Go.Ground.phase }, { on := 8, ground := Go.Ground.phase }, { on := 9, ground := Go.Ground.phase }, { on := 10, ground := Go.Ground.phase }, { on := 11, ground := Go.Ground.phase }, { on := 12, ground := Go.Ground.phase }, { on := 13, ground := Go.Ground.phase }], guard := none }) rfl (fun K' hS' => ?_) AllReadyH.nil
          go_simp
          refine hS'.out _ _ trivial (fun hHeld => ?_)
          clear hS' K'
          try simp only [Act.put, List.setIfInBounds_toArray, List.set_cons_zero, List.set_cons_succ]
          refine wpAnyH_done (by kernel_rfl) ?_ _
          refine NoPanic.normal ?_
          go_wp2
          go_roundg (n - (i + 1))
          case measure => have := HI.out; omega
          case rel =>
            refine ⟨i + 1, (jj : Int) - 1, _, by rw [Int.natCast_add]; rfl, rfl, by have := HI.out; omega, by have := HI.out; omega, ?_, HQ.out, ?_, ?_⟩
            · rw [List.length_set, List.length_set]; exact HI.out.2.2
            · exact ppr_drew HE.out.1
            · exact grown_drew HE.out.2
      · have HE := Lib.hid (show RvP B W (.slice (some ⟨g, 0, none⟩) n c) ps (.returned (.tuple #[])) wr from ⟨rfl, by rw [← rv_done (i := i) HN.out hL hq (by omega)]; exact hr, hgr⟩)
        clear hq hr hgr hL hgk hij
        go_wp2
        go_end0
        exact HE.out
end Go.Proofs.Ytghlajfalgdkfaa

/-
  Turned: a path that may be, turned.
-/
namespace Go.Proofs.Ytghlajfalgdkfaa
open Go.RowKit
set_option linter.unusedVariables false
set_option linter.unusedSimpArgs false
set_option maxRecDepth 100000
theorem turned_all (t : PT) : TuAll t := turned_gen rev_any t
def TdQ (W : World) (t : PT) (nn : Int) (e : Ending) (w' : World) : Prop := ∃ (k' : Int) (A' : Option Addr) (m' c' : Nat), e = .returned (.agg #[.int .i64 k', .int .i64 nn, .slice A' m' c']) ∧ Pth w' (turn t) ⟨k', nn, .slice A' m' c'⟩ ∧ Below W.heap.size W w'
set_option maxHeartbeats 16000000 in
theorem Turned_gen {t : PT} (hw : Wd t) (hc : chk t = 0) {kd nn : Int} {A : Option Addr} {m c : Nat} {W : World} (hp : Pth W t ⟨kd, nn, .slice A m c⟩) :
    Calls Try.prog 19 #[.agg #[.int .i64 kd, .int .i64 nn, .slice A m c]] W (TdQ W t nn) := by
  obtain ⟨W1, hW1⟩ : ∃ W1, W1 = (W.alloc (.cells #[.int .i64 kd, .int .i64 nn, .slice A m c] 28)).alloc (.cells #[.int .i64 0, .int .i64 0, .slice none 0 0] 28) := ⟨_, rfl⟩
  have hb1 : Below W.heap.size W W1 := by rw [hW1]; exact ((Below.refl _ _).alloc (Nat.le_refl _) _).alloc (by simp) _
  have hF1 : Fb W1 W.heap.size 28 #[.int .i64 kd, .int .i64 nn, .slice A m c] := by rw [hW1]; exact (Fb.new _ _ _).alloc _
  have hF2 : Fb W1 (W.heap.size + 1) 28 #[.int .i64 0, .int .i64 0, .slice none 0 0] := by
    have := Fb.new (W.alloc (.cells #[.int .i64 kd, .int .i64 nn, .slice A m c] 28)) 28 #[.int .i64 0, .int .i64 0, .slice none 0 0]
    rw [World.size_alloc] at this
    rw [hW1]; exact this
  have cK := check_gen hw (hp.below hb1)
  rw [hc] at cK
  have HE := Lib.hid (fun (w : World) (hb : Below W1.heap.size W1 w) => turned_all t hw kd nn A m c w ((hp.below hb1).below hb))
  have HF := Lib.hid (fun (w : World) (hb : Below W1.heap.size W1 w) => (⟨(hF1.below hb).cell 0, (hF1.below hb).cell 1, (hF1.below hb).cell 2⟩ : w.cell? ⟨W.heap.size, 0, none⟩ = some (.int .i64 kd) ∧ w.cell? ⟨W.heap.size, 1, none⟩ = some (.int .i64 nn) ∧ w.cell? ⟨W.heap.size, 2, none⟩ = some (.slice A m c)))
  have HG := Lib.hid (fun (w : World) (hb : Below W1.heap.size W1 w) => hF2.below hb)
  have HB1 := Lib.hid hb1
  have HS1 := Lib.hid hF2.lt
  obtain ⟨q0, q1, q2⟩ := HF.out W1 (Below.refl _ _)
  have HW1 := Lib.hid hW1
  clear hb1 hF1 hF2 hp hw hc
  go_enter Try.func19, Try.ntmps19
  go_upto_region 1 with fail
  rw [← hW1]
  clear hW1 HW1
  go_wp2_with (first
    | (go_at_call 20; (with_reducible refine cK.mono ?_); rintro e w5 ⟨rfl, hb5⟩; have HB5 := Lib.hid hb5; obtain ⟨r0, r1, r2⟩ := HF.out w5 hb5; clear hb5)
    | (go_at_call 37; (with_reducible refine (HE.out _ HB5.out).mono ?_); rintro e w6 ⟨k', A', m', c', rfl, hpt, hb6⟩; have HB6 := Lib.hid (HB5.out.trans (hb6.mono HB5.out.size)); have HPt := Lib.hid (PtS.keep (S' := fun g => W.heap.size + 2 ≤ g) (W' := w6) (fun g cs hS hf => ⟨by have := HS1.out; have := HB5.out.size; omega, hf⟩) _ _ hpt); have y0 := (HG.out w6 HB6.out).cell 0; have y1 := (HG.out w6 HB6.out).cell 1; have y2 := (HG.out w6 HB6.out).cell 2; have f0 := (HG.out w6 HB6.out).free 0; have f1 := (HG.out w6 HB6.out).free 1; have f2 := (HG.out w6 HB6.out).free 2; clear hb6 hpt))
  obtain ⟨W9, hW9⟩ : ∃ W9, W9 = ((w6.setCell ⟨W.heap.size + 1, 0, none⟩ (.int .i64 k')).setCell ⟨W.heap.size + 1, 1, none⟩ (.int .i64 nn)).setCell ⟨W.heap.size + 1, 2, none⟩ (.slice A' m' c') := ⟨_, rfl⟩
  rw [← hW9]
  have hF9 : Fb W9 (W.heap.size + 1) 28 #[.int .i64 k', .int .i64 nn, .slice A' m' c'] := by
    rw [hW9]
    exact (((HG.out w6 HB6.out).set 0 (.int .i64 k')).set 1 (.int .i64 nn)).set 2 (.slice A' m' c')
  have hup : ∀ g, W.heap.size + 2 ≤ g → W9.heap[g]? = w6.heap[g]? := fun g hg => by
    have hne : g ≠ W.heap.size + 1 := by omega
    rw [hW9]
    exact (heap_setCell_other _ _ _ _ hne).trans ((heap_setCell_other _ _ _ _ hne).trans (heap_setCell_other _ _ _ _ hne))
  have hb9 : Below W.heap.size W W9 := by
    rw [hW9]
    exact (((HB1.out.trans (HB6.out.mono HB1.out.size)).setCell (show W.heap.size ≤ (⟨W.heap.size + 1, 0, none⟩ : Addr).block from Nat.le_succ _) _).setCell (show W.heap.size ≤ (⟨W.heap.size + 1, 1, none⟩ : Addr).block from Nat.le_succ _) _).setCell (show W.heap.size ≤ (⟨W.heap.size + 1, 2, none⟩ : Addr).block from Nat.le_succ _) _
  refine bodyPost_ret (results_cell_row (P := Try.prog) rfl _ W9 (W.heap.size + 1) 28 _ (0, 0) _ rfl hF9 Try.underlying28 rfl (by kernel_rfl)) rfl ?_
  exact ⟨_, _, _, _, rfl, PtS.pth _ _ (PtS.keep (S' := fun _ => True) (fun g cs hS hf => ⟨trivial, (hup g hS).trans hf⟩) _ _ HPt.out), hb9⟩
end Go.Proofs.Ytghlajfalgdkfaa
