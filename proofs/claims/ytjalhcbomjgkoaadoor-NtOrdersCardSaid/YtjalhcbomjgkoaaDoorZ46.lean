/-
  MERGED (a claim has at most 60 files): NOrdW.
-/
import Derived.Test.YtjalhcbomjgkoaaDoorZ45
import Derived.Test.YtjalhcbomjgkoaaDoorZ33
/-
  NtOrders's walk.
-/
namespace Go.Proofs.YtjalhcbomjgkoaaDoor
open Go.RowKit
set_option linter.unusedVariables false
set_option linter.unusedSimpArgs false

theorem sl_two {W : World} {cs ds es : List Value} (hc : cs.length = 12) (hd : ds.length = 12) (he : es = cs ++ ds) : SlAt (W.alloc (.cells es.toArray 59)) (some ⟨W.heap.size, 0, none⟩) 12 [cs, ds] := fun j c hj => by
  subst he
  refine ⟨W.heap.size, 0, rfl, by simp, fun i v hv => ?_⟩
  have hi := (List.getElem?_eq_some_iff.1 hv).1
  match j, hj with
  | 0, hj =>
    obtain rfl : cs = c := by simpa using hj
    rw [show 0 + 0 * 12 + i = i by omega, (Fb.new W 59 (cs ++ ds).toArray).cell i, List.getElem?_toArray, List.getElem?_append_left hi]
    exact hv
  | 1, hj =>
    obtain rfl : ds = c := by simpa using hj
    rw [show 0 + 1 * 12 + i = 12 + i by omega, (Fb.new W 59 (cs ++ ds).toArray).cell (12 + i), List.getElem?_toArray, List.getElem?_append_right (by omega), hc, show 12 + i - 12 = i by omega]
    exact hv
  | j + 2, hj => simp at hj
def wantP (r0 r1 r2 : Int) : Nat → Int
  | 0 => 0
  | 1 => r0
  | 2 => orT r0 r1
  | _ => orT r0 (orT r1 r2)
def OwI (w : World) (r0 r1 r2 : Int) (g : Nat) (s7 s49 : Value) (wr : World) : Prop := ∃ j : Nat, j + g = 3 ∧ s49 = .int .i64 j ∧ s7 = .int .i64 (wantP r0 r1 r2 j) ∧ Below w.heap.size w wr
def pk3 (r0 r1 r2 : Int) : Nat → Int
  | 0 => r0
  | 1 => r1
  | _ => r2
theorem wantP_step (r0 r1 r2 : Int) (j : Nat) (hj : j < 3) : wantP r0 r1 r2 (j + 1) = orT (wantP r0 r1 r2 j) (pk3 r0 r1 r2 j) := by
  match j, hj with
  | 0, _ => unfold wantP orT; rfl
  | 1, _ => rfl
  | 2, _ =>
    show orT r0 (orT r1 r2) = orT (orT r0 r1) r2
    unfold orT
    by_cases h : r0 = 0
    · simp [h]
    · simp [h]
theorem Fb.c8 {W : World} {g : Nat} {ty : TypeId} {x0 x1 x2 x3 x4 x5 x6 x7 : Value} (h : Fb W g ty #[x0, x1, x2, x3, x4, x5, x6, x7]) :
    W.cell? ⟨g, 0, none⟩ = some x0 ∧ W.cell? ⟨g, 1, none⟩ = some x1 ∧ W.cell? ⟨g, 2, none⟩ = some x2 ∧ W.cell? ⟨g, 3, none⟩ = some x3 ∧ W.cell? ⟨g, 4, none⟩ = some x4 ∧ W.cell? ⟨g, 5, none⟩ = some x5 ∧ W.cell? ⟨g, 6, none⟩ = some x6 ∧ W.cell? ⟨g, 7, none⟩ = some x7 :=
  ⟨h.cell 0, h.cell 1, h.cell 2, h.cell 3, h.cell 4, h.cell 5, h.cell 6, h.cell 7⟩
theorem orT_rng {x y : Int} (hx : x = -1 ∨ x = 0 ∨ x = 1) (hy : y = -1 ∨ y = 0 ∨ y = 1) : orT x y = -1 ∨ orT x y = 0 ∨ orT x y = 1 := by
  unfold orT
  split
  · exact hy
  · exact hx
theorem wantP_rng {r0 r1 r2 : Int} (h0 : r0 = -1 ∨ r0 = 0 ∨ r0 = 1) (h1 : r1 = -1 ∨ r1 = 0 ∨ r1 = 1) (h2 : r2 = -1 ∨ r2 = 0 ∨ r2 = 1) (j : Nat) : wantP r0 r1 r2 j = -1 ∨ wantP r0 r1 r2 j = 0 ∨ wantP r0 r1 r2 j = 1 := by
  unfold wantP
  split
  · exact .inr (.inl rfl)
  · exact h0
  · exact orT_rng h0 h1
  · exact orT_rng h0 (orT_rng h1 h2)
set_option maxHeartbeats 64000000 in
set_option maxRecDepth 100000 in
theorem ntorders_walk (a : Dt) (ha : a.ok) (b : Dt) (hb : b.ok) (w : World) (t : TypeId) (fr : Nat × Nat) (htab : w.heap[0]? = some (.cells escCells t fr)) :
    Calls Tryd.prog 5 #[.agg a.cells.toArray, .agg b.cells.toArray] w fun e w' => e = .returned (.bool true) ∧ Below w.heap.size w w' := by
  have hlt0 : 0 < w.heap.size := (Array.getElem?_eq_some_iff.1 htab).1
  have cA : ∀ {W : World}, Below w.heap.size w W → Calls Tryd.prog 32 #[] W fun e w' => e = .returned (.bool true) ∧ Below W.heap.size W w' := fun {W} hb => nawake_ok W t fr (tab_below htab hb hlt0)
  have hok : ∀ t ∈ [a, b], t.ok := fun t ht => by
    simp only [List.mem_cons, List.not_mem_nil, or_false] at ht
    rcases ht with rfl | rfl
    · exact ha
    · exact hb
  obtain ⟨ca, hca⟩ : ∃ c, c = a.cells := ⟨_, rfl⟩
  obtain ⟨cb, hcb⟩ : ∃ c, c = b.cells := ⟨_, rfl⟩
  have cF : ∀ (W : World), Calls Tryd.prog 33 #[.slice (some ⟨W.heap.size, 0, none⟩) 2 2] (W.alloc (.cells (ca ++ cb).toArray 59)) (FewPost (W.alloc (.cells (ca ++ cb).toArray 59)) [a, b]) := fun W =>
    nfew_any [a, b] hok (some ⟨W.heap.size, 0, none⟩) 2 (Nat.le_refl _) (by unfold maxLen; omega) _ (by rw [hca, hcb]; exact sl_two rfl rfl rfl)
  have hsm := few_sm (l := [a, b])
  have hfl : fewL [a, b] = [a.pl, b.pl] := rfl
  rw [hfl] at hsm
  have cF2 : ∀ (W : World), Calls Tryd.prog 33 #[.slice (some ⟨W.heap.size, 0, none⟩) 2 2] (W.alloc (.cells (ca ++ cb).toArray 59)) fun e w' => ∃ v, e = .returned (.tuple #[v, .bool (fewB [a, b])]) ∧ (fewB [a, b] = true → DtV (W.alloc (.cells (ca ++ cb).toArray 59)).heap.size w' v [a.pl, b.pl]) ∧ Below W.heap.size W w' := fun W =>
    (cF W).mono fun e w' ⟨v, e1, h1, h2⟩ => ⟨v, e1, by rw [← hfl]; exact h1, ((Below.refl W.heap.size W).alloc (Nat.le_refl _) _).trans (h2.mono (by simp))⟩
  clear cF hok hfl ha hb
  cases hf : fewB [a, b] with
  | false =>
    rw [hf] at cF2
    obtain ⟨⟨xk0, xa0, xb0, xd0⟩, ⟨xk1, xa1, xb1, xd1⟩, ⟨xk2, xa2, xb2, xd2⟩⟩ := a
    obtain ⟨⟨yk0, ya0, yb0, yd0⟩, ⟨yk1, ya1, yb1, yd1⟩, ⟨yk2, ya2, yb2, yd2⟩⟩ := b
    subst hca hcb
    have CF : ∀ (W : World), Calls Tryd.prog 33 #[.slice (some ⟨W.heap.size, 0, none⟩) 2 2] (W.alloc (.cells #[.int .i64 xk0, .string xa0, .string xb0, .string xd0, .int .i64 xk1, .string xa1, .string xb1, .string xd1, .int .i64 xk2, .string xa2, .string xb2, .string xd2, .int .i64 yk0, .string ya0, .string yb0, .string yd0, .int .i64 yk1, .string ya1, .string yb1, .string yd1, .int .i64 yk2, .string ya2, .string yb2, .string yd2] 59)) fun e w' => ∃ v, e = .returned (.tuple #[v, .bool false]) ∧ Below W.heap.size W w' := fun W => (cF2 W).mono fun e w' ⟨v, e1, _, h2⟩ => ⟨v, e1, h2⟩
    clear hf hsm cF2 htab hlt0
    show Calls Tryd.prog 5 #[.agg #[.int .i64 xk0, .string xa0, .string xb0, .string xd0, .int .i64 xk1, .string xa1, .string xb1, .string xd1, .int .i64 xk2, .string xa2, .string xb2, .string xd2], .agg #[.int .i64 yk0, .string ya0, .string yb0, .string yd0, .int .i64 yk1, .string ya1, .string yb1, .string yd1, .int .i64 yk2, .string ya2, .string yb2, .string yd2]] w _
    have hB0 : Below w.heap.size w ((w.alloc (.cells #[.int .i64 xk0, .string xa0, .string xb0, .string xd0, .int .i64 xk1, .string xa1, .string xb1, .string xd1, .int .i64 xk2, .string xa2, .string xb2, .string xd2] 59)).alloc (.cells #[.int .i64 yk0, .string ya0, .string yb0, .string yd0, .int .i64 yk1, .string ya1, .string yb1, .string yd1, .int .i64 yk2, .string ya2, .string yb2, .string yd2] 59)) := ((Below.refl _ _).alloc (Nat.le_refl _) _).alloc (by simp) _
    have hF1 : Fb ((w.alloc (.cells #[.int .i64 xk0, .string xa0, .string xb0, .string xd0, .int .i64 xk1, .string xa1, .string xb1, .string xd1, .int .i64 xk2, .string xa2, .string xb2, .string xd2] 59)).alloc (.cells #[.int .i64 yk0, .string ya0, .string yb0, .string yd0, .int .i64 yk1, .string ya1, .string yb1, .string yd1, .int .i64 yk2, .string ya2, .string yb2, .string yd2] 59)) w.heap.size 59 #[.int .i64 xk0, .string xa0, .string xb0, .string xd0, .int .i64 xk1, .string xa1, .string xb1, .string xd1, .int .i64 xk2, .string xa2, .string xb2, .string xd2] := (Fb.new _ _ _).alloc _
    have hF2 : Fb ((w.alloc (.cells #[.int .i64 xk0, .string xa0, .string xb0, .string xd0, .int .i64 xk1, .string xa1, .string xb1, .string xd1, .int .i64 xk2, .string xa2, .string xb2, .string xd2] 59)).alloc (.cells #[.int .i64 yk0, .string ya0, .string yb0, .string yd0, .int .i64 yk1, .string ya1, .string yb1, .string yd1, .int .i64 yk2, .string ya2, .string yb2, .string yd2] 59)) (w.heap.size + 1) 59 #[.int .i64 yk0, .string ya0, .string yb0, .string yd0, .int .i64 yk1, .string ya1, .string yb1, .string yd1, .int .i64 yk2, .string ya2, .string yb2, .string yd2] := by simpa using Fb.new (w.alloc (.cells #[.int .i64 xk0, .string xa0, .string xb0, .string xd0, .int .i64 xk1, .string xa1, .string xb1, .string xd1, .int .i64 xk2, .string xa2, .string xb2, .string xd2] 59)) 59 #[.int .i64 yk0, .string ya0, .string yb0, .string yd0, .int .i64 yk1, .string ya1, .string yb1, .string yd1, .int .i64 yk2, .string ya2, .string yb2, .string yd2]
    go_enter Tryd.func5, Tryd.ntmps5
    go_wp2_with (first
      | (go_at_call 32; (with_reducible refine (cA hB0).mono ?_); rintro e w1 ⟨rfl, hb1⟩; have hB1 := hB0.trans (hb1.mono hB0.size); obtain ⟨m0, m1, m2, m3, m4, m5, m6, m7, m8, m9, ma, mb⟩ := Fb.c12 (hF1.below hb1); obtain ⟨n0, n1, n2, n3, n4, n5, n6, n7, n8, n9, na, nb⟩ := Fb.c12 (hF2.below hb1))
      | (go_at_call 33; (with_reducible refine (CF _).mono ?_); rintro e w2 ⟨v2, rfl, hb2⟩; have hB2 := hB1.trans (hb2.mono hB1.size)))
    go_ret
    exact ⟨rfl, hB2⟩
  | true =>
    rw [hf] at cF2
    have hsa := hsm hf a.pl (by simp)
    have hsb := hsm hf b.pl (by simp)
    obtain ⟨P, hP⟩ : ∃ P, P = a.pl := ⟨_, rfl⟩
    obtain ⟨Q, hQ⟩ : ∃ Q, Q = b.pl := ⟨_, rfl⟩
    rw [← hP, ← hQ] at cF2
    rw [← hP] at hsa
    rw [← hQ] at hsb
    clear hP hQ hsm
    obtain ⟨⟨zk0, za0, zb0, zd0⟩, ⟨zk1, za1, zb1, zd1⟩, ⟨zk2, za2, zb2, zd2⟩⟩ := a
    obtain ⟨⟨uk0, ua0, ub0, ud0⟩, ⟨uk1, ua1, ub1, ud1⟩, ⟨uk2, ua2, ub2, ud2⟩⟩ := b
    subst hca hcb
    have CF : ∀ (W : World), Calls Tryd.prog 33 #[.slice (some ⟨W.heap.size, 0, none⟩) 2 2] (W.alloc (.cells #[.int .i64 zk0, .string za0, .string zb0, .string zd0, .int .i64 zk1, .string za1, .string zb1, .string zd1, .int .i64 zk2, .string za2, .string zb2, .string zd2, .int .i64 uk0, .string ua0, .string ub0, .string ud0, .int .i64 uk1, .string ua1, .string ub1, .string ud1, .int .i64 uk2, .string ua2, .string ub2, .string ud2] 59)) fun e w' => ∃ g c, e = .returned (.tuple #[.slice (some ⟨g, 0, none⟩) 2 c, .bool true]) ∧ g < w'.heap.size ∧ (∀ (d : Nat) (u : Value), (P.flatMap c4)[d]? = some u → w'.cell? ⟨g, 0 * 12 + d, none⟩ = some u) ∧ (∀ (d : Nat) (u : Value), (Q.flatMap c4)[d]? = some u → w'.cell? ⟨g, 1 * 12 + d, none⟩ = some u) ∧ Below W.heap.size W w' := fun W => (cF2 W).mono fun e w' ⟨v, e1, h1, h2⟩ => by
      have hD := h1 rfl
      have hl : ∀ ts ∈ [P, Q], ts.length = 3 := fun ts ht => by
        simp only [List.mem_cons, List.not_mem_nil, or_false] at ht
        rcases ht with rfl | rfl
        · exact hsa.len
        · exact hsb.len
      obtain ⟨g, c, hv, hg, hq0⟩ := dtV_at hD hl (i := 0) rfl
      obtain ⟨g', c', hv', _, hq1⟩ := dtV_at hD hl (i := 1) rfl
      rw [hv] at hv'
      injection hv' with e2 _ e3
      injection e2 with e2
      injection e2 with e2 _ _
      subst e2
      exact ⟨g, c, by rw [e1, hv]; rfl, hg, hq0, hq1, h2⟩
    obtain ⟨x0, x1, x2, rfl, hx⟩ := hsa
    obtain ⟨y0, y1, y2, rfl, hy⟩ := hsb
    have kx0 := (hx x0 (by simp)).1
    have kx1 := (hx x1 (by simp)).1
    have kx2 := (hx x2 (by simp)).1
    have ky0 := (hy y0 (by simp)).1
    have ky1 := (hy y1 (by simp)).1
    have ky2 := (hy y2 (by simp)).1
    have cRx := nreal_any x0 x1 x2 kx0 kx1 kx2
    have cRy := nreal_any y0 y1 y2 ky0 ky1 ky2
    have cO1 := norder_any x0 x1 x2 y0 y1 y2 kx0 kx1 kx2 ky0 ky1 ky2
    have cO2 := norder_any y0 y1 y2 x0 x1 x2 ky0 ky1 ky2 kx0 kx1 kx2
    rw [ordR_anti] at cO2
    have l0 := rless_any x0.kind x0.ta x0.tb x0.tc y0.kind y0.ta y0.tb y0.tc
    have l1 := rless_any x1.kind x1.ta x1.tb x1.tc y1.kind y1.ta y1.tb y1.tc
    have l2 := rless_any x2.kind x2.ta x2.tb x2.tc y2.kind y2.ta y2.tb y2.tc
    have m0 := rless_any y0.kind y0.ta y0.tb y0.tc x0.kind x0.ta x0.tb x0.tc
    have m1 := rless_any y1.kind y1.ta y1.tb y1.tc x1.kind x1.ta x1.tb x1.tc
    have m2 := rless_any y2.kind y2.ta y2.tb y2.tc x2.kind x2.ta x2.tb x2.tc
    have w0 := want_ord x0 y0
    have w1 := want_ord x1 y1
    have w2 := want_ord x2 y2
    unfold lessM at w0 w1 w2
    have g0 := ordB_rng x0 y0
    have g1 := ordB_rng x1 y1
    have g2 := ordB_rng x2 y2
    unfold ordR at cO1 cO2
    obtain ⟨s0, u0, e0⟩ := iface_of kx0
    obtain ⟨s1, u1, e1⟩ := iface_of kx1
    obtain ⟨s2, u2, e2⟩ := iface_of kx2
    obtain ⟨p0, q0, f0⟩ := iface_of ky0
    obtain ⟨p1, q1, f1⟩ := iface_of ky1
    obtain ⟨p2, q2, f2⟩ := iface_of ky2
    rw [e0, e1, e2] at cRx cO1 cO2
    rw [f0, f1, f2] at cRy cO1 cO2
    unfold T12 at cRx cRy
    obtain ⟨xk0, hxk0⟩ : ∃ y, y = x0.kind := ⟨_, rfl⟩
    obtain ⟨xa0, hxa0⟩ : ∃ y, y = x0.ta := ⟨_, rfl⟩
    obtain ⟨xb0, hxb0⟩ : ∃ y, y = x0.tb := ⟨_, rfl⟩
    obtain ⟨xd0, hxd0⟩ : ∃ y, y = x0.tc := ⟨_, rfl⟩
    rw [← hxk0, ← hxa0, ← hxb0, ← hxd0] at cRx l0 m0 w0
    obtain ⟨xk1, hxk1⟩ : ∃ y, y = x1.kind := ⟨_, rfl⟩
    obtain ⟨xa1, hxa1⟩ : ∃ y, y = x1.ta := ⟨_, rfl⟩
    obtain ⟨xb1, hxb1⟩ : ∃ y, y = x1.tb := ⟨_, rfl⟩
    obtain ⟨xd1, hxd1⟩ : ∃ y, y = x1.tc := ⟨_, rfl⟩
    rw [← hxk1, ← hxa1, ← hxb1, ← hxd1] at cRx l1 m1 w1
    obtain ⟨xk2, hxk2⟩ : ∃ y, y = x2.kind := ⟨_, rfl⟩
    obtain ⟨xa2, hxa2⟩ : ∃ y, y = x2.ta := ⟨_, rfl⟩
    obtain ⟨xb2, hxb2⟩ : ∃ y, y = x2.tb := ⟨_, rfl⟩
    obtain ⟨xd2, hxd2⟩ : ∃ y, y = x2.tc := ⟨_, rfl⟩
    rw [← hxk2, ← hxa2, ← hxb2, ← hxd2] at cRx l2 m2 w2
    obtain ⟨yk0, hyk0⟩ : ∃ y, y = y0.kind := ⟨_, rfl⟩
    obtain ⟨ya0, hya0⟩ : ∃ y, y = y0.ta := ⟨_, rfl⟩
    obtain ⟨yb0, hyb0⟩ : ∃ y, y = y0.tb := ⟨_, rfl⟩
    obtain ⟨yd0, hyd0⟩ : ∃ y, y = y0.tc := ⟨_, rfl⟩
    rw [← hyk0, ← hya0, ← hyb0, ← hyd0] at cRy l0 m0 w0
    obtain ⟨yk1, hyk1⟩ : ∃ y, y = y1.kind := ⟨_, rfl⟩
    obtain ⟨ya1, hya1⟩ : ∃ y, y = y1.ta := ⟨_, rfl⟩
    obtain ⟨yb1, hyb1⟩ : ∃ y, y = y1.tb := ⟨_, rfl⟩
    obtain ⟨yd1, hyd1⟩ : ∃ y, y = y1.tc := ⟨_, rfl⟩
    rw [← hyk1, ← hya1, ← hyb1, ← hyd1] at cRy l1 m1 w1
    obtain ⟨yk2, hyk2⟩ : ∃ y, y = y2.kind := ⟨_, rfl⟩
    obtain ⟨ya2, hya2⟩ : ∃ y, y = y2.ta := ⟨_, rfl⟩
    obtain ⟨yb2, hyb2⟩ : ∃ y, y = y2.tb := ⟨_, rfl⟩
    obtain ⟨yd2, hyd2⟩ : ∃ y, y = y2.tc := ⟨_, rfl⟩
    rw [← hyk2, ← hya2, ← hyb2, ← hyd2] at cRy l2 m2 w2
    generalize ordB x0 y0 = r0 at w0 g0 cO1 cO2
    generalize ordB x1 y1 = r1 at w1 g1 cO1 cO2
    generalize ordB x2 y2 = r2 at w2 g2 cO1 cO2
    have hgr := wantP_rng g0 g1 g2 3
    have hw3 : wantP r0 r1 r2 3 = orT r0 (orT r1 r2) := rfl
    rw [hw3] at hgr
    generalize orT r0 (orT r1 r2) = R at hgr hw3 cO1 cO2
    obtain ⟨NR, hNR⟩ : ∃ N, N = -R := ⟨_, rfl⟩
    rw [← hNR] at cO2
    have HNR := Lib.hid hNR
    have HW3 := Lib.hid hw3
    clear hNR hw3
    have CF3 : ∀ (W : World), Calls Tryd.prog 33 #[.slice (some ⟨W.heap.size, 0, none⟩) 2 2] (W.alloc (.cells #[.int .i64 zk0, .string za0, .string zb0, .string zd0, .int .i64 zk1, .string za1, .string zb1, .string zd1, .int .i64 zk2, .string za2, .string zb2, .string zd2, .int .i64 uk0, .string ua0, .string ub0, .string ud0, .int .i64 uk1, .string ua1, .string ub1, .string ud1, .int .i64 uk2, .string ua2, .string ub2, .string ud2] 59)) fun e w' => ∃ gm c, e = .returned (.tuple #[.slice (some ⟨gm, 0, none⟩) 2 c, .bool true]) ∧ gm < w'.heap.size ∧ (w'.cell? ⟨gm, 0, none⟩ = some (.int .i64 xk0) ∧ w'.cell? ⟨gm, 1, none⟩ = some (.string xa0) ∧ w'.cell? ⟨gm, 2, none⟩ = some (.string xb0) ∧ w'.cell? ⟨gm, 3, none⟩ = some (.string xd0) ∧ w'.cell? ⟨gm, 4, none⟩ = some (.int .i64 xk1) ∧ w'.cell? ⟨gm, 5, none⟩ = some (.string xa1) ∧ w'.cell? ⟨gm, 6, none⟩ = some (.string xb1) ∧ w'.cell? ⟨gm, 7, none⟩ = some (.string xd1) ∧ w'.cell? ⟨gm, 8, none⟩ = some (.int .i64 xk2) ∧ w'.cell? ⟨gm, 9, none⟩ = some (.string xa2) ∧ w'.cell? ⟨gm, 10, none⟩ = some (.string xb2) ∧ w'.cell? ⟨gm, 11, none⟩ = some (.string xd2) ∧ w'.cell? ⟨gm, 12, none⟩ = some (.int .i64 yk0) ∧ w'.cell? ⟨gm, 13, none⟩ = some (.string ya0) ∧ w'.cell? ⟨gm, 14, none⟩ = some (.string yb0) ∧ w'.cell? ⟨gm, 15, none⟩ = some (.string yd0) ∧ w'.cell? ⟨gm, 16, none⟩ = some (.int .i64 yk1) ∧ w'.cell? ⟨gm, 17, none⟩ = some (.string ya1) ∧ w'.cell? ⟨gm, 18, none⟩ = some (.string yb1) ∧ w'.cell? ⟨gm, 19, none⟩ = some (.string yd1) ∧ w'.cell? ⟨gm, 20, none⟩ = some (.int .i64 yk2) ∧ w'.cell? ⟨gm, 21, none⟩ = some (.string ya2) ∧ w'.cell? ⟨gm, 22, none⟩ = some (.string yb2) ∧ w'.cell? ⟨gm, 23, none⟩ = some (.string yd2)) ∧ Below W.heap.size W w' := fun W => (CF W).mono fun e w' ⟨g, c, e1, h1, h2, h3, h4⟩ =>
      ⟨g, c, e1, h1, ⟨by rw [hxk0]; exact h2 0 _ rfl, by rw [hxa0]; exact h2 1 _ rfl, by rw [hxb0]; exact h2 2 _ rfl, by rw [hxd0]; exact h2 3 _ rfl, by rw [hxk1]; exact h2 4 _ rfl, by rw [hxa1]; exact h2 5 _ rfl, by rw [hxb1]; exact h2 6 _ rfl, by rw [hxd1]; exact h2 7 _ rfl, by rw [hxk2]; exact h2 8 _ rfl, by rw [hxa2]; exact h2 9 _ rfl, by rw [hxb2]; exact h2 10 _ rfl, by rw [hxd2]; exact h2 11 _ rfl, by rw [hyk0]; exact h3 0 _ rfl, by rw [hya0]; exact h3 1 _ rfl, by rw [hyb0]; exact h3 2 _ rfl, by rw [hyd0]; exact h3 3 _ rfl, by rw [hyk1]; exact h3 4 _ rfl, by rw [hya1]; exact h3 5 _ rfl, by rw [hyb1]; exact h3 6 _ rfl, by rw [hyd1]; exact h3 7 _ rfl, by rw [hyk2]; exact h3 8 _ rfl, by rw [hya2]; exact h3 9 _ rfl, by rw [hyb2]; exact h3 10 _ rfl, by rw [hyd2]; exact h3 11 _ rfl⟩, h4⟩
    show Calls Tryd.prog 5 #[.agg #[.int .i64 zk0, .string za0, .string zb0, .string zd0, .int .i64 zk1, .string za1, .string zb1, .string zd1, .int .i64 zk2, .string za2, .string zb2, .string zd2], .agg #[.int .i64 uk0, .string ua0, .string ub0, .string ud0, .int .i64 uk1, .string ua1, .string ub1, .string ud1, .int .i64 uk2, .string ua2, .string ub2, .string ud2]] w _
    have hB0 : Below w.heap.size w ((w.alloc (.cells #[.int .i64 zk0, .string za0, .string zb0, .string zd0, .int .i64 zk1, .string za1, .string zb1, .string zd1, .int .i64 zk2, .string za2, .string zb2, .string zd2] 59)).alloc (.cells #[.int .i64 uk0, .string ua0, .string ub0, .string ud0, .int .i64 uk1, .string ua1, .string ub1, .string ud1, .int .i64 uk2, .string ua2, .string ub2, .string ud2] 59)) := ((Below.refl _ _).alloc (Nat.le_refl _) _).alloc (by simp) _
    have hF1 : Fb ((w.alloc (.cells #[.int .i64 zk0, .string za0, .string zb0, .string zd0, .int .i64 zk1, .string za1, .string zb1, .string zd1, .int .i64 zk2, .string za2, .string zb2, .string zd2] 59)).alloc (.cells #[.int .i64 uk0, .string ua0, .string ub0, .string ud0, .int .i64 uk1, .string ua1, .string ub1, .string ud1, .int .i64 uk2, .string ua2, .string ub2, .string ud2] 59)) w.heap.size 59 #[.int .i64 zk0, .string za0, .string zb0, .string zd0, .int .i64 zk1, .string za1, .string zb1, .string zd1, .int .i64 zk2, .string za2, .string zb2, .string zd2] := (Fb.new _ _ _).alloc _
    have hF2 : Fb ((w.alloc (.cells #[.int .i64 zk0, .string za0, .string zb0, .string zd0, .int .i64 zk1, .string za1, .string zb1, .string zd1, .int .i64 zk2, .string za2, .string zb2, .string zd2] 59)).alloc (.cells #[.int .i64 uk0, .string ua0, .string ub0, .string ud0, .int .i64 uk1, .string ua1, .string ub1, .string ud1, .int .i64 uk2, .string ua2, .string ub2, .string ud2] 59)) (w.heap.size + 1) 59 #[.int .i64 uk0, .string ua0, .string ub0, .string ud0, .int .i64 uk1, .string ua1, .string ub1, .string ud1, .int .i64 uk2, .string ua2, .string ub2, .string ud2] := by simpa using Fb.new (w.alloc (.cells #[.int .i64 zk0, .string za0, .string zb0, .string zd0, .int .i64 zk1, .string za1, .string zb1, .string zd1, .int .i64 zk2, .string za2, .string zb2, .string zd2] 59)) 59 #[.int .i64 uk0, .string ua0, .string ub0, .string ud0, .int .i64 uk1, .string ua1, .string ub1, .string ud1, .int .i64 uk2, .string ua2, .string ub2, .string ud2]
    have hix : ∀ (j : Nat), j < 3 → ∃ (k : Int) (a b c : ByteArray) (k' : Int) (a' b' c' : ByteArray) (r : Int), (∀ w', (Instr.index 64 (.agg #[.int .i64 xk0, .string xa0, .string xb0, .string xd0, .int .i64 yk0, .string ya0, .string yb0, .string yd0, .int .i64 xk1, .string xa1, .string xb1, .string xd1, .int .i64 yk1, .string ya1, .string yb1, .string yd1, .int .i64 xk2, .string xa2, .string xb2, .string xd2, .int .i64 yk2, .string ya2, .string yb2, .string yd2]) (.int .i64 (j : Int))).run Tryd.prog w' = .ok (.agg #[.int .i64 k, .string a, .string b, .string c, .int .i64 k', .string a', .string b', .string c']) w') ∧ r = pk3 r0 r1 r2 j ∧
        ((lessT k a b c k' a' b' c' = true ∧ r = -1) ∨ (lessT k a b c k' a' b' c' = false ∧ lessT k' a' b' c' k a b c = true ∧ r = 1) ∨ (lessT k a b c k' a' b' c' = false ∧ lessT k' a' b' c' k a b c = false ∧ r = 0)) ∧
        (∀ W, Calls Tryd.prog 28 #[F4 k a b c, F4 k' a' b' c'] W fun e w' => e = .returned (.bool (lessT k a b c k' a' b' c')) ∧ Below W.heap.size W w') ∧ (∀ W, Calls Tryd.prog 28 #[F4 k' a' b' c', F4 k a b c] W fun e w' => e = .returned (.bool (lessT k' a' b' c' k a b c)) ∧ Below W.heap.size W w') := fun j hj => by
      match j, hj with
      | 0, _ => exact ⟨_, _, _, _, _, _, _, _, r0, fun w' => by kernel_rfl, rfl, w0, l0, m0⟩
      | 1, _ => exact ⟨_, _, _, _, _, _, _, _, r1, fun w' => by kernel_rfl, rfl, w1, l1, m1⟩
      | 2, _ => exact ⟨_, _, _, _, _, _, _, _, r2, fun w' => by kernel_rfl, rfl, w2, l2, m2⟩
    have HIX := Lib.hid hix
    have HGR := Lib.hid hgr
    clear hix hgr hf cF2 CF htab hlt0 hx hy e0 e1 e2 f0 f1 f2 kx0 kx1 kx2 ky0 ky1 ky2 l0 l1 l2 m0 m1 m2 w0 w1 w2 g0 g1 g2 hxk0 hxa0 hxb0 hxd0 hxk1 hxa1 hxb1 hxd1 hxk2 hxa2 hxb2 hxd2 hyk0 hya0 hyb0 hyd0 hyk1 hya1 hyb1 hyd1 hyk2 hya2 hyb2 hyd2
    go_enter Tryd.func5, Tryd.ntmps5
    go_wp2_with (first
      | (go_at_call 32; (with_reducible refine (cA hB0).mono ?_); rintro e w1 ⟨rfl, hb1⟩; have hB1 := hB0.trans (hb1.mono hB0.size); obtain ⟨m0, m1, m2, m3, m4, m5, m6, m7, m8, m9, ma, mb⟩ := Fb.c12 (hF1.below hb1); obtain ⟨n0, n1, n2, n3, n4, n5, n6, n7, n8, n9, na, nb⟩ := Fb.c12 (hF2.below hb1))
      | (go_at_call 33; (with_reducible refine (CF3 _).mono ?_); rintro e w2 ⟨gm, c, rfl, hgm, hcl, hb2⟩; have hB2 := hB1.trans (hb2.mono hB1.size)))
    have HB2 := Lib.hid hB2
    have HF1 := hF1
    clear cA CF3 hB0 hB1 hB2 hb1 hb2 hF1 hF2 HF1 m0 m1 m2 m3 m4 m5 m6 m7 m8 m9 ma mb n0 n1 n2 n3 n4 n5 n6 n7 n8 n9 na nb
    have KC : ∀ W, Below w2.heap.size w2 W → W.cell? ⟨gm, 0, none⟩ = some (.int .i64 xk0) ∧ W.cell? ⟨gm, 1, none⟩ = some (.string xa0) ∧ W.cell? ⟨gm, 2, none⟩ = some (.string xb0) ∧ W.cell? ⟨gm, 3, none⟩ = some (.string xd0) ∧ W.cell? ⟨gm, 4, none⟩ = some (.int .i64 xk1) ∧ W.cell? ⟨gm, 5, none⟩ = some (.string xa1) ∧ W.cell? ⟨gm, 6, none⟩ = some (.string xb1) ∧ W.cell? ⟨gm, 7, none⟩ = some (.string xd1) ∧ W.cell? ⟨gm, 8, none⟩ = some (.int .i64 xk2) ∧ W.cell? ⟨gm, 9, none⟩ = some (.string xa2) ∧ W.cell? ⟨gm, 10, none⟩ = some (.string xb2) ∧ W.cell? ⟨gm, 11, none⟩ = some (.string xd2) ∧ W.cell? ⟨gm, 12, none⟩ = some (.int .i64 yk0) ∧ W.cell? ⟨gm, 13, none⟩ = some (.string ya0) ∧ W.cell? ⟨gm, 14, none⟩ = some (.string yb0) ∧ W.cell? ⟨gm, 15, none⟩ = some (.string yd0) ∧ W.cell? ⟨gm, 16, none⟩ = some (.int .i64 yk1) ∧ W.cell? ⟨gm, 17, none⟩ = some (.string ya1) ∧ W.cell? ⟨gm, 18, none⟩ = some (.string yb1) ∧ W.cell? ⟨gm, 19, none⟩ = some (.string yd1) ∧ W.cell? ⟨gm, 20, none⟩ = some (.int .i64 yk2) ∧ W.cell? ⟨gm, 21, none⟩ = some (.string ya2) ∧ W.cell? ⟨gm, 22, none⟩ = some (.string yb2) ∧ W.cell? ⟨gm, 23, none⟩ = some (.string yd2) := fun W hb => by
      obtain ⟨h0, h1, h2, h3, h4, h5, h6, h7, h8, h9, h10, h11, h12, h13, h14, h15, h16, h17, h18, h19, h20, h21, h22, h23⟩ := hcl
      exact ⟨(hb.cell (p := ⟨gm, 0, none⟩) hgm).trans h0, (hb.cell (p := ⟨gm, 1, none⟩) hgm).trans h1, (hb.cell (p := ⟨gm, 2, none⟩) hgm).trans h2, (hb.cell (p := ⟨gm, 3, none⟩) hgm).trans h3, (hb.cell (p := ⟨gm, 4, none⟩) hgm).trans h4, (hb.cell (p := ⟨gm, 5, none⟩) hgm).trans h5, (hb.cell (p := ⟨gm, 6, none⟩) hgm).trans h6, (hb.cell (p := ⟨gm, 7, none⟩) hgm).trans h7, (hb.cell (p := ⟨gm, 8, none⟩) hgm).trans h8, (hb.cell (p := ⟨gm, 9, none⟩) hgm).trans h9, (hb.cell (p := ⟨gm, 10, none⟩) hgm).trans h10, (hb.cell (p := ⟨gm, 11, none⟩) hgm).trans h11, (hb.cell (p := ⟨gm, 12, none⟩) hgm).trans h12, (hb.cell (p := ⟨gm, 13, none⟩) hgm).trans h13, (hb.cell (p := ⟨gm, 14, none⟩) hgm).trans h14, (hb.cell (p := ⟨gm, 15, none⟩) hgm).trans h15, (hb.cell (p := ⟨gm, 16, none⟩) hgm).trans h16, (hb.cell (p := ⟨gm, 17, none⟩) hgm).trans h17, (hb.cell (p := ⟨gm, 18, none⟩) hgm).trans h18, (hb.cell (p := ⟨gm, 19, none⟩) hgm).trans h19, (hb.cell (p := ⟨gm, 20, none⟩) hgm).trans h20, (hb.cell (p := ⟨gm, 21, none⟩) hgm).trans h21, (hb.cell (p := ⟨gm, 22, none⟩) hgm).trans h22, (hb.cell (p := ⟨gm, 23, none⟩) hgm).trans h23⟩
    have hR : Below w2.heap.size w2 w2 := Below.refl _ _
    clear hcl
    go_region_held3 (fun W => W.cell? ⟨gm, 0, none⟩ = some (.int .i64 xk0) ∧ W.cell? ⟨gm, 1, none⟩ = some (.string xa0) ∧ W.cell? ⟨gm, 2, none⟩ = some (.string xb0) ∧ W.cell? ⟨gm, 3, none⟩ = some (.string xd0) ∧ W.cell? ⟨gm, 4, none⟩ = some (.int .i64 xk1) ∧ W.cell? ⟨gm, 5, none⟩ = some (.string xa1) ∧ W.cell? ⟨gm, 6, none⟩ = some (.string xb1) ∧ W.cell? ⟨gm, 7, none⟩ = some (.string xd1) ∧ W.cell? ⟨gm, 8, none⟩ = some (.int .i64 xk2) ∧ W.cell? ⟨gm, 9, none⟩ = some (.string xa2) ∧ W.cell? ⟨gm, 10, none⟩ = some (.string xb2) ∧ W.cell? ⟨gm, 11, none⟩ = some (.string xd2) ∧ W.cell? ⟨gm, 12, none⟩ = some (.int .i64 yk0) ∧ W.cell? ⟨gm, 13, none⟩ = some (.string ya0) ∧ W.cell? ⟨gm, 14, none⟩ = some (.string yb0) ∧ W.cell? ⟨gm, 15, none⟩ = some (.string yd0) ∧ W.cell? ⟨gm, 16, none⟩ = some (.int .i64 yk1) ∧ W.cell? ⟨gm, 17, none⟩ = some (.string ya1) ∧ W.cell? ⟨gm, 18, none⟩ = some (.string yb1) ∧ W.cell? ⟨gm, 19, none⟩ = some (.string yd1) ∧ W.cell? ⟨gm, 20, none⟩ = some (.int .i64 yk2) ∧ W.cell? ⟨gm, 21, none⟩ = some (.string ya2) ∧ W.cell? ⟨gm, 22, none⟩ = some (.string yb2) ∧ W.cell? ⟨gm, 23, none⟩ = some (.string yd2))
      (first | exact KC _ (by assumption) | exact KC _ (Below.drew (by assumption)))
      (first | fail)
    go_wp2
    go_loopg [7, 49] 3 (fun g s7 s49 wr => OwI w2 r0 r1 r2 g s7 s49 wr)
    case atStart => exact ⟨0, rfl, rfl, rfl, Below.drew hR⟩
    case round =>
      clear hR
      obtain ⟨j, hjg, rfl, rfl, hB⟩ := hrel
      cases gk with
      | zero =>
        obtain rfl : j = 3 := by omega
        rw [HW3.out]
        have CRx : ∀ {W : World}, Below w2.heap.size w2 W → Calls Tryd.prog 35 #[.agg #[.int .i64 xk0, .string xa0, .string xb0, .string xd0, .int .i64 xk1, .string xa1, .string xb1, .string xd1, .int .i64 xk2, .string xa2, .string xb2, .string xd2]] W fun e w' => e = .returned (.agg #[.iface s0 u0, .iface s1 u1, .iface s2 u2]) ∧ Below w2.heap.size w2 w' := fun {W} hb => (cRx W).mono fun _ _ ⟨x, y⟩ => ⟨x, hb.trans (y.mono hb.size)⟩
        have CRy : ∀ {W : World}, Below w2.heap.size w2 W → Calls Tryd.prog 35 #[.agg #[.int .i64 yk0, .string ya0, .string yb0, .string yd0, .int .i64 yk1, .string ya1, .string yb1, .string yd1, .int .i64 yk2, .string ya2, .string yb2, .string yd2]] W fun e w' => e = .returned (.agg #[.iface p0 q0, .iface p1 q1, .iface p2 q2]) ∧ Below w2.heap.size w2 w' := fun {W} hb => (cRy W).mono fun _ _ ⟨x, y⟩ => ⟨x, hb.trans (y.mono hb.size)⟩
        have CO1 : ∀ {W : World}, Below w2.heap.size w2 W → Calls Tryd.prog 34 #[.agg #[.iface s0 u0, .iface s1 u1, .iface s2 u2], .agg #[.iface p0 q0, .iface p1 q1, .iface p2 q2]] W fun e w' => e = .returned (.int .i64 R) ∧ Below w2.heap.size w2 w' := fun {W} hb => (cO1 W).mono fun _ _ ⟨x, y⟩ => ⟨x, hb.trans (y.mono hb.size)⟩
        have CO2 : ∀ {W : World}, Below w2.heap.size w2 W → Calls Tryd.prog 34 #[.agg #[.iface p0 q0, .iface p1 q1, .iface p2 q2], .agg #[.iface s0 u0, .iface s1 u1, .iface s2 u2]] W fun e w' => e = .returned (.int .i64 NR) ∧ Below w2.heap.size w2 w' := fun {W} hb => (cO2 W).mono fun _ _ ⟨x, y⟩ => ⟨x, hb.trans (y.mono hb.size)⟩
        have hN := HNR.out
        have hB2 := HB2.out
        clear cRx cRy cO1 cO2 hjg HIX HNR HW3
        rcases HGR.out with rfl | rfl | rfl
        · obtain rfl : NR = 1 := by omega
          clear hN HGR
          go_wp2
          go_region_held3 (fun W => W.cell? ⟨gm, 0, none⟩ = some (.int .i64 xk0) ∧ W.cell? ⟨gm, 1, none⟩ = some (.string xa0) ∧ W.cell? ⟨gm, 2, none⟩ = some (.string xb0) ∧ W.cell? ⟨gm, 3, none⟩ = some (.string xd0) ∧ W.cell? ⟨gm, 4, none⟩ = some (.int .i64 xk1) ∧ W.cell? ⟨gm, 5, none⟩ = some (.string xa1) ∧ W.cell? ⟨gm, 6, none⟩ = some (.string xb1) ∧ W.cell? ⟨gm, 7, none⟩ = some (.string xd1) ∧ W.cell? ⟨gm, 8, none⟩ = some (.int .i64 xk2) ∧ W.cell? ⟨gm, 9, none⟩ = some (.string xa2) ∧ W.cell? ⟨gm, 10, none⟩ = some (.string xb2) ∧ W.cell? ⟨gm, 11, none⟩ = some (.string xd2) ∧ W.cell? ⟨gm, 12, none⟩ = some (.int .i64 yk0) ∧ W.cell? ⟨gm, 13, none⟩ = some (.string ya0) ∧ W.cell? ⟨gm, 14, none⟩ = some (.string yb0) ∧ W.cell? ⟨gm, 15, none⟩ = some (.string yd0) ∧ W.cell? ⟨gm, 16, none⟩ = some (.int .i64 yk1) ∧ W.cell? ⟨gm, 17, none⟩ = some (.string ya1) ∧ W.cell? ⟨gm, 18, none⟩ = some (.string yb1) ∧ W.cell? ⟨gm, 19, none⟩ = some (.string yd1) ∧ W.cell? ⟨gm, 20, none⟩ = some (.int .i64 yk2) ∧ W.cell? ⟨gm, 21, none⟩ = some (.string ya2) ∧ W.cell? ⟨gm, 22, none⟩ = some (.string yb2) ∧ W.cell? ⟨gm, 23, none⟩ = some (.string yd2))
            (first | exact KC _ (by assumption) | exact KC _ (Below.drew (by assumption)))
            (first
              | (go_at_call 35; (with_reducible refine (CRx (by first | assumption | exact Below.drew (by assumption))).mono ?_); rintro e wa ⟨rfl, hBa⟩)
              | (go_at_call 35; (with_reducible refine (CRy (by first | assumption | exact Below.drew (by assumption))).mono ?_); rintro e wb ⟨rfl, hBb⟩)
              | (go_at_call 34; (with_reducible refine (CO1 (by first | assumption | exact Below.drew (by assumption))).mono ?_); rintro e wc ⟨rfl, hBc⟩)
              | (go_at_call 34; (with_reducible refine (CO2 (by first | assumption | exact Below.drew (by assumption))).mono ?_); rintro e wd ⟨rfl, hBd⟩))
          all_goals
            go_wp2
            go_ret
            exact ⟨ret_bool (by first | rfl | simp), hB2.trans (Below.mono (by assumption) hB2.size)⟩
        · obtain rfl : NR = 0 := by omega
          clear hN HGR
          go_wp2
          go_region_held3 (fun W => W.cell? ⟨gm, 0, none⟩ = some (.int .i64 xk0) ∧ W.cell? ⟨gm, 1, none⟩ = some (.string xa0) ∧ W.cell? ⟨gm, 2, none⟩ = some (.string xb0) ∧ W.cell? ⟨gm, 3, none⟩ = some (.string xd0) ∧ W.cell? ⟨gm, 4, none⟩ = some (.int .i64 xk1) ∧ W.cell? ⟨gm, 5, none⟩ = some (.string xa1) ∧ W.cell? ⟨gm, 6, none⟩ = some (.string xb1) ∧ W.cell? ⟨gm, 7, none⟩ = some (.string xd1) ∧ W.cell? ⟨gm, 8, none⟩ = some (.int .i64 xk2) ∧ W.cell? ⟨gm, 9, none⟩ = some (.string xa2) ∧ W.cell? ⟨gm, 10, none⟩ = some (.string xb2) ∧ W.cell? ⟨gm, 11, none⟩ = some (.string xd2) ∧ W.cell? ⟨gm, 12, none⟩ = some (.int .i64 yk0) ∧ W.cell? ⟨gm, 13, none⟩ = some (.string ya0) ∧ W.cell? ⟨gm, 14, none⟩ = some (.string yb0) ∧ W.cell? ⟨gm, 15, none⟩ = some (.string yd0) ∧ W.cell? ⟨gm, 16, none⟩ = some (.int .i64 yk1) ∧ W.cell? ⟨gm, 17, none⟩ = some (.string ya1) ∧ W.cell? ⟨gm, 18, none⟩ = some (.string yb1) ∧ W.cell? ⟨gm, 19, none⟩ = some (.string yd1) ∧ W.cell? ⟨gm, 20, none⟩ = some (.int .i64 yk2) ∧ W.cell? ⟨gm, 21, none⟩ = some (.string ya2) ∧ W.cell? ⟨gm, 22, none⟩ = some (.string yb2) ∧ W.cell? ⟨gm, 23, none⟩ = some (.string yd2))
            (first | exact KC _ (by assumption) | exact KC _ (Below.drew (by assumption)))
            (first
              | (go_at_call 35; (with_reducible refine (CRx (by first | assumption | exact Below.drew (by assumption))).mono ?_); rintro e wa ⟨rfl, hBa⟩)
              | (go_at_call 35; (with_reducible refine (CRy (by first | assumption | exact Below.drew (by assumption))).mono ?_); rintro e wb ⟨rfl, hBb⟩)
              | (go_at_call 34; (with_reducible refine (CO1 (by first | assumption | exact Below.drew (by assumption))).mono ?_); rintro e wc ⟨rfl, hBc⟩)
              | (go_at_call 34; (with_reducible refine (CO2 (by first | assumption | exact Below.drew (by assumption))).mono ?_); rintro e wd ⟨rfl, hBd⟩))
          all_goals
            go_wp2
            go_ret
            exact ⟨ret_bool (by first | rfl | simp), hB2.trans (Below.mono (by assumption) hB2.size)⟩
        · obtain rfl : NR = -1 := by omega
          clear hN HGR
          go_wp2
          go_region_held3 (fun W => W.cell? ⟨gm, 0, none⟩ = some (.int .i64 xk0) ∧ W.cell? ⟨gm, 1, none⟩ = some (.string xa0) ∧ W.cell? ⟨gm, 2, none⟩ = some (.string xb0) ∧ W.cell? ⟨gm, 3, none⟩ = some (.string xd0) ∧ W.cell? ⟨gm, 4, none⟩ = some (.int .i64 xk1) ∧ W.cell? ⟨gm, 5, none⟩ = some (.string xa1) ∧ W.cell? ⟨gm, 6, none⟩ = some (.string xb1) ∧ W.cell? ⟨gm, 7, none⟩ = some (.string xd1) ∧ W.cell? ⟨gm, 8, none⟩ = some (.int .i64 xk2) ∧ W.cell? ⟨gm, 9, none⟩ = some (.string xa2) ∧ W.cell? ⟨gm, 10, none⟩ = some (.string xb2) ∧ W.cell? ⟨gm, 11, none⟩ = some (.string xd2) ∧ W.cell? ⟨gm, 12, none⟩ = some (.int .i64 yk0) ∧ W.cell? ⟨gm, 13, none⟩ = some (.string ya0) ∧ W.cell? ⟨gm, 14, none⟩ = some (.string yb0) ∧ W.cell? ⟨gm, 15, none⟩ = some (.string yd0) ∧ W.cell? ⟨gm, 16, none⟩ = some (.int .i64 yk1) ∧ W.cell? ⟨gm, 17, none⟩ = some (.string ya1) ∧ W.cell? ⟨gm, 18, none⟩ = some (.string yb1) ∧ W.cell? ⟨gm, 19, none⟩ = some (.string yd1) ∧ W.cell? ⟨gm, 20, none⟩ = some (.int .i64 yk2) ∧ W.cell? ⟨gm, 21, none⟩ = some (.string ya2) ∧ W.cell? ⟨gm, 22, none⟩ = some (.string yb2) ∧ W.cell? ⟨gm, 23, none⟩ = some (.string yd2))
            (first | exact KC _ (by assumption) | exact KC _ (Below.drew (by assumption)))
            (first
              | (go_at_call 35; (with_reducible refine (CRx (by first | assumption | exact Below.drew (by assumption))).mono ?_); rintro e wa ⟨rfl, hBa⟩)
              | (go_at_call 35; (with_reducible refine (CRy (by first | assumption | exact Below.drew (by assumption))).mono ?_); rintro e wb ⟨rfl, hBb⟩)
              | (go_at_call 34; (with_reducible refine (CO1 (by first | assumption | exact Below.drew (by assumption))).mono ?_); rintro e wc ⟨rfl, hBc⟩)
              | (go_at_call 34; (with_reducible refine (CO2 (by first | assumption | exact Below.drew (by assumption))).mono ?_); rintro e wd ⟨rfl, hBd⟩))
          all_goals
            go_wp2
            go_ret
            exact ⟨ret_bool (by first | rfl | simp), hB2.trans (Below.mono (by assumption) hB2.size)⟩
      | succ g =>
        have hj3 : (j : Int) < 3 := by omega
        have hj0 : (0 : Int) ≤ (j : Int) := by omega
        have hjs : j < 3 := by omega
        obtain ⟨k, a, b, c9, k', a', b', c', r, hix, hr, hways, cL, cM⟩ := HIX.out j hjs
        have hst := wantP_step r0 r1 r2 j hjs
        rw [← hr] at hst
        generalize hp : wantP r0 r1 r2 j = p at hst ⊢
        have HJ := Lib.hid hjg
        have hB1 := hB.alloc hB.size (.cells #[.int .i64 k, .string a, .string b, .string c9, .int .i64 k', .string a', .string b', .string c'] 63)
        have hF := Fb.new wr 63 #[.int .i64 k, .string a, .string b, .string c9, .int .i64 k', .string a', .string b', .string c']
        have HB1 := Lib.hid hB1
        have HF := Lib.hid hF
        have HLT := Lib.hid hjs
        clear hr hp cRx cRy cO1 cO2 hjg hjs hB hB1 hF
        by_cases h0 : p = 0
        · subst h0
          have hst2 : wantP r0 r1 r2 (j + 1) = r := by rw [hst]; rfl
          clear hst
          rcases hways with ⟨z1, rfl⟩ | ⟨z1, z2, rfl⟩ | ⟨z1, z2, rfl⟩
          · rw [z1] at cL
            have HST := Lib.hid hst2
            clear z1 cM hst2
            go_wp2_with (go_at_call 28; (with_reducible refine (cL _).mono ?_); rintro e w5 ⟨rfl, hb5⟩)
            go_roundg g
            case measure => exact Nat.lt_succ_self g
            case rel => exact ⟨j + 1, by have := HJ.out; omega, by have h9 := HLT.out; first | rfl | (rw [IntWalk.wrap64_in _ ⟨by omega, by omega⟩, Int.natCast_succ]), by rw [HST.out], HB1.out.trans (hb5.mono HB1.out.size)⟩
          · rw [z1] at cL
            rw [z2] at cM
            have HST := Lib.hid hst2
            clear z1 z2 hst2
            go_wp2_with (first
              | (go_at_call 28; (with_reducible refine (cL _).mono ?_); rintro e w5 ⟨rfl, hb5⟩; obtain ⟨x0, x1, x2, x3, x4, x5, x6, x7⟩ := Fb.c8 (HF.out.below hb5))
              | (go_at_call 28; (with_reducible refine (cM _).mono ?_); rintro e w6 ⟨rfl, hb6⟩))
            go_roundg g
            case measure => exact Nat.lt_succ_self g
            case rel => exact ⟨j + 1, by have := HJ.out; omega, by have h9 := HLT.out; first | rfl | (rw [IntWalk.wrap64_in _ ⟨by omega, by omega⟩, Int.natCast_succ]), by rw [HST.out], (HB1.out.trans (hb5.mono HB1.out.size)).trans (hb6.mono (Nat.le_trans HB1.out.size hb5.size))⟩
          · rw [z1] at cL
            rw [z2] at cM
            have HST := Lib.hid hst2
            clear z1 z2 hst2
            go_wp2_with (first
              | (go_at_call 28; (with_reducible refine (cL _).mono ?_); rintro e w5 ⟨rfl, hb5⟩; obtain ⟨x0, x1, x2, x3, x4, x5, x6, x7⟩ := Fb.c8 (HF.out.below hb5))
              | (go_at_call 28; (with_reducible refine (cM _).mono ?_); rintro e w6 ⟨rfl, hb6⟩))
            go_roundg g
            case measure => exact Nat.lt_succ_self g
            case rel => exact ⟨j + 1, by have := HJ.out; omega, by have h9 := HLT.out; first | rfl | (rw [IntWalk.wrap64_in _ ⟨by omega, by omega⟩, Int.natCast_succ]), by rw [HST.out], (HB1.out.trans (hb5.mono HB1.out.size)).trans (hb6.mono (Nat.le_trans HB1.out.size hb5.size))⟩
        · have hpb : (p != 0) = true := by simpa using h0
          have HST : Hid (wantP r0 r1 r2 (j + 1) = p) := Lib.hid (by rw [hst]; unfold orT; rw [if_neg h0])
          clear hst h0 cL cM hways
          go_wp2
          go_roundg g
          case measure => exact Nat.lt_succ_self g
          case rel => exact ⟨j + 1, by have := HJ.out; omega, by have h9 := HLT.out; first | rfl | (rw [IntWalk.wrap64_in _ ⟨by omega, by omega⟩, Int.natCast_succ]), by rw [HST.out], HB1.out⟩
end Go.Proofs.YtjalhcbomjgkoaaDoor
