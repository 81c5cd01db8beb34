/-
  THE DOCUMENT's Take: the walk. (Out of jtake.py.)
-/
import Derived.Test.YtagidmghmbfnpaaJTake
namespace Go.Proofs.Ytagidmghmbfnpaa
open Go.RowKit
set_option linter.unusedVariables false
set_option linter.unusedSimpArgs false
set_option maxRecDepth 100000

def Mb.take (m : Mb) (all : Bool) : Mb × List It :=
  ({ m with wait := m.wait.filter (fun x => !pT all (mkM m.lat (m.seen ++ m.shown)).1 (mkM m.lat (m.seen ++ m.shown)).2 x), closed := m.closed || all }, takS (pT all (mkM m.lat (m.seen ++ m.shown)).1 (mkM m.lat (m.seen ++ m.shown)).2) m.wait)
def JTPost (B : Nat) (r : Mb × List It) (W : World) (e : Ending) (w' : World) : Prop := ∃ vw vs vh vo, e = .returned (.tuple #[.agg (r.1.cells vw vs vh), vo]) ∧ Below W.heap.size W w' ∧ Mm B r.1 vw vs vh w' ∧ JtR B w' vo r.2
def JkRel (W W1 : World) (b2 b4 : Nat) (cs : Array Value) (p : It → Bool) (wait : List It) (g : Nat) (s8 s9 s22 : Value) (wr : World) : Prop := ∃ i, i + g = wait.length ∧ s22 = .int .i64 (i : Nat) ∧ Jk W W1 b2 b4 cs (takS p (wait.take i)) ((wait.take i).filter fun x => !p x) s8 s9 wr
def JaRel (w0 : World) (x : It) (out : List It) (g : Nat) (s12 : Value) (wr : World) : Prop := ∃ a q, a + g = out.length ∧ s12 = .int .i64 (a : Nat) ∧ a ≤ plI x out ∧ wr = w0.drewN q
theorem jk_left {p : It → Bool} {wait : List It} {i : Nat} {x : It} (hx : wait[i]? = some x) (hp : p x = false) : takS p (wait.take (i + 1)) = takS p (wait.take i) ∧ (wait.take (i + 1)).filter (fun x => !p x) = (wait.take i).filter (fun x => !p x) ++ [x] := by
  have e : wait.take (i + 1) = wait.take i ++ [x] := by rw [List.take_add_one, hx]; rfl
  rw [e, takS_snoc, List.filter_append]
  refine ⟨by rw [if_neg (by rw [hp]; decide)], ?_⟩
  simp [hp]
theorem jk_take {p : It → Bool} {wait : List It} {i : Nat} {x : It} (hx : wait[i]? = some x) (hp : p x = true) : takS p (wait.take (i + 1)) = insI x (takS p (wait.take i)) ∧ (wait.take (i + 1)).filter (fun x => !p x) = (wait.take i).filter (fun x => !p x) := by
  have e : wait.take (i + 1) = wait.take i ++ [x] := by rw [List.take_add_one, hx]; rfl
  rw [e, takS_snoc, List.filter_append]
  refine ⟨by rw [if_pos hp], ?_⟩
  simp [hp]
theorem takS_len (p : It → Bool) (l : List It) : (takS p l).length ≤ l.length := by
  rw [(takS_perm p l).length_eq]; exact List.length_filter_le _ _
/-! ### The walk -/
theorem Jk.took {W W1 : World} {b2 b4 : Nat} {cs : Array Value} {l1 l2 l1' : List It} {s8 s9 v' : Value} {wr w' : World} (h : Jk W W1 b2 b4 cs l1 l2 s8 s9 wr) (hb : Below wr.heap.size wr w') (hr : JtR wr.heap.size w' v' l1') : Jk W W1 b2 b4 cs l1' l2 v' s9 w' := by
  have h0 := h.below hb
  refine ⟨h0.x, h0.b, row_mono hr h.b.size, h0.f, fun k hk e => ?_, h.xw⟩
  have h1 := (World.ownsRow.lt h.f k hk).2
  have h2 := (World.ownsRow.lt hr k e).1
  omega
theorem flat_dropI : ∀ (l : List It) (m : Nat), (l.drop m).flatMap c5 = (l.flatMap c5).drop (m * 5) := by
  intro l
  induction l with
  | nil => intro m; simp
  | cons x l ih =>
    intro m
    cases m with
    | zero => simp
    | succ m =>
      rw [List.drop_succ_cons, List.flatMap_cons, ih m, show (m + 1) * 5 = m * 5 + 5 by omega]
      rfl
theorem flat_takeI : ∀ (l : List It) (m : Nat), (l.take m).flatMap c5 = (l.flatMap c5).take (m * 5) := by
  intro l
  induction l with
  | nil => intro m; simp
  | cons x l ih =>
    intro m
    cases m with
    | zero => simp
    | succ m =>
      rw [List.take_succ_cons, List.flatMap_cons, List.flatMap_cons, ih m, show (m + 1) * 5 = m * 5 + 5 by omega]
      rfl
theorem below_drewJ {B : Nat} {W0 W : World} (h : Below B W0 W) (q : Nat) : Below B W0 (W.drewN q) := ⟨h.os, h.tape, h.output, h.size, h.block⟩
theorem emp_it (W : World) {n B : Nat} (hn : n = W.heap.size) (hB : B ≤ n) : JtR B (W.alloc (.cells #[] 59)) (.slice (some ⟨n, 0, none⟩) 0 0) [] := by
  subst hn
  exact emp_new W 59 5 hB
theorem jt_src {B : Nat} {W : World} {g n cap : Nat} {l : List It} (h : JtR B W (.slice (some ⟨g, 0, none⟩) n cap) l) (j : Nat) : ∀ (i : Nat) (u : Value), ((l.drop j).flatMap c5)[i]? = some u → W.cell? ((⟨g, j * 5, none⟩ : Addr).add i) = some u := fun i u hu => by
  rw [flat_dropI, List.getElem?_drop] at hu
  have := World.ownsRow.cells h (g := g) rfl (j * 5 + i) u hu
  rw [at_add, Nat.zero_add] at this
  rw [at_add]
  exact this
theorem jt_pre {B : Nat} {W : World} {g n cap : Nat} {l : List It} (h : JtR B W (.slice (some ⟨g, 0, none⟩) n cap) l) (j : Nat) : ∀ (i : Nat) (u : Value), ((l.take j).flatMap c5)[i]? = some u → W.cell? ((⟨g, 0, none⟩ : Addr).add i) = some u := fun i u hu => by
  rw [flat_takeI, List.getElem?_take] at hu
  split at hu
  · exact World.ownsRow.cells h (g := g) rfl i u hu
  · cases hu
theorem one_it5 (W : World) (t s a b c : Int) {n : Nat} (hn : n = W.heap.size) : JtR n (W.alloc (.cells #[.int .i64 t, .int .i64 s, .int .i64 a, .int .i64 b, .int .i64 c] 59)) (.slice (some ⟨n, 0, none⟩) 1 1) [⟨t, s, a, b, c⟩] := by
  subst hn
  exact one_item W ⟨t, s, a, b, c⟩
set_option maxHeartbeats 64000000 in
theorem jtake_any {B : Nat} {m : Mb} {vw vs vh : Value} {W : World} (h : Mm B m vw vs vh W) (ho : m.ok) (hB : B ≤ W.heap.size) (all : Bool) :
    Calls Try.prog 10 #[.agg (m.cells vw vs vh), .bool all] W (JTPost B (m.take all) W) := by
  obtain ⟨Aw, cw, rfl, _⟩ := row_shape h.rw
  obtain ⟨As, ce, rfl, _⟩ := row_shape h.rs
  obtain ⟨Ah, ch, rfl, _⟩ := row_shape h.rh
  obtain ⟨r, hr⟩ : ∃ r, r = m.take all := ⟨_, rfl⟩
  rw [← hr]
  unfold Mb.take at hr
  have cM := fun (w : World) (hb : Below W.heap.size W w) => jmark_any (h.below hb) ho
  generalize mkM m.lat (m.seen ++ m.shown) = MK at *
  obtain ⟨M, K⟩ := MK
  dsimp only at hr cM
  have HM := Lib.hid h
  have hb2 : ∀ cs : Array Value, Below W.heap.size W ((W.alloc (.cells (m.cells (.slice Aw m.wait.length cw) (.slice As m.seen.length ce) (.slice Ah m.shown.length ch)) 32)).alloc (.cells cs 32)) := fun cs => ((Below.refl _ _).alloc (Nat.le_refl _) _).alloc (by simp) _
  have HB2 := Lib.hid hb2
  have hX : Jx W W.heap.size (W.heap.size + 1) (m.cells (.slice Aw m.wait.length cw) (.slice As m.seen.length ce) (.slice Ah m.shown.length ch)) ((W.alloc (.cells (m.cells (.slice Aw m.wait.length cw) (.slice As m.seen.length ce) (.slice Ah m.shown.length ch)) 32)).alloc (.cells mz 32)) := by
    refine ⟨hb2 _, (Fb.new _ _ _).alloc _, ⟨mz, ?_, rfl⟩, Nat.le_refl _, by omega, by omega⟩
    have := Fb.new (W.alloc (.cells (m.cells (.slice Aw m.wait.length cw) (.slice As m.seen.length ce) (.slice Ah m.shown.length ch)) 32)) 32 mz
    simpa using this
  obtain ⟨cs8, hcs⟩ : ∃ cs8, cs8 = (m.cells (.slice Aw m.wait.length cw) (.slice As m.seen.length ce) (.slice Ah m.shown.length ch)) := ⟨_, rfl⟩
  have HCS := Lib.hid hcs
  have HX := Lib.hid hX
  have HR := Lib.hid hr
  have HO := Lib.hid ho
  have HBB := Lib.hid hB
  unfold Mb.cells at cM HX HB2 ⊢
  clear h ho hB hr hb2 hX hcs
  go_enter Try.func10, Try.ntmps10
  go_wp2_with (go_at_call 16; (with_reducible refine (cM _ (HB2.out mz)).mono ?_); rintro e w1 ⟨rfl, hb1⟩; have hX1 := HX.out.below hb1; have p2 := hX1.x2.cell 2; have hd2 := hX1.x2.lt)
  have hMw := HM.out.below hX1.b
  have HX1 := Lib.hid hX1
  have HM1 := Lib.hid hMw
  have HST := Lib.hid (show JkRel W w1 W.heap.size (W.heap.size + 1) _ (pT all M K) m.wait m.wait.length (.slice none 0 0) (.slice none 0 0) (.int .i64 0) w1 from ⟨0, by omega, rfl, hX1, Below.refl _ _, World.ownsRow_nil _ _ _ _, World.ownsRow_nil _ _ _ _, fun k hk => (by cases hk), hX1.b.size⟩)
  clear hMw hX1 hb1 cM
  go_loopg [8, 9, 22] m.wait.length (fun g s8 s9 s22 wr => JkRel W w1 W.heap.size (W.heap.size + 1) _ (pT all M K) m.wait g s8 s9 s22 wr)
  case atStart => exact HST.out
  case round =>
    clear HST
    obtain ⟨i, hig, rfl, hJ⟩ := hrel
    have hi9 : (i : Int) ≤ 1000 := by have := HO.out.zw; omega
    have hd3 : W.heap.size < wr.heap.size := hJ.x.x2.lt
    have p2r := hJ.x.x2.cell 2
    have hl1 : ∃ l1, l1 = takS (pT all M K) (m.wait.take i) := ⟨_, rfl⟩
    have hl2 : ∃ l2, l2 = (m.wait.take i).filter fun x => !pT all M K x := ⟨_, rfl⟩
    obtain ⟨l1, hl1⟩ := hl1
    obtain ⟨l2, hl2⟩ := hl2
    rw [← hl1, ← hl2] at hJ
    obtain ⟨A8, c8, hv8, hc8⟩ := row_shape hJ.o
    obtain ⟨A9, c9, hv9, hc9⟩ := row_shape hJ.f
    subst hv8 hv9
    cases gk with
    | zero =>
      have hi : i = m.wait.length := by omega
      have hin : ¬ (i : Int) < (m.wait.length : Int) := by omega
      have htk : m.wait.take i = m.wait := List.take_of_length_le (by omega)
      rw [htk] at hl1 hl2
      have hr2 := HR.out
      rw [← hl1, ← hl2] at hr2
      subst hr2
      obtain ⟨⟨y0, y1, y2, y3, y4, y5, y6, y7, k0, k1, k2, k3, k4, k5, k6, k7⟩, hf, hl4, hl2'⟩ := hJ.x.c4
      have f0 := hf 0
      have f1 := hf 1
      have f2 := hf 2
      have f3 := hf 3
      have f4 := hf 4
      have f5 := hf 5
      have f6 := hf 6
      have f7 := hf 7
      have p0 := hJ.x.x2.cell 0
      have p1 := hJ.x.x2.cell 1
      have p3 := hJ.x.x2.cell 3
      have p4 := hJ.x.x2.cell 4
      have p5 := hJ.x.x2.cell 5
      have p6 := hJ.x.x2.cell 6
      have p7 := hJ.x.x2.cell 7
      have g2 := hJ.x.x2.free 2
      have g7 := hJ.x.x2.free 7
      have HJ := Lib.hid hJ
      clear hf hJ hig hi htk hl1 hl2
      cases hcl : m.closed with
      | true =>
        rw [hcl] at p7
        go_wp2
        refine bodyPost_ret (v := .tuple #[.agg #[.int .i64 m.lat, .int .i64 m.room, .slice A9 l2.length c9, .slice As m.seen.length ce, .slice Ah m.shown.length ch, .int .i64 m.num, .int .i64 m.late, .bool true], .slice A8 l1.length c8]) ?_ rfl ?_
        · simp [results, Try.results10, go_sem, k0, k1, k2, k3, k4, k5, k6, k7, hl4, hl2']
        · have hk := fun {ty : TypeId} {z n : Nat} {u : Value} {xs : List Value} {B' : Nat} (hr : wr.ownsRow B' ty z u n xs) (hne : ty ≠ 32) => row_heap (W' := st8 ((wr.setCell ⟨W.heap.size, 2, none⟩ (.slice A9 l2.length c9)).setCell ⟨W.heap.size, 7, none⟩ (.bool true)) (W.heap.size + 1) (.int .i64 m.lat) (.int .i64 m.room) (.slice A9 l2.length c9) (.slice As m.seen.length ce) (.slice Ah m.shown.length ch) (.int .i64 m.num) (.int .i64 m.late) (.bool true)) hr fun k hk => (by rw [st8_far _ _ _ _ _ _ _ _ _ _ (HJ.out.x.row hr hne k hk).2, Below.heap_setCell _ _ _ _ (HJ.out.x.row hr hne k hk).1, Below.heap_setCell _ _ _ _ (HJ.out.x.row hr hne k hk).1])
          have hMr := HM1.out.below HJ.out.b
          refine ⟨.slice A9 l2.length c9, .slice As m.seen.length ce, .slice Ah m.shown.length ch, .slice A8 l1.length c8, ?_, st8_below (Below.setCell (Below.setCell HJ.out.x.b (p := ⟨W.heap.size, 2, none⟩) HJ.out.x.n2 _) (p := ⟨W.heap.size, 7, none⟩) HJ.out.x.n2 _) HJ.out.x.n4 _ _ _ _ _ _ _ _, ⟨row_mono (hk HJ.out.f jit_ne) ?_, hk hMr.rs jin_ne, hk hMr.rh jin_ne⟩, row_mono (hk HJ.out.o jit_ne) ?_⟩
          · simp [Mb.cells, hcl]
          · exact Nat.le_trans HBB.out HJ.out.xw
          · exact Nat.le_trans HBB.out HJ.out.xw
      | false =>
        cases all with
        | true =>
          rw [hcl] at p7
          go_wp2
          refine bodyPost_ret (v := .tuple #[.agg #[.int .i64 m.lat, .int .i64 m.room, .slice A9 l2.length c9, .slice As m.seen.length ce, .slice Ah m.shown.length ch, .int .i64 m.num, .int .i64 m.late, .bool true], .slice A8 l1.length c8]) ?_ rfl ?_
          · simp [results, Try.results10, go_sem, k0, k1, k2, k3, k4, k5, k6, k7, hl4, hl2']
          · have hk := fun {ty : TypeId} {z n : Nat} {u : Value} {xs : List Value} {B' : Nat} (hr : wr.ownsRow B' ty z u n xs) (hne : ty ≠ 32) => row_heap (W' := st8 ((wr.setCell ⟨W.heap.size, 2, none⟩ (.slice A9 l2.length c9)).setCell ⟨W.heap.size, 7, none⟩ (.bool true)) (W.heap.size + 1) (.int .i64 m.lat) (.int .i64 m.room) (.slice A9 l2.length c9) (.slice As m.seen.length ce) (.slice Ah m.shown.length ch) (.int .i64 m.num) (.int .i64 m.late) (.bool true)) hr fun k hk => (by rw [st8_far _ _ _ _ _ _ _ _ _ _ (HJ.out.x.row hr hne k hk).2, Below.heap_setCell _ _ _ _ (HJ.out.x.row hr hne k hk).1, Below.heap_setCell _ _ _ _ (HJ.out.x.row hr hne k hk).1])
            have hMr := HM1.out.below HJ.out.b
            refine ⟨.slice A9 l2.length c9, .slice As m.seen.length ce, .slice Ah m.shown.length ch, .slice A8 l1.length c8, ?_, st8_below (Below.setCell (Below.setCell HJ.out.x.b (p := ⟨W.heap.size, 2, none⟩) HJ.out.x.n2 _) (p := ⟨W.heap.size, 7, none⟩) HJ.out.x.n2 _) HJ.out.x.n4 _ _ _ _ _ _ _ _, ⟨row_mono (hk HJ.out.f jit_ne) ?_, hk hMr.rs jin_ne, hk hMr.rh jin_ne⟩, row_mono (hk HJ.out.o jit_ne) ?_⟩
            · simp [Mb.cells, hcl]
            · exact Nat.le_trans HBB.out HJ.out.xw
            · exact Nat.le_trans HBB.out HJ.out.xw
        | false =>
          rw [hcl] at p7
          go_wp2
          refine bodyPost_ret (v := .tuple #[.agg #[.int .i64 m.lat, .int .i64 m.room, .slice A9 l2.length c9, .slice As m.seen.length ce, .slice Ah m.shown.length ch, .int .i64 m.num, .int .i64 m.late, .bool false], .slice A8 l1.length c8]) ?_ rfl ?_
          · simp [results, Try.results10, go_sem, k0, k1, k2, k3, k4, k5, k6, k7, hl4, hl2']
          · have hk := fun {ty : TypeId} {z n : Nat} {u : Value} {xs : List Value} {B' : Nat} (hr : wr.ownsRow B' ty z u n xs) (hne : ty ≠ 32) => row_heap (W' := st8 ((wr.setCell ⟨W.heap.size, 2, none⟩ (.slice A9 l2.length c9)).setCell ⟨W.heap.size, 7, none⟩ (.bool false)) (W.heap.size + 1) (.int .i64 m.lat) (.int .i64 m.room) (.slice A9 l2.length c9) (.slice As m.seen.length ce) (.slice Ah m.shown.length ch) (.int .i64 m.num) (.int .i64 m.late) (.bool false)) hr fun k hk => (by rw [st8_far _ _ _ _ _ _ _ _ _ _ (HJ.out.x.row hr hne k hk).2, Below.heap_setCell _ _ _ _ (HJ.out.x.row hr hne k hk).1, Below.heap_setCell _ _ _ _ (HJ.out.x.row hr hne k hk).1])
            have hMr := HM1.out.below HJ.out.b
            refine ⟨.slice A9 l2.length c9, .slice As m.seen.length ce, .slice Ah m.shown.length ch, .slice A8 l1.length c8, ?_, st8_below (Below.setCell (Below.setCell HJ.out.x.b (p := ⟨W.heap.size, 2, none⟩) HJ.out.x.n2 _) (p := ⟨W.heap.size, 7, none⟩) HJ.out.x.n2 _) HJ.out.x.n4 _ _ _ _ _ _ _ _, ⟨row_mono (hk HJ.out.f jit_ne) ?_, hk hMr.rs jin_ne, hk hMr.rh jin_ne⟩, row_mono (hk HJ.out.o jit_ne) ?_⟩
            · simp [Mb.cells, hcl]
            · exact Nat.le_trans HBB.out HJ.out.xw
            · exact Nat.le_trans HBB.out HJ.out.xw
    | succ g =>
      have hin : (i : Int) < (m.wait.length : Int) := by omega
      have hiz : (0 : Int) ≤ (i : Int) := by omega
      obtain ⟨x, hx⟩ : ∃ x, m.wait[i]? = some x := ⟨_, List.getElem?_eq_getElem (by omega)⟩
      obtain ⟨gw, cw', ew, q0, q1, q2, q3, q4⟩ := jt_at (row_below HM1.out.rw hJ.b) hx
      injection ew with ew _ ew'
      subst ew
      subst ew'
      have HI := Lib.hid (show i + 1 + g = m.wait.length from by omega)
      have hlw : (takS (pT all M K) (m.wait.take i)).length ≤ 1000 := by have h1 := takS_len (pT all M K) (m.wait.take i); rw [List.length_take] at h1; omega
      have hlf : ((m.wait.take i).filter fun x => !pT all M K x).length ≤ 1000 := by have h1 := List.length_filter_le (fun x => !pT all M K x) (m.wait.take i); rw [List.length_take] at h1; omega
      have hjl := (fun hp => jk_left (p := pT all M K) hx hp)
      have hjt := (fun hp => jk_take (p := pT all M K) hx hp)
      rw [← hl1] at hlw hjl hjt
      rw [← hl2] at hlf hjl hjt
      have HLE := Lib.hid (And.intro hl1 hl2)
      clear hl1 hl2
      have HLW := Lib.hid (And.intro hlw hlf)
      have HJ := Lib.hid hJ
      have hpx : pT all M K x = (all || (K && decide (x.t < M))) := rfl
      have HJL := Lib.hid hjl
      have HJT := Lib.hid hjt
      clear hjl hjt
      have hgwl : gw < wr.heap.size := (World.ownsRow.lt (row_below HM1.out.rw hJ.b) gw rfl).2
      have HXC := Lib.hid (show x = ⟨x.t, x.s, x.a, x.b, x.c⟩ from rfl)
      clear hig hx hJ
      cases all with
      | false =>
        cases K with
        | false =>
          have hpf : pT false M false x = false := by first | rfl | (rw [hpx, decide_eq_false hlt]; rfl)
          have HPF := Lib.hid (HJL.out hpf)
          clear hpf hpx
          obtain ⟨xt, xs, xa, xb, xc⟩ := x
          dsimp only at *
          go_wp2_with (at_builtin; refine wpList_app_jt rfl (.tmp 42) (.tmp 44) rfl (B := w1.heap.size) (N := wr.heap.size + 1) (l := l2) (new := [⟨xt, xs, xa, xb, xc⟩]) rfl rfl (World.ownsRow.alloc (World.ownsRow.alloc HJ.out.f _) _) (one_it5 (wr.alloc (.cells #[.int .i64 xt, .int .i64 xs, .int .i64 xa, .int .i64 xb, .int .i64 xc] 59)) xt xs xa xb xc (by simp)) (by have := HLW.out.2; simp only [List.length_singleton]; omega) (by have := HJ.out.b.size; simp; omega) ?_; intro v6 w6 hr6 hg6 hf6; have HJ6 := Lib.hid (HJ.out.left (((Below.refl _ _).alloc (Nat.le_refl _) _).alloc (by simp) _) hr6 hg6 hf6); clear hr6 hg6 hf6)
          go_roundg g
          case measure => exact Nat.lt_succ_self g
          case rel =>
            refine ⟨i + 1, HI.out, by go_num, ?_⟩
            rw [HPF.out.1, HPF.out.2]
            exact HJ6.out
        | true =>
          by_cases hlt : x.t < M
          · have hpt : pT false M true x = true := by first | rfl | (rw [hpx, decide_eq_true hlt]; rfl)
            have HPT := Lib.hid (HJT.out hpt)
            clear hpt hpx
            obtain ⟨xt, xs, xa, xb, xc⟩ := x
            dsimp only at *
            go_wp2
            go_loopg [12] l1.length (fun g s12 wr' => JaRel (wr.alloc (.cells #[.int .i64 xt, .int .i64 xs, .int .i64 xa, .int .i64 xb, .int .i64 xc] 59)) ⟨xt, xs, xa, xb, xc⟩ l1 g s12 wr')
            case atStart => exact ⟨0, 0, by omega, rfl, Nat.zero_le _, rfl⟩
            case round =>
              obtain ⟨j, q, hjg, rfl, hjp, rfl⟩ := hrel
              have hj9 : (j : Int) ≤ 1000 := by have := HLW.out.1; omega
              have hjz : (0 : Int) ≤ (j : Int) := by omega
              cases gk with
              | zero =>
                have hjn : ¬ (j : Int) < (l1.length : Int) := by omega
                have dj : decide ((j : Int) < (l1.length : Int)) = false := decide_eq_false hjn
                have dj' : decide (j < l1.length) = false := decide_eq_false (by omega)
                have HPL := Lib.hid (show plI ⟨xt, xs, xa, xb, xc⟩ l1 = j from by have := plI_le ⟨xt, xs, xa, xb, xc⟩ l1; omega)
                have HX5 := Lib.hid ((Fb.new wr 59 #[.int .i64 xt, .int .i64 xs, .int .i64 xa, .int .i64 xb, .int .i64 xc]))
                have hjle : (j : Int) ≤ (l1.length : Int) := by omega
                have hjc8 : (j : Int) ≤ (c8 : Int) := by omega
                have HDZ := Lib.hid (show l1.drop j = [] from List.drop_eq_nil_of_le (by omega))
                have HJL := Lib.hid (show j = l1.length from by omega)
                have HZ0 := Lib.hid (show l1.length - j = 0 from by omega)
                rcases Nat.eq_zero_or_pos j with hj00 | hj00
                · obtain rfl : j = 0 := hj00
                  clear hjg hjp
                  by_cases hcj : c8 = 0
                  · subst hcj
                    go_wp2
                    go_quiet (fail)
                    go_wp2_with (at_builtin; refine wpList_app_src rfl (.tmp 82) (.tmp 85) rfl (B := wr.heap.size + 1) (l := []) (new := []) ?ax1 ?cx1 rfl ?hx1 (emp_it ((wr.alloc (.cells #[.int .i64 xt, .int .i64 xs, .int .i64 xa, .int .i64 xb, .int .i64 xc] 59)).drewN (q + nq)) (by simp) (Nat.le_refl _)) (by have := HLW.out.1; simp only [List.length_nil]; omega) (by simp) (.inl rfl) ?_; (case hx1 => (first | rfl | (show Value.slice _ (l1.length - 0) _ = _; rw [HZ0.out]; rfl) | (simp only [Act.eval, HZ0.out]; rfl) | (simp [Act.eval]; done) | (simp [Act.eval, List.length_drop] <;> fail))); intro v12 w12 hr12 hg12 hf12; rw [List.nil_append] at hr12; have hr12 : JtR (wr.heap.size + 1) w12 v12 (l1.drop 0) := (by rw [HDZ.out]; exact hr12); have HR12 := Lib.hid hr12; have HB12 := Lib.hid (((below_drewJ (Below.refl (wr.alloc (.cells #[.int .i64 xt, .int .i64 xs, .int .i64 xa, .int .i64 xb, .int .i64 xc] 59)).heap.size (wr.alloc (.cells #[.int .i64 xt, .int .i64 xs, .int .i64 xa, .int .i64 xb, .int .i64 xc] 59))) (q + nq)).alloc (by simp) (.cells #[] 59)).grown hg12 (by simp) (fun k hk => by have e : some (wr.heap.size + 1) = some k := hk; injection e with e; simp; omega)); obtain ⟨A12, c12, hv12, _⟩ := row_shape hr12; subst hv12; clear hr12 hg12 hf12)
                    have hx5 := (Fb.new wr 59 #[.int .i64 xt, .int .i64 xs, .int .i64 xa, .int .i64 xb, .int .i64 xc]).below HB12.out
                    have HK := Lib.hid (show ∀ w, Below w12.heap.size w12 w → w.cell? ⟨wr.heap.size, 0, none⟩ = some (.int .i64 xt) ∧ w.cell? ⟨wr.heap.size, 1, none⟩ = some (.int .i64 xs) ∧ w.cell? ⟨wr.heap.size, 2, none⟩ = some (.int .i64 xa) ∧ w.cell? ⟨wr.heap.size, 3, none⟩ = some (.int .i64 xb) ∧ w.cell? ⟨wr.heap.size, 4, none⟩ = some (.int .i64 xc) from fun w hb => ⟨(hx5.below hb).cell 0, (hx5.below hb).cell 1, (hx5.below hb).cell 2, (hx5.below hb).cell 3, (hx5.below hb).cell 4⟩)
                    obtain ⟨x0, x1, x2, x3, x4⟩ := HK.out w12 (Below.refl _ _)
                    have hbw : Below wr.heap.size wr w12 := ((Below.refl wr.heap.size wr).alloc (Nat.le_refl _) _).trans (HB12.out.mono (by simp))
                    have HBW := Lib.hid hbw
                    clear hx5 hbw
                    obtain ⟨iT, hT0, hT1, hT2, hT3⟩ := info_parts jitInfo
                    have HNW := Lib.hid (fun w2 : World => World.news_of_block (heap_alloc_new w2 (.cells #[.int .i64 xt, .int .i64 xs, .int .i64 xa, .int .i64 xb, .int .i64 xc] 59)))
                    have HOK := Lib.hid (show ∀ w, Below w12.heap.size w12 w → ∀ b, A8 = some b → ∀ k u, ((l1.take 0).flatMap c5)[k]? = some u → w.cell? (b.add k) = some u from fun w hb b e k u hu => by simp at hu)
                    have HLO := Lib.hid (show ((l1.take 0).flatMap c5).length = 0 * 5 from by rw [flat_takeI, List.length_take, HJ.out.o.1]; omega)
                    have HMK := Lib.hid (show ∀ (w : World) v n, n = w12.heap.size + 1 → w.ownsRow n 59 5 v (0 + 1) ((l1.take 0).flatMap c5 ++ [.int .i64 xt, .int .i64 xs, .int .i64 xa, .int .i64 xb, .int .i64 xc]) → JtR w12.heap.size w v (l1.take 0 ++ [⟨xt, xs, xa, xb, xc⟩]) from fun w v n hn h => by
                      subst hn
                      unfold JtR
                      rw [List.length_append, List.length_take, List.flatMap_append, show min 0 l1.length = 0 by omega]
                      exact row_mono h (by omega))
                    have HFI := Lib.hid (show ∀ (w : World) v, JtR w12.heap.size w v ((l1.take 0 ++ [⟨xt, xs, xa, xb, xc⟩]) ++ l1.drop 0) → JtR wr.heap.size w v (insI ⟨xt, xs, xa, xb, xc⟩ l1) from fun w v h => by
                      rw [insI_at, HPL.out]
                      have h2 := row_mono h HBW.out.size
                      unfold JtR at *
                      rw [List.append_assoc, List.singleton_append] at h2
                      exact h2)
                    have hjs : (l1.take 0 ++ [(⟨xt, xs, xa, xb, xc⟩ : It)]).length + (l1.drop 0).length ≤ 100000 := by rw [List.length_append, List.length_take, List.length_drop, List.length_singleton]; omega
                    have HJS := Lib.hid hjs
                    clear hjs
                    go_wp2
                    go_region_held3 (fun w => w.cell? ⟨wr.heap.size, 0, none⟩ = some (.int .i64 xt) ∧ w.cell? ⟨wr.heap.size, 1, none⟩ = some (.int .i64 xs) ∧ w.cell? ⟨wr.heap.size, 2, none⟩ = some (.int .i64 xa) ∧ w.cell? ⟨wr.heap.size, 3, none⟩ = some (.int .i64 xb) ∧ w.cell? ⟨wr.heap.size, 4, none⟩ = some (.int .i64 xc))
                      (first | (refine HK.out _ ?_; repeat (first | assumption | exact Below.refl _ _ | refine Below.drew ?_ | refine Below.alloc ?_ (by first | exact Nat.le_refl _ | simp) _)))
                      (first
                        | (refine step_append_grows rfl (.tmp 90) (.tmp 92) 29 rfl 59 iT (.agg #[.int .i64 0, .int .i64 0, .int .i64 0, .int .i64 0, .int .i64 0]) 5 40 Try.underlying29 hT0 hT1 hT2 hT3 rfl (by decide) A8 0 0 ((l1.take 0).flatMap c5) ?f1 (fun _ => ⟨rfl, rfl⟩) HLO.out ?holds ⟨w12.heap.size, 0, none⟩ 1 1 [.int .i64 xt, .int .i64 xs, .int .i64 xa, .int .i64 xb, .int .i64 xc] ?f2 rfl ?news (by intro u hu; simp at hu; rcases hu with rfl | rfl | rfl | rfl | rfl <;> rfl) (by omega) (by unfold maxLen; omega) (by omega) ?_; (case f1 => (simp [Act.eval] <;> fail)); (case f2 => (simp [Act.eval] <;> fail)); (case holds => (refine HOK.out _ ?_; (repeat (first | exact Below.refl _ _ | refine Below.drew ?_ | refine Below.alloc ?_ (by first | exact Nat.le_refl _ | simp) _)))); (case news => exact HNW.out _); intro v13 w13 hr13 hg13; have hb13 : Below w12.heap.size w12 w13 := (by refine Below.grown ?aa hg13 ?bb (fun k hk => by cases hk); (case aa => (repeat (first | exact Below.refl _ _ | refine Below.drew ?_ | refine Below.alloc ?_ (by first | exact Nat.le_refl _ | simp) _))); (case bb => (first | (simp; done) | exact Nat.le_succ _))); have hj13 := HMK.out _ _ _ (by simp) hr13; clear hr13 hg13)
                        | (refine step_app_jt rfl (.tmp 93) (.tmp 94) rfl (B := w12.heap.size) (N := wr.heap.size + 1) (v := v13) (l := l1.take 0 ++ [⟨xt, xs, xa, xb, xc⟩]) (new := l1.drop 0) ?f3 ?f4 hj13 (row_below HR12.out hb13) HJS.out hb13.size ?_; (case f3 => (simp [Act.eval] <;> fail)); (case f4 => (first | (simp [Act.eval] <;> fail) | (simp [Act.eval, HZ0.out] <;> fail))); intro v14 w14 hr14 hg14 hf14; have hb14 : Below w12.heap.size w12 w14 := hb13.grown hg14 hb13.size (fun k hk => (World.ownsRow.lt hj13 k hk).1))
                        | fail)
                    go_wp2
                    go_roundg g
                    case measure => exact Nat.lt_succ_self g
                    case rel =>
                      refine ⟨i + 1, HI.out, by go_num, ?_⟩
                      rw [HPT.out.1, HPT.out.2]
                      exact HJ.out.took (HBW.out.trans (hb14.mono HBW.out.size)) (HFI.out _ _ hr14)
                  · go_wp2
                    go_quiet (fail)
                    go_wp2_with (at_builtin; refine wpList_app_src rfl (.tmp 82) (.tmp 85) rfl (B := wr.heap.size + 1) (l := []) (new := []) ?ax2 ?cx2 rfl ?hx2 (emp_it ((wr.alloc (.cells #[.int .i64 xt, .int .i64 xs, .int .i64 xa, .int .i64 xb, .int .i64 xc] 59)).drewN (q + nq)) (by simp) (Nat.le_refl _)) (by have := HLW.out.1; simp only [List.length_nil]; omega) (by simp) (.inl rfl) ?_; (case hx2 => (first | rfl | (show Value.slice _ (l1.length - 0) _ = _; rw [HZ0.out]; rfl) | (simp only [Act.eval, HZ0.out]; rfl) | (simp [Act.eval]; done) | (simp [Act.eval, List.length_drop] <;> fail))); intro v12 w12 hr12 hg12 hf12; rw [List.nil_append] at hr12; have hr12 : JtR (wr.heap.size + 1) w12 v12 (l1.drop 0) := (by rw [HDZ.out]; exact hr12); have HR12 := Lib.hid hr12; have HB12 := Lib.hid (((below_drewJ (Below.refl (wr.alloc (.cells #[.int .i64 xt, .int .i64 xs, .int .i64 xa, .int .i64 xb, .int .i64 xc] 59)).heap.size (wr.alloc (.cells #[.int .i64 xt, .int .i64 xs, .int .i64 xa, .int .i64 xb, .int .i64 xc] 59))) (q + nq)).alloc (by simp) (.cells #[] 59)).grown hg12 (by simp) (fun k hk => by have e : some (wr.heap.size + 1) = some k := hk; injection e with e; simp; omega)); obtain ⟨A12, c12, hv12, _⟩ := row_shape hr12; subst hv12; clear hr12 hg12 hf12)
                    have hx5 := (Fb.new wr 59 #[.int .i64 xt, .int .i64 xs, .int .i64 xa, .int .i64 xb, .int .i64 xc]).below HB12.out
                    have HK := Lib.hid (show ∀ w, Below w12.heap.size w12 w → w.cell? ⟨wr.heap.size, 0, none⟩ = some (.int .i64 xt) ∧ w.cell? ⟨wr.heap.size, 1, none⟩ = some (.int .i64 xs) ∧ w.cell? ⟨wr.heap.size, 2, none⟩ = some (.int .i64 xa) ∧ w.cell? ⟨wr.heap.size, 3, none⟩ = some (.int .i64 xb) ∧ w.cell? ⟨wr.heap.size, 4, none⟩ = some (.int .i64 xc) from fun w hb => ⟨(hx5.below hb).cell 0, (hx5.below hb).cell 1, (hx5.below hb).cell 2, (hx5.below hb).cell 3, (hx5.below hb).cell 4⟩)
                    obtain ⟨x0, x1, x2, x3, x4⟩ := HK.out w12 (Below.refl _ _)
                    have hbw : Below wr.heap.size wr w12 := ((Below.refl wr.heap.size wr).alloc (Nat.le_refl _) _).trans (HB12.out.mono (by simp))
                    have HBW := Lib.hid hbw
                    clear hx5 hbw
                    obtain ⟨iT, hT0, hT1, hT2, hT3⟩ := info_parts jitInfo
                    have HNW := Lib.hid (fun w2 : World => World.news_of_block (heap_alloc_new w2 (.cells #[.int .i64 xt, .int .i64 xs, .int .i64 xa, .int .i64 xb, .int .i64 xc] 59)))
                    have HOK := Lib.hid (show ∀ w, Below w12.heap.size w12 w → ∀ b, A8 = some b → ∀ k u, ((l1.take 0).flatMap c5)[k]? = some u → w.cell? (b.add k) = some u from fun w hb b e k u hu => by simp at hu)
                    have HLO := Lib.hid (show ((l1.take 0).flatMap c5).length = 0 * 5 from by rw [flat_takeI, List.length_take, HJ.out.o.1]; omega)
                    have HMK := Lib.hid (show ∀ (w : World) v n, n = w12.heap.size + 1 → w.ownsRow n 59 5 v (0 + 1) ((l1.take 0).flatMap c5 ++ [.int .i64 xt, .int .i64 xs, .int .i64 xa, .int .i64 xb, .int .i64 xc]) → JtR w12.heap.size w v (l1.take 0 ++ [⟨xt, xs, xa, xb, xc⟩]) from fun w v n hn h => by
                      subst hn
                      unfold JtR
                      rw [List.length_append, List.length_take, List.flatMap_append, show min 0 l1.length = 0 by omega]
                      exact row_mono h (by omega))
                    have HFI := Lib.hid (show ∀ (w : World) v, JtR w12.heap.size w v ((l1.take 0 ++ [⟨xt, xs, xa, xb, xc⟩]) ++ l1.drop 0) → JtR wr.heap.size w v (insI ⟨xt, xs, xa, xb, xc⟩ l1) from fun w v h => by
                      rw [insI_at, HPL.out]
                      have h2 := row_mono h HBW.out.size
                      unfold JtR at *
                      rw [List.append_assoc, List.singleton_append] at h2
                      exact h2)
                    have hjs : (l1.take 0 ++ [(⟨xt, xs, xa, xb, xc⟩ : It)]).length + (l1.drop 0).length ≤ 100000 := by rw [List.length_append, List.length_take, List.length_drop, List.length_singleton]; omega
                    have HJS := Lib.hid hjs
                    clear hjs
                    go_wp2
                    go_region_held3 (fun w => w.cell? ⟨wr.heap.size, 0, none⟩ = some (.int .i64 xt) ∧ w.cell? ⟨wr.heap.size, 1, none⟩ = some (.int .i64 xs) ∧ w.cell? ⟨wr.heap.size, 2, none⟩ = some (.int .i64 xa) ∧ w.cell? ⟨wr.heap.size, 3, none⟩ = some (.int .i64 xb) ∧ w.cell? ⟨wr.heap.size, 4, none⟩ = some (.int .i64 xc))
                      (first | (refine HK.out _ ?_; repeat (first | assumption | exact Below.refl _ _ | refine Below.drew ?_ | refine Below.alloc ?_ (by first | exact Nat.le_refl _ | simp) _)))
                      (first
                        | (refine step_append_grows rfl (.tmp 90) (.tmp 92) 29 rfl 59 iT (.agg #[.int .i64 0, .int .i64 0, .int .i64 0, .int .i64 0, .int .i64 0]) 5 40 Try.underlying29 hT0 hT1 hT2 hT3 rfl (by decide) A8 0 0 ((l1.take 0).flatMap c5) ?f1 (fun _ => ⟨rfl, rfl⟩) HLO.out ?holds ⟨w12.heap.size, 0, none⟩ 1 1 [.int .i64 xt, .int .i64 xs, .int .i64 xa, .int .i64 xb, .int .i64 xc] ?f2 rfl ?news (by intro u hu; simp at hu; rcases hu with rfl | rfl | rfl | rfl | rfl <;> rfl) (by omega) (by unfold maxLen; omega) (by omega) ?_; (case f1 => (simp [Act.eval] <;> fail)); (case f2 => (simp [Act.eval] <;> fail)); (case holds => (refine HOK.out _ ?_; (repeat (first | exact Below.refl _ _ | refine Below.drew ?_ | refine Below.alloc ?_ (by first | exact Nat.le_refl _ | simp) _)))); (case news => exact HNW.out _); intro v13 w13 hr13 hg13; have hb13 : Below w12.heap.size w12 w13 := (by refine Below.grown ?aa hg13 ?bb (fun k hk => by cases hk); (case aa => (repeat (first | exact Below.refl _ _ | refine Below.drew ?_ | refine Below.alloc ?_ (by first | exact Nat.le_refl _ | simp) _))); (case bb => (first | (simp; done) | exact Nat.le_succ _))); have hj13 := HMK.out _ _ _ (by simp) hr13; clear hr13 hg13)
                        | (refine step_app_jt rfl (.tmp 93) (.tmp 94) rfl (B := w12.heap.size) (N := wr.heap.size + 1) (v := v13) (l := l1.take 0 ++ [⟨xt, xs, xa, xb, xc⟩]) (new := l1.drop 0) ?f3 ?f4 hj13 (row_below HR12.out hb13) HJS.out hb13.size ?_; (case f3 => (simp [Act.eval] <;> fail)); (case f4 => (first | (simp [Act.eval] <;> fail) | (simp [Act.eval, HZ0.out] <;> fail))); intro v14 w14 hr14 hg14 hf14; have hb14 : Below w12.heap.size w12 w14 := hb13.grown hg14 hb13.size (fun k hk => (World.ownsRow.lt hj13 k hk).1))
                        | fail)
                    go_wp2
                    go_roundg g
                    case measure => exact Nat.lt_succ_self g
                    case rel =>
                      refine ⟨i + 1, HI.out, by go_num, ?_⟩
                      rw [HPT.out.1, HPT.out.2]
                      exact HJ.out.took (HBW.out.trans (hb14.mono HBW.out.size)) (HFI.out _ _ hr14)
                · obtain ⟨y, hy⟩ : ∃ y, l1[0]? = some y := ⟨_, List.getElem?_eq_getElem (by omega)⟩
                  obtain ⟨gy, c8', ey, -, -, -, -, -⟩ := jt_at HJ.out.o hy
                  injection ey with ey eyl ey'
                  clear eyl ey' hy
                  subst ey
                  have hj0 : ¬ j = 0 := by omega
                  have hj0' : ¬ 0 = j := by omega
                  clear hjg hjp hj00
                  by_cases hcj : c8 = j
                  · subst hcj
                    go_wp2
                    go_quiet (fail)
                    go_wp2_with (at_builtin; refine wpList_app_src rfl (.tmp 82) (.tmp 85) rfl (B := wr.heap.size + 1) (l := []) (new := []) ?ax5 ?cx5 rfl ?hx5 (emp_it ((wr.alloc (.cells #[.int .i64 xt, .int .i64 xs, .int .i64 xa, .int .i64 xb, .int .i64 xc] 59)).drewN (q + nq)) (by simp) (Nat.le_refl _)) (by have := HLW.out.1; simp only [List.length_nil]; omega) (by simp) (.inl rfl) ?_; (case hx5 => (first | rfl | (show Value.slice _ (l1.length - c8) _ = _; rw [HZ0.out]; rfl) | (simp only [Act.eval, HZ0.out]; rfl) | (simp [Act.eval]; done) | (simp [Act.eval, List.length_drop] <;> fail))); intro v12 w12 hr12 hg12 hf12; rw [List.nil_append] at hr12; have hr12 : JtR (wr.heap.size + 1) w12 v12 (l1.drop c8) := (by rw [HDZ.out]; exact hr12); have HR12 := Lib.hid hr12; have HB12 := Lib.hid (((below_drewJ (Below.refl (wr.alloc (.cells #[.int .i64 xt, .int .i64 xs, .int .i64 xa, .int .i64 xb, .int .i64 xc] 59)).heap.size (wr.alloc (.cells #[.int .i64 xt, .int .i64 xs, .int .i64 xa, .int .i64 xb, .int .i64 xc] 59))) (q + nq)).alloc (by simp) (.cells #[] 59)).grown hg12 (by simp) (fun k hk => by have e : some (wr.heap.size + 1) = some k := hk; injection e with e; simp; omega)); obtain ⟨A12, c12, hv12, _⟩ := row_shape hr12; subst hv12; clear hr12 hg12 hf12)
                    have hx5 := (Fb.new wr 59 #[.int .i64 xt, .int .i64 xs, .int .i64 xa, .int .i64 xb, .int .i64 xc]).below HB12.out
                    have HK := Lib.hid (show ∀ w, Below w12.heap.size w12 w → w.cell? ⟨wr.heap.size, 0, none⟩ = some (.int .i64 xt) ∧ w.cell? ⟨wr.heap.size, 1, none⟩ = some (.int .i64 xs) ∧ w.cell? ⟨wr.heap.size, 2, none⟩ = some (.int .i64 xa) ∧ w.cell? ⟨wr.heap.size, 3, none⟩ = some (.int .i64 xb) ∧ w.cell? ⟨wr.heap.size, 4, none⟩ = some (.int .i64 xc) from fun w hb => ⟨(hx5.below hb).cell 0, (hx5.below hb).cell 1, (hx5.below hb).cell 2, (hx5.below hb).cell 3, (hx5.below hb).cell 4⟩)
                    obtain ⟨x0, x1, x2, x3, x4⟩ := HK.out w12 (Below.refl _ _)
                    have hbw : Below wr.heap.size wr w12 := ((Below.refl wr.heap.size wr).alloc (Nat.le_refl _) _).trans (HB12.out.mono (by simp))
                    have HBW := Lib.hid hbw
                    clear hx5 hbw
                    obtain ⟨iT, hT0, hT1, hT2, hT3⟩ := info_parts jitInfo
                    have HNW := Lib.hid (fun w2 : World => World.news_of_block (heap_alloc_new w2 (.cells #[.int .i64 xt, .int .i64 xs, .int .i64 xa, .int .i64 xb, .int .i64 xc] 59)))
                    have HOK := Lib.hid (show ∀ w, Below w12.heap.size w12 w → ∀ b, some (⟨gy, 0, none⟩ : Addr) = some b → ∀ k u, ((l1.take c8).flatMap c5)[k]? = some u → w.cell? (b.add k) = some u from fun w hb b e => by cases e; exact jt_pre (row_below HJ.out.o (HBW.out.trans (hb.mono HBW.out.size))) c8)
                    have HLO := Lib.hid (show ((l1.take c8).flatMap c5).length = c8 * 5 from by rw [flat_takeI, List.length_take, HJ.out.o.1]; omega)
                    have HMK := Lib.hid (show ∀ (w : World) v n, n = w12.heap.size + 1 → w.ownsRow n 59 5 v (c8 + 1) ((l1.take c8).flatMap c5 ++ [.int .i64 xt, .int .i64 xs, .int .i64 xa, .int .i64 xb, .int .i64 xc]) → JtR w12.heap.size w v (l1.take c8 ++ [⟨xt, xs, xa, xb, xc⟩]) from fun w v n hn h => by
                      subst hn
                      unfold JtR
                      rw [List.length_append, List.length_take, List.flatMap_append, show min c8 l1.length = c8 by omega]
                      exact row_mono h (by omega))
                    have HFI := Lib.hid (show ∀ (w : World) v, JtR w12.heap.size w v ((l1.take c8 ++ [⟨xt, xs, xa, xb, xc⟩]) ++ l1.drop c8) → JtR wr.heap.size w v (insI ⟨xt, xs, xa, xb, xc⟩ l1) from fun w v h => by
                      rw [insI_at, HPL.out]
                      have h2 := row_mono h HBW.out.size
                      unfold JtR at *
                      rw [List.append_assoc, List.singleton_append] at h2
                      exact h2)
                    have hjs : (l1.take c8 ++ [(⟨xt, xs, xa, xb, xc⟩ : It)]).length + (l1.drop c8).length ≤ 100000 := by rw [List.length_append, List.length_take, List.length_drop, List.length_singleton]; omega
                    have HJS := Lib.hid hjs
                    clear hjs
                    go_wp2
                    go_region_held3 (fun w => w.cell? ⟨wr.heap.size, 0, none⟩ = some (.int .i64 xt) ∧ w.cell? ⟨wr.heap.size, 1, none⟩ = some (.int .i64 xs) ∧ w.cell? ⟨wr.heap.size, 2, none⟩ = some (.int .i64 xa) ∧ w.cell? ⟨wr.heap.size, 3, none⟩ = some (.int .i64 xb) ∧ w.cell? ⟨wr.heap.size, 4, none⟩ = some (.int .i64 xc))
                      (first | (refine HK.out _ ?_; repeat (first | assumption | exact Below.refl _ _ | refine Below.drew ?_ | refine Below.alloc ?_ (by first | exact Nat.le_refl _ | simp) _)))
                      (first
                        | (refine step_append_grows rfl (.tmp 90) (.tmp 92) 29 rfl 59 iT (.agg #[.int .i64 0, .int .i64 0, .int .i64 0, .int .i64 0, .int .i64 0]) 5 40 Try.underlying29 hT0 hT1 hT2 hT3 rfl (by decide) (some ⟨gy, 0, none⟩) c8 c8 ((l1.take c8).flatMap c5) ?f1 (fun e => by cases e) HLO.out ?holds ⟨w12.heap.size, 0, none⟩ 1 1 [.int .i64 xt, .int .i64 xs, .int .i64 xa, .int .i64 xb, .int .i64 xc] ?f2 rfl ?news (by intro u hu; simp at hu; rcases hu with rfl | rfl | rfl | rfl | rfl <;> rfl) (by omega) (by unfold maxLen; omega) (by omega) ?_; (case f1 => (simp [Act.eval] <;> fail)); (case f2 => (simp [Act.eval] <;> fail)); (case holds => (refine HOK.out _ ?_; (repeat (first | exact Below.refl _ _ | refine Below.drew ?_ | refine Below.alloc ?_ (by first | exact Nat.le_refl _ | simp) _)))); (case news => exact HNW.out _); intro v13 w13 hr13 hg13; have hb13 : Below w12.heap.size w12 w13 := (by refine Below.grown ?aa hg13 ?bb (fun k hk => by cases hk); (case aa => (repeat (first | exact Below.refl _ _ | refine Below.drew ?_ | refine Below.alloc ?_ (by first | exact Nat.le_refl _ | simp) _))); (case bb => (first | (simp; done) | exact Nat.le_succ _))); have hj13 := HMK.out _ _ _ (by simp) hr13; clear hr13 hg13)
                        | (refine step_app_jt rfl (.tmp 93) (.tmp 94) rfl (B := w12.heap.size) (N := wr.heap.size + 1) (v := v13) (l := l1.take c8 ++ [⟨xt, xs, xa, xb, xc⟩]) (new := l1.drop c8) ?f3 ?f4 hj13 (row_below HR12.out hb13) HJS.out hb13.size ?_; (case f3 => (simp [Act.eval] <;> fail)); (case f4 => (first | (simp [Act.eval] <;> fail) | (simp [Act.eval, HZ0.out] <;> fail))); intro v14 w14 hr14 hg14 hf14; have hb14 : Below w12.heap.size w12 w14 := hb13.grown hg14 hb13.size (fun k hk => (World.ownsRow.lt hj13 k hk).1))
                        | fail)
                    go_wp2
                    go_roundg g
                    case measure => exact Nat.lt_succ_self g
                    case rel =>
                      refine ⟨i + 1, HI.out, by go_num, ?_⟩
                      rw [HPT.out.1, HPT.out.2]
                      exact HJ.out.took (HBW.out.trans (hb14.mono HBW.out.size)) (HFI.out _ _ hr14)
                  · go_wp2
                    go_quiet (fail)
                    go_wp2_with (at_builtin; refine wpList_app_src rfl (.tmp 82) (.tmp 85) rfl (B := wr.heap.size + 1) (l := []) (new := []) ?ax7 ?cx7 rfl ?hx7 (emp_it ((wr.alloc (.cells #[.int .i64 xt, .int .i64 xs, .int .i64 xa, .int .i64 xb, .int .i64 xc] 59)).drewN (q + nq)) (by simp) (Nat.le_refl _)) (by have := HLW.out.1; simp only [List.length_nil]; omega) (by simp) (.inl rfl) ?_; (case hx7 => (first | rfl | (show Value.slice _ (l1.length - j) _ = _; rw [HZ0.out]; rfl) | (simp only [Act.eval, HZ0.out]; rfl) | (simp [Act.eval]; done) | (simp [Act.eval, List.length_drop] <;> fail))); intro v12 w12 hr12 hg12 hf12; rw [List.nil_append] at hr12; have hr12 : JtR (wr.heap.size + 1) w12 v12 (l1.drop j) := (by rw [HDZ.out]; exact hr12); have HR12 := Lib.hid hr12; have HB12 := Lib.hid (((below_drewJ (Below.refl (wr.alloc (.cells #[.int .i64 xt, .int .i64 xs, .int .i64 xa, .int .i64 xb, .int .i64 xc] 59)).heap.size (wr.alloc (.cells #[.int .i64 xt, .int .i64 xs, .int .i64 xa, .int .i64 xb, .int .i64 xc] 59))) (q + nq)).alloc (by simp) (.cells #[] 59)).grown hg12 (by simp) (fun k hk => by have e : some (wr.heap.size + 1) = some k := hk; injection e with e; simp; omega)); obtain ⟨A12, c12, hv12, _⟩ := row_shape hr12; subst hv12; clear hr12 hg12 hf12)
                    have hx5 := (Fb.new wr 59 #[.int .i64 xt, .int .i64 xs, .int .i64 xa, .int .i64 xb, .int .i64 xc]).below HB12.out
                    have HK := Lib.hid (show ∀ w, Below w12.heap.size w12 w → w.cell? ⟨wr.heap.size, 0, none⟩ = some (.int .i64 xt) ∧ w.cell? ⟨wr.heap.size, 1, none⟩ = some (.int .i64 xs) ∧ w.cell? ⟨wr.heap.size, 2, none⟩ = some (.int .i64 xa) ∧ w.cell? ⟨wr.heap.size, 3, none⟩ = some (.int .i64 xb) ∧ w.cell? ⟨wr.heap.size, 4, none⟩ = some (.int .i64 xc) from fun w hb => ⟨(hx5.below hb).cell 0, (hx5.below hb).cell 1, (hx5.below hb).cell 2, (hx5.below hb).cell 3, (hx5.below hb).cell 4⟩)
                    obtain ⟨x0, x1, x2, x3, x4⟩ := HK.out w12 (Below.refl _ _)
                    have hbw : Below wr.heap.size wr w12 := ((Below.refl wr.heap.size wr).alloc (Nat.le_refl _) _).trans (HB12.out.mono (by simp))
                    have HBW := Lib.hid hbw
                    clear hx5 hbw
                    obtain ⟨iT, hT0, hT1, hT2, hT3⟩ := info_parts jitInfo
                    have HNW := Lib.hid (fun w2 : World => World.news_of_block (heap_alloc_new w2 (.cells #[.int .i64 xt, .int .i64 xs, .int .i64 xa, .int .i64 xb, .int .i64 xc] 59)))
                    have HOK := Lib.hid (show ∀ w, Below w12.heap.size w12 w → ∀ b, some (⟨gy, 0, none⟩ : Addr) = some b → ∀ k u, ((l1.take j).flatMap c5)[k]? = some u → w.cell? (b.add k) = some u from fun w hb b e => by cases e; exact jt_pre (row_below HJ.out.o (HBW.out.trans (hb.mono HBW.out.size))) j)
                    have HLO := Lib.hid (show ((l1.take j).flatMap c5).length = j * 5 from by rw [flat_takeI, List.length_take, HJ.out.o.1]; omega)
                    have HMK := Lib.hid (show ∀ (w : World) v n, n = w12.heap.size + 1 → w.ownsRow n 59 5 v (j + 1) ((l1.take j).flatMap c5 ++ [.int .i64 xt, .int .i64 xs, .int .i64 xa, .int .i64 xb, .int .i64 xc]) → JtR w12.heap.size w v (l1.take j ++ [⟨xt, xs, xa, xb, xc⟩]) from fun w v n hn h => by
                      subst hn
                      unfold JtR
                      rw [List.length_append, List.length_take, List.flatMap_append, show min j l1.length = j by omega]
                      exact row_mono h (by omega))
                    have HFI := Lib.hid (show ∀ (w : World) v, JtR w12.heap.size w v ((l1.take j ++ [⟨xt, xs, xa, xb, xc⟩]) ++ l1.drop j) → JtR wr.heap.size w v (insI ⟨xt, xs, xa, xb, xc⟩ l1) from fun w v h => by
                      rw [insI_at, HPL.out]
                      have h2 := row_mono h HBW.out.size
                      unfold JtR at *
                      rw [List.append_assoc, List.singleton_append] at h2
                      exact h2)
                    have hjs : (l1.take j ++ [(⟨xt, xs, xa, xb, xc⟩ : It)]).length + (l1.drop j).length ≤ 100000 := by rw [List.length_append, List.length_take, List.length_drop, List.length_singleton]; omega
                    have HJS := Lib.hid hjs
                    clear hjs
                    go_wp2
                    go_region_held3 (fun w => w.cell? ⟨wr.heap.size, 0, none⟩ = some (.int .i64 xt) ∧ w.cell? ⟨wr.heap.size, 1, none⟩ = some (.int .i64 xs) ∧ w.cell? ⟨wr.heap.size, 2, none⟩ = some (.int .i64 xa) ∧ w.cell? ⟨wr.heap.size, 3, none⟩ = some (.int .i64 xb) ∧ w.cell? ⟨wr.heap.size, 4, none⟩ = some (.int .i64 xc))
                      (first | (refine HK.out _ ?_; repeat (first | assumption | exact Below.refl _ _ | refine Below.drew ?_ | refine Below.alloc ?_ (by first | exact Nat.le_refl _ | simp) _)))
                      (first
                        | (refine step_append_grows rfl (.tmp 90) (.tmp 92) 29 rfl 59 iT (.agg #[.int .i64 0, .int .i64 0, .int .i64 0, .int .i64 0, .int .i64 0]) 5 40 Try.underlying29 hT0 hT1 hT2 hT3 rfl (by decide) (some ⟨gy, 0, none⟩) j j ((l1.take j).flatMap c5) ?f1 (fun e => by cases e) HLO.out ?holds ⟨w12.heap.size, 0, none⟩ 1 1 [.int .i64 xt, .int .i64 xs, .int .i64 xa, .int .i64 xb, .int .i64 xc] ?f2 rfl ?news (by intro u hu; simp at hu; rcases hu with rfl | rfl | rfl | rfl | rfl <;> rfl) (by omega) (by unfold maxLen; omega) (by omega) ?_; (case f1 => (simp [Act.eval] <;> fail)); (case f2 => (simp [Act.eval] <;> fail)); (case holds => (refine HOK.out _ ?_; (repeat (first | exact Below.refl _ _ | refine Below.drew ?_ | refine Below.alloc ?_ (by first | exact Nat.le_refl _ | simp) _)))); (case news => exact HNW.out _); intro v13 w13 hr13 hg13; have hb13 : Below w12.heap.size w12 w13 := (by refine Below.grown ?aa hg13 ?bb (fun k hk => by cases hk); (case aa => (repeat (first | exact Below.refl _ _ | refine Below.drew ?_ | refine Below.alloc ?_ (by first | exact Nat.le_refl _ | simp) _))); (case bb => (first | (simp; done) | exact Nat.le_succ _))); have hj13 := HMK.out _ _ _ (by simp) hr13; clear hr13 hg13)
                        | (refine step_app_jt rfl (.tmp 93) (.tmp 94) rfl (B := w12.heap.size) (N := wr.heap.size + 1) (v := v13) (l := l1.take j ++ [⟨xt, xs, xa, xb, xc⟩]) (new := l1.drop j) ?f3 ?f4 hj13 (row_below HR12.out hb13) HJS.out hb13.size ?_; (case f3 => (simp [Act.eval] <;> fail)); (case f4 => (first | (simp [Act.eval] <;> fail) | (simp [Act.eval, HZ0.out] <;> fail))); intro v14 w14 hr14 hg14 hf14; have hb14 : Below w12.heap.size w12 w14 := hb13.grown hg14 hb13.size (fun k hk => (World.ownsRow.lt hj13 k hk).1))
                        | fail)
                    go_wp2
                    go_roundg g
                    case measure => exact Nat.lt_succ_self g
                    case rel =>
                      refine ⟨i + 1, HI.out, by go_num, ?_⟩
                      rw [HPT.out.1, HPT.out.2]
                      exact HJ.out.took (HBW.out.trans (hb14.mono HBW.out.size)) (HFI.out _ _ hr14)
              | succ g2 =>
                have hjn : (j : Int) < (l1.length : Int) := by omega
                have hjl : j < l1.length := by omega
                have dj : decide ((j : Int) < (l1.length : Int)) = true := decide_eq_true hjn
                have dj' : decide (j < l1.length) = true := decide_eq_true hjl
                obtain ⟨y, hy⟩ : ∃ y, l1[j]? = some y := ⟨_, List.getElem?_eq_getElem hjl⟩
                have hgo := plI_go hjp hy
                obtain ⟨gy, c8', ey, r0, r1, r2, r3, r4⟩ := jt_at HJ.out.o hy
                injection ey with ey _ ey'
                subst ey
                subst ey'
                have hgyl : gy < wr.heap.size := (World.ownsRow.lt HJ.out.o gy rfl).2
                obtain ⟨yt, ys, ya, yb, yc⟩ := y
                unfold ltI at hgo
                dsimp only at *
                have HGO := Lib.hid hgo
                have HIJ := Lib.hid (show j + 1 + g2 = l1.length from by omega)
                clear hgo hjg hjp hy
                by_cases ht : yt < xt
                · have HGP := Lib.hid (HGO.out.1 (by have : ¬ yt = xt := by omega
                                                     simp [ht, this, show yt ≤ xt from by omega]))
                  go_wp2
                  go_quiet (fail)
                  go_wp2
                  go_roundg g2
                  case measure => exact Nat.lt_succ_self g2
                  case rel => exact ⟨j + 1, _, HIJ.out, by go_num, HGP.out, rfl⟩
                · by_cases he : yt = xt
                  · have he2 := he.symm
                    subst he2
                    have hee : (xt == xt) = true := beq_self_eq_true xt
                    by_cases hs : ys < xs
                    · have HGP := Lib.hid (HGO.out.1 (by simp [hs]))
                      go_wp2
                      go_quiet (fail)
                      go_wp2
                      go_roundg g2
                      case measure => exact Nat.lt_succ_self g2
                      case rel => exact ⟨j + 1, _, HIJ.out, by go_num, HGP.out, rfl⟩
                    · have HPL := Lib.hid (HGO.out.2 (by simp [hs]))
                      have hjle : (j : Int) ≤ (l1.length : Int) := by omega
                      have hcj : ¬ c8 = j := by omega
                      have hjc8 : (j : Int) ≤ (c8 : Int) := by omega
                      go_wp2
                      go_quiet (fail)
                      go_wp2_with (at_builtin; refine wpList_app_src rfl (.tmp 82) (.tmp 85) rfl (B := wr.heap.size + 1) (l := []) (new := (l1.drop j)) (some ⟨gy, j * 5, none⟩) (c8 - j) rfl ?hx (emp_it ((wr.alloc (.cells #[.int .i64 xt, .int .i64 xs, .int .i64 xa, .int .i64 xb, .int .i64 xc] 59)).drewN (q + nq)) (by simp) (Nat.le_refl _)) (by have := HLW.out.1; simp only [List.length_nil, List.length_drop]; omega) (by simp) (.inr ⟨_, rfl, jt_src (row_below HJ.out.o ((below_drewJ ((Below.refl _ _).alloc (Nat.le_refl _) _) (q + nq)).alloc (by simp) _)) j⟩) ?_; (case hx => (first | rfl | (simp [Act.eval]; done) | (simp [Act.eval, List.length_drop] <;> fail))); intro v12 w12 hr12 hg12 hf12; rw [List.nil_append] at hr12; have HR12 := Lib.hid hr12; have HB12 := Lib.hid (((below_drewJ (Below.refl (wr.alloc (.cells #[.int .i64 xt, .int .i64 xs, .int .i64 xa, .int .i64 xb, .int .i64 xc] 59)).heap.size (wr.alloc (.cells #[.int .i64 xt, .int .i64 xs, .int .i64 xa, .int .i64 xb, .int .i64 xc] 59))) (q + nq)).alloc (by simp) (.cells #[] 59)).grown hg12 (by simp) (fun k hk => by have e : some (wr.heap.size + 1) = some k := hk; injection e with e; simp; omega)); obtain ⟨A12, c12, hv12, _⟩ := row_shape hr12; subst hv12; clear hr12 hg12 hf12)
                      have hx5 := (Fb.new wr 59 #[.int .i64 xt, .int .i64 xs, .int .i64 xa, .int .i64 xb, .int .i64 xc]).below HB12.out
                      have HK := Lib.hid (show ∀ w, Below w12.heap.size w12 w → w.cell? ⟨wr.heap.size, 0, none⟩ = some (.int .i64 xt) ∧ w.cell? ⟨wr.heap.size, 1, none⟩ = some (.int .i64 xs) ∧ w.cell? ⟨wr.heap.size, 2, none⟩ = some (.int .i64 xa) ∧ w.cell? ⟨wr.heap.size, 3, none⟩ = some (.int .i64 xb) ∧ w.cell? ⟨wr.heap.size, 4, none⟩ = some (.int .i64 xc) from fun w hb => ⟨(hx5.below hb).cell 0, (hx5.below hb).cell 1, (hx5.below hb).cell 2, (hx5.below hb).cell 3, (hx5.below hb).cell 4⟩)
                      obtain ⟨x0, x1, x2, x3, x4⟩ := HK.out w12 (Below.refl _ _)
                      have hbw : Below wr.heap.size wr w12 := ((Below.refl wr.heap.size wr).alloc (Nat.le_refl _) _).trans (HB12.out.mono (by simp))
                      have HBW := Lib.hid hbw
                      clear hx5 hbw
                      obtain ⟨iT, hT0, hT1, hT2, hT3⟩ := info_parts jitInfo
                      have HNW := Lib.hid (fun w2 : World => World.news_of_block (heap_alloc_new w2 (.cells #[.int .i64 xt, .int .i64 xs, .int .i64 xa, .int .i64 xb, .int .i64 xc] 59)))
                      have HOK := Lib.hid (show ∀ w, Below w12.heap.size w12 w → ∀ b, some (⟨gy, 0, none⟩ : Addr) = some b → ∀ k u, ((l1.take j).flatMap c5)[k]? = some u → w.cell? (b.add k) = some u from fun w hb b e => by cases e; exact jt_pre (row_below HJ.out.o (HBW.out.trans (hb.mono HBW.out.size))) j)
                      have HLO := Lib.hid (show ((l1.take j).flatMap c5).length = j * 5 from by rw [flat_takeI, List.length_take, HJ.out.o.1]; omega)
                      have HMK := Lib.hid (show ∀ (w : World) v n, n = w12.heap.size + 1 → w.ownsRow n 59 5 v (j + 1) ((l1.take j).flatMap c5 ++ [.int .i64 xt, .int .i64 xs, .int .i64 xa, .int .i64 xb, .int .i64 xc]) → JtR w12.heap.size w v (l1.take j ++ [⟨xt, xs, xa, xb, xc⟩]) from fun w v n hn h => by
                        subst hn
                        unfold JtR
                        rw [List.length_append, List.length_take, List.flatMap_append, show min j l1.length = j by omega]
                        exact row_mono h (by omega))
                      have HFI := Lib.hid (show ∀ (w : World) v, JtR w12.heap.size w v ((l1.take j ++ [⟨xt, xs, xa, xb, xc⟩]) ++ l1.drop j) → JtR wr.heap.size w v (insI ⟨xt, xs, xa, xb, xc⟩ l1) from fun w v h => by
                        rw [insI_at, HPL.out]
                        have h2 := row_mono h HBW.out.size
                        unfold JtR at *
                        rw [List.append_assoc, List.singleton_append] at h2
                        exact h2)
                      have hjs : (l1.take j ++ [(⟨xt, xs, xa, xb, xc⟩ : It)]).length + (l1.drop j).length ≤ 100000 := by rw [List.length_append, List.length_take, List.length_drop, List.length_singleton]; omega
                      have HJS := Lib.hid hjs
                      clear hjs
                      rcases Nat.eq_zero_or_pos j with h0 | h0
                      · subst h0
                        go_wp2
                        go_region_held3 (fun w => w.cell? ⟨wr.heap.size, 0, none⟩ = some (.int .i64 xt) ∧ w.cell? ⟨wr.heap.size, 1, none⟩ = some (.int .i64 xs) ∧ w.cell? ⟨wr.heap.size, 2, none⟩ = some (.int .i64 xa) ∧ w.cell? ⟨wr.heap.size, 3, none⟩ = some (.int .i64 xb) ∧ w.cell? ⟨wr.heap.size, 4, none⟩ = some (.int .i64 xc))
                          (first | (refine HK.out _ ?_; repeat (first | assumption | exact Below.refl _ _ | refine Below.drew ?_ | refine Below.alloc ?_ (by first | exact Nat.le_refl _ | simp) _)))
                          (first
                            | (refine step_append_grows rfl (.tmp 90) (.tmp 92) 29 rfl 59 iT (.agg #[.int .i64 0, .int .i64 0, .int .i64 0, .int .i64 0, .int .i64 0]) 5 40 Try.underlying29 hT0 hT1 hT2 hT3 rfl (by decide) (some ⟨gy, 0, none⟩) 0 0 ((l1.take 0).flatMap c5) ?f1 (fun e => by cases e) HLO.out ?holds ⟨w12.heap.size, 0, none⟩ 1 1 [.int .i64 xt, .int .i64 xs, .int .i64 xa, .int .i64 xb, .int .i64 xc] ?f2 rfl ?news (by intro u hu; simp at hu; rcases hu with rfl | rfl | rfl | rfl | rfl <;> rfl) (by omega) (by unfold maxLen; omega) (by omega) ?_; (case f1 => (simp [Act.eval] <;> fail)); (case f2 => (simp [Act.eval] <;> fail)); (case holds => (refine HOK.out _ ?_; (repeat (first | exact Below.refl _ _ | refine Below.drew ?_ | refine Below.alloc ?_ (by first | exact Nat.le_refl _ | simp) _)))); (case news => exact HNW.out _); intro v13 w13 hr13 hg13; have hb13 : Below w12.heap.size w12 w13 := (by refine Below.grown ?aa hg13 ?bb (fun k hk => by cases hk); (case aa => (repeat (first | exact Below.refl _ _ | refine Below.drew ?_ | refine Below.alloc ?_ (by first | exact Nat.le_refl _ | simp) _))); (case bb => (first | (simp; done) | exact Nat.le_succ _))); have hj13 := HMK.out _ _ _ (by simp) hr13; clear hr13 hg13)
                            | (refine step_app_jt rfl (.tmp 93) (.tmp 94) rfl (B := w12.heap.size) (N := wr.heap.size + 1) (v := v13) (l := l1.take 0 ++ [⟨xt, xs, xa, xb, xc⟩]) (new := l1.drop 0) ?f3 ?f4 hj13 (row_below HR12.out hb13) HJS.out hb13.size ?_; (case f3 => (simp [Act.eval] <;> fail)); (case f4 => (simp [Act.eval] <;> fail)); intro v14 w14 hr14 hg14 hf14; have hb14 : Below w12.heap.size w12 w14 := hb13.grown hg14 hb13.size (fun k hk => (World.ownsRow.lt hj13 k hk).1))
                            | fail)
                        go_wp2
                        go_roundg g
                        case measure => exact Nat.lt_succ_self g
                        case rel =>
                          refine ⟨i + 1, HI.out, by go_num, ?_⟩
                          rw [HPT.out.1, HPT.out.2]
                          exact HJ.out.took (HBW.out.trans (hb14.mono HBW.out.size)) (HFI.out _ _ hr14)
                      · have hj0 : ¬ j = 0 := by omega
                        have hj0' : ¬ 0 = j := by omega
                        clear h0
                        go_wp2
                        go_region_held3 (fun w => w.cell? ⟨wr.heap.size, 0, none⟩ = some (.int .i64 xt) ∧ w.cell? ⟨wr.heap.size, 1, none⟩ = some (.int .i64 xs) ∧ w.cell? ⟨wr.heap.size, 2, none⟩ = some (.int .i64 xa) ∧ w.cell? ⟨wr.heap.size, 3, none⟩ = some (.int .i64 xb) ∧ w.cell? ⟨wr.heap.size, 4, none⟩ = some (.int .i64 xc))
                          (first | (refine HK.out _ ?_; repeat (first | assumption | exact Below.refl _ _ | refine Below.drew ?_ | refine Below.alloc ?_ (by first | exact Nat.le_refl _ | simp) _)))
                          (first
                            | (refine step_append_grows rfl (.tmp 90) (.tmp 92) 29 rfl 59 iT (.agg #[.int .i64 0, .int .i64 0, .int .i64 0, .int .i64 0, .int .i64 0]) 5 40 Try.underlying29 hT0 hT1 hT2 hT3 rfl (by decide) (some ⟨gy, 0, none⟩) j j ((l1.take j).flatMap c5) ?f1 (fun e => by cases e) HLO.out ?holds ⟨w12.heap.size, 0, none⟩ 1 1 [.int .i64 xt, .int .i64 xs, .int .i64 xa, .int .i64 xb, .int .i64 xc] ?f2 rfl ?news (by intro u hu; simp at hu; rcases hu with rfl | rfl | rfl | rfl | rfl <;> rfl) (by omega) (by unfold maxLen; omega) (by omega) ?_; (case f1 => (simp [Act.eval] <;> fail)); (case f2 => (simp [Act.eval] <;> fail)); (case holds => (refine HOK.out _ ?_; (repeat (first | exact Below.refl _ _ | refine Below.drew ?_ | refine Below.alloc ?_ (by first | exact Nat.le_refl _ | simp) _)))); (case news => exact HNW.out _); intro v13 w13 hr13 hg13; have hb13 : Below w12.heap.size w12 w13 := (by refine Below.grown ?aa hg13 ?bb (fun k hk => by cases hk); (case aa => (repeat (first | exact Below.refl _ _ | refine Below.drew ?_ | refine Below.alloc ?_ (by first | exact Nat.le_refl _ | simp) _))); (case bb => (first | (simp; done) | exact Nat.le_succ _))); have hj13 := HMK.out _ _ _ (by simp) hr13; clear hr13 hg13)
                            | (refine step_app_jt rfl (.tmp 93) (.tmp 94) rfl (B := w12.heap.size) (N := wr.heap.size + 1) (v := v13) (l := l1.take j ++ [⟨xt, xs, xa, xb, xc⟩]) (new := l1.drop j) ?f3 ?f4 hj13 (row_below HR12.out hb13) HJS.out hb13.size ?_; (case f3 => (simp [Act.eval] <;> fail)); (case f4 => (simp [Act.eval] <;> fail)); intro v14 w14 hr14 hg14 hf14; have hb14 : Below w12.heap.size w12 w14 := hb13.grown hg14 hb13.size (fun k hk => (World.ownsRow.lt hj13 k hk).1))
                            | fail)
                        go_wp2
                        go_roundg g
                        case measure => exact Nat.lt_succ_self g
                        case rel =>
                          refine ⟨i + 1, HI.out, by go_num, ?_⟩
                          rw [HPT.out.1, HPT.out.2]
                          exact HJ.out.took (HBW.out.trans (hb14.mono HBW.out.size)) (HFI.out _ _ hr14)
                  · have hee : (yt == xt) = false := by rw [beq_eq_false_iff_ne]; exact he
                    have he2 : ¬ xt = yt := fun e => he e.symm
                    have hd0 : decide (yt = xt) = false := decide_eq_false he
                    have hd1 : decide (yt < xt) = false := decide_eq_false ht
                    have HPL := Lib.hid (HGO.out.2 (by simp [ht, he]))
                    have hjle : (j : Int) ≤ (l1.length : Int) := by omega
                    have hcj : ¬ c8 = j := by omega
                    have hjc8 : (j : Int) ≤ (c8 : Int) := by omega
                    go_wp2
                    go_quiet (fail)
                    go_wp2_with (at_builtin; refine wpList_app_src rfl (.tmp 82) (.tmp 85) rfl (B := wr.heap.size + 1) (l := []) (new := (l1.drop j)) (some ⟨gy, j * 5, none⟩) (c8 - j) rfl ?hx (emp_it ((wr.alloc (.cells #[.int .i64 xt, .int .i64 xs, .int .i64 xa, .int .i64 xb, .int .i64 xc] 59)).drewN (q + nq)) (by simp) (Nat.le_refl _)) (by have := HLW.out.1; simp only [List.length_nil, List.length_drop]; omega) (by simp) (.inr ⟨_, rfl, jt_src (row_below HJ.out.o ((below_drewJ ((Below.refl _ _).alloc (Nat.le_refl _) _) (q + nq)).alloc (by simp) _)) j⟩) ?_; (case hx => (first | rfl | (simp [Act.eval]; done) | (simp [Act.eval, List.length_drop] <;> fail))); intro v12 w12 hr12 hg12 hf12; rw [List.nil_append] at hr12; have HR12 := Lib.hid hr12; have HB12 := Lib.hid (((below_drewJ (Below.refl (wr.alloc (.cells #[.int .i64 xt, .int .i64 xs, .int .i64 xa, .int .i64 xb, .int .i64 xc] 59)).heap.size (wr.alloc (.cells #[.int .i64 xt, .int .i64 xs, .int .i64 xa, .int .i64 xb, .int .i64 xc] 59))) (q + nq)).alloc (by simp) (.cells #[] 59)).grown hg12 (by simp) (fun k hk => by have e : some (wr.heap.size + 1) = some k := hk; injection e with e; simp; omega)); obtain ⟨A12, c12, hv12, _⟩ := row_shape hr12; subst hv12; clear hr12 hg12 hf12)
                    have hx5 := (Fb.new wr 59 #[.int .i64 xt, .int .i64 xs, .int .i64 xa, .int .i64 xb, .int .i64 xc]).below HB12.out
                    have HK := Lib.hid (show ∀ w, Below w12.heap.size w12 w → w.cell? ⟨wr.heap.size, 0, none⟩ = some (.int .i64 xt) ∧ w.cell? ⟨wr.heap.size, 1, none⟩ = some (.int .i64 xs) ∧ w.cell? ⟨wr.heap.size, 2, none⟩ = some (.int .i64 xa) ∧ w.cell? ⟨wr.heap.size, 3, none⟩ = some (.int .i64 xb) ∧ w.cell? ⟨wr.heap.size, 4, none⟩ = some (.int .i64 xc) from fun w hb => ⟨(hx5.below hb).cell 0, (hx5.below hb).cell 1, (hx5.below hb).cell 2, (hx5.below hb).cell 3, (hx5.below hb).cell 4⟩)
                    obtain ⟨x0, x1, x2, x3, x4⟩ := HK.out w12 (Below.refl _ _)
                    have hbw : Below wr.heap.size wr w12 := ((Below.refl wr.heap.size wr).alloc (Nat.le_refl _) _).trans (HB12.out.mono (by simp))
                    have HBW := Lib.hid hbw
                    clear hx5 hbw
                    obtain ⟨iT, hT0, hT1, hT2, hT3⟩ := info_parts jitInfo
                    have HNW := Lib.hid (fun w2 : World => World.news_of_block (heap_alloc_new w2 (.cells #[.int .i64 xt, .int .i64 xs, .int .i64 xa, .int .i64 xb, .int .i64 xc] 59)))
                    have HOK := Lib.hid (show ∀ w, Below w12.heap.size w12 w → ∀ b, some (⟨gy, 0, none⟩ : Addr) = some b → ∀ k u, ((l1.take j).flatMap c5)[k]? = some u → w.cell? (b.add k) = some u from fun w hb b e => by cases e; exact jt_pre (row_below HJ.out.o (HBW.out.trans (hb.mono HBW.out.size))) j)
                    have HLO := Lib.hid (show ((l1.take j).flatMap c5).length = j * 5 from by rw [flat_takeI, List.length_take, HJ.out.o.1]; omega)
                    have HMK := Lib.hid (show ∀ (w : World) v n, n = w12.heap.size + 1 → w.ownsRow n 59 5 v (j + 1) ((l1.take j).flatMap c5 ++ [.int .i64 xt, .int .i64 xs, .int .i64 xa, .int .i64 xb, .int .i64 xc]) → JtR w12.heap.size w v (l1.take j ++ [⟨xt, xs, xa, xb, xc⟩]) from fun w v n hn h => by
                      subst hn
                      unfold JtR
                      rw [List.length_append, List.length_take, List.flatMap_append, show min j l1.length = j by omega]
                      exact row_mono h (by omega))
                    have HFI := Lib.hid (show ∀ (w : World) v, JtR w12.heap.size w v ((l1.take j ++ [⟨xt, xs, xa, xb, xc⟩]) ++ l1.drop j) → JtR wr.heap.size w v (insI ⟨xt, xs, xa, xb, xc⟩ l1) from fun w v h => by
                      rw [insI_at, HPL.out]
                      have h2 := row_mono h HBW.out.size
                      unfold JtR at *
                      rw [List.append_assoc, List.singleton_append] at h2
                      exact h2)
                    have hjs : (l1.take j ++ [(⟨xt, xs, xa, xb, xc⟩ : It)]).length + (l1.drop j).length ≤ 100000 := by rw [List.length_append, List.length_take, List.length_drop, List.length_singleton]; omega
                    have HJS := Lib.hid hjs
                    clear hjs
                    rcases Nat.eq_zero_or_pos j with h0 | h0
                    · subst h0
                      go_wp2
                      go_region_held3 (fun w => w.cell? ⟨wr.heap.size, 0, none⟩ = some (.int .i64 xt) ∧ w.cell? ⟨wr.heap.size, 1, none⟩ = some (.int .i64 xs) ∧ w.cell? ⟨wr.heap.size, 2, none⟩ = some (.int .i64 xa) ∧ w.cell? ⟨wr.heap.size, 3, none⟩ = some (.int .i64 xb) ∧ w.cell? ⟨wr.heap.size, 4, none⟩ = some (.int .i64 xc))
                        (first | (refine HK.out _ ?_; repeat (first | assumption | exact Below.refl _ _ | refine Below.drew ?_ | refine Below.alloc ?_ (by first | exact Nat.le_refl _ | simp) _)))
                        (first
                          | (refine step_append_grows rfl (.tmp 90) (.tmp 92) 29 rfl 59 iT (.agg #[.int .i64 0, .int .i64 0, .int .i64 0, .int .i64 0, .int .i64 0]) 5 40 Try.underlying29 hT0 hT1 hT2 hT3 rfl (by decide) (some ⟨gy, 0, none⟩) 0 0 ((l1.take 0).flatMap c5) ?f1 (fun e => by cases e) HLO.out ?holds ⟨w12.heap.size, 0, none⟩ 1 1 [.int .i64 xt, .int .i64 xs, .int .i64 xa, .int .i64 xb, .int .i64 xc] ?f2 rfl ?news (by intro u hu; simp at hu; rcases hu with rfl | rfl | rfl | rfl | rfl <;> rfl) (by omega) (by unfold maxLen; omega) (by omega) ?_; (case f1 => (simp [Act.eval] <;> fail)); (case f2 => (simp [Act.eval] <;> fail)); (case holds => (refine HOK.out _ ?_; (repeat (first | exact Below.refl _ _ | refine Below.drew ?_ | refine Below.alloc ?_ (by first | exact Nat.le_refl _ | simp) _)))); (case news => exact HNW.out _); intro v13 w13 hr13 hg13; have hb13 : Below w12.heap.size w12 w13 := (by refine Below.grown ?aa hg13 ?bb (fun k hk => by cases hk); (case aa => (repeat (first | exact Below.refl _ _ | refine Below.drew ?_ | refine Below.alloc ?_ (by first | exact Nat.le_refl _ | simp) _))); (case bb => (first | (simp; done) | exact Nat.le_succ _))); have hj13 := HMK.out _ _ _ (by simp) hr13; clear hr13 hg13)
                          | (refine step_app_jt rfl (.tmp 93) (.tmp 94) rfl (B := w12.heap.size) (N := wr.heap.size + 1) (v := v13) (l := l1.take 0 ++ [⟨xt, xs, xa, xb, xc⟩]) (new := l1.drop 0) ?f3 ?f4 hj13 (row_below HR12.out hb13) HJS.out hb13.size ?_; (case f3 => (simp [Act.eval] <;> fail)); (case f4 => (simp [Act.eval] <;> fail)); intro v14 w14 hr14 hg14 hf14; have hb14 : Below w12.heap.size w12 w14 := hb13.grown hg14 hb13.size (fun k hk => (World.ownsRow.lt hj13 k hk).1))
                          | fail)
                      go_wp2
                      go_roundg g
                      case measure => exact Nat.lt_succ_self g
                      case rel =>
                        refine ⟨i + 1, HI.out, by go_num, ?_⟩
                        rw [HPT.out.1, HPT.out.2]
                        exact HJ.out.took (HBW.out.trans (hb14.mono HBW.out.size)) (HFI.out _ _ hr14)
                    · have hj0 : ¬ j = 0 := by omega
                      have hj0' : ¬ 0 = j := by omega
                      clear h0
                      go_wp2
                      go_region_held3 (fun w => w.cell? ⟨wr.heap.size, 0, none⟩ = some (.int .i64 xt) ∧ w.cell? ⟨wr.heap.size, 1, none⟩ = some (.int .i64 xs) ∧ w.cell? ⟨wr.heap.size, 2, none⟩ = some (.int .i64 xa) ∧ w.cell? ⟨wr.heap.size, 3, none⟩ = some (.int .i64 xb) ∧ w.cell? ⟨wr.heap.size, 4, none⟩ = some (.int .i64 xc))
                        (first | (refine HK.out _ ?_; repeat (first | assumption | exact Below.refl _ _ | refine Below.drew ?_ | refine Below.alloc ?_ (by first | exact Nat.le_refl _ | simp) _)))
                        (first
                          | (refine step_append_grows rfl (.tmp 90) (.tmp 92) 29 rfl 59 iT (.agg #[.int .i64 0, .int .i64 0, .int .i64 0, .int .i64 0, .int .i64 0]) 5 40 Try.underlying29 hT0 hT1 hT2 hT3 rfl (by decide) (some ⟨gy, 0, none⟩) j j ((l1.take j).flatMap c5) ?f1 (fun e => by cases e) HLO.out ?holds ⟨w12.heap.size, 0, none⟩ 1 1 [.int .i64 xt, .int .i64 xs, .int .i64 xa, .int .i64 xb, .int .i64 xc] ?f2 rfl ?news (by intro u hu; simp at hu; rcases hu with rfl | rfl | rfl | rfl | rfl <;> rfl) (by omega) (by unfold maxLen; omega) (by omega) ?_; (case f1 => (simp [Act.eval] <;> fail)); (case f2 => (simp [Act.eval] <;> fail)); (case holds => (refine HOK.out _ ?_; (repeat (first | exact Below.refl _ _ | refine Below.drew ?_ | refine Below.alloc ?_ (by first | exact Nat.le_refl _ | simp) _)))); (case news => exact HNW.out _); intro v13 w13 hr13 hg13; have hb13 : Below w12.heap.size w12 w13 := (by refine Below.grown ?aa hg13 ?bb (fun k hk => by cases hk); (case aa => (repeat (first | exact Below.refl _ _ | refine Below.drew ?_ | refine Below.alloc ?_ (by first | exact Nat.le_refl _ | simp) _))); (case bb => (first | (simp; done) | exact Nat.le_succ _))); have hj13 := HMK.out _ _ _ (by simp) hr13; clear hr13 hg13)
                          | (refine step_app_jt rfl (.tmp 93) (.tmp 94) rfl (B := w12.heap.size) (N := wr.heap.size + 1) (v := v13) (l := l1.take j ++ [⟨xt, xs, xa, xb, xc⟩]) (new := l1.drop j) ?f3 ?f4 hj13 (row_below HR12.out hb13) HJS.out hb13.size ?_; (case f3 => (simp [Act.eval] <;> fail)); (case f4 => (simp [Act.eval] <;> fail)); intro v14 w14 hr14 hg14 hf14; have hb14 : Below w12.heap.size w12 w14 := hb13.grown hg14 hb13.size (fun k hk => (World.ownsRow.lt hj13 k hk).1))
                          | fail)
                      go_wp2
                      go_roundg g
                      case measure => exact Nat.lt_succ_self g
                      case rel =>
                        refine ⟨i + 1, HI.out, by go_num, ?_⟩
                        rw [HPT.out.1, HPT.out.2]
                        exact HJ.out.took (HBW.out.trans (hb14.mono HBW.out.size)) (HFI.out _ _ hr14)
          · have hpf : pT false M true x = false := by first | rfl | (rw [hpx, decide_eq_false hlt]; rfl)
            have HPF := Lib.hid (HJL.out hpf)
            clear hpf hpx
            obtain ⟨xt, xs, xa, xb, xc⟩ := x
            dsimp only at *
            go_wp2_with (at_builtin; refine wpList_app_jt rfl (.tmp 42) (.tmp 44) rfl (B := w1.heap.size) (N := wr.heap.size + 1) (l := l2) (new := [⟨xt, xs, xa, xb, xc⟩]) rfl rfl (World.ownsRow.alloc (World.ownsRow.alloc HJ.out.f _) _) (one_it5 (wr.alloc (.cells #[.int .i64 xt, .int .i64 xs, .int .i64 xa, .int .i64 xb, .int .i64 xc] 59)) xt xs xa xb xc (by simp)) (by have := HLW.out.2; simp only [List.length_singleton]; omega) (by have := HJ.out.b.size; simp; omega) ?_; intro v6 w6 hr6 hg6 hf6; have HJ6 := Lib.hid (HJ.out.left (((Below.refl _ _).alloc (Nat.le_refl _) _).alloc (by simp) _) hr6 hg6 hf6); clear hr6 hg6 hf6)
            go_roundg g
            case measure => exact Nat.lt_succ_self g
            case rel =>
              refine ⟨i + 1, HI.out, by go_num, ?_⟩
              rw [HPF.out.1, HPF.out.2]
              exact HJ6.out
      | true =>
        have hpt : pT true M K x = true := by first | rfl | (rw [hpx, decide_eq_true hlt]; rfl)
        have HPT := Lib.hid (HJT.out hpt)
        clear hpt hpx
        obtain ⟨xt, xs, xa, xb, xc⟩ := x
        dsimp only at *
        go_wp2
        go_loopg [12] l1.length (fun g s12 wr' => JaRel (wr.alloc (.cells #[.int .i64 xt, .int .i64 xs, .int .i64 xa, .int .i64 xb, .int .i64 xc] 59)) ⟨xt, xs, xa, xb, xc⟩ l1 g s12 wr')
        case atStart => exact ⟨0, 0, by omega, rfl, Nat.zero_le _, rfl⟩
        case round =>
          obtain ⟨j, q, hjg, rfl, hjp, rfl⟩ := hrel
          have hj9 : (j : Int) ≤ 1000 := by have := HLW.out.1; omega
          have hjz : (0 : Int) ≤ (j : Int) := by omega
          cases gk with
          | zero =>
            have hjn : ¬ (j : Int) < (l1.length : Int) := by omega
            have dj : decide ((j : Int) < (l1.length : Int)) = false := decide_eq_false hjn
            have dj' : decide (j < l1.length) = false := decide_eq_false (by omega)
            have HPL := Lib.hid (show plI ⟨xt, xs, xa, xb, xc⟩ l1 = j from by have := plI_le ⟨xt, xs, xa, xb, xc⟩ l1; omega)
            have HX5 := Lib.hid ((Fb.new wr 59 #[.int .i64 xt, .int .i64 xs, .int .i64 xa, .int .i64 xb, .int .i64 xc]))
            have hjle : (j : Int) ≤ (l1.length : Int) := by omega
            have hjc8 : (j : Int) ≤ (c8 : Int) := by omega
            have HDZ := Lib.hid (show l1.drop j = [] from List.drop_eq_nil_of_le (by omega))
            have HJL := Lib.hid (show j = l1.length from by omega)
            have HZ0 := Lib.hid (show l1.length - j = 0 from by omega)
            rcases Nat.eq_zero_or_pos j with hj00 | hj00
            · obtain rfl : j = 0 := hj00
              clear hjg hjp
              by_cases hcj : c8 = 0
              · subst hcj
                go_wp2
                go_quiet (fail)
                go_wp2_with (at_builtin; refine wpList_app_src rfl (.tmp 82) (.tmp 85) rfl (B := wr.heap.size + 1) (l := []) (new := []) ?ax3 ?cx3 rfl ?hx3 (emp_it ((wr.alloc (.cells #[.int .i64 xt, .int .i64 xs, .int .i64 xa, .int .i64 xb, .int .i64 xc] 59)).drewN (q + nq)) (by simp) (Nat.le_refl _)) (by have := HLW.out.1; simp only [List.length_nil]; omega) (by simp) (.inl rfl) ?_; (case hx3 => (first | rfl | (show Value.slice _ (l1.length - 0) _ = _; rw [HZ0.out]; rfl) | (simp only [Act.eval, HZ0.out]; rfl) | (simp [Act.eval]; done) | (simp [Act.eval, List.length_drop] <;> fail))); intro v12 w12 hr12 hg12 hf12; rw [List.nil_append] at hr12; have hr12 : JtR (wr.heap.size + 1) w12 v12 (l1.drop 0) := (by rw [HDZ.out]; exact hr12); have HR12 := Lib.hid hr12; have HB12 := Lib.hid (((below_drewJ (Below.refl (wr.alloc (.cells #[.int .i64 xt, .int .i64 xs, .int .i64 xa, .int .i64 xb, .int .i64 xc] 59)).heap.size (wr.alloc (.cells #[.int .i64 xt, .int .i64 xs, .int .i64 xa, .int .i64 xb, .int .i64 xc] 59))) (q + nq)).alloc (by simp) (.cells #[] 59)).grown hg12 (by simp) (fun k hk => by have e : some (wr.heap.size + 1) = some k := hk; injection e with e; simp; omega)); obtain ⟨A12, c12, hv12, _⟩ := row_shape hr12; subst hv12; clear hr12 hg12 hf12)
                have hx5 := (Fb.new wr 59 #[.int .i64 xt, .int .i64 xs, .int .i64 xa, .int .i64 xb, .int .i64 xc]).below HB12.out
                have HK := Lib.hid (show ∀ w, Below w12.heap.size w12 w → w.cell? ⟨wr.heap.size, 0, none⟩ = some (.int .i64 xt) ∧ w.cell? ⟨wr.heap.size, 1, none⟩ = some (.int .i64 xs) ∧ w.cell? ⟨wr.heap.size, 2, none⟩ = some (.int .i64 xa) ∧ w.cell? ⟨wr.heap.size, 3, none⟩ = some (.int .i64 xb) ∧ w.cell? ⟨wr.heap.size, 4, none⟩ = some (.int .i64 xc) from fun w hb => ⟨(hx5.below hb).cell 0, (hx5.below hb).cell 1, (hx5.below hb).cell 2, (hx5.below hb).cell 3, (hx5.below hb).cell 4⟩)
                obtain ⟨x0, x1, x2, x3, x4⟩ := HK.out w12 (Below.refl _ _)
                have hbw : Below wr.heap.size wr w12 := ((Below.refl wr.heap.size wr).alloc (Nat.le_refl _) _).trans (HB12.out.mono (by simp))
                have HBW := Lib.hid hbw
                clear hx5 hbw
                obtain ⟨iT, hT0, hT1, hT2, hT3⟩ := info_parts jitInfo
                have HNW := Lib.hid (fun w2 : World => World.news_of_block (heap_alloc_new w2 (.cells #[.int .i64 xt, .int .i64 xs, .int .i64 xa, .int .i64 xb, .int .i64 xc] 59)))
                have HOK := Lib.hid (show ∀ w, Below w12.heap.size w12 w → ∀ b, A8 = some b → ∀ k u, ((l1.take 0).flatMap c5)[k]? = some u → w.cell? (b.add k) = some u from fun w hb b e k u hu => by simp at hu)
                have HLO := Lib.hid (show ((l1.take 0).flatMap c5).length = 0 * 5 from by rw [flat_takeI, List.length_take, HJ.out.o.1]; omega)
                have HMK := Lib.hid (show ∀ (w : World) v n, n = w12.heap.size + 1 → w.ownsRow n 59 5 v (0 + 1) ((l1.take 0).flatMap c5 ++ [.int .i64 xt, .int .i64 xs, .int .i64 xa, .int .i64 xb, .int .i64 xc]) → JtR w12.heap.size w v (l1.take 0 ++ [⟨xt, xs, xa, xb, xc⟩]) from fun w v n hn h => by
                  subst hn
                  unfold JtR
                  rw [List.length_append, List.length_take, List.flatMap_append, show min 0 l1.length = 0 by omega]
                  exact row_mono h (by omega))
                have HFI := Lib.hid (show ∀ (w : World) v, JtR w12.heap.size w v ((l1.take 0 ++ [⟨xt, xs, xa, xb, xc⟩]) ++ l1.drop 0) → JtR wr.heap.size w v (insI ⟨xt, xs, xa, xb, xc⟩ l1) from fun w v h => by
                  rw [insI_at, HPL.out]
                  have h2 := row_mono h HBW.out.size
                  unfold JtR at *
                  rw [List.append_assoc, List.singleton_append] at h2
                  exact h2)
                have hjs : (l1.take 0 ++ [(⟨xt, xs, xa, xb, xc⟩ : It)]).length + (l1.drop 0).length ≤ 100000 := by rw [List.length_append, List.length_take, List.length_drop, List.length_singleton]; omega
                have HJS := Lib.hid hjs
                clear hjs
                go_wp2
                go_region_held3 (fun w => w.cell? ⟨wr.heap.size, 0, none⟩ = some (.int .i64 xt) ∧ w.cell? ⟨wr.heap.size, 1, none⟩ = some (.int .i64 xs) ∧ w.cell? ⟨wr.heap.size, 2, none⟩ = some (.int .i64 xa) ∧ w.cell? ⟨wr.heap.size, 3, none⟩ = some (.int .i64 xb) ∧ w.cell? ⟨wr.heap.size, 4, none⟩ = some (.int .i64 xc))
                  (first | (refine HK.out _ ?_; repeat (first | assumption | exact Below.refl _ _ | refine Below.drew ?_ | refine Below.alloc ?_ (by first | exact Nat.le_refl _ | simp) _)))
                  (first
                    | (refine step_append_grows rfl (.tmp 90) (.tmp 92) 29 rfl 59 iT (.agg #[.int .i64 0, .int .i64 0, .int .i64 0, .int .i64 0, .int .i64 0]) 5 40 Try.underlying29 hT0 hT1 hT2 hT3 rfl (by decide) A8 0 0 ((l1.take 0).flatMap c5) ?f1 (fun _ => ⟨rfl, rfl⟩) HLO.out ?holds ⟨w12.heap.size, 0, none⟩ 1 1 [.int .i64 xt, .int .i64 xs, .int .i64 xa, .int .i64 xb, .int .i64 xc] ?f2 rfl ?news (by intro u hu; simp at hu; rcases hu with rfl | rfl | rfl | rfl | rfl <;> rfl) (by omega) (by unfold maxLen; omega) (by omega) ?_; (case f1 => (simp [Act.eval] <;> fail)); (case f2 => (simp [Act.eval] <;> fail)); (case holds => (refine HOK.out _ ?_; (repeat (first | exact Below.refl _ _ | refine Below.drew ?_ | refine Below.alloc ?_ (by first | exact Nat.le_refl _ | simp) _)))); (case news => exact HNW.out _); intro v13 w13 hr13 hg13; have hb13 : Below w12.heap.size w12 w13 := (by refine Below.grown ?aa hg13 ?bb (fun k hk => by cases hk); (case aa => (repeat (first | exact Below.refl _ _ | refine Below.drew ?_ | refine Below.alloc ?_ (by first | exact Nat.le_refl _ | simp) _))); (case bb => (first | (simp; done) | exact Nat.le_succ _))); have hj13 := HMK.out _ _ _ (by simp) hr13; clear hr13 hg13)
                    | (refine step_app_jt rfl (.tmp 93) (.tmp 94) rfl (B := w12.heap.size) (N := wr.heap.size + 1) (v := v13) (l := l1.take 0 ++ [⟨xt, xs, xa, xb, xc⟩]) (new := l1.drop 0) ?f3 ?f4 hj13 (row_below HR12.out hb13) HJS.out hb13.size ?_; (case f3 => (simp [Act.eval] <;> fail)); (case f4 => (first | (simp [Act.eval] <;> fail) | (simp [Act.eval, HZ0.out] <;> fail))); intro v14 w14 hr14 hg14 hf14; have hb14 : Below w12.heap.size w12 w14 := hb13.grown hg14 hb13.size (fun k hk => (World.ownsRow.lt hj13 k hk).1))
                    | fail)
                go_wp2
                go_roundg g
                case measure => exact Nat.lt_succ_self g
                case rel =>
                  refine ⟨i + 1, HI.out, by go_num, ?_⟩
                  rw [HPT.out.1, HPT.out.2]
                  exact HJ.out.took (HBW.out.trans (hb14.mono HBW.out.size)) (HFI.out _ _ hr14)
              · go_wp2
                go_quiet (fail)
                go_wp2_with (at_builtin; refine wpList_app_src rfl (.tmp 82) (.tmp 85) rfl (B := wr.heap.size + 1) (l := []) (new := []) ?ax4 ?cx4 rfl ?hx4 (emp_it ((wr.alloc (.cells #[.int .i64 xt, .int .i64 xs, .int .i64 xa, .int .i64 xb, .int .i64 xc] 59)).drewN (q + nq)) (by simp) (Nat.le_refl _)) (by have := HLW.out.1; simp only [List.length_nil]; omega) (by simp) (.inl rfl) ?_; (case hx4 => (first | rfl | (show Value.slice _ (l1.length - 0) _ = _; rw [HZ0.out]; rfl) | (simp only [Act.eval, HZ0.out]; rfl) | (simp [Act.eval]; done) | (simp [Act.eval, List.length_drop] <;> fail))); intro v12 w12 hr12 hg12 hf12; rw [List.nil_append] at hr12; have hr12 : JtR (wr.heap.size + 1) w12 v12 (l1.drop 0) := (by rw [HDZ.out]; exact hr12); have HR12 := Lib.hid hr12; have HB12 := Lib.hid (((below_drewJ (Below.refl (wr.alloc (.cells #[.int .i64 xt, .int .i64 xs, .int .i64 xa, .int .i64 xb, .int .i64 xc] 59)).heap.size (wr.alloc (.cells #[.int .i64 xt, .int .i64 xs, .int .i64 xa, .int .i64 xb, .int .i64 xc] 59))) (q + nq)).alloc (by simp) (.cells #[] 59)).grown hg12 (by simp) (fun k hk => by have e : some (wr.heap.size + 1) = some k := hk; injection e with e; simp; omega)); obtain ⟨A12, c12, hv12, _⟩ := row_shape hr12; subst hv12; clear hr12 hg12 hf12)
                have hx5 := (Fb.new wr 59 #[.int .i64 xt, .int .i64 xs, .int .i64 xa, .int .i64 xb, .int .i64 xc]).below HB12.out
                have HK := Lib.hid (show ∀ w, Below w12.heap.size w12 w → w.cell? ⟨wr.heap.size, 0, none⟩ = some (.int .i64 xt) ∧ w.cell? ⟨wr.heap.size, 1, none⟩ = some (.int .i64 xs) ∧ w.cell? ⟨wr.heap.size, 2, none⟩ = some (.int .i64 xa) ∧ w.cell? ⟨wr.heap.size, 3, none⟩ = some (.int .i64 xb) ∧ w.cell? ⟨wr.heap.size, 4, none⟩ = some (.int .i64 xc) from fun w hb => ⟨(hx5.below hb).cell 0, (hx5.below hb).cell 1, (hx5.below hb).cell 2, (hx5.below hb).cell 3, (hx5.below hb).cell 4⟩)
                obtain ⟨x0, x1, x2, x3, x4⟩ := HK.out w12 (Below.refl _ _)
                have hbw : Below wr.heap.size wr w12 := ((Below.refl wr.heap.size wr).alloc (Nat.le_refl _) _).trans (HB12.out.mono (by simp))
                have HBW := Lib.hid hbw
                clear hx5 hbw
                obtain ⟨iT, hT0, hT1, hT2, hT3⟩ := info_parts jitInfo
                have HNW := Lib.hid (fun w2 : World => World.news_of_block (heap_alloc_new w2 (.cells #[.int .i64 xt, .int .i64 xs, .int .i64 xa, .int .i64 xb, .int .i64 xc] 59)))
                have HOK := Lib.hid (show ∀ w, Below w12.heap.size w12 w → ∀ b, A8 = some b → ∀ k u, ((l1.take 0).flatMap c5)[k]? = some u → w.cell? (b.add k) = some u from fun w hb b e k u hu => by simp at hu)
                have HLO := Lib.hid (show ((l1.take 0).flatMap c5).length = 0 * 5 from by rw [flat_takeI, List.length_take, HJ.out.o.1]; omega)
                have HMK := Lib.hid (show ∀ (w : World) v n, n = w12.heap.size + 1 → w.ownsRow n 59 5 v (0 + 1) ((l1.take 0).flatMap c5 ++ [.int .i64 xt, .int .i64 xs, .int .i64 xa, .int .i64 xb, .int .i64 xc]) → JtR w12.heap.size w v (l1.take 0 ++ [⟨xt, xs, xa, xb, xc⟩]) from fun w v n hn h => by
                  subst hn
                  unfold JtR
                  rw [List.length_append, List.length_take, List.flatMap_append, show min 0 l1.length = 0 by omega]
                  exact row_mono h (by omega))
                have HFI := Lib.hid (show ∀ (w : World) v, JtR w12.heap.size w v ((l1.take 0 ++ [⟨xt, xs, xa, xb, xc⟩]) ++ l1.drop 0) → JtR wr.heap.size w v (insI ⟨xt, xs, xa, xb, xc⟩ l1) from fun w v h => by
                  rw [insI_at, HPL.out]
                  have h2 := row_mono h HBW.out.size
                  unfold JtR at *
                  rw [List.append_assoc, List.singleton_append] at h2
                  exact h2)
                have hjs : (l1.take 0 ++ [(⟨xt, xs, xa, xb, xc⟩ : It)]).length + (l1.drop 0).length ≤ 100000 := by rw [List.length_append, List.length_take, List.length_drop, List.length_singleton]; omega
                have HJS := Lib.hid hjs
                clear hjs
                go_wp2
                go_region_held3 (fun w => w.cell? ⟨wr.heap.size, 0, none⟩ = some (.int .i64 xt) ∧ w.cell? ⟨wr.heap.size, 1, none⟩ = some (.int .i64 xs) ∧ w.cell? ⟨wr.heap.size, 2, none⟩ = some (.int .i64 xa) ∧ w.cell? ⟨wr.heap.size, 3, none⟩ = some (.int .i64 xb) ∧ w.cell? ⟨wr.heap.size, 4, none⟩ = some (.int .i64 xc))
                  (first | (refine HK.out _ ?_; repeat (first | assumption | exact Below.refl _ _ | refine Below.drew ?_ | refine Below.alloc ?_ (by first | exact Nat.le_refl _ | simp) _)))
                  (first
                    | (refine step_append_grows rfl (.tmp 90) (.tmp 92) 29 rfl 59 iT (.agg #[.int .i64 0, .int .i64 0, .int .i64 0, .int .i64 0, .int .i64 0]) 5 40 Try.underlying29 hT0 hT1 hT2 hT3 rfl (by decide) A8 0 0 ((l1.take 0).flatMap c5) ?f1 (fun _ => ⟨rfl, rfl⟩) HLO.out ?holds ⟨w12.heap.size, 0, none⟩ 1 1 [.int .i64 xt, .int .i64 xs, .int .i64 xa, .int .i64 xb, .int .i64 xc] ?f2 rfl ?news (by intro u hu; simp at hu; rcases hu with rfl | rfl | rfl | rfl | rfl <;> rfl) (by omega) (by unfold maxLen; omega) (by omega) ?_; (case f1 => (simp [Act.eval] <;> fail)); (case f2 => (simp [Act.eval] <;> fail)); (case holds => (refine HOK.out _ ?_; (repeat (first | exact Below.refl _ _ | refine Below.drew ?_ | refine Below.alloc ?_ (by first | exact Nat.le_refl _ | simp) _)))); (case news => exact HNW.out _); intro v13 w13 hr13 hg13; have hb13 : Below w12.heap.size w12 w13 := (by refine Below.grown ?aa hg13 ?bb (fun k hk => by cases hk); (case aa => (repeat (first | exact Below.refl _ _ | refine Below.drew ?_ | refine Below.alloc ?_ (by first | exact Nat.le_refl _ | simp) _))); (case bb => (first | (simp; done) | exact Nat.le_succ _))); have hj13 := HMK.out _ _ _ (by simp) hr13; clear hr13 hg13)
                    | (refine step_app_jt rfl (.tmp 93) (.tmp 94) rfl (B := w12.heap.size) (N := wr.heap.size + 1) (v := v13) (l := l1.take 0 ++ [⟨xt, xs, xa, xb, xc⟩]) (new := l1.drop 0) ?f3 ?f4 hj13 (row_below HR12.out hb13) HJS.out hb13.size ?_; (case f3 => (simp [Act.eval] <;> fail)); (case f4 => (first | (simp [Act.eval] <;> fail) | (simp [Act.eval, HZ0.out] <;> fail))); intro v14 w14 hr14 hg14 hf14; have hb14 : Below w12.heap.size w12 w14 := hb13.grown hg14 hb13.size (fun k hk => (World.ownsRow.lt hj13 k hk).1))
                    | fail)
                go_wp2
                go_roundg g
                case measure => exact Nat.lt_succ_self g
                case rel =>
                  refine ⟨i + 1, HI.out, by go_num, ?_⟩
                  rw [HPT.out.1, HPT.out.2]
                  exact HJ.out.took (HBW.out.trans (hb14.mono HBW.out.size)) (HFI.out _ _ hr14)
            · obtain ⟨y, hy⟩ : ∃ y, l1[0]? = some y := ⟨_, List.getElem?_eq_getElem (by omega)⟩
              obtain ⟨gy, c8', ey, -, -, -, -, -⟩ := jt_at HJ.out.o hy
              injection ey with ey eyl ey'
              clear eyl ey' hy
              subst ey
              have hj0 : ¬ j = 0 := by omega
              have hj0' : ¬ 0 = j := by omega
              clear hjg hjp hj00
              by_cases hcj : c8 = j
              · subst hcj
                go_wp2
                go_quiet (fail)
                go_wp2_with (at_builtin; refine wpList_app_src rfl (.tmp 82) (.tmp 85) rfl (B := wr.heap.size + 1) (l := []) (new := []) ?ax6 ?cx6 rfl ?hx6 (emp_it ((wr.alloc (.cells #[.int .i64 xt, .int .i64 xs, .int .i64 xa, .int .i64 xb, .int .i64 xc] 59)).drewN (q + nq)) (by simp) (Nat.le_refl _)) (by have := HLW.out.1; simp only [List.length_nil]; omega) (by simp) (.inl rfl) ?_; (case hx6 => (first | rfl | (show Value.slice _ (l1.length - c8) _ = _; rw [HZ0.out]; rfl) | (simp only [Act.eval, HZ0.out]; rfl) | (simp [Act.eval]; done) | (simp [Act.eval, List.length_drop] <;> fail))); intro v12 w12 hr12 hg12 hf12; rw [List.nil_append] at hr12; have hr12 : JtR (wr.heap.size + 1) w12 v12 (l1.drop c8) := (by rw [HDZ.out]; exact hr12); have HR12 := Lib.hid hr12; have HB12 := Lib.hid (((below_drewJ (Below.refl (wr.alloc (.cells #[.int .i64 xt, .int .i64 xs, .int .i64 xa, .int .i64 xb, .int .i64 xc] 59)).heap.size (wr.alloc (.cells #[.int .i64 xt, .int .i64 xs, .int .i64 xa, .int .i64 xb, .int .i64 xc] 59))) (q + nq)).alloc (by simp) (.cells #[] 59)).grown hg12 (by simp) (fun k hk => by have e : some (wr.heap.size + 1) = some k := hk; injection e with e; simp; omega)); obtain ⟨A12, c12, hv12, _⟩ := row_shape hr12; subst hv12; clear hr12 hg12 hf12)
                have hx5 := (Fb.new wr 59 #[.int .i64 xt, .int .i64 xs, .int .i64 xa, .int .i64 xb, .int .i64 xc]).below HB12.out
                have HK := Lib.hid (show ∀ w, Below w12.heap.size w12 w → w.cell? ⟨wr.heap.size, 0, none⟩ = some (.int .i64 xt) ∧ w.cell? ⟨wr.heap.size, 1, none⟩ = some (.int .i64 xs) ∧ w.cell? ⟨wr.heap.size, 2, none⟩ = some (.int .i64 xa) ∧ w.cell? ⟨wr.heap.size, 3, none⟩ = some (.int .i64 xb) ∧ w.cell? ⟨wr.heap.size, 4, none⟩ = some (.int .i64 xc) from fun w hb => ⟨(hx5.below hb).cell 0, (hx5.below hb).cell 1, (hx5.below hb).cell 2, (hx5.below hb).cell 3, (hx5.below hb).cell 4⟩)
                obtain ⟨x0, x1, x2, x3, x4⟩ := HK.out w12 (Below.refl _ _)
                have hbw : Below wr.heap.size wr w12 := ((Below.refl wr.heap.size wr).alloc (Nat.le_refl _) _).trans (HB12.out.mono (by simp))
                have HBW := Lib.hid hbw
                clear hx5 hbw
                obtain ⟨iT, hT0, hT1, hT2, hT3⟩ := info_parts jitInfo
                have HNW := Lib.hid (fun w2 : World => World.news_of_block (heap_alloc_new w2 (.cells #[.int .i64 xt, .int .i64 xs, .int .i64 xa, .int .i64 xb, .int .i64 xc] 59)))
                have HOK := Lib.hid (show ∀ w, Below w12.heap.size w12 w → ∀ b, some (⟨gy, 0, none⟩ : Addr) = some b → ∀ k u, ((l1.take c8).flatMap c5)[k]? = some u → w.cell? (b.add k) = some u from fun w hb b e => by cases e; exact jt_pre (row_below HJ.out.o (HBW.out.trans (hb.mono HBW.out.size))) c8)
                have HLO := Lib.hid (show ((l1.take c8).flatMap c5).length = c8 * 5 from by rw [flat_takeI, List.length_take, HJ.out.o.1]; omega)
                have HMK := Lib.hid (show ∀ (w : World) v n, n = w12.heap.size + 1 → w.ownsRow n 59 5 v (c8 + 1) ((l1.take c8).flatMap c5 ++ [.int .i64 xt, .int .i64 xs, .int .i64 xa, .int .i64 xb, .int .i64 xc]) → JtR w12.heap.size w v (l1.take c8 ++ [⟨xt, xs, xa, xb, xc⟩]) from fun w v n hn h => by
                  subst hn
                  unfold JtR
                  rw [List.length_append, List.length_take, List.flatMap_append, show min c8 l1.length = c8 by omega]
                  exact row_mono h (by omega))
                have HFI := Lib.hid (show ∀ (w : World) v, JtR w12.heap.size w v ((l1.take c8 ++ [⟨xt, xs, xa, xb, xc⟩]) ++ l1.drop c8) → JtR wr.heap.size w v (insI ⟨xt, xs, xa, xb, xc⟩ l1) from fun w v h => by
                  rw [insI_at, HPL.out]
                  have h2 := row_mono h HBW.out.size
                  unfold JtR at *
                  rw [List.append_assoc, List.singleton_append] at h2
                  exact h2)
                have hjs : (l1.take c8 ++ [(⟨xt, xs, xa, xb, xc⟩ : It)]).length + (l1.drop c8).length ≤ 100000 := by rw [List.length_append, List.length_take, List.length_drop, List.length_singleton]; omega
                have HJS := Lib.hid hjs
                clear hjs
                go_wp2
                go_region_held3 (fun w => w.cell? ⟨wr.heap.size, 0, none⟩ = some (.int .i64 xt) ∧ w.cell? ⟨wr.heap.size, 1, none⟩ = some (.int .i64 xs) ∧ w.cell? ⟨wr.heap.size, 2, none⟩ = some (.int .i64 xa) ∧ w.cell? ⟨wr.heap.size, 3, none⟩ = some (.int .i64 xb) ∧ w.cell? ⟨wr.heap.size, 4, none⟩ = some (.int .i64 xc))
                  (first | (refine HK.out _ ?_; repeat (first | assumption | exact Below.refl _ _ | refine Below.drew ?_ | refine Below.alloc ?_ (by first | exact Nat.le_refl _ | simp) _)))
                  (first
                    | (refine step_append_grows rfl (.tmp 90) (.tmp 92) 29 rfl 59 iT (.agg #[.int .i64 0, .int .i64 0, .int .i64 0, .int .i64 0, .int .i64 0]) 5 40 Try.underlying29 hT0 hT1 hT2 hT3 rfl (by decide) (some ⟨gy, 0, none⟩) c8 c8 ((l1.take c8).flatMap c5) ?f1 (fun e => by cases e) HLO.out ?holds ⟨w12.heap.size, 0, none⟩ 1 1 [.int .i64 xt, .int .i64 xs, .int .i64 xa, .int .i64 xb, .int .i64 xc] ?f2 rfl ?news (by intro u hu; simp at hu; rcases hu with rfl | rfl | rfl | rfl | rfl <;> rfl) (by omega) (by unfold maxLen; omega) (by omega) ?_; (case f1 => (simp [Act.eval] <;> fail)); (case f2 => (simp [Act.eval] <;> fail)); (case holds => (refine HOK.out _ ?_; (repeat (first | exact Below.refl _ _ | refine Below.drew ?_ | refine Below.alloc ?_ (by first | exact Nat.le_refl _ | simp) _)))); (case news => exact HNW.out _); intro v13 w13 hr13 hg13; have hb13 : Below w12.heap.size w12 w13 := (by refine Below.grown ?aa hg13 ?bb (fun k hk => by cases hk); (case aa => (repeat (first | exact Below.refl _ _ | refine Below.drew ?_ | refine Below.alloc ?_ (by first | exact Nat.le_refl _ | simp) _))); (case bb => (first | (simp; done) | exact Nat.le_succ _))); have hj13 := HMK.out _ _ _ (by simp) hr13; clear hr13 hg13)
                    | (refine step_app_jt rfl (.tmp 93) (.tmp 94) rfl (B := w12.heap.size) (N := wr.heap.size + 1) (v := v13) (l := l1.take c8 ++ [⟨xt, xs, xa, xb, xc⟩]) (new := l1.drop c8) ?f3 ?f4 hj13 (row_below HR12.out hb13) HJS.out hb13.size ?_; (case f3 => (simp [Act.eval] <;> fail)); (case f4 => (first | (simp [Act.eval] <;> fail) | (simp [Act.eval, HZ0.out] <;> fail))); intro v14 w14 hr14 hg14 hf14; have hb14 : Below w12.heap.size w12 w14 := hb13.grown hg14 hb13.size (fun k hk => (World.ownsRow.lt hj13 k hk).1))
                    | fail)
                go_wp2
                go_roundg g
                case measure => exact Nat.lt_succ_self g
                case rel =>
                  refine ⟨i + 1, HI.out, by go_num, ?_⟩
                  rw [HPT.out.1, HPT.out.2]
                  exact HJ.out.took (HBW.out.trans (hb14.mono HBW.out.size)) (HFI.out _ _ hr14)
              · go_wp2
                go_quiet (fail)
                go_wp2_with (at_builtin; refine wpList_app_src rfl (.tmp 82) (.tmp 85) rfl (B := wr.heap.size + 1) (l := []) (new := []) ?ax8 ?cx8 rfl ?hx8 (emp_it ((wr.alloc (.cells #[.int .i64 xt, .int .i64 xs, .int .i64 xa, .int .i64 xb, .int .i64 xc] 59)).drewN (q + nq)) (by simp) (Nat.le_refl _)) (by have := HLW.out.1; simp only [List.length_nil]; omega) (by simp) (.inl rfl) ?_; (case hx8 => (first | rfl | (show Value.slice _ (l1.length - j) _ = _; rw [HZ0.out]; rfl) | (simp only [Act.eval, HZ0.out]; rfl) | (simp [Act.eval]; done) | (simp [Act.eval, List.length_drop] <;> fail))); intro v12 w12 hr12 hg12 hf12; rw [List.nil_append] at hr12; have hr12 : JtR (wr.heap.size + 1) w12 v12 (l1.drop j) := (by rw [HDZ.out]; exact hr12); have HR12 := Lib.hid hr12; have HB12 := Lib.hid (((below_drewJ (Below.refl (wr.alloc (.cells #[.int .i64 xt, .int .i64 xs, .int .i64 xa, .int .i64 xb, .int .i64 xc] 59)).heap.size (wr.alloc (.cells #[.int .i64 xt, .int .i64 xs, .int .i64 xa, .int .i64 xb, .int .i64 xc] 59))) (q + nq)).alloc (by simp) (.cells #[] 59)).grown hg12 (by simp) (fun k hk => by have e : some (wr.heap.size + 1) = some k := hk; injection e with e; simp; omega)); obtain ⟨A12, c12, hv12, _⟩ := row_shape hr12; subst hv12; clear hr12 hg12 hf12)
                have hx5 := (Fb.new wr 59 #[.int .i64 xt, .int .i64 xs, .int .i64 xa, .int .i64 xb, .int .i64 xc]).below HB12.out
                have HK := Lib.hid (show ∀ w, Below w12.heap.size w12 w → w.cell? ⟨wr.heap.size, 0, none⟩ = some (.int .i64 xt) ∧ w.cell? ⟨wr.heap.size, 1, none⟩ = some (.int .i64 xs) ∧ w.cell? ⟨wr.heap.size, 2, none⟩ = some (.int .i64 xa) ∧ w.cell? ⟨wr.heap.size, 3, none⟩ = some (.int .i64 xb) ∧ w.cell? ⟨wr.heap.size, 4, none⟩ = some (.int .i64 xc) from fun w hb => ⟨(hx5.below hb).cell 0, (hx5.below hb).cell 1, (hx5.below hb).cell 2, (hx5.below hb).cell 3, (hx5.below hb).cell 4⟩)
                obtain ⟨x0, x1, x2, x3, x4⟩ := HK.out w12 (Below.refl _ _)
                have hbw : Below wr.heap.size wr w12 := ((Below.refl wr.heap.size wr).alloc (Nat.le_refl _) _).trans (HB12.out.mono (by simp))
                have HBW := Lib.hid hbw
                clear hx5 hbw
                obtain ⟨iT, hT0, hT1, hT2, hT3⟩ := info_parts jitInfo
                have HNW := Lib.hid (fun w2 : World => World.news_of_block (heap_alloc_new w2 (.cells #[.int .i64 xt, .int .i64 xs, .int .i64 xa, .int .i64 xb, .int .i64 xc] 59)))
                have HOK := Lib.hid (show ∀ w, Below w12.heap.size w12 w → ∀ b, some (⟨gy, 0, none⟩ : Addr) = some b → ∀ k u, ((l1.take j).flatMap c5)[k]? = some u → w.cell? (b.add k) = some u from fun w hb b e => by cases e; exact jt_pre (row_below HJ.out.o (HBW.out.trans (hb.mono HBW.out.size))) j)
                have HLO := Lib.hid (show ((l1.take j).flatMap c5).length = j * 5 from by rw [flat_takeI, List.length_take, HJ.out.o.1]; omega)
                have HMK := Lib.hid (show ∀ (w : World) v n, n = w12.heap.size + 1 → w.ownsRow n 59 5 v (j + 1) ((l1.take j).flatMap c5 ++ [.int .i64 xt, .int .i64 xs, .int .i64 xa, .int .i64 xb, .int .i64 xc]) → JtR w12.heap.size w v (l1.take j ++ [⟨xt, xs, xa, xb, xc⟩]) from fun w v n hn h => by
                  subst hn
                  unfold JtR
                  rw [List.length_append, List.length_take, List.flatMap_append, show min j l1.length = j by omega]
                  exact row_mono h (by omega))
                have HFI := Lib.hid (show ∀ (w : World) v, JtR w12.heap.size w v ((l1.take j ++ [⟨xt, xs, xa, xb, xc⟩]) ++ l1.drop j) → JtR wr.heap.size w v (insI ⟨xt, xs, xa, xb, xc⟩ l1) from fun w v h => by
                  rw [insI_at, HPL.out]
                  have h2 := row_mono h HBW.out.size
                  unfold JtR at *
                  rw [List.append_assoc, List.singleton_append] at h2
                  exact h2)
                have hjs : (l1.take j ++ [(⟨xt, xs, xa, xb, xc⟩ : It)]).length + (l1.drop j).length ≤ 100000 := by rw [List.length_append, List.length_take, List.length_drop, List.length_singleton]; omega
                have HJS := Lib.hid hjs
                clear hjs
                go_wp2
                go_region_held3 (fun w => w.cell? ⟨wr.heap.size, 0, none⟩ = some (.int .i64 xt) ∧ w.cell? ⟨wr.heap.size, 1, none⟩ = some (.int .i64 xs) ∧ w.cell? ⟨wr.heap.size, 2, none⟩ = some (.int .i64 xa) ∧ w.cell? ⟨wr.heap.size, 3, none⟩ = some (.int .i64 xb) ∧ w.cell? ⟨wr.heap.size, 4, none⟩ = some (.int .i64 xc))
                  (first | (refine HK.out _ ?_; repeat (first | assumption | exact Below.refl _ _ | refine Below.drew ?_ | refine Below.alloc ?_ (by first | exact Nat.le_refl _ | simp) _)))
                  (first
                    | (refine step_append_grows rfl (.tmp 90) (.tmp 92) 29 rfl 59 iT (.agg #[.int .i64 0, .int .i64 0, .int .i64 0, .int .i64 0, .int .i64 0]) 5 40 Try.underlying29 hT0 hT1 hT2 hT3 rfl (by decide) (some ⟨gy, 0, none⟩) j j ((l1.take j).flatMap c5) ?f1 (fun e => by cases e) HLO.out ?holds ⟨w12.heap.size, 0, none⟩ 1 1 [.int .i64 xt, .int .i64 xs, .int .i64 xa, .int .i64 xb, .int .i64 xc] ?f2 rfl ?news (by intro u hu; simp at hu; rcases hu with rfl | rfl | rfl | rfl | rfl <;> rfl) (by omega) (by unfold maxLen; omega) (by omega) ?_; (case f1 => (simp [Act.eval] <;> fail)); (case f2 => (simp [Act.eval] <;> fail)); (case holds => (refine HOK.out _ ?_; (repeat (first | exact Below.refl _ _ | refine Below.drew ?_ | refine Below.alloc ?_ (by first | exact Nat.le_refl _ | simp) _)))); (case news => exact HNW.out _); intro v13 w13 hr13 hg13; have hb13 : Below w12.heap.size w12 w13 := (by refine Below.grown ?aa hg13 ?bb (fun k hk => by cases hk); (case aa => (repeat (first | exact Below.refl _ _ | refine Below.drew ?_ | refine Below.alloc ?_ (by first | exact Nat.le_refl _ | simp) _))); (case bb => (first | (simp; done) | exact Nat.le_succ _))); have hj13 := HMK.out _ _ _ (by simp) hr13; clear hr13 hg13)
                    | (refine step_app_jt rfl (.tmp 93) (.tmp 94) rfl (B := w12.heap.size) (N := wr.heap.size + 1) (v := v13) (l := l1.take j ++ [⟨xt, xs, xa, xb, xc⟩]) (new := l1.drop j) ?f3 ?f4 hj13 (row_below HR12.out hb13) HJS.out hb13.size ?_; (case f3 => (simp [Act.eval] <;> fail)); (case f4 => (first | (simp [Act.eval] <;> fail) | (simp [Act.eval, HZ0.out] <;> fail))); intro v14 w14 hr14 hg14 hf14; have hb14 : Below w12.heap.size w12 w14 := hb13.grown hg14 hb13.size (fun k hk => (World.ownsRow.lt hj13 k hk).1))
                    | fail)
                go_wp2
                go_roundg g
                case measure => exact Nat.lt_succ_self g
                case rel =>
                  refine ⟨i + 1, HI.out, by go_num, ?_⟩
                  rw [HPT.out.1, HPT.out.2]
                  exact HJ.out.took (HBW.out.trans (hb14.mono HBW.out.size)) (HFI.out _ _ hr14)
          | succ g2 =>
            have hjn : (j : Int) < (l1.length : Int) := by omega
            have hjl : j < l1.length := by omega
            have dj : decide ((j : Int) < (l1.length : Int)) = true := decide_eq_true hjn
            have dj' : decide (j < l1.length) = true := decide_eq_true hjl
            obtain ⟨y, hy⟩ : ∃ y, l1[j]? = some y := ⟨_, List.getElem?_eq_getElem hjl⟩
            have hgo := plI_go hjp hy
            obtain ⟨gy, c8', ey, r0, r1, r2, r3, r4⟩ := jt_at HJ.out.o hy
            injection ey with ey _ ey'
            subst ey
            subst ey'
            have hgyl : gy < wr.heap.size := (World.ownsRow.lt HJ.out.o gy rfl).2
            obtain ⟨yt, ys, ya, yb, yc⟩ := y
            unfold ltI at hgo
            dsimp only at *
            have HGO := Lib.hid hgo
            have HIJ := Lib.hid (show j + 1 + g2 = l1.length from by omega)
            clear hgo hjg hjp hy
            by_cases ht : yt < xt
            · have HGP := Lib.hid (HGO.out.1 (by have : ¬ yt = xt := by omega
                                                 simp [ht, this, show yt ≤ xt from by omega]))
              go_wp2
              go_quiet (fail)
              go_wp2
              go_roundg g2
              case measure => exact Nat.lt_succ_self g2
              case rel => exact ⟨j + 1, _, HIJ.out, by go_num, HGP.out, rfl⟩
            · by_cases he : yt = xt
              · have he2 := he.symm
                subst he2
                have hee : (xt == xt) = true := beq_self_eq_true xt
                by_cases hs : ys < xs
                · have HGP := Lib.hid (HGO.out.1 (by simp [hs]))
                  go_wp2
                  go_quiet (fail)
                  go_wp2
                  go_roundg g2
                  case measure => exact Nat.lt_succ_self g2
                  case rel => exact ⟨j + 1, _, HIJ.out, by go_num, HGP.out, rfl⟩
                · have HPL := Lib.hid (HGO.out.2 (by simp [hs]))
                  have hjle : (j : Int) ≤ (l1.length : Int) := by omega
                  have hcj : ¬ c8 = j := by omega
                  have hjc8 : (j : Int) ≤ (c8 : Int) := by omega
                  go_wp2
                  go_quiet (fail)
                  go_wp2_with (at_builtin; refine wpList_app_src rfl (.tmp 82) (.tmp 85) rfl (B := wr.heap.size + 1) (l := []) (new := (l1.drop j)) (some ⟨gy, j * 5, none⟩) (c8 - j) rfl ?hx (emp_it ((wr.alloc (.cells #[.int .i64 xt, .int .i64 xs, .int .i64 xa, .int .i64 xb, .int .i64 xc] 59)).drewN (q + nq)) (by simp) (Nat.le_refl _)) (by have := HLW.out.1; simp only [List.length_nil, List.length_drop]; omega) (by simp) (.inr ⟨_, rfl, jt_src (row_below HJ.out.o ((below_drewJ ((Below.refl _ _).alloc (Nat.le_refl _) _) (q + nq)).alloc (by simp) _)) j⟩) ?_; (case hx => (first | rfl | (simp [Act.eval]; done) | (simp [Act.eval, List.length_drop] <;> fail))); intro v12 w12 hr12 hg12 hf12; rw [List.nil_append] at hr12; have HR12 := Lib.hid hr12; have HB12 := Lib.hid (((below_drewJ (Below.refl (wr.alloc (.cells #[.int .i64 xt, .int .i64 xs, .int .i64 xa, .int .i64 xb, .int .i64 xc] 59)).heap.size (wr.alloc (.cells #[.int .i64 xt, .int .i64 xs, .int .i64 xa, .int .i64 xb, .int .i64 xc] 59))) (q + nq)).alloc (by simp) (.cells #[] 59)).grown hg12 (by simp) (fun k hk => by have e : some (wr.heap.size + 1) = some k := hk; injection e with e; simp; omega)); obtain ⟨A12, c12, hv12, _⟩ := row_shape hr12; subst hv12; clear hr12 hg12 hf12)
                  have hx5 := (Fb.new wr 59 #[.int .i64 xt, .int .i64 xs, .int .i64 xa, .int .i64 xb, .int .i64 xc]).below HB12.out
                  have HK := Lib.hid (show ∀ w, Below w12.heap.size w12 w → w.cell? ⟨wr.heap.size, 0, none⟩ = some (.int .i64 xt) ∧ w.cell? ⟨wr.heap.size, 1, none⟩ = some (.int .i64 xs) ∧ w.cell? ⟨wr.heap.size, 2, none⟩ = some (.int .i64 xa) ∧ w.cell? ⟨wr.heap.size, 3, none⟩ = some (.int .i64 xb) ∧ w.cell? ⟨wr.heap.size, 4, none⟩ = some (.int .i64 xc) from fun w hb => ⟨(hx5.below hb).cell 0, (hx5.below hb).cell 1, (hx5.below hb).cell 2, (hx5.below hb).cell 3, (hx5.below hb).cell 4⟩)
                  obtain ⟨x0, x1, x2, x3, x4⟩ := HK.out w12 (Below.refl _ _)
                  have hbw : Below wr.heap.size wr w12 := ((Below.refl wr.heap.size wr).alloc (Nat.le_refl _) _).trans (HB12.out.mono (by simp))
                  have HBW := Lib.hid hbw
                  clear hx5 hbw
                  obtain ⟨iT, hT0, hT1, hT2, hT3⟩ := info_parts jitInfo
                  have HNW := Lib.hid (fun w2 : World => World.news_of_block (heap_alloc_new w2 (.cells #[.int .i64 xt, .int .i64 xs, .int .i64 xa, .int .i64 xb, .int .i64 xc] 59)))
                  have HOK := Lib.hid (show ∀ w, Below w12.heap.size w12 w → ∀ b, some (⟨gy, 0, none⟩ : Addr) = some b → ∀ k u, ((l1.take j).flatMap c5)[k]? = some u → w.cell? (b.add k) = some u from fun w hb b e => by cases e; exact jt_pre (row_below HJ.out.o (HBW.out.trans (hb.mono HBW.out.size))) j)
                  have HLO := Lib.hid (show ((l1.take j).flatMap c5).length = j * 5 from by rw [flat_takeI, List.length_take, HJ.out.o.1]; omega)
                  have HMK := Lib.hid (show ∀ (w : World) v n, n = w12.heap.size + 1 → w.ownsRow n 59 5 v (j + 1) ((l1.take j).flatMap c5 ++ [.int .i64 xt, .int .i64 xs, .int .i64 xa, .int .i64 xb, .int .i64 xc]) → JtR w12.heap.size w v (l1.take j ++ [⟨xt, xs, xa, xb, xc⟩]) from fun w v n hn h => by
                    subst hn
                    unfold JtR
                    rw [List.length_append, List.length_take, List.flatMap_append, show min j l1.length = j by omega]
                    exact row_mono h (by omega))
                  have HFI := Lib.hid (show ∀ (w : World) v, JtR w12.heap.size w v ((l1.take j ++ [⟨xt, xs, xa, xb, xc⟩]) ++ l1.drop j) → JtR wr.heap.size w v (insI ⟨xt, xs, xa, xb, xc⟩ l1) from fun w v h => by
                    rw [insI_at, HPL.out]
                    have h2 := row_mono h HBW.out.size
                    unfold JtR at *
                    rw [List.append_assoc, List.singleton_append] at h2
                    exact h2)
                  have hjs : (l1.take j ++ [(⟨xt, xs, xa, xb, xc⟩ : It)]).length + (l1.drop j).length ≤ 100000 := by rw [List.length_append, List.length_take, List.length_drop, List.length_singleton]; omega
                  have HJS := Lib.hid hjs
                  clear hjs
                  rcases Nat.eq_zero_or_pos j with h0 | h0
                  · subst h0
                    go_wp2
                    go_region_held3 (fun w => w.cell? ⟨wr.heap.size, 0, none⟩ = some (.int .i64 xt) ∧ w.cell? ⟨wr.heap.size, 1, none⟩ = some (.int .i64 xs) ∧ w.cell? ⟨wr.heap.size, 2, none⟩ = some (.int .i64 xa) ∧ w.cell? ⟨wr.heap.size, 3, none⟩ = some (.int .i64 xb) ∧ w.cell? ⟨wr.heap.size, 4, none⟩ = some (.int .i64 xc))
                      (first | (refine HK.out _ ?_; repeat (first | assumption | exact Below.refl _ _ | refine Below.drew ?_ | refine Below.alloc ?_ (by first | exact Nat.le_refl _ | simp) _)))
                      (first
                        | (refine step_append_grows rfl (.tmp 90) (.tmp 92) 29 rfl 59 iT (.agg #[.int .i64 0, .int .i64 0, .int .i64 0, .int .i64 0, .int .i64 0]) 5 40 Try.underlying29 hT0 hT1 hT2 hT3 rfl (by decide) (some ⟨gy, 0, none⟩) 0 0 ((l1.take 0).flatMap c5) ?f1 (fun e => by cases e) HLO.out ?holds ⟨w12.heap.size, 0, none⟩ 1 1 [.int .i64 xt, .int .i64 xs, .int .i64 xa, .int .i64 xb, .int .i64 xc] ?f2 rfl ?news (by intro u hu; simp at hu; rcases hu with rfl | rfl | rfl | rfl | rfl <;> rfl) (by omega) (by unfold maxLen; omega) (by omega) ?_; (case f1 => (simp [Act.eval] <;> fail)); (case f2 => (simp [Act.eval] <;> fail)); (case holds => (refine HOK.out _ ?_; (repeat (first | exact Below.refl _ _ | refine Below.drew ?_ | refine Below.alloc ?_ (by first | exact Nat.le_refl _ | simp) _)))); (case news => exact HNW.out _); intro v13 w13 hr13 hg13; have hb13 : Below w12.heap.size w12 w13 := (by refine Below.grown ?aa hg13 ?bb (fun k hk => by cases hk); (case aa => (repeat (first | exact Below.refl _ _ | refine Below.drew ?_ | refine Below.alloc ?_ (by first | exact Nat.le_refl _ | simp) _))); (case bb => (first | (simp; done) | exact Nat.le_succ _))); have hj13 := HMK.out _ _ _ (by simp) hr13; clear hr13 hg13)
                        | (refine step_app_jt rfl (.tmp 93) (.tmp 94) rfl (B := w12.heap.size) (N := wr.heap.size + 1) (v := v13) (l := l1.take 0 ++ [⟨xt, xs, xa, xb, xc⟩]) (new := l1.drop 0) ?f3 ?f4 hj13 (row_below HR12.out hb13) HJS.out hb13.size ?_; (case f3 => (simp [Act.eval] <;> fail)); (case f4 => (simp [Act.eval] <;> fail)); intro v14 w14 hr14 hg14 hf14; have hb14 : Below w12.heap.size w12 w14 := hb13.grown hg14 hb13.size (fun k hk => (World.ownsRow.lt hj13 k hk).1))
                        | fail)
                    go_wp2
                    go_roundg g
                    case measure => exact Nat.lt_succ_self g
                    case rel =>
                      refine ⟨i + 1, HI.out, by go_num, ?_⟩
                      rw [HPT.out.1, HPT.out.2]
                      exact HJ.out.took (HBW.out.trans (hb14.mono HBW.out.size)) (HFI.out _ _ hr14)
                  · have hj0 : ¬ j = 0 := by omega
                    have hj0' : ¬ 0 = j := by omega
                    clear h0
                    go_wp2
                    go_region_held3 (fun w => w.cell? ⟨wr.heap.size, 0, none⟩ = some (.int .i64 xt) ∧ w.cell? ⟨wr.heap.size, 1, none⟩ = some (.int .i64 xs) ∧ w.cell? ⟨wr.heap.size, 2, none⟩ = some (.int .i64 xa) ∧ w.cell? ⟨wr.heap.size, 3, none⟩ = some (.int .i64 xb) ∧ w.cell? ⟨wr.heap.size, 4, none⟩ = some (.int .i64 xc))
                      (first | (refine HK.out _ ?_; repeat (first | assumption | exact Below.refl _ _ | refine Below.drew ?_ | refine Below.alloc ?_ (by first | exact Nat.le_refl _ | simp) _)))
                      (first
                        | (refine step_append_grows rfl (.tmp 90) (.tmp 92) 29 rfl 59 iT (.agg #[.int .i64 0, .int .i64 0, .int .i64 0, .int .i64 0, .int .i64 0]) 5 40 Try.underlying29 hT0 hT1 hT2 hT3 rfl (by decide) (some ⟨gy, 0, none⟩) j j ((l1.take j).flatMap c5) ?f1 (fun e => by cases e) HLO.out ?holds ⟨w12.heap.size, 0, none⟩ 1 1 [.int .i64 xt, .int .i64 xs, .int .i64 xa, .int .i64 xb, .int .i64 xc] ?f2 rfl ?news (by intro u hu; simp at hu; rcases hu with rfl | rfl | rfl | rfl | rfl <;> rfl) (by omega) (by unfold maxLen; omega) (by omega) ?_; (case f1 => (simp [Act.eval] <;> fail)); (case f2 => (simp [Act.eval] <;> fail)); (case holds => (refine HOK.out _ ?_; (repeat (first | exact Below.refl _ _ | refine Below.drew ?_ | refine Below.alloc ?_ (by first | exact Nat.le_refl _ | simp) _)))); (case news => exact HNW.out _); intro v13 w13 hr13 hg13; have hb13 : Below w12.heap.size w12 w13 := (by refine Below.grown ?aa hg13 ?bb (fun k hk => by cases hk); (case aa => (repeat (first | exact Below.refl _ _ | refine Below.drew ?_ | refine Below.alloc ?_ (by first | exact Nat.le_refl _ | simp) _))); (case bb => (first | (simp; done) | exact Nat.le_succ _))); have hj13 := HMK.out _ _ _ (by simp) hr13; clear hr13 hg13)
                        | (refine step_app_jt rfl (.tmp 93) (.tmp 94) rfl (B := w12.heap.size) (N := wr.heap.size + 1) (v := v13) (l := l1.take j ++ [⟨xt, xs, xa, xb, xc⟩]) (new := l1.drop j) ?f3 ?f4 hj13 (row_below HR12.out hb13) HJS.out hb13.size ?_; (case f3 => (simp [Act.eval] <;> fail)); (case f4 => (simp [Act.eval] <;> fail)); intro v14 w14 hr14 hg14 hf14; have hb14 : Below w12.heap.size w12 w14 := hb13.grown hg14 hb13.size (fun k hk => (World.ownsRow.lt hj13 k hk).1))
                        | fail)
                    go_wp2
                    go_roundg g
                    case measure => exact Nat.lt_succ_self g
                    case rel =>
                      refine ⟨i + 1, HI.out, by go_num, ?_⟩
                      rw [HPT.out.1, HPT.out.2]
                      exact HJ.out.took (HBW.out.trans (hb14.mono HBW.out.size)) (HFI.out _ _ hr14)
              · have hee : (yt == xt) = false := by rw [beq_eq_false_iff_ne]; exact he
                have he2 : ¬ xt = yt := fun e => he e.symm
                have hd0 : decide (yt = xt) = false := decide_eq_false he
                have hd1 : decide (yt < xt) = false := decide_eq_false ht
                have HPL := Lib.hid (HGO.out.2 (by simp [ht, he]))
                have hjle : (j : Int) ≤ (l1.length : Int) := by omega
                have hcj : ¬ c8 = j := by omega
                have hjc8 : (j : Int) ≤ (c8 : Int) := by omega
                go_wp2
                go_quiet (fail)
                go_wp2_with (at_builtin; refine wpList_app_src rfl (.tmp 82) (.tmp 85) rfl (B := wr.heap.size + 1) (l := []) (new := (l1.drop j)) (some ⟨gy, j * 5, none⟩) (c8 - j) rfl ?hx (emp_it ((wr.alloc (.cells #[.int .i64 xt, .int .i64 xs, .int .i64 xa, .int .i64 xb, .int .i64 xc] 59)).drewN (q + nq)) (by simp) (Nat.le_refl _)) (by have := HLW.out.1; simp only [List.length_nil, List.length_drop]; omega) (by simp) (.inr ⟨_, rfl, jt_src (row_below HJ.out.o ((below_drewJ ((Below.refl _ _).alloc (Nat.le_refl _) _) (q + nq)).alloc (by simp) _)) j⟩) ?_; (case hx => (first | rfl | (simp [Act.eval]; done) | (simp [Act.eval, List.length_drop] <;> fail))); intro v12 w12 hr12 hg12 hf12; rw [List.nil_append] at hr12; have HR12 := Lib.hid hr12; have HB12 := Lib.hid (((below_drewJ (Below.refl (wr.alloc (.cells #[.int .i64 xt, .int .i64 xs, .int .i64 xa, .int .i64 xb, .int .i64 xc] 59)).heap.size (wr.alloc (.cells #[.int .i64 xt, .int .i64 xs, .int .i64 xa, .int .i64 xb, .int .i64 xc] 59))) (q + nq)).alloc (by simp) (.cells #[] 59)).grown hg12 (by simp) (fun k hk => by have e : some (wr.heap.size + 1) = some k := hk; injection e with e; simp; omega)); obtain ⟨A12, c12, hv12, _⟩ := row_shape hr12; subst hv12; clear hr12 hg12 hf12)
                have hx5 := (Fb.new wr 59 #[.int .i64 xt, .int .i64 xs, .int .i64 xa, .int .i64 xb, .int .i64 xc]).below HB12.out
                have HK := Lib.hid (show ∀ w, Below w12.heap.size w12 w → w.cell? ⟨wr.heap.size, 0, none⟩ = some (.int .i64 xt) ∧ w.cell? ⟨wr.heap.size, 1, none⟩ = some (.int .i64 xs) ∧ w.cell? ⟨wr.heap.size, 2, none⟩ = some (.int .i64 xa) ∧ w.cell? ⟨wr.heap.size, 3, none⟩ = some (.int .i64 xb) ∧ w.cell? ⟨wr.heap.size, 4, none⟩ = some (.int .i64 xc) from fun w hb => ⟨(hx5.below hb).cell 0, (hx5.below hb).cell 1, (hx5.below hb).cell 2, (hx5.below hb).cell 3, (hx5.below hb).cell 4⟩)
                obtain ⟨x0, x1, x2, x3, x4⟩ := HK.out w12 (Below.refl _ _)
                have hbw : Below wr.heap.size wr w12 := ((Below.refl wr.heap.size wr).alloc (Nat.le_refl _) _).trans (HB12.out.mono (by simp))
                have HBW := Lib.hid hbw
                clear hx5 hbw
                obtain ⟨iT, hT0, hT1, hT2, hT3⟩ := info_parts jitInfo
                have HNW := Lib.hid (fun w2 : World => World.news_of_block (heap_alloc_new w2 (.cells #[.int .i64 xt, .int .i64 xs, .int .i64 xa, .int .i64 xb, .int .i64 xc] 59)))
                have HOK := Lib.hid (show ∀ w, Below w12.heap.size w12 w → ∀ b, some (⟨gy, 0, none⟩ : Addr) = some b → ∀ k u, ((l1.take j).flatMap c5)[k]? = some u → w.cell? (b.add k) = some u from fun w hb b e => by cases e; exact jt_pre (row_below HJ.out.o (HBW.out.trans (hb.mono HBW.out.size))) j)
                have HLO := Lib.hid (show ((l1.take j).flatMap c5).length = j * 5 from by rw [flat_takeI, List.length_take, HJ.out.o.1]; omega)
                have HMK := Lib.hid (show ∀ (w : World) v n, n = w12.heap.size + 1 → w.ownsRow n 59 5 v (j + 1) ((l1.take j).flatMap c5 ++ [.int .i64 xt, .int .i64 xs, .int .i64 xa, .int .i64 xb, .int .i64 xc]) → JtR w12.heap.size w v (l1.take j ++ [⟨xt, xs, xa, xb, xc⟩]) from fun w v n hn h => by
                  subst hn
                  unfold JtR
                  rw [List.length_append, List.length_take, List.flatMap_append, show min j l1.length = j by omega]
                  exact row_mono h (by omega))
                have HFI := Lib.hid (show ∀ (w : World) v, JtR w12.heap.size w v ((l1.take j ++ [⟨xt, xs, xa, xb, xc⟩]) ++ l1.drop j) → JtR wr.heap.size w v (insI ⟨xt, xs, xa, xb, xc⟩ l1) from fun w v h => by
                  rw [insI_at, HPL.out]
                  have h2 := row_mono h HBW.out.size
                  unfold JtR at *
                  rw [List.append_assoc, List.singleton_append] at h2
                  exact h2)
                have hjs : (l1.take j ++ [(⟨xt, xs, xa, xb, xc⟩ : It)]).length + (l1.drop j).length ≤ 100000 := by rw [List.length_append, List.length_take, List.length_drop, List.length_singleton]; omega
                have HJS := Lib.hid hjs
                clear hjs
                rcases Nat.eq_zero_or_pos j with h0 | h0
                · subst h0
                  go_wp2
                  go_region_held3 (fun w => w.cell? ⟨wr.heap.size, 0, none⟩ = some (.int .i64 xt) ∧ w.cell? ⟨wr.heap.size, 1, none⟩ = some (.int .i64 xs) ∧ w.cell? ⟨wr.heap.size, 2, none⟩ = some (.int .i64 xa) ∧ w.cell? ⟨wr.heap.size, 3, none⟩ = some (.int .i64 xb) ∧ w.cell? ⟨wr.heap.size, 4, none⟩ = some (.int .i64 xc))
                    (first | (refine HK.out _ ?_; repeat (first | assumption | exact Below.refl _ _ | refine Below.drew ?_ | refine Below.alloc ?_ (by first | exact Nat.le_refl _ | simp) _)))
                    (first
                      | (refine step_append_grows rfl (.tmp 90) (.tmp 92) 29 rfl 59 iT (.agg #[.int .i64 0, .int .i64 0, .int .i64 0, .int .i64 0, .int .i64 0]) 5 40 Try.underlying29 hT0 hT1 hT2 hT3 rfl (by decide) (some ⟨gy, 0, none⟩) 0 0 ((l1.take 0).flatMap c5) ?f1 (fun e => by cases e) HLO.out ?holds ⟨w12.heap.size, 0, none⟩ 1 1 [.int .i64 xt, .int .i64 xs, .int .i64 xa, .int .i64 xb, .int .i64 xc] ?f2 rfl ?news (by intro u hu; simp at hu; rcases hu with rfl | rfl | rfl | rfl | rfl <;> rfl) (by omega) (by unfold maxLen; omega) (by omega) ?_; (case f1 => (simp [Act.eval] <;> fail)); (case f2 => (simp [Act.eval] <;> fail)); (case holds => (refine HOK.out _ ?_; (repeat (first | exact Below.refl _ _ | refine Below.drew ?_ | refine Below.alloc ?_ (by first | exact Nat.le_refl _ | simp) _)))); (case news => exact HNW.out _); intro v13 w13 hr13 hg13; have hb13 : Below w12.heap.size w12 w13 := (by refine Below.grown ?aa hg13 ?bb (fun k hk => by cases hk); (case aa => (repeat (first | exact Below.refl _ _ | refine Below.drew ?_ | refine Below.alloc ?_ (by first | exact Nat.le_refl _ | simp) _))); (case bb => (first | (simp; done) | exact Nat.le_succ _))); have hj13 := HMK.out _ _ _ (by simp) hr13; clear hr13 hg13)
                      | (refine step_app_jt rfl (.tmp 93) (.tmp 94) rfl (B := w12.heap.size) (N := wr.heap.size + 1) (v := v13) (l := l1.take 0 ++ [⟨xt, xs, xa, xb, xc⟩]) (new := l1.drop 0) ?f3 ?f4 hj13 (row_below HR12.out hb13) HJS.out hb13.size ?_; (case f3 => (simp [Act.eval] <;> fail)); (case f4 => (simp [Act.eval] <;> fail)); intro v14 w14 hr14 hg14 hf14; have hb14 : Below w12.heap.size w12 w14 := hb13.grown hg14 hb13.size (fun k hk => (World.ownsRow.lt hj13 k hk).1))
                      | fail)
                  go_wp2
                  go_roundg g
                  case measure => exact Nat.lt_succ_self g
                  case rel =>
                    refine ⟨i + 1, HI.out, by go_num, ?_⟩
                    rw [HPT.out.1, HPT.out.2]
                    exact HJ.out.took (HBW.out.trans (hb14.mono HBW.out.size)) (HFI.out _ _ hr14)
                · have hj0 : ¬ j = 0 := by omega
                  have hj0' : ¬ 0 = j := by omega
                  clear h0
                  go_wp2
                  go_region_held3 (fun w => w.cell? ⟨wr.heap.size, 0, none⟩ = some (.int .i64 xt) ∧ w.cell? ⟨wr.heap.size, 1, none⟩ = some (.int .i64 xs) ∧ w.cell? ⟨wr.heap.size, 2, none⟩ = some (.int .i64 xa) ∧ w.cell? ⟨wr.heap.size, 3, none⟩ = some (.int .i64 xb) ∧ w.cell? ⟨wr.heap.size, 4, none⟩ = some (.int .i64 xc))
                    (first | (refine HK.out _ ?_; repeat (first | assumption | exact Below.refl _ _ | refine Below.drew ?_ | refine Below.alloc ?_ (by first | exact Nat.le_refl _ | simp) _)))
                    (first
                      | (refine step_append_grows rfl (.tmp 90) (.tmp 92) 29 rfl 59 iT (.agg #[.int .i64 0, .int .i64 0, .int .i64 0, .int .i64 0, .int .i64 0]) 5 40 Try.underlying29 hT0 hT1 hT2 hT3 rfl (by decide) (some ⟨gy, 0, none⟩) j j ((l1.take j).flatMap c5) ?f1 (fun e => by cases e) HLO.out ?holds ⟨w12.heap.size, 0, none⟩ 1 1 [.int .i64 xt, .int .i64 xs, .int .i64 xa, .int .i64 xb, .int .i64 xc] ?f2 rfl ?news (by intro u hu; simp at hu; rcases hu with rfl | rfl | rfl | rfl | rfl <;> rfl) (by omega) (by unfold maxLen; omega) (by omega) ?_; (case f1 => (simp [Act.eval] <;> fail)); (case f2 => (simp [Act.eval] <;> fail)); (case holds => (refine HOK.out _ ?_; (repeat (first | exact Below.refl _ _ | refine Below.drew ?_ | refine Below.alloc ?_ (by first | exact Nat.le_refl _ | simp) _)))); (case news => exact HNW.out _); intro v13 w13 hr13 hg13; have hb13 : Below w12.heap.size w12 w13 := (by refine Below.grown ?aa hg13 ?bb (fun k hk => by cases hk); (case aa => (repeat (first | exact Below.refl _ _ | refine Below.drew ?_ | refine Below.alloc ?_ (by first | exact Nat.le_refl _ | simp) _))); (case bb => (first | (simp; done) | exact Nat.le_succ _))); have hj13 := HMK.out _ _ _ (by simp) hr13; clear hr13 hg13)
                      | (refine step_app_jt rfl (.tmp 93) (.tmp 94) rfl (B := w12.heap.size) (N := wr.heap.size + 1) (v := v13) (l := l1.take j ++ [⟨xt, xs, xa, xb, xc⟩]) (new := l1.drop j) ?f3 ?f4 hj13 (row_below HR12.out hb13) HJS.out hb13.size ?_; (case f3 => (simp [Act.eval] <;> fail)); (case f4 => (simp [Act.eval] <;> fail)); intro v14 w14 hr14 hg14 hf14; have hb14 : Below w12.heap.size w12 w14 := hb13.grown hg14 hb13.size (fun k hk => (World.ownsRow.lt hj13 k hk).1))
                      | fail)
                  go_wp2
                  go_roundg g
                  case measure => exact Nat.lt_succ_self g
                  case rel =>
                    refine ⟨i + 1, HI.out, by go_num, ?_⟩
                    rw [HPT.out.1, HPT.out.2]
                    exact HJ.out.took (HBW.out.trans (hb14.mono HBW.out.size)) (HFI.out _ _ hr14)
end Go.Proofs.Ytagidmghmbfnpaa
