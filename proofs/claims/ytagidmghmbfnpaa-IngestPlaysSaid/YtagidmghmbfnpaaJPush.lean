/-
  THE DOCUMENT's Push.
-/
import Derived.Test.YtagidmghmbfnpaaJSame
namespace Go.Proofs.Ytagidmghmbfnpaa
open Go.RowKit
set_option linter.unusedVariables false
set_option linter.unusedSimpArgs false
set_option maxRecDepth 100000

def Mb.push (m : Mb) (t k0 k1 k2 : Int) : Mb × Int :=
  if m.closed = true then (m, 14)
  else if instB t = false then (m, 2)
  else if (mkM m.lat (m.seen ++ m.shown)).2 = true ∧ t < (mkM m.lat (m.seen ++ m.shown)).1 then ({ m with late := m.late + 1 }, 7)
  else if m.room ≤ (m.wait.length : Int) then (m, 6)
  else ({ m with wait := m.wait ++ [⟨t, m.num, k0, k1, k2⟩], seen := m.seen ++ [t], num := m.num + 1 }, 0)
theorem wr_late {x : Int} (h0 : 0 ≤ x) (h1 : x ≤ 100000) : IntKind.i64.wrap (x + 1) = x + 1 ∧ wrap64 (x + 1) = x + 1 := ⟨IntWalk.i64_in _ (by omega), by (first | exact IntWalk.i64_in _ (by omega) | (unfold wrap64; omega))⟩
theorem alloc2_h (w : World) (o o' : Obj) : ((w.alloc o).alloc o').heap[w.heap.size + 1]? = some o' := by
  have := heap_alloc_new (w.alloc o) o'
  rw [World.size_alloc] at this
  exact this
theorem emp_h {W : World} {n B : Nat} (hh : W.heap[n]? = some (.cells #[] 59 (0, 0))) (hB : B ≤ n) : JtR B W (.slice (some ⟨n, 0, none⟩) 0 0) [] := ⟨by simp, .inr ⟨n, 0, #[], rfl, hB, hh, Nat.le_refl _, by decide, by simp, by simp⟩⟩
theorem one_h {W : World} {n : Nat} {t s a b c : Int} (hh : W.heap[n]? = some (.cells #[.int .i64 t, .int .i64 s, .int .i64 a, .int .i64 b, .int .i64 c] 59 (0, 0))) : JtR n W (.slice (some ⟨n, 0, none⟩) 1 1) [⟨t, s, a, b, c⟩] := ⟨by simp [c5], .inr ⟨n, 1, _, rfl, Nat.le_refl _, hh, Nat.le_refl _, by decide, by simp, by simp [c5]⟩⟩
theorem below_drewP {B : Nat} {W0 W : World} (h : Below B W0 W) (q : Nat) : Below B W0 (W.drewN q) := ⟨h.os, h.tape, h.output, h.size, h.block⟩
theorem iinst_j (t : Int) (w : World) : Calls Try.prog 17 #[.int .i64 t] w fun e w' => e = .returned (.bool (instB t)) ∧ w = w' := jinst_any t w
set_option maxHeartbeats 16000000 in
theorem jpush_closed {B : Nat} {m : Mb} {vw vs vh : Value} {W : World} (h : Mm B m vw vs vh W) (ho : m.ok) (hn : (0 ≤ m.num ∧ m.num ≤ 100000) ∧ 0 ≤ m.late ∧ m.late ≤ 100000) (hB : B ≤ W.heap.size) (t q0 q1 q2 : Int) (hc : m.closed = true) :
    Calls Try.prog 6 #[.agg (m.cells vw vs vh), .int .i64 t, .agg #[.int .i64 q0, .int .i64 q1, .int .i64 q2]] W (JPost B (m, 14) W) := by
  obtain ⟨Aw, cw, rfl, _⟩ := row_shape h.rw
  obtain ⟨As, ce, rfl, _⟩ := row_shape h.rs
  obtain ⟨Ah, ch, rfl, _⟩ := row_shape h.rh
  have cI := iinst_j t
  have hsame : ∀ c : Int, (∀ w', Below W.heap.size W w' → JPost B (m, c) W (.returned (.tuple #[.agg (m.cells (.slice Aw m.wait.length cw) (.slice As m.seen.length ce) (.slice Ah m.shown.length ch)), .int .i64 c])) w') := fun c w' hb => ⟨_, _, _, rfl, hb, h.below hb⟩
  have HS := Lib.hid hsame
  have hX : Jx W W.heap.size (W.heap.size + 1 + 1) (m.cells (.slice Aw m.wait.length cw) (.slice As m.seen.length ce) (.slice Ah m.shown.length ch)) (((W.alloc (.cells (m.cells (.slice Aw m.wait.length cw) (.slice As m.seen.length ce) (.slice Ah m.shown.length ch)) 32)).alloc (.cells #[.int .i64 q0, .int .i64 q1, .int .i64 q2] 33)).alloc (.cells mz 32)) := by
    refine ⟨(((Below.refl _ _).alloc (Nat.le_refl _) _).alloc (by simp) _).alloc (by simp; omega) _, ((Fb.new _ _ _).alloc _).alloc _, ⟨mz, ?_, rfl⟩, Nat.le_refl _, by omega, by omega⟩
    have := Fb.new ((W.alloc (.cells (m.cells (.slice Aw m.wait.length cw) (.slice As m.seen.length ce) (.slice Ah m.shown.length ch)) 32)).alloc (.cells #[.int .i64 q0, .int .i64 q1, .int .i64 q2] 33)) 32 mz
    simpa using this
  have hK : Fb (((W.alloc (.cells (m.cells (.slice Aw m.wait.length cw) (.slice As m.seen.length ce) (.slice Ah m.shown.length ch)) 32)).alloc (.cells #[.int .i64 q0, .int .i64 q1, .int .i64 q2] 33)).alloc (.cells mz 32)) (W.heap.size + 1) 33 #[.int .i64 q0, .int .i64 q1, .int .i64 q2] := by
    have := (Fb.new (W.alloc (.cells (m.cells (.slice Aw m.wait.length cw) (.slice As m.seen.length ce) (.slice Ah m.shown.length ch)) 32)) 33 #[.int .i64 q0, .int .i64 q1, .int .i64 q2]).alloc (.cells mz 32)
    simpa using this
  have HK := Lib.hid hK
  have HX := Lib.hid hX
  have HM := Lib.hid h
  have HBB := Lib.hid hB
  have cM := fun (w : World) (hb : Below W.heap.size W w) => jmark_any (h.below hb) ho
  generalize mkM m.lat (m.seen ++ m.shown) = MK at *
  obtain ⟨M, K⟩ := MK
  dsimp only at *
  have HO := Lib.hid ho
  have HN := Lib.hid hn
  obtain ⟨wl1, wl2⟩ := wr_late hn.2.1 hn.2.2
  obtain ⟨wn1, wn2⟩ := wr_late hn.1.1 hn.1.2
  have hbx := hX.b
  unfold Mb.cells at cM HX HS hbx HK ⊢
  rw [hc] at *
  clear h ho hB hsame hX hn hK
  go_enter Try.func6, Try.ntmps6
  go_wp2_with (first
    | (go_at_call 16; (with_reducible refine (cM _ hbx).mono ?_); rintro e w1 ⟨rfl, hb1⟩; have hX1 := HX.out.below hb1; obtain ⟨⟨y0, y1, y2, y3, y4, y5, y6, y7, k0, k1, k2, k3, k4, k5, k6, k7⟩, hf, hl4, hl2⟩ := hX1.c4; have f0 := hf 0; have f1 := hf 1; have f2 := hf 2; have f3 := hf 3; have f4 := hf 4; have f5 := hf 5; have f6 := hf 6; have f7 := hf 7; have p0 := hX1.x2.cell 0; have p1 := hX1.x2.cell 1; have p2 := hX1.x2.cell 2; have p3 := hX1.x2.cell 3; have p4 := hX1.x2.cell 4; have p5 := hX1.x2.cell 5; have p6 := hX1.x2.cell 6; have p7 := hX1.x2.cell 7; have g2 := hX1.x2.free 2; have g3 := hX1.x2.free 3; have g5 := hX1.x2.free 5; have g6 := hX1.x2.free 6; have HX1 := Lib.hid hX1; have HB1 := Lib.hid hb1; clear hX1 hf hb1)
    | (go_at_call 17; (with_reducible refine (cI _).mono ?_); rintro e w2 ⟨rfl, rfl⟩)
    | fail)
  refine bodyPost_ret (v := .tuple #[.agg #[.int .i64 m.lat, .int .i64 m.room, .slice Aw m.wait.length cw, .slice As m.seen.length ce, .slice Ah m.shown.length ch, .int .i64 (m.num), .int .i64 (m.late), .bool true], .int .i64 14]) ?_ rfl (HS.out 14 _ (st8_below HX1.out.b HX1.out.n4 _ _ _ _ _ _ _ _))
  simp [results, Try.results6, go_sem, st8, k0, k1, k2, k3, k4, k5, k6, k7, hl4]
set_option maxHeartbeats 16000000 in
theorem jpush_range {B : Nat} {m : Mb} {vw vs vh : Value} {W : World} (h : Mm B m vw vs vh W) (ho : m.ok) (hn : (0 ≤ m.num ∧ m.num ≤ 100000) ∧ 0 ≤ m.late ∧ m.late ≤ 100000) (hB : B ≤ W.heap.size) (t q0 q1 q2 : Int) (hc : m.closed = false) (hi : instB t = false) :
    Calls Try.prog 6 #[.agg (m.cells vw vs vh), .int .i64 t, .agg #[.int .i64 q0, .int .i64 q1, .int .i64 q2]] W (JPost B (m, 2) W) := by
  obtain ⟨Aw, cw, rfl, _⟩ := row_shape h.rw
  obtain ⟨As, ce, rfl, _⟩ := row_shape h.rs
  obtain ⟨Ah, ch, rfl, _⟩ := row_shape h.rh
  have cI := iinst_j t
  have hsame : ∀ c : Int, (∀ w', Below W.heap.size W w' → JPost B (m, c) W (.returned (.tuple #[.agg (m.cells (.slice Aw m.wait.length cw) (.slice As m.seen.length ce) (.slice Ah m.shown.length ch)), .int .i64 c])) w') := fun c w' hb => ⟨_, _, _, rfl, hb, h.below hb⟩
  have HS := Lib.hid hsame
  have hX : Jx W W.heap.size (W.heap.size + 1 + 1) (m.cells (.slice Aw m.wait.length cw) (.slice As m.seen.length ce) (.slice Ah m.shown.length ch)) (((W.alloc (.cells (m.cells (.slice Aw m.wait.length cw) (.slice As m.seen.length ce) (.slice Ah m.shown.length ch)) 32)).alloc (.cells #[.int .i64 q0, .int .i64 q1, .int .i64 q2] 33)).alloc (.cells mz 32)) := by
    refine ⟨(((Below.refl _ _).alloc (Nat.le_refl _) _).alloc (by simp) _).alloc (by simp; omega) _, ((Fb.new _ _ _).alloc _).alloc _, ⟨mz, ?_, rfl⟩, Nat.le_refl _, by omega, by omega⟩
    have := Fb.new ((W.alloc (.cells (m.cells (.slice Aw m.wait.length cw) (.slice As m.seen.length ce) (.slice Ah m.shown.length ch)) 32)).alloc (.cells #[.int .i64 q0, .int .i64 q1, .int .i64 q2] 33)) 32 mz
    simpa using this
  have hK : Fb (((W.alloc (.cells (m.cells (.slice Aw m.wait.length cw) (.slice As m.seen.length ce) (.slice Ah m.shown.length ch)) 32)).alloc (.cells #[.int .i64 q0, .int .i64 q1, .int .i64 q2] 33)).alloc (.cells mz 32)) (W.heap.size + 1) 33 #[.int .i64 q0, .int .i64 q1, .int .i64 q2] := by
    have := (Fb.new (W.alloc (.cells (m.cells (.slice Aw m.wait.length cw) (.slice As m.seen.length ce) (.slice Ah m.shown.length ch)) 32)) 33 #[.int .i64 q0, .int .i64 q1, .int .i64 q2]).alloc (.cells mz 32)
    simpa using this
  have HK := Lib.hid hK
  have HX := Lib.hid hX
  have HM := Lib.hid h
  have HBB := Lib.hid hB
  have cM := fun (w : World) (hb : Below W.heap.size W w) => jmark_any (h.below hb) ho
  generalize mkM m.lat (m.seen ++ m.shown) = MK at *
  obtain ⟨M, K⟩ := MK
  dsimp only at *
  have HO := Lib.hid ho
  have HN := Lib.hid hn
  obtain ⟨wl1, wl2⟩ := wr_late hn.2.1 hn.2.2
  obtain ⟨wn1, wn2⟩ := wr_late hn.1.1 hn.1.2
  have hbx := hX.b
  unfold Mb.cells at cM HX HS hbx HK ⊢
  rw [hc] at *
  rw [hi] at cI
  clear h ho hB hsame hX hn hK
  go_enter Try.func6, Try.ntmps6
  go_wp2_with (first
    | (go_at_call 16; (with_reducible refine (cM _ hbx).mono ?_); rintro e w1 ⟨rfl, hb1⟩; have hX1 := HX.out.below hb1; obtain ⟨⟨y0, y1, y2, y3, y4, y5, y6, y7, k0, k1, k2, k3, k4, k5, k6, k7⟩, hf, hl4, hl2⟩ := hX1.c4; have f0 := hf 0; have f1 := hf 1; have f2 := hf 2; have f3 := hf 3; have f4 := hf 4; have f5 := hf 5; have f6 := hf 6; have f7 := hf 7; have p0 := hX1.x2.cell 0; have p1 := hX1.x2.cell 1; have p2 := hX1.x2.cell 2; have p3 := hX1.x2.cell 3; have p4 := hX1.x2.cell 4; have p5 := hX1.x2.cell 5; have p6 := hX1.x2.cell 6; have p7 := hX1.x2.cell 7; have g2 := hX1.x2.free 2; have g3 := hX1.x2.free 3; have g5 := hX1.x2.free 5; have g6 := hX1.x2.free 6; have HX1 := Lib.hid hX1; have HB1 := Lib.hid hb1; clear hX1 hf hb1)
    | (go_at_call 17; (with_reducible refine (cI _).mono ?_); rintro e w2 ⟨rfl, rfl⟩)
    | fail)
  refine bodyPost_ret (v := .tuple #[.agg #[.int .i64 m.lat, .int .i64 m.room, .slice Aw m.wait.length cw, .slice As m.seen.length ce, .slice Ah m.shown.length ch, .int .i64 (m.num), .int .i64 (m.late), .bool false], .int .i64 2]) ?_ rfl (HS.out 2 _ (st8_below HX1.out.b HX1.out.n4 _ _ _ _ _ _ _ _))
  simp [results, Try.results6, go_sem, st8, k0, k1, k2, k3, k4, k5, k6, k7, hl4]
set_option maxHeartbeats 16000000 in
theorem jpush_late {B : Nat} {m : Mb} {vw vs vh : Value} {W : World} (h : Mm B m vw vs vh W) (ho : m.ok) (hn : (0 ≤ m.num ∧ m.num ≤ 100000) ∧ 0 ≤ m.late ∧ m.late ≤ 100000) (hB : B ≤ W.heap.size) (t q0 q1 q2 : Int) (hc : m.closed = false) (hi : instB t = true) (hm2 : (mkM m.lat (m.seen ++ m.shown)).2 = true) (hm1 : t < (mkM m.lat (m.seen ++ m.shown)).1) :
    Calls Try.prog 6 #[.agg (m.cells vw vs vh), .int .i64 t, .agg #[.int .i64 q0, .int .i64 q1, .int .i64 q2]] W (JPost B ({ m with late := m.late + 1 }, 7) W) := by
  obtain ⟨Aw, cw, rfl, _⟩ := row_shape h.rw
  obtain ⟨As, ce, rfl, _⟩ := row_shape h.rs
  obtain ⟨Ah, ch, rfl, _⟩ := row_shape h.rh
  have cI := iinst_j t
  have hsame : ∀ c : Int, (∀ w', Below W.heap.size W w' → JPost B (m, c) W (.returned (.tuple #[.agg (m.cells (.slice Aw m.wait.length cw) (.slice As m.seen.length ce) (.slice Ah m.shown.length ch)), .int .i64 c])) w') := fun c w' hb => ⟨_, _, _, rfl, hb, h.below hb⟩
  have HS := Lib.hid hsame
  have hX : Jx W W.heap.size (W.heap.size + 1 + 1) (m.cells (.slice Aw m.wait.length cw) (.slice As m.seen.length ce) (.slice Ah m.shown.length ch)) (((W.alloc (.cells (m.cells (.slice Aw m.wait.length cw) (.slice As m.seen.length ce) (.slice Ah m.shown.length ch)) 32)).alloc (.cells #[.int .i64 q0, .int .i64 q1, .int .i64 q2] 33)).alloc (.cells mz 32)) := by
    refine ⟨(((Below.refl _ _).alloc (Nat.le_refl _) _).alloc (by simp) _).alloc (by simp; omega) _, ((Fb.new _ _ _).alloc _).alloc _, ⟨mz, ?_, rfl⟩, Nat.le_refl _, by omega, by omega⟩
    have := Fb.new ((W.alloc (.cells (m.cells (.slice Aw m.wait.length cw) (.slice As m.seen.length ce) (.slice Ah m.shown.length ch)) 32)).alloc (.cells #[.int .i64 q0, .int .i64 q1, .int .i64 q2] 33)) 32 mz
    simpa using this
  have hK : Fb (((W.alloc (.cells (m.cells (.slice Aw m.wait.length cw) (.slice As m.seen.length ce) (.slice Ah m.shown.length ch)) 32)).alloc (.cells #[.int .i64 q0, .int .i64 q1, .int .i64 q2] 33)).alloc (.cells mz 32)) (W.heap.size + 1) 33 #[.int .i64 q0, .int .i64 q1, .int .i64 q2] := by
    have := (Fb.new (W.alloc (.cells (m.cells (.slice Aw m.wait.length cw) (.slice As m.seen.length ce) (.slice Ah m.shown.length ch)) 32)) 33 #[.int .i64 q0, .int .i64 q1, .int .i64 q2]).alloc (.cells mz 32)
    simpa using this
  have HK := Lib.hid hK
  have HX := Lib.hid hX
  have HM := Lib.hid h
  have HBB := Lib.hid hB
  have cM := fun (w : World) (hb : Below W.heap.size W w) => jmark_any (h.below hb) ho
  generalize mkM m.lat (m.seen ++ m.shown) = MK at *
  obtain ⟨M, K⟩ := MK
  dsimp only at *
  have HO := Lib.hid ho
  have HN := Lib.hid hn
  obtain ⟨wl1, wl2⟩ := wr_late hn.2.1 hn.2.2
  obtain ⟨wn1, wn2⟩ := wr_late hn.1.1 hn.1.2
  have hbx := hX.b
  unfold Mb.cells at cM HX HS hbx HK ⊢
  rw [hc] at *
  rw [hi] at cI
  subst hm2
  clear h ho hB hsame hX hn hK
  go_enter Try.func6, Try.ntmps6
  go_wp2_with (first
    | (go_at_call 16; (with_reducible refine (cM _ hbx).mono ?_); rintro e w1 ⟨rfl, hb1⟩; have hX1 := HX.out.below hb1; obtain ⟨⟨y0, y1, y2, y3, y4, y5, y6, y7, k0, k1, k2, k3, k4, k5, k6, k7⟩, hf, hl4, hl2⟩ := hX1.c4; have f0 := hf 0; have f1 := hf 1; have f2 := hf 2; have f3 := hf 3; have f4 := hf 4; have f5 := hf 5; have f6 := hf 6; have f7 := hf 7; have p0 := hX1.x2.cell 0; have p1 := hX1.x2.cell 1; have p2 := hX1.x2.cell 2; have p3 := hX1.x2.cell 3; have p4 := hX1.x2.cell 4; have p5 := hX1.x2.cell 5; have p6 := hX1.x2.cell 6; have p7 := hX1.x2.cell 7; have g2 := hX1.x2.free 2; have g3 := hX1.x2.free 3; have g5 := hX1.x2.free 5; have g6 := hX1.x2.free 6; have HX1 := Lib.hid hX1; have HB1 := Lib.hid hb1; clear hX1 hf hb1)
    | (go_at_call 17; (with_reducible refine (cI _).mono ?_); rintro e w2 ⟨rfl, rfl⟩)
    | fail)
  have HL := Lib.hid (show JPost B ({ m with late := m.late + 1, closed := false }, 7) W (.returned (.tuple #[.agg #[.int .i64 m.lat, .int .i64 m.room, .slice Aw m.wait.length cw, .slice As m.seen.length ce, .slice Ah m.shown.length ch, .int .i64 (m.num), .int .i64 (m.late + 1), .bool false], .int .i64 7])) (st8 (w1.setCell ⟨W.heap.size, 6, none⟩ (.int .i64 (m.late + 1))) (W.heap.size + 1 + 1) (.int .i64 m.lat) (.int .i64 m.room) (.slice Aw m.wait.length cw) (.slice As m.seen.length ce) (.slice Ah m.shown.length ch) (.int .i64 m.num) (.int .i64 (m.late + 1)) (.bool false)) from by
    have hMr := HM.out.below HX1.out.b
    have hk := fun {ty : TypeId} {z n : Nat} {u : Value} {xs : List Value} {B' : Nat} (hr : w1.ownsRow B' ty z u n xs) (hne : ty ≠ 32) => row_heap (W' := st8 (w1.setCell ⟨W.heap.size, 6, none⟩ (.int .i64 (m.late + 1))) (W.heap.size + 1 + 1) (.int .i64 m.lat) (.int .i64 m.room) (.slice Aw m.wait.length cw) (.slice As m.seen.length ce) (.slice Ah m.shown.length ch) (.int .i64 m.num) (.int .i64 (m.late + 1)) (.bool false)) hr fun k hk => (by rw [st8_far _ _ _ _ _ _ _ _ _ _ (HX1.out.row hr hne k hk).2, Below.heap_setCell _ _ _ _ (HX1.out.row hr hne k hk).1])
    exact ⟨_, _, _, rfl, st8_below (Below.setCell HX1.out.b (p := ⟨W.heap.size, 6, none⟩) HX1.out.n2 _) HX1.out.n4 _ _ _ _ _ _ _ _, ⟨hk hMr.rw jit_ne, hk hMr.rs jin_ne, hk hMr.rh jin_ne⟩⟩)
  refine bodyPost_ret (v := .tuple #[.agg #[.int .i64 m.lat, .int .i64 m.room, .slice Aw m.wait.length cw, .slice As m.seen.length ce, .slice Ah m.shown.length ch, .int .i64 (m.num), .int .i64 (m.late + 1), .bool false], .int .i64 7]) ?_ rfl HL.out
  simp [results, Try.results6, go_sem, st8, k0, k1, k2, k3, k4, k5, k6, k7, hl4, hl2]
set_option maxHeartbeats 16000000 in
theorem jpush_full {B : Nat} {m : Mb} {vw vs vh : Value} {W : World} (h : Mm B m vw vs vh W) (ho : m.ok) (hn : (0 ≤ m.num ∧ m.num ≤ 100000) ∧ 0 ≤ m.late ∧ m.late ≤ 100000) (hB : B ≤ W.heap.size) (t q0 q1 q2 : Int) (hc : m.closed = false) (hi : instB t = true) (hm : ¬ ((mkM m.lat (m.seen ++ m.shown)).2 = true ∧ t < (mkM m.lat (m.seen ++ m.shown)).1)) (hf0 : m.room ≤ (m.wait.length : Int)) :
    Calls Try.prog 6 #[.agg (m.cells vw vs vh), .int .i64 t, .agg #[.int .i64 q0, .int .i64 q1, .int .i64 q2]] W (JPost B (m, 6) W) := by
  obtain ⟨Aw, cw, rfl, _⟩ := row_shape h.rw
  obtain ⟨As, ce, rfl, _⟩ := row_shape h.rs
  obtain ⟨Ah, ch, rfl, _⟩ := row_shape h.rh
  have cI := iinst_j t
  have hsame : ∀ c : Int, (∀ w', Below W.heap.size W w' → JPost B (m, c) W (.returned (.tuple #[.agg (m.cells (.slice Aw m.wait.length cw) (.slice As m.seen.length ce) (.slice Ah m.shown.length ch)), .int .i64 c])) w') := fun c w' hb => ⟨_, _, _, rfl, hb, h.below hb⟩
  have HS := Lib.hid hsame
  have hX : Jx W W.heap.size (W.heap.size + 1 + 1) (m.cells (.slice Aw m.wait.length cw) (.slice As m.seen.length ce) (.slice Ah m.shown.length ch)) (((W.alloc (.cells (m.cells (.slice Aw m.wait.length cw) (.slice As m.seen.length ce) (.slice Ah m.shown.length ch)) 32)).alloc (.cells #[.int .i64 q0, .int .i64 q1, .int .i64 q2] 33)).alloc (.cells mz 32)) := by
    refine ⟨(((Below.refl _ _).alloc (Nat.le_refl _) _).alloc (by simp) _).alloc (by simp; omega) _, ((Fb.new _ _ _).alloc _).alloc _, ⟨mz, ?_, rfl⟩, Nat.le_refl _, by omega, by omega⟩
    have := Fb.new ((W.alloc (.cells (m.cells (.slice Aw m.wait.length cw) (.slice As m.seen.length ce) (.slice Ah m.shown.length ch)) 32)).alloc (.cells #[.int .i64 q0, .int .i64 q1, .int .i64 q2] 33)) 32 mz
    simpa using this
  have hK : Fb (((W.alloc (.cells (m.cells (.slice Aw m.wait.length cw) (.slice As m.seen.length ce) (.slice Ah m.shown.length ch)) 32)).alloc (.cells #[.int .i64 q0, .int .i64 q1, .int .i64 q2] 33)).alloc (.cells mz 32)) (W.heap.size + 1) 33 #[.int .i64 q0, .int .i64 q1, .int .i64 q2] := by
    have := (Fb.new (W.alloc (.cells (m.cells (.slice Aw m.wait.length cw) (.slice As m.seen.length ce) (.slice Ah m.shown.length ch)) 32)) 33 #[.int .i64 q0, .int .i64 q1, .int .i64 q2]).alloc (.cells mz 32)
    simpa using this
  have HK := Lib.hid hK
  have HX := Lib.hid hX
  have HM := Lib.hid h
  have HBB := Lib.hid hB
  have cM := fun (w : World) (hb : Below W.heap.size W w) => jmark_any (h.below hb) ho
  generalize mkM m.lat (m.seen ++ m.shown) = MK at *
  obtain ⟨M, K⟩ := MK
  dsimp only at *
  have HO := Lib.hid ho
  have HN := Lib.hid hn
  obtain ⟨wl1, wl2⟩ := wr_late hn.2.1 hn.2.2
  obtain ⟨wn1, wn2⟩ := wr_late hn.1.1 hn.1.2
  have hbx := hX.b
  unfold Mb.cells at cM HX HS hbx HK ⊢
  rw [hc] at *
  rw [hi] at cI
  have hkm : K = false ∨ (K = true ∧ ¬ t < M) := by cases K <;> simp at hm ⊢ <;> omega
  clear hm
  clear h ho hB hsame hX hn hK
  go_enter Try.func6, Try.ntmps6
  rcases hkm with rfl | ⟨rfl, hkm⟩ <;>
  go_wp2_with (first
    | (go_at_call 16; (with_reducible refine (cM _ hbx).mono ?_); rintro e w1 ⟨rfl, hb1⟩; have hX1 := HX.out.below hb1; obtain ⟨⟨y0, y1, y2, y3, y4, y5, y6, y7, k0, k1, k2, k3, k4, k5, k6, k7⟩, hf, hl4, hl2⟩ := hX1.c4; have f0 := hf 0; have f1 := hf 1; have f2 := hf 2; have f3 := hf 3; have f4 := hf 4; have f5 := hf 5; have f6 := hf 6; have f7 := hf 7; have p0 := hX1.x2.cell 0; have p1 := hX1.x2.cell 1; have p2 := hX1.x2.cell 2; have p3 := hX1.x2.cell 3; have p4 := hX1.x2.cell 4; have p5 := hX1.x2.cell 5; have p6 := hX1.x2.cell 6; have p7 := hX1.x2.cell 7; have g2 := hX1.x2.free 2; have g3 := hX1.x2.free 3; have g5 := hX1.x2.free 5; have g6 := hX1.x2.free 6; have HX1 := Lib.hid hX1; have HB1 := Lib.hid hb1; clear hX1 hf hb1)
    | (go_at_call 17; (with_reducible refine (cI _).mono ?_); rintro e w2 ⟨rfl, rfl⟩)
    | fail)
  all_goals
    refine bodyPost_ret (v := .tuple #[.agg #[.int .i64 m.lat, .int .i64 m.room, .slice Aw m.wait.length cw, .slice As m.seen.length ce, .slice Ah m.shown.length ch, .int .i64 (m.num), .int .i64 (m.late), .bool false], .int .i64 6]) ?_ rfl (HS.out 6 _ (st8_below HX1.out.b HX1.out.n4 _ _ _ _ _ _ _ _))
    simp [results, Try.results6, go_sem, st8, k0, k1, k2, k3, k4, k5, k6, k7, hl4]
end Go.Proofs.Ytagidmghmbfnpaa
