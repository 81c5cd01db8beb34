/-
  THE DOCUMENT's Push: its fifth way.
-/
import Derived.Test.YtagidmghmbfnpaaJPushD
import Derived.Deep.RegionHeldLaw
import Derived.Deep.CutBlock
namespace Go.Proofs.Ytagidmghmbfnpaa
open Go.RowKit
set_option linter.unusedVariables false
set_option linter.unusedSimpArgs false
set_option maxRecDepth 100000

set_option maxHeartbeats 16000000 in
theorem jpush_ok2 {B : Nat} {m : Mb} {vw vs vh : Value} {W : World} (h : Mm B m vw vs vh W) (ho : m.ok) (hn : (0 ≤ m.num ∧ m.num ≤ 100000) ∧ 0 ≤ m.late ∧ m.late ≤ 100000) (hB : B ≤ W.heap.size) (t q0 q1 q2 : Int) (hc : m.closed = false) (hi : instB t = true) (hf0 : ¬ m.room ≤ (m.wait.length : Int)) (hK : (mkM m.lat (m.seen ++ m.shown)).2 = true) (hkm : ¬ t < (mkM m.lat (m.seen ++ m.shown)).1) :
    Calls Try.prog 6 #[.agg (m.cells vw vs vh), .int .i64 t, .agg #[.int .i64 q0, .int .i64 q1, .int .i64 q2]] W (JPost B ({ m with wait := m.wait ++ [⟨t, m.num, q0, q1, q2⟩], seen := m.seen ++ [t], num := m.num + 1 }, 0) W) := by
  obtain ⟨Aw, cw, rfl, _⟩ := row_shape h.rw
  obtain ⟨As, ce, rfl, _⟩ := row_shape h.rs
  obtain ⟨Ah, ch, rfl, _⟩ := row_shape h.rh
  have cI := iinst_j t
  have hsame : ∀ c : Int, (∀ w', Below W.heap.size W w' → JPost B (m, c) W (.returned (.tuple #[.agg (m.cells (.slice Aw m.wait.length cw) (.slice As m.seen.length ce) (.slice Ah m.shown.length ch)), .int .i64 c])) w') := fun c w' hb => ⟨_, _, _, rfl, hb, h.below hb⟩
  have HS := Lib.hid hsame
  have hX : Jx W W.heap.size (W.heap.size + 1 + 1) (m.cells (.slice Aw m.wait.length cw) (.slice As m.seen.length ce) (.slice Ah m.shown.length ch)) (((W.alloc (.cells (m.cells (.slice Aw m.wait.length cw) (.slice As m.seen.length ce) (.slice Ah m.shown.length ch)) 32)).alloc (.cells #[.int .i64 q0, .int .i64 q1, .int .i64 q2] 33)).alloc (.cells mz 32)) := by
    refine ⟨(((Below.refl _ _).alloc (Nat.le_refl _) _).alloc (by simp) _).alloc (by simp; omega) _, ((Fb.new _ _ _).alloc _).alloc _, ⟨mz, ?_, rfl⟩, Nat.le_refl _, by omega, by omega⟩
    have := Fb.new ((W.alloc (.cells (m.cells (.slice Aw m.wait.length cw) (.slice As m.seen.length ce) (.slice Ah m.shown.length ch)) 32)).alloc (.cells #[.int .i64 q0, .int .i64 q1, .int .i64 q2] 33)) 32 mz
    simpa using this
  have hK : Fb (((W.alloc (.cells (m.cells (.slice Aw m.wait.length cw) (.slice As m.seen.length ce) (.slice Ah m.shown.length ch)) 32)).alloc (.cells #[.int .i64 q0, .int .i64 q1, .int .i64 q2] 33)).alloc (.cells mz 32)) (W.heap.size + 1) 33 #[.int .i64 q0, .int .i64 q1, .int .i64 q2] := by
    have := (Fb.new (W.alloc (.cells (m.cells (.slice Aw m.wait.length cw) (.slice As m.seen.length ce) (.slice Ah m.shown.length ch)) 32)) 33 #[.int .i64 q0, .int .i64 q1, .int .i64 q2]).alloc (.cells mz 32)
    simpa using this
  have HK := Lib.hid hK
  have HX := Lib.hid hX
  have HM := Lib.hid h
  have HBB := Lib.hid hB
  have cM := fun (w : World) (hb : Below W.heap.size W w) => jmark_any (h.below hb) ho
  generalize mkM m.lat (m.seen ++ m.shown) = MK at *
  obtain ⟨M, K⟩ := MK
  dsimp only at *
  have HO := Lib.hid ho
  have HN := Lib.hid hn
  obtain ⟨wl1, wl2⟩ := wr_late hn.2.1 hn.2.2
  obtain ⟨wn1, wn2⟩ := wr_late hn.1.1 hn.1.2
  have hbx := hX.b
  unfold Mb.cells at cM HX HS hbx HK ⊢
  rw [hc] at *
  rw [hi] at cI
  subst hK
  clear h ho hB hsame hX hn hK
  go_enter Try.func6, Try.ntmps6
  go_upto_region 11 with (first
    | (go_at_call 16; (with_reducible refine (cM _ hbx).mono ?_); rintro e w1 ⟨rfl, hb1⟩; have hX1 := HX.out.below hb1; obtain ⟨⟨y0, y1, y2, y3, y4, y5, y6, y7, k0, k1, k2, k3, k4, k5, k6, k7⟩, hf, hl4, hl2⟩ := hX1.c4; have f0 := hf 0; have f1 := hf 1; have f2 := hf 2; have f3 := hf 3; have f4 := hf 4; have f5 := hf 5; have f6 := hf 6; have f7 := hf 7; have p0 := hX1.x2.cell 0; have p1 := hX1.x2.cell 1; have p2 := hX1.x2.cell 2; have p3 := hX1.x2.cell 3; have p4 := hX1.x2.cell 4; have p5 := hX1.x2.cell 5; have p6 := hX1.x2.cell 6; have p7 := hX1.x2.cell 7; have g2 := hX1.x2.free 2; have g3 := hX1.x2.free 3; have g5 := hX1.x2.free 5; have g6 := hX1.x2.free 6; have HX1 := Lib.hid hX1; have HB1 := Lib.hid hb1; clear hX1 hf hb1)
    | (go_at_call 17; (with_reducible refine (cI _).mono ?_); rintro e w2 ⟨rfl, rfl⟩)
    | fail)
  have HK1 := Lib.hid (HK.out.below HB1.out)
  have hk0 := HK1.out.cell 0
  have hk1 := HK1.out.cell 1
  have hk2 := HK1.out.cell 2
  have HKA := fun o : Obj => (HK1.out.alloc o)
  have hka0 := fun o : Obj => (HKA o).cell 0
  have hka1 := fun o : Obj => (HKA o).cell 1
  have hka2 := fun o : Obj => (HKA o).cell 2
  have hpa := fun o : Obj => (HX1.out.below ((Below.refl _ _).alloc (Nat.le_refl _) o)).x2
  have hpa2 := fun o : Obj => (hpa o).cell 2
  have hpa5 := fun o : Obj => (hpa o).cell 5
  simp at hka0 hka1 hka2 hpa2 hpa5
  clear HKA hpa
  have HZ7 := Lib.hid (show ([] : List It).length + m.wait.length ≤ 100000 from by have := HO.out.zw; simp; omega)
  have HZ8 := Lib.hid (show (([] : List It) ++ m.wait).length + [(⟨t, m.num, q0, q1, q2⟩ : It)].length ≤ 100000 from by have := HO.out.zw; simp; omega)
  go_cut [] from 44 (fun wx => ∃ A8 c8, PsW W W.heap.size (W.heap.size + 1 + 1) (.int .i64 m.lat) (.int .i64 m.room) (.slice As m.seen.length ce) (.slice Ah m.shown.length ch) (.int .i64 m.num) (.int .i64 m.late) (.bool false) A8 (m.wait.length + 1) c8 (m.wait ++ [⟨t, m.num, q0, q1, q2⟩]) wx)
  case first =>
    go_region_law
      (first
      | (refine step_app_jt rfl (.tmp 44) (.tmp 46) rfl (B := w1.heap.size) (N := B) (v := .slice (some ⟨w1.heap.size, 0, none⟩) 0 0) (u := .slice Aw m.wait.length cw) (l := []) (new := m.wait) ?fa1 ?fb1 ?hv1 ?hu1 HZ7.out ?hb1 ?_; (case fa1 => (first | (simp [Act.eval] <;> fail) | (simp [Act.eval, Act.put] <;> fail))); (case fb1 => (first | (simp [Act.eval] <;> fail) | (simp [Act.eval, Act.put] <;> fail))); (case hv1 => exact emp_h (by (first | exact heap_alloc_new _ _ | exact alloc2_h _ _ _ | exact (Below.heap_alloc _ _ _ (by first | (simp; done) | (simp; omega))).trans (heap_alloc_new _ _) | (simpa using heap_alloc_new (w1.alloc (.cells #[.int .i64 t, .int .i64 m.num, .int .i64 q0, .int .i64 q1, .int .i64 q2] 59)) (.cells #[] 59)) | (simpa using heap_alloc_new (w1.alloc (.cells #[] 59)) (.cells #[.int .i64 t, .int .i64 m.num, .int .i64 q0, .int .i64 q1, .int .i64 q2] 59)))) (Nat.le_refl _)); (case hu1 => exact row_below (HM.out.below HX1.out.b).rw (by (repeat (first | exact Below.refl _ _ | assumption | refine Below.drew ?_ | refine below_drewP ?_ _ | refine Below.alloc ?_ (by first | exact Nat.le_refl _ | exact hB7.size | (simp; done) | (simp; omega) | (have := hB7.size; simp; omega)) _)))); (case hb1 => (first | (simp; done) | (simp; omega))); intro v7 w7 hr7 hg7 hf7; have hB7 : Below w1.heap.size w1 w7 := Below.grown (by (repeat (first | exact Below.refl _ _ | assumption | refine Below.drew ?_ | refine below_drewP ?_ _ | refine Below.alloc ?_ (by first | exact Nat.le_refl _ | exact hB7.size | (simp; done) | (simp; omega) | (have := hB7.size; simp; omega)) _))) hg7 (by first | (simp; done) | (simp; omega)) (fun k hk => by have e : some (w1.heap.size) = some k := hk; injection e with e; omega); have hX7 := HX1.out.below hB7; have P5 := hX7.x2.cell 5; have hK7 := HK1.out.below hB7; have K0 := hK7.cell 0; have K1 := hK7.cell 1; have K2 := hK7.cell 2)
      | (refine step_app_jt rfl (.tmp 44) (.tmp 46) rfl (B := w1.heap.size + 1) (N := B) (v := .slice (some ⟨w1.heap.size + 1, 0, none⟩) 0 0) (u := .slice Aw m.wait.length cw) (l := []) (new := m.wait) ?fa2 ?fb2 ?hv2 ?hu2 HZ7.out ?hb2 ?_; (case fa2 => (first | (simp [Act.eval] <;> fail) | (simp [Act.eval, Act.put] <;> fail))); (case fb2 => (first | (simp [Act.eval] <;> fail) | (simp [Act.eval, Act.put] <;> fail))); (case hv2 => exact emp_h (by (first | exact heap_alloc_new _ _ | exact alloc2_h _ _ _ | exact (Below.heap_alloc _ _ _ (by first | (simp; done) | (simp; omega))).trans (heap_alloc_new _ _) | (simpa using heap_alloc_new (w1.alloc (.cells #[.int .i64 t, .int .i64 m.num, .int .i64 q0, .int .i64 q1, .int .i64 q2] 59)) (.cells #[] 59)) | (simpa using heap_alloc_new (w1.alloc (.cells #[] 59)) (.cells #[.int .i64 t, .int .i64 m.num, .int .i64 q0, .int .i64 q1, .int .i64 q2] 59)))) (Nat.le_refl _)); (case hu2 => exact row_below (HM.out.below HX1.out.b).rw (by (repeat (first | exact Below.refl _ _ | assumption | refine Below.drew ?_ | refine below_drewP ?_ _ | refine Below.alloc ?_ (by first | exact Nat.le_refl _ | exact hB7.size | (simp; done) | (simp; omega) | (have := hB7.size; simp; omega)) _)))); (case hb2 => (first | (simp; done) | (simp; omega))); intro v7 w7 hr7 hg7 hf7; have hB7 : Below w1.heap.size w1 w7 := Below.grown (by (repeat (first | exact Below.refl _ _ | assumption | refine Below.drew ?_ | refine below_drewP ?_ _ | refine Below.alloc ?_ (by first | exact Nat.le_refl _ | exact hB7.size | (simp; done) | (simp; omega) | (have := hB7.size; simp; omega)) _))) hg7 (by first | (simp; done) | (simp; omega)) (fun k hk => by have e : some (w1.heap.size + 1) = some k := hk; injection e with e; omega); have hX7 := HX1.out.below hB7; have P5 := hX7.x2.cell 5; have hK7 := HK1.out.below hB7; have K0 := hK7.cell 0; have K1 := hK7.cell 1; have K2 := hK7.cell 2)
      | (refine step_app_jt rfl (.tmp 47) (.tmp 53) rfl (B := w1.heap.size) (N := w1.heap.size + 1) (v := v7) (u := .slice (some ⟨w1.heap.size + 1, 0, none⟩) 1 1) (l := [] ++ m.wait) (new := [⟨t, m.num, q0, q1, q2⟩]) ?fc3 ?fd3 ?hw3 ?hx3 HZ8.out ?hc3 ?_; (case fc3 => (first | (simp [Act.eval] <;> fail) | (simp [Act.eval, Act.put] <;> fail))); (case fd3 => (first | (simp [Act.eval] <;> fail) | (simp [Act.eval, Act.put] <;> fail))); (case hw3 => exact row_below hr7 (by (repeat (first | exact Below.refl _ _ | assumption | refine Below.drew ?_ | refine below_drewP ?_ _ | refine Below.alloc ?_ (by first | exact Nat.le_refl _ | exact hB7.size | (simp; done) | (simp; omega) | (have := hB7.size; simp; omega)) _)))); (case hx3 => exact one_h (by first | (exact (hg7.block _ (by first | (simp; done) | (simp; omega)) (fun e => by have e' := e; simp [Value.ownBlock] at e')).trans (by (first | exact heap_alloc_new _ _ | exact alloc2_h _ _ _ | exact (Below.heap_alloc _ _ _ (by first | (simp; done) | (simp; omega))).trans (heap_alloc_new _ _) | (simpa using heap_alloc_new (w1.alloc (.cells #[.int .i64 t, .int .i64 m.num, .int .i64 q0, .int .i64 q1, .int .i64 q2] 59)) (.cells #[] 59)) | (simpa using heap_alloc_new (w1.alloc (.cells #[] 59)) (.cells #[.int .i64 t, .int .i64 m.num, .int .i64 q0, .int .i64 q1, .int .i64 q2] 59))))) | (first | exact heap_alloc_new _ _ | exact alloc2_h _ _ _ | exact (Below.heap_alloc _ _ _ (by first | (simp; done) | (simp; omega))).trans (heap_alloc_new _ _) | (simpa using heap_alloc_new (w1.alloc (.cells #[.int .i64 t, .int .i64 m.num, .int .i64 q0, .int .i64 q1, .int .i64 q2] 59)) (.cells #[] 59)) | (simpa using heap_alloc_new (w1.alloc (.cells #[] 59)) (.cells #[.int .i64 t, .int .i64 m.num, .int .i64 q0, .int .i64 q1, .int .i64 q2] 59))))); (case hc3 => (have := hB7.size; first | (simp; done) | (simp; omega) | omega | (have h9 := hg7.size; simp at h9; omega))); intro v8 w8 hr8 hg8 hf8; have hB8 : Below w1.heap.size w1 w8 := Below.grown (by (repeat (first | exact Below.refl _ _ | assumption | refine Below.drew ?_ | refine below_drewP ?_ _ | refine Below.alloc ?_ (by first | exact Nat.le_refl _ | exact hB7.size | (simp; done) | (simp; omega) | (have := hB7.size; simp; omega)) _))) hg8 (by have := hB7.size; first | (simp; done) | (simp; omega) | omega) (fun k hk => by have := (World.ownsRow.lt hr7 k hk).1; omega); have hX8 := HX1.out.below hB8; have HX8 := Lib.hid hX8; have HB8 := Lib.hid hB8; have P2 := hX8.x2.cell 2; have G2 := hX8.x2.free 2; have L2 := hX8.x2.lt; obtain ⟨A8, c8, hv8, _⟩ := row_shape hr8; subst hv8)
      | (refine step_app_jt rfl (.tmp 47) (.tmp 53) rfl (B := w1.heap.size) (N := w7.heap.size) (v := v7) (u := .slice (some ⟨w7.heap.size, 0, none⟩) 1 1) (l := [] ++ m.wait) (new := [⟨t, m.num, q0, q1, q2⟩]) ?fc4 ?fd4 ?hw4 ?hx4 HZ8.out ?hc4 ?_; (case fc4 => (first | (simp [Act.eval] <;> fail) | (simp [Act.eval, Act.put] <;> fail))); (case fd4 => (first | (simp [Act.eval] <;> fail) | (simp [Act.eval, Act.put] <;> fail))); (case hw4 => exact row_below hr7 (by (repeat (first | exact Below.refl _ _ | assumption | refine Below.drew ?_ | refine below_drewP ?_ _ | refine Below.alloc ?_ (by first | exact Nat.le_refl _ | exact hB7.size | (simp; done) | (simp; omega) | (have := hB7.size; simp; omega)) _)))); (case hx4 => exact one_h (by first | (exact (hg7.block _ (by first | (simp; done) | (simp; omega)) (fun e => by have e' := e; simp [Value.ownBlock] at e')).trans (by (first | exact heap_alloc_new _ _ | exact alloc2_h _ _ _ | exact (Below.heap_alloc _ _ _ (by first | (simp; done) | (simp; omega))).trans (heap_alloc_new _ _) | (simpa using heap_alloc_new (w1.alloc (.cells #[.int .i64 t, .int .i64 m.num, .int .i64 q0, .int .i64 q1, .int .i64 q2] 59)) (.cells #[] 59)) | (simpa using heap_alloc_new (w1.alloc (.cells #[] 59)) (.cells #[.int .i64 t, .int .i64 m.num, .int .i64 q0, .int .i64 q1, .int .i64 q2] 59))))) | (first | exact heap_alloc_new _ _ | exact alloc2_h _ _ _ | exact (Below.heap_alloc _ _ _ (by first | (simp; done) | (simp; omega))).trans (heap_alloc_new _ _) | (simpa using heap_alloc_new (w1.alloc (.cells #[.int .i64 t, .int .i64 m.num, .int .i64 q0, .int .i64 q1, .int .i64 q2] 59)) (.cells #[] 59)) | (simpa using heap_alloc_new (w1.alloc (.cells #[] 59)) (.cells #[.int .i64 t, .int .i64 m.num, .int .i64 q0, .int .i64 q1, .int .i64 q2] 59))))); (case hc4 => (have := hB7.size; first | (simp; done) | (simp; omega) | omega | (have h9 := hg7.size; simp at h9; omega))); intro v8 w8 hr8 hg8 hf8; have hB8 : Below w1.heap.size w1 w8 := Below.grown (by (repeat (first | exact Below.refl _ _ | assumption | refine Below.drew ?_ | refine below_drewP ?_ _ | refine Below.alloc ?_ (by first | exact Nat.le_refl _ | exact hB7.size | (simp; done) | (simp; omega) | (have := hB7.size; simp; omega)) _))) hg8 (by have := hB7.size; first | (simp; done) | (simp; omega) | omega) (fun k hk => by have := (World.ownsRow.lt hr7 k hk).1; omega); have hX8 := HX1.out.below hB8; have HX8 := Lib.hid hX8; have HB8 := Lib.hid hB8; have P2 := hX8.x2.cell 2; have G2 := hX8.x2.free 2; have L2 := hX8.x2.lt; obtain ⟨A8, c8, hv8, _⟩ := row_shape hr8; subst hv8)
      | (refine step_app_jt rfl (.tmp 47) (.tmp 53) rfl (B := w1.heap.size + 1) (N := w1.heap.size) (v := v7) (u := .slice (some ⟨w1.heap.size, 0, none⟩) 1 1) (l := [] ++ m.wait) (new := [⟨t, m.num, q0, q1, q2⟩]) ?fc5 ?fd5 ?hw5 ?hx5 HZ8.out ?hc5 ?_; (case fc5 => (first | (simp [Act.eval] <;> fail) | (simp [Act.eval, Act.put] <;> fail))); (case fd5 => (first | (simp [Act.eval] <;> fail) | (simp [Act.eval, Act.put] <;> fail))); (case hw5 => exact row_below hr7 (by (repeat (first | exact Below.refl _ _ | assumption | refine Below.drew ?_ | refine below_drewP ?_ _ | refine Below.alloc ?_ (by first | exact Nat.le_refl _ | exact hB7.size | (simp; done) | (simp; omega) | (have := hB7.size; simp; omega)) _)))); (case hx5 => exact one_h (by first | (exact (hg7.block _ (by first | (simp; done) | (simp; omega)) (fun e => by have e' := e; simp [Value.ownBlock] at e')).trans (by (first | exact heap_alloc_new _ _ | exact alloc2_h _ _ _ | exact (Below.heap_alloc _ _ _ (by first | (simp; done) | (simp; omega))).trans (heap_alloc_new _ _) | (simpa using heap_alloc_new (w1.alloc (.cells #[.int .i64 t, .int .i64 m.num, .int .i64 q0, .int .i64 q1, .int .i64 q2] 59)) (.cells #[] 59)) | (simpa using heap_alloc_new (w1.alloc (.cells #[] 59)) (.cells #[.int .i64 t, .int .i64 m.num, .int .i64 q0, .int .i64 q1, .int .i64 q2] 59))))) | (first | exact heap_alloc_new _ _ | exact alloc2_h _ _ _ | exact (Below.heap_alloc _ _ _ (by first | (simp; done) | (simp; omega))).trans (heap_alloc_new _ _) | (simpa using heap_alloc_new (w1.alloc (.cells #[.int .i64 t, .int .i64 m.num, .int .i64 q0, .int .i64 q1, .int .i64 q2] 59)) (.cells #[] 59)) | (simpa using heap_alloc_new (w1.alloc (.cells #[] 59)) (.cells #[.int .i64 t, .int .i64 m.num, .int .i64 q0, .int .i64 q1, .int .i64 q2] 59))))); (case hc5 => (have := hB7.size; first | (simp; done) | (simp; omega) | omega | (have h9 := hg7.size; simp at h9; omega))); intro v8 w8 hr8 hg8 hf8; have hB8 : Below w1.heap.size w1 w8 := Below.grown (by (repeat (first | exact Below.refl _ _ | assumption | refine Below.drew ?_ | refine below_drewP ?_ _ | refine Below.alloc ?_ (by first | exact Nat.le_refl _ | exact hB7.size | (simp; done) | (simp; omega) | (have := hB7.size; simp; omega)) _))) hg8 (by have := hB7.size; first | (simp; done) | (simp; omega) | omega) (fun k hk => by have := (World.ownsRow.lt hr7 k hk).1; omega); have hX8 := HX1.out.below hB8; have HX8 := Lib.hid hX8; have HB8 := Lib.hid hB8; have P2 := hX8.x2.cell 2; have G2 := hX8.x2.free 2; have L2 := hX8.x2.lt; obtain ⟨A8, c8, hv8, _⟩ := row_shape hr8; subst hv8)
      | fail)
    all_goals (go_wp2_with fail; go_meet)
    all_goals (rw [List.nil_append] at hr8; refine ⟨A8, c8, psw_of (by simpa using HX8.out) (by simpa using hr8) ?_⟩; have := HX1.out.b.size; omega)
  case rest =>
    obtain ⟨A8, c8, hP⟩ := hcut
    have hX9 := hP.x
    have hM9 := HM.out.below hX9.b
    have HX9 := Lib.hid hX9
    have HM9 := Lib.hid hM9
    have HR9 := Lib.hid hP.r
    have HE := Lib.hid (emp_new (B := wc.heap.size) wc 3 1 (Nat.le_refl _))
    have hbr : Below wc.heap.size wc (wc.alloc (.cells #[] 3)) := (Below.refl _ _).alloc (Nat.le_refl _) _
    have HBR := Lib.hid hbr
    have p3 : wc.cell? ⟨W.heap.size, 3, none⟩ = some (.slice As m.seen.length ce) := hX9.x2.cell 3
    have hd2 := hX9.x2.lt
    have f3 := hX9.x2.free 3
    have HSZ := Lib.hid HO.out.z
    clear hP hX9 hM9 hbr
    go_wp2_with (first
      | (at_builtin; refine wpList_app_ints rfl (.tmp 56) (.tmp 58) rfl (B := wc.heap.size) (N := B) (l := []) (new := m.seen) rfl rfl HE.out (row_below HM9.out.rs HBR.out) (by have := HSZ.out; simp; omega) (by simp) ?_; intro v7 w7 hr7 hg7 hf7; have HB7 := Lib.hid (HBR.out.grown hg7 (by simp) (fun k hk => by have e : some wc.heap.size = some k := hk; injection e with e; omega)); have HR7 := Lib.hid hr7; clear hr7 hg7 hf7)
      | (at_builtin; refine wpList_app_ints rfl (.tmp 59) (.tmp 61) rfl (B := wc.heap.size) (N := w7.heap.size) (l := [] ++ m.seen) (new := [t]) rfl rfl (World.ownsRow.alloc HR7.out _) (one_row w7 t) (by have := HSZ.out; simp; omega) (by have := HB7.out.size; simp; omega) ?_; intro v8 w8 hr8 hg8 hf8; have HB8 := Lib.hid ((HB7.out.alloc HB7.out.size (.cells #[.int .i64 t] 3)).grown hg8 (by have := HB7.out.size; simp; omega) (fun k hk => (World.ownsRow.lt HR7.out k hk).1)); have HR8 := Lib.hid hr8; obtain ⟨B8, d8, hv8⟩ := hr8.shape; subst hv8; have hX8 := HX9.out.below HB8.out; obtain ⟨⟨y0, y1, y2, y3, y4, y5, y6, y7, k0, k1, k2, k3, k4, k5, k6, k7⟩, hf, hl4, hl2⟩ := hX8.c4; have f0 := hf 0; have f1 := hf 1; have f2 := hf 2; have f3 := hf 3; have f4 := hf 4; have f5 := hf 5; have f6 := hf 6; have f7 := hf 7; have p0 := hX8.x2.cell 0; have p1 := hX8.x2.cell 1; have p2 := hX8.x2.cell 2; have p3 := hX8.x2.cell 3; have p4 := hX8.x2.cell 4; have p5 := hX8.x2.cell 5; have p6 := hX8.x2.cell 6; have p7 := hX8.x2.cell 7; have z3 := hX8.x2.free 3; have z5 := hX8.x2.free 5; have HX8 := Lib.hid hX8; clear hr8 hg8 hf8 hf hX8)
      | fail)
    refine bodyPost_ret (v := .tuple #[.agg #[.int .i64 m.lat, .int .i64 m.room, .slice A8 (m.wait.length + 1) c8, .slice B8 (m.seen.length + 1) d8, .slice Ah m.shown.length ch, .int .i64 (m.num + 1), .int .i64 m.late, .bool false], .int .i64 0]) ?_ rfl ?_
    · simp [results, Try.results6, go_sem, k0, k1, k2, k3, k4, k5, k6, k7, hl4, hl2]
    · have hM8 := HM9.out.below HB8.out
      have h9 := row_below HR9.out HB8.out
      have h8 := HR8.out
      rw [List.nil_append] at h8
      have e9 : (m.seen ++ [t]).length = m.seen.length + 1 := by simp
      rw [e9] at h8
      have hk := fun {ty : TypeId} {z n : Nat} {u : Value} {xs : List Value} {B' : Nat} (hr : w8.ownsRow B' ty z u n xs) (hne : ty ≠ 32) => row_heap (W' := st8 ((w8.setCell ⟨W.heap.size, 3, none⟩ (.slice B8 (m.seen.length + 1) d8)).setCell ⟨W.heap.size, 5, none⟩ (.int .i64 (m.num + 1))) (W.heap.size + 1 + 1) (.int .i64 m.lat) (.int .i64 m.room) (.slice A8 (m.wait.length + 1) c8) (.slice B8 (m.seen.length + 1) d8) (.slice Ah m.shown.length ch) (.int .i64 (m.num + 1)) (.int .i64 m.late) (.bool false)) hr fun k hk => (st8_far _ _ _ _ _ _ _ _ _ _ (HX8.out.row hr hne k hk).2).trans ((Below.heap_setCell _ _ _ _ (HX8.out.row hr hne k hk).1).trans (Below.heap_setCell _ _ _ _ (HX8.out.row hr hne k hk).1))
      refine ⟨.slice A8 (m.wait.length + 1) c8, .slice B8 (m.seen.length + 1) d8, .slice Ah m.shown.length ch, rfl, st8_below (Below.setCell (Below.setCell HX8.out.b (p := ⟨W.heap.size, 3, none⟩) HX8.out.n2 _) (p := ⟨W.heap.size, 5, none⟩) HX8.out.n2 _) HX8.out.n4 _ _ _ _ _ _ _ _, ⟨row_mono (hk h9 jit_ne) HBB.out, row_mono (hk h8 jin_ne) ?_, hk hM8.rh jin_ne⟩⟩
      exact Nat.le_trans HBB.out HX9.out.b.size
end Go.Proofs.Ytagidmghmbfnpaa
