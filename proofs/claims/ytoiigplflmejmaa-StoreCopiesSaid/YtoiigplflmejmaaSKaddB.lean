/-
  THE DOCUMENT's STORE: Add, where the key is added. (Out of skaddb.py.)
-/
import Derived.Test.YtoiigplflmejmaaSKadd
import Derived.Test.YtoiigplflmejmaaSInsG
import Derived.Deep.RegionHeldLaw
import Derived.Deep.CutBlock
namespace Go.Proofs.Ytoiigplflmejmaa
open Go.RowKit
set_option linter.unusedVariables false
set_option linter.unusedSimpArgs false
set_option maxRecDepth 100000

theorem arrZ : (Try.prog.info? 31).map (fun i => (i.zero, i.size, i.bytes)) = some (some (.agg #[.int .i64 0, .int .i64 0, .int .i64 0]), 3, 24) := by kernel_rfl
theorem step_app_kd {ops : Array Oper} {o : Oper} {a : Act} {w : World} {K : Act → World → Prop} {Q : Exit → Act → World → Prop} {E : Prop} (hgd : o.guard = none) (s x : Operand) (ho : o.op = .call { callee := .builtin .append, args := #[s, x], argTypes := #[28, 28] })
    {B N : Nat} {v u : Value} {l new : List Kt} (hs : a.eval s = v) (hx : a.eval x = u) (hv : KtD B w v l) (hu : KtD N w u new) (hz : l.length + new.length ≤ 100000) (hB : B ≤ w.heap.size)
    (h : ∀ v' w', KtD B w' v' (l ++ new) → w.grownBy w' v.ownBlock → (∀ k, v'.ownBlock = some k → v.ownBlock = some k ∨ w.heap.size ≤ k) → K (a.put o.dst v') w') : if Region.wanted o (yielded ops a.tmps) = true then Oper.wp Try.prog o a w K Q else E := by
  obtain ⟨iT, hT0, hT1, hT2, hT3⟩ := info_parts arrZ
  have hw : Region.wanted o (yielded ops a.tmps) = true := by simp [Region.wanted, hgd]
  rw [if_pos hw]
  refine wp_app_any s x 28 ho 31 iT (.agg #[.int .i64 0, .int .i64 0, .int .i64 0]) 3 24 Try.underlying28 hT0 hT1 hT2 hT3 rfl (by decide) (by decide) hs hx hv hu (ktc_one _) hz hB fun v' w' h1 h2 h3 => h v' w' ?_ h2 h3
  unfold KtD
  rw [List.length_append, List.flatMap_append]
  exact h1
theorem alloc2_hS (w : World) (o o' : Obj) : ((w.alloc o).alloc o').heap[w.heap.size + 1]? = some o' := by
  have := heap_alloc_new (w.alloc o) o'
  rw [World.size_alloc] at this
  exact this
theorem emp_hD {W : World} {n B : Nat} (hh : W.heap[n]? = some (.cells #[] 31 (0, 0))) (hB : B ≤ n) : KtD B W (.slice (some ⟨n, 0, none⟩) 0 0) [] := ⟨by simp, .inr ⟨n, 0, #[], rfl, hB, hh, Nat.le_refl _, by decide, by simp, by simp⟩⟩
theorem one_hD {W : World} {n : Nat} {a b c : Int} (hh : W.heap[n]? = some (.cells #[.int .i64 a, .int .i64 b, .int .i64 c] 31 (0, 0))) : KtD n W (.slice (some ⟨n, 0, none⟩) 1 1) [⟨a, b, c⟩] := ⟨by simp [ktc], .inr ⟨n, 1, _, rfl, Nat.le_refl _, hh, Nat.le_refl _, by decide, by simp, by simp [ktc]⟩⟩
set_option maxHeartbeats 16000000 in
theorem kadd_ok {B : Nat} {W : World} {v : Value} {L : List Kt} (hL : KtD B W v L) (hB : B ≤ W.heap.size) (hl : L.length ≤ 1000) (room ka kb kc : Int) (hk : nnK ⟨ka, kb, kc⟩) (hkl : (⟨ka, kb, kc⟩ : Kt) ∉ L) (hroom : ¬ room ≤ L.length) :
    Calls Try.prog 10 #[.agg #[.int .i64 room, v], .agg #[.int .i64 ka, .int .i64 kb, .int .i64 kc]] W (KaddP B W room (L ++ [⟨ka, kb, kc⟩], 0)) := by
  obtain ⟨A, c, rfl⟩ := hL.shape
  have cF := fun {w : World} (h : KtD B w (.slice A L.length c) L) => kfind_any h (by omega) room ⟨ka, kb, kc⟩
  have hfd : findD L ⟨ka, kb, kc⟩ = -1 := fromD_neg _ L 0 hkl
  rw [hfd] at cF
  obtain ⟨W2, hW2⟩ : ∃ W2, W2 = ((W.alloc (.cells #[.int .i64 room, .slice A L.length c] 30)).alloc (.cells #[.int .i64 ka, .int .i64 kb, .int .i64 kc] 31)).alloc (.cells #[.int .i64 0, .slice none 0 0] 30) := ⟨_, rfl⟩
  have hX := kx3_at (W := W) room (.slice A L.length c) #[.int .i64 ka, .int .i64 kb, .int .i64 kc]
  rw [← hW2] at hX
  have cF2 := cF (hL.below hX.b)
  dsimp only at cF2
  have HX := Lib.hid hX
  have HL := Lib.hid (hL.below hX.b)
  obtain ⟨n0, n1, n2⟩ := hk
  have m0 : ¬ ka < 0 := by dsimp only at n0; omega
  have m1 : ¬ kb < 0 := by dsimp only at n1; omega
  have m2 : ¬ kc < 0 := by dsimp only at n2; omega
  rw [hW2] at cF2
  have HW2 := Lib.hid hW2
  have HBB := Lib.hid hB
  have HZ7 := Lib.hid (show ([] : List Kt).length + L.length ≤ 100000 from by simp; omega)
  have HZ8 := Lib.hid (show (([] : List Kt) ++ L).length + [(⟨ka, kb, kc⟩ : Kt)].length ≤ 100000 from by simp; omega)
  clear hL hX cF hfd n0 n1 n2 hkl hl hB hW2
  go_enter Try.func10, Try.ntmps10
  go_upto_region 7 with (go_at_call 16; (with_reducible refine cF2.mono ?_); rintro e w5 ⟨rfl, hb5⟩; rw [← HW2.out] at hb5; have hX5 := HX.out.below hb5; have HB5 := Lib.hid hb5; obtain ⟨u0, u1, uf, ul⟩ := hX5.c2; have HX5 := Lib.hid hX5; clear hb5 hX5)
  have HL5 := Lib.hid (HL.out.below HB5.out)
  obtain ⟨hk0, hk1, hk2, hk3⟩ := HX5.out.c3
  have hka := fun o : Obj => (HX5.out.alloc o)
  have hka0 := fun o : Obj => (hka o).x3.cell 0
  have hka1 := fun o : Obj => (hka o).x3.cell 1
  have hka2 := fun o : Obj => (hka o).x3.cell 2
  have hpa1 := fun o : Obj => (hka o).x2.cell 1
  have hqa := fun (o o' : Obj) => (hka o).x2.alloc o'
  have hqa1 := fun (o o' : Obj) => (hqa o o').cell 1
  simp at hka0 hka1 hka2 hpa1 hqa1
  clear hka hqa cF2
  go_cut [] from 32 (fun wx => ∃ A8 c8, Kx3 W W.heap.size (W.heap.size + 1) (W.heap.size + 1 + 1) room (.slice A8 (L.length + 1) c8) #[.int .i64 ka, .int .i64 kb, .int .i64 kc] wx ∧ KtD W2.heap.size wx (.slice A8 (L.length + 1) c8) (L ++ [⟨ka, kb, kc⟩]))
  case first =>
    go_region_law
      (first
      | (refine step_app_kd rfl (.tmp 32) (.tmp 34) rfl (B := w5.heap.size) (N := B) (v := .slice (some ⟨w5.heap.size, 0, none⟩) 0 0) (u := .slice A L.length c) (l := []) (new := L) ?fa1 ?fb1 ?hv1 ?hu1 HZ7.out ?hb1 ?_; (case fa1 => (first | (simp [Act.eval] <;> fail) | (simp [Act.eval, Act.put] <;> fail))); (case fb1 => (first | (simp [Act.eval] <;> fail) | (simp [Act.eval, Act.put] <;> fail))); (case hv1 => exact emp_hD (by (first | exact heap_alloc_new _ _ | exact alloc2_hS _ _ _ | exact (Below.heap_alloc _ _ _ (by first | (simp; done) | (simp; omega))).trans (heap_alloc_new _ _) | (simpa using heap_alloc_new (w5.alloc (.cells #[.int .i64 ka, .int .i64 kb, .int .i64 kc] 31)) (.cells #[] 31)) | (simpa using heap_alloc_new (w5.alloc (.cells #[] 31)) (.cells #[.int .i64 ka, .int .i64 kb, .int .i64 kc] 31)))) (Nat.le_refl _)); (case hu1 => exact row_below HL5.out (by (repeat (first | exact Below.refl _ _ | assumption | refine Below.drew ?_ | refine below_drewP ?_ _ | refine Below.alloc ?_ (by first | exact Nat.le_refl _ | exact hB7.size | (simp; done) | (simp; omega) | (have := hB7.size; simp; omega)) _)))); (case hb1 => (first | (simp; done) | (simp; omega))); intro v7 w7 hr7 hg7 hf7; have hB7 : Below w5.heap.size w5 w7 := Below.grown (by (repeat (first | exact Below.refl _ _ | assumption | refine Below.drew ?_ | refine below_drewP ?_ _ | refine Below.alloc ?_ (by first | exact Nat.le_refl _ | exact hB7.size | (simp; done) | (simp; omega) | (have := hB7.size; simp; omega)) _))) hg7 (by first | (simp; done) | (simp; omega)) (fun k hk => by have e : some (w5.heap.size) = some k := hk; injection e with e; omega); have hX7 := HX5.out.below hB7; have P5 := hX7.x2.cell 1; have K0 := hX7.x3.cell 0; have K1 := hX7.x3.cell 1; have K2 := hX7.x3.cell 2)
      | (refine step_app_kd rfl (.tmp 32) (.tmp 34) rfl (B := w5.heap.size + 1) (N := B) (v := .slice (some ⟨w5.heap.size + 1, 0, none⟩) 0 0) (u := .slice A L.length c) (l := []) (new := L) ?fa2 ?fb2 ?hv2 ?hu2 HZ7.out ?hb2 ?_; (case fa2 => (first | (simp [Act.eval] <;> fail) | (simp [Act.eval, Act.put] <;> fail))); (case fb2 => (first | (simp [Act.eval] <;> fail) | (simp [Act.eval, Act.put] <;> fail))); (case hv2 => exact emp_hD (by (first | exact heap_alloc_new _ _ | exact alloc2_hS _ _ _ | exact (Below.heap_alloc _ _ _ (by first | (simp; done) | (simp; omega))).trans (heap_alloc_new _ _) | (simpa using heap_alloc_new (w5.alloc (.cells #[.int .i64 ka, .int .i64 kb, .int .i64 kc] 31)) (.cells #[] 31)) | (simpa using heap_alloc_new (w5.alloc (.cells #[] 31)) (.cells #[.int .i64 ka, .int .i64 kb, .int .i64 kc] 31)))) (Nat.le_refl _)); (case hu2 => exact row_below HL5.out (by (repeat (first | exact Below.refl _ _ | assumption | refine Below.drew ?_ | refine below_drewP ?_ _ | refine Below.alloc ?_ (by first | exact Nat.le_refl _ | exact hB7.size | (simp; done) | (simp; omega) | (have := hB7.size; simp; omega)) _)))); (case hb2 => (first | (simp; done) | (simp; omega))); intro v7 w7 hr7 hg7 hf7; have hB7 : Below w5.heap.size w5 w7 := Below.grown (by (repeat (first | exact Below.refl _ _ | assumption | refine Below.drew ?_ | refine below_drewP ?_ _ | refine Below.alloc ?_ (by first | exact Nat.le_refl _ | exact hB7.size | (simp; done) | (simp; omega) | (have := hB7.size; simp; omega)) _))) hg7 (by first | (simp; done) | (simp; omega)) (fun k hk => by have e : some (w5.heap.size + 1) = some k := hk; injection e with e; omega); have hX7 := HX5.out.below hB7; have P5 := hX7.x2.cell 1; have K0 := hX7.x3.cell 0; have K1 := hX7.x3.cell 1; have K2 := hX7.x3.cell 2)
      | (refine step_app_kd rfl (.tmp 35) (.tmp 37) rfl (B := w5.heap.size) (N := w5.heap.size + 1) (v := v7) (u := .slice (some ⟨w5.heap.size + 1, 0, none⟩) 1 1) (l := [] ++ L) (new := [⟨ka, kb, kc⟩]) ?fc3 ?fd3 ?hw3 ?hx3 HZ8.out ?hc3 ?_; (case fc3 => (first | (simp [Act.eval] <;> fail) | (simp [Act.eval, Act.put] <;> fail))); (case fd3 => (first | (simp [Act.eval] <;> fail) | (simp [Act.eval, Act.put] <;> fail))); (case hw3 => exact row_below hr7 (by (repeat (first | exact Below.refl _ _ | assumption | refine Below.drew ?_ | refine below_drewP ?_ _ | refine Below.alloc ?_ (by first | exact Nat.le_refl _ | exact hB7.size | (simp; done) | (simp; omega) | (have := hB7.size; simp; omega)) _)))); (case hx3 => exact one_hD (by first | (exact (hg7.block _ (by first | (simp; done) | (simp; omega)) (fun e => by have e' := e; simp [Value.ownBlock] at e')).trans (by (first | exact heap_alloc_new _ _ | exact alloc2_hS _ _ _ | exact (Below.heap_alloc _ _ _ (by first | (simp; done) | (simp; omega))).trans (heap_alloc_new _ _) | (simpa using heap_alloc_new (w5.alloc (.cells #[.int .i64 ka, .int .i64 kb, .int .i64 kc] 31)) (.cells #[] 31)) | (simpa using heap_alloc_new (w5.alloc (.cells #[] 31)) (.cells #[.int .i64 ka, .int .i64 kb, .int .i64 kc] 31))))) | (first | exact heap_alloc_new _ _ | exact alloc2_hS _ _ _ | exact (Below.heap_alloc _ _ _ (by first | (simp; done) | (simp; omega))).trans (heap_alloc_new _ _) | (simpa using heap_alloc_new (w5.alloc (.cells #[.int .i64 ka, .int .i64 kb, .int .i64 kc] 31)) (.cells #[] 31)) | (simpa using heap_alloc_new (w5.alloc (.cells #[] 31)) (.cells #[.int .i64 ka, .int .i64 kb, .int .i64 kc] 31))))); (case hc3 => (have := hB7.size; first | (simp; done) | (simp; omega) | omega | (have h9 := hg7.size; simp at h9; omega))); intro v8 w8 hr8 hg8 hf8; have hB8 : Below w5.heap.size w5 w8 := Below.grown (by (repeat (first | exact Below.refl _ _ | assumption | refine Below.drew ?_ | refine below_drewP ?_ _ | refine Below.alloc ?_ (by first | exact Nat.le_refl _ | exact hB7.size | (simp; done) | (simp; omega) | (have := hB7.size; simp; omega)) _))) hg8 (by have := hB7.size; first | (simp; done) | (simp; omega) | omega) (fun k hk => by have := (World.ownsRow.lt hr7 k hk).1; omega); have hX8 := HX5.out.below hB8; have HX8 := Lib.hid hX8; have HB8 := Lib.hid hB8; have P2 := hX8.x2.cell 1; have G2 := hX8.x2.free 1; have L2 := hX8.x2.lt; obtain ⟨A8, c8, hv8, _⟩ := row_shape hr8; subst hv8)
      | (refine step_app_kd rfl (.tmp 35) (.tmp 37) rfl (B := w5.heap.size) (N := w7.heap.size) (v := v7) (u := .slice (some ⟨w7.heap.size, 0, none⟩) 1 1) (l := [] ++ L) (new := [⟨ka, kb, kc⟩]) ?fc4 ?fd4 ?hw4 ?hx4 HZ8.out ?hc4 ?_; (case fc4 => (first | (simp [Act.eval] <;> fail) | (simp [Act.eval, Act.put] <;> fail))); (case fd4 => (first | (simp [Act.eval] <;> fail) | (simp [Act.eval, Act.put] <;> fail))); (case hw4 => exact row_below hr7 (by (repeat (first | exact Below.refl _ _ | assumption | refine Below.drew ?_ | refine below_drewP ?_ _ | refine Below.alloc ?_ (by first | exact Nat.le_refl _ | exact hB7.size | (simp; done) | (simp; omega) | (have := hB7.size; simp; omega)) _)))); (case hx4 => exact one_hD (by first | (exact (hg7.block _ (by first | (simp; done) | (simp; omega)) (fun e => by have e' := e; simp [Value.ownBlock] at e')).trans (by (first | exact heap_alloc_new _ _ | exact alloc2_hS _ _ _ | exact (Below.heap_alloc _ _ _ (by first | (simp; done) | (simp; omega))).trans (heap_alloc_new _ _) | (simpa using heap_alloc_new (w5.alloc (.cells #[.int .i64 ka, .int .i64 kb, .int .i64 kc] 31)) (.cells #[] 31)) | (simpa using heap_alloc_new (w5.alloc (.cells #[] 31)) (.cells #[.int .i64 ka, .int .i64 kb, .int .i64 kc] 31))))) | (first | exact heap_alloc_new _ _ | exact alloc2_hS _ _ _ | exact (Below.heap_alloc _ _ _ (by first | (simp; done) | (simp; omega))).trans (heap_alloc_new _ _) | (simpa using heap_alloc_new (w5.alloc (.cells #[.int .i64 ka, .int .i64 kb, .int .i64 kc] 31)) (.cells #[] 31)) | (simpa using heap_alloc_new (w5.alloc (.cells #[] 31)) (.cells #[.int .i64 ka, .int .i64 kb, .int .i64 kc] 31))))); (case hc4 => (have := hB7.size; first | (simp; done) | (simp; omega) | omega | (have h9 := hg7.size; simp at h9; omega))); intro v8 w8 hr8 hg8 hf8; have hB8 : Below w5.heap.size w5 w8 := Below.grown (by (repeat (first | exact Below.refl _ _ | assumption | refine Below.drew ?_ | refine below_drewP ?_ _ | refine Below.alloc ?_ (by first | exact Nat.le_refl _ | exact hB7.size | (simp; done) | (simp; omega) | (have := hB7.size; simp; omega)) _))) hg8 (by have := hB7.size; first | (simp; done) | (simp; omega) | omega) (fun k hk => by have := (World.ownsRow.lt hr7 k hk).1; omega); have hX8 := HX5.out.below hB8; have HX8 := Lib.hid hX8; have HB8 := Lib.hid hB8; have P2 := hX8.x2.cell 1; have G2 := hX8.x2.free 1; have L2 := hX8.x2.lt; obtain ⟨A8, c8, hv8, _⟩ := row_shape hr8; subst hv8)
      | (refine step_app_kd rfl (.tmp 35) (.tmp 37) rfl (B := w5.heap.size + 1) (N := w5.heap.size) (v := v7) (u := .slice (some ⟨w5.heap.size, 0, none⟩) 1 1) (l := [] ++ L) (new := [⟨ka, kb, kc⟩]) ?fc5 ?fd5 ?hw5 ?hx5 HZ8.out ?hc5 ?_; (case fc5 => (first | (simp [Act.eval] <;> fail) | (simp [Act.eval, Act.put] <;> fail))); (case fd5 => (first | (simp [Act.eval] <;> fail) | (simp [Act.eval, Act.put] <;> fail))); (case hw5 => exact row_below hr7 (by (repeat (first | exact Below.refl _ _ | assumption | refine Below.drew ?_ | refine below_drewP ?_ _ | refine Below.alloc ?_ (by first | exact Nat.le_refl _ | exact hB7.size | (simp; done) | (simp; omega) | (have := hB7.size; simp; omega)) _)))); (case hx5 => exact one_hD (by first | (exact (hg7.block _ (by first | (simp; done) | (simp; omega)) (fun e => by have e' := e; simp [Value.ownBlock] at e')).trans (by (first | exact heap_alloc_new _ _ | exact alloc2_hS _ _ _ | exact (Below.heap_alloc _ _ _ (by first | (simp; done) | (simp; omega))).trans (heap_alloc_new _ _) | (simpa using heap_alloc_new (w5.alloc (.cells #[.int .i64 ka, .int .i64 kb, .int .i64 kc] 31)) (.cells #[] 31)) | (simpa using heap_alloc_new (w5.alloc (.cells #[] 31)) (.cells #[.int .i64 ka, .int .i64 kb, .int .i64 kc] 31))))) | (first | exact heap_alloc_new _ _ | exact alloc2_hS _ _ _ | exact (Below.heap_alloc _ _ _ (by first | (simp; done) | (simp; omega))).trans (heap_alloc_new _ _) | (simpa using heap_alloc_new (w5.alloc (.cells #[.int .i64 ka, .int .i64 kb, .int .i64 kc] 31)) (.cells #[] 31)) | (simpa using heap_alloc_new (w5.alloc (.cells #[] 31)) (.cells #[.int .i64 ka, .int .i64 kb, .int .i64 kc] 31))))); (case hc5 => (have := hB7.size; first | (simp; done) | (simp; omega) | omega | (have h9 := hg7.size; simp at h9; omega))); intro v8 w8 hr8 hg8 hf8; have hB8 : Below w5.heap.size w5 w8 := Below.grown (by (repeat (first | exact Below.refl _ _ | assumption | refine Below.drew ?_ | refine below_drewP ?_ _ | refine Below.alloc ?_ (by first | exact Nat.le_refl _ | exact hB7.size | (simp; done) | (simp; omega) | (have := hB7.size; simp; omega)) _))) hg8 (by have := hB7.size; first | (simp; done) | (simp; omega) | omega) (fun k hk => by have := (World.ownsRow.lt hr7 k hk).1; omega); have hX8 := HX5.out.below hB8; have HX8 := Lib.hid hX8; have HB8 := Lib.hid hB8; have P2 := hX8.x2.cell 1; have G2 := hX8.x2.free 1; have L2 := hX8.x2.lt; obtain ⟨A8, c8, hv8, _⟩ := row_shape hr8; subst hv8)
      | fail)
    all_goals (go_wp2_with fail; go_meet)
    all_goals
      rw [List.nil_append] at hr8
      have hr9 : KtD W2.heap.size w8 (.slice A8 (L.length + 1) c8) (L ++ [⟨ka, kb, kc⟩]) := by
        (try simp at hr8)
        exact KtD.mono hr8 (by have := HB5.out.size; omega)
      exact ⟨A8, c8, HX8.out.set2 _, hr9.set2 HX8.out _⟩
  case rest =>
    obtain ⟨A8, c8, hX9, hR9⟩ := hcut
    obtain ⟨z0, z1, zf, zl⟩ := hX9.c2
    obtain ⟨y0, y1, f0, f1, yl⟩ := hX9.c4
    have HX9 := Lib.hid hX9
    have HR9 := Lib.hid hR9
    have HQ := Lib.hid (Nat.le_trans HBB.out HX.out.b.size)
    clear hX9 hR9
    go_wp2
    refine bodyPost_ret (v := .tuple #[.agg #[.int .i64 room, .slice A8 (L.length + 1) c8], .int .i64 0]) (by simp [results, Try.results10, go_sem, y0, y1, yl]) rfl ⟨_, rfl, KtD.mono (HR9.out.set4 HX9.out _ _) HQ.out, HX9.out.fin _ _⟩
end Go.Proofs.Ytoiigplflmejmaa
