/-
  A STORE IN GENERAL: Add. (Out of sgeny.py.)
-/
import Derived.Test.YtoiigplflmejmaaSGenX
namespace Go.Proofs.Ytoiigplflmejmaa
open Go.RowKit
set_option linter.unusedVariables false
set_option linter.unusedSimpArgs false
set_option maxRecDepth 100000

theorem fb_neS {w : World} {a b : Nat} {t u : TypeId} {cs ds : Array Value} (h : Fb w a t cs) (k : Fb w b u ds) (hn : t ≠ u) : a ≠ b := fun e => by
  subst e
  unfold Fb at h k
  rw [h] at k
  injection k with k
  injection k with _ k
  exact hn k
theorem Lx.ty {B : Nat} {W : World} {d o : Nat} {n : Int} {x : Value} {l : List Kt} {F : List Nat} (h : Lx B W d o n x l F) : ∀ q ∈ F, (∃ cs, Fb W q 70 cs) ∨ ∃ cs, Fb W q 37 cs := fun q hq => by
  obtain ⟨_, _, h⟩ := h
  rcases h with ⟨_, _, rfl⟩ | ⟨gb, cb, v, g, _, hvg, rfl, hm, _, _, hge⟩
  · cases hq
  · simp at hq
    rcases hq with rfl | rfl
    · exact .inl ⟨_, hm.hb.choose_spec⟩
    · exact .inr (row_block hm.hr hvg)
theorem Lx.far {B : Nat} {W : World} {d o : Nat} {n : Int} {x : Value} {l : List Kt} {F : List Nat} (h : Lx B W d o n x l F) {q : Nat} {t : TypeId} {cs : Array Value} (hq : Fb W q t cs) (h1 : t ≠ 70) (h2 : t ≠ 37) : q ∉ F := fun hm => by
  rcases h.ty q hm with ⟨cs', hc⟩ | ⟨cs', hc⟩
  · exact fb_neS hq hc h1 rfl
  · exact fb_neS hq hc h2 rfl
/-- What a store's call leaves as it was. -/
structure Kp (B : Nat) (W W' : World) : Prop where
  os : W'.os = W.os
  tape : W'.tape = W.tape
  output : W'.output = W.output
  size : W.heap.size ≤ W'.heap.size
  low : ∀ q, q < B → W'.heap[q]? = W.heap[q]?
  keep : ∀ {q : Nat} {t : TypeId} {cs : Array Value}, Fb W q t cs → t ≠ 60 → t ≠ 70 → t ≠ 37 → Fb W' q t cs
theorem Kp.trans {B : Nat} {W W1 W2 : World} (h : Kp B W W1) (k : Kp B W1 W2) : Kp B W W2 := ⟨k.os.trans h.os, k.tape.trans h.tape, k.output.trans h.output, Nat.le_trans h.size k.size, fun q hq => (k.low q hq).trans (h.low q hq), fun hf a b c => k.keep (h.keep hf a b c) a b c⟩
theorem Kp.of {B : Nat} {W W' : World} (h : Below W.heap.size W W') (hB : B ≤ W.heap.size) : Kp B W W' := ⟨h.os, h.tape, h.output, h.size, fun q hq => h.block q (Nat.lt_of_lt_of_le hq hB), fun hf _ _ _ => hf.below h⟩
theorem Kp.below {B : Nat} {W0 W W' : World} (h : Kp B W W') (hb : Below B W0 W) : Below B W0 W' := ⟨h.os.trans hb.os, h.tape.trans hb.tape, h.output.trans hb.output, Nat.le_trans hb.size h.size, fun q hq => (h.low q hq).trans (hb.block q hq)⟩
theorem LaddP.kp {B : Nat} {W w' : World} {d o : Nat} {n : Int} {x x' : Value} {l l' : List Kt} {F F' : List Nat} {k : Kt} {cs : Array Value} (h : LaddP B W d o n l F k x' l' F' w') (ha : Lx B W d o n x l F) (hd : Fb W d 60 cs) (hB : B ≤ d) : Kp B W w' :=
  ⟨h.os, h.tape, h.output, h.size, fun q hq => h.block q (by have := hd.lt; omega) (by omega) (fun hm => by have := (ha.ge q hm).1; omega), fun {q t cs'} hf h1 h2 h3 => (h.block q hf.lt (fb_neS hf hd h1) (ha.far hf h2 h3)).trans hf⟩
section
variable {B d : Nat} {room many : Int} {m0 m1 m2 : List Kt} {x0 x1 x2 : Value} {l0 l1 l2 : List Kt} {F0 F1 F2 : List Nat} {W w' : World} {x' : Value} {l' : List Kt} {F' : List Nat} {k : Kt}
theorem Sy.add0 (h : Sy B d room many m0 m1 m2 x0 x1 x2 l0 l1 l2 F0 F1 F2 W) (hp : LaddP B W d 2 0 l0 F0 k x' l' F' w') : Sy B d room many (k :: m0) m1 m2 x' x1 x2 l' l1 l2 F' F1 F2 w' :=
  ⟨hp.own h.fb, h.hd, hp.lx, h.a1.keep (((hp.own h.fb).cell 4).trans (h.fb.cell 4).symm) (((hp.own h.fb).cell 5).trans (h.fb.cell 5).symm) (fun q hq => hp.block q (h.a1.ge q hq).2 (fun e => h.a1.far h.fb store_ne_keys store_ne_key (e ▸ hq)) (fun hm => h.d01 q hm hq)), h.a2.keep (((hp.own h.fb).cell 6).trans (h.fb.cell 6).symm) (((hp.own h.fb).cell 7).trans (h.fb.cell 7).symm) (fun q hq => hp.block q (h.a2.ge q hq).2 (fun e => h.a2.far h.fb store_ne_keys store_ne_key (e ▸ hq)) (fun hm => h.d02 q hm hq)), (hp.pm.trans (h.p0.cons k)), h.p1, h.p2, (fun q hq hm => by
    rcases hp.far q hq with y | y
    · exact h.d01 q y hm
    · have := (h.a1.ge q hm).2; omega), (fun q hq hm => by
    rcases hp.far q hq with y | y
    · exact h.d02 q y hm
    · have := (h.a2.ge q hm).2; omega), h.d12⟩
theorem Sy.add1 (h : Sy B d room many m0 m1 m2 x0 x1 x2 l0 l1 l2 F0 F1 F2 W) (hp : LaddP B W d 4 1 l1 F1 k x' l' F' w') : Sy B d room many m0 (k :: m1) m2 x0 x' x2 l0 l' l2 F0 F' F2 w' :=
  ⟨hp.own h.fb, h.hd, h.a0.keep (((hp.own h.fb).cell 2).trans (h.fb.cell 2).symm) (((hp.own h.fb).cell 3).trans (h.fb.cell 3).symm) (fun q hq => hp.block q (h.a0.ge q hq).2 (fun e => h.a0.far h.fb store_ne_keys store_ne_key (e ▸ hq)) (h.d01 q hq)), hp.lx, h.a2.keep (((hp.own h.fb).cell 6).trans (h.fb.cell 6).symm) (((hp.own h.fb).cell 7).trans (h.fb.cell 7).symm) (fun q hq => hp.block q (h.a2.ge q hq).2 (fun e => h.a2.far h.fb store_ne_keys store_ne_key (e ▸ hq)) (fun hm => h.d12 q hm hq)), h.p0, (hp.pm.trans (h.p1.cons k)), h.p2, (fun q hq hm => by
    rcases hp.far q hm with y | y
    · exact h.d01 q hq y
    · have := (h.a0.ge q hq).2; omega), h.d02, (fun q hq hm => by
    rcases hp.far q hq with y | y
    · exact h.d12 q y hm
    · have := (h.a2.ge q hm).2; omega)⟩
theorem Sy.add2 (h : Sy B d room many m0 m1 m2 x0 x1 x2 l0 l1 l2 F0 F1 F2 W) (hp : LaddP B W d 6 2 l2 F2 k x' l' F' w') : Sy B d room many m0 m1 (k :: m2) x0 x1 x' l0 l1 l' F0 F1 F' w' :=
  ⟨hp.own h.fb, h.hd, h.a0.keep (((hp.own h.fb).cell 2).trans (h.fb.cell 2).symm) (((hp.own h.fb).cell 3).trans (h.fb.cell 3).symm) (fun q hq => hp.block q (h.a0.ge q hq).2 (fun e => h.a0.far h.fb store_ne_keys store_ne_key (e ▸ hq)) (h.d02 q hq)), h.a1.keep (((hp.own h.fb).cell 4).trans (h.fb.cell 4).symm) (((hp.own h.fb).cell 5).trans (h.fb.cell 5).symm) (fun q hq => hp.block q (h.a1.ge q hq).2 (fun e => h.a1.far h.fb store_ne_keys store_ne_key (e ▸ hq)) (h.d12 q hq)), hp.lx, h.p0, h.p1, (hp.pm.trans (h.p2.cons k)), h.d01, (fun q hq hm => by
    rcases hp.far q hm with y | y
    · exact h.d02 q hq y
    · have := (h.a0.ge q hq).2; omega), (fun q hq hm => by
    rcases hp.far q hm with y | y
    · exact h.d12 q hq y
    · have := (h.a1.ge q hq).2; omega)⟩
theorem Sy.below {W W' : World} (h : Sy B d room many m0 m1 m2 x0 x1 x2 l0 l1 l2 F0 F1 F2 W) (hb : Below W.heap.size W W') : Sy B d room many m0 m1 m2 x0 x1 x2 l0 l1 l2 F0 F1 F2 W' :=
  ⟨h.fb.below hb, h.hd, h.a0.below h.fb.lt hb, h.a1.below h.fb.lt hb, h.a2.below h.fb.lt hb, h.p0, h.p1, h.p2, h.d01, h.d02, h.d12⟩
/-- The number of keys is written. -/
theorem Sy.inc {W : World} (h : Sy B d room many m0 m1 m2 x0 x1 x2 l0 l1 l2 F0 F1 F2 W) (y : Int) : Sy B d room y m0 m1 m2 x0 x1 x2 l0 l1 l2 F0 F1 F2 (W.setCell ⟨d, 1, none⟩ (.int .i64 y)) := by
  have hf : Fb (W.setCell ⟨d, 1, none⟩ (.int .i64 y)) d 60 (stc room y x0 x1 x2 1 2) := h.fb.set 1 _
  have hk : ∀ {F : List Nat} {o : Nat} {n : Int} {x : Value} {l : List Kt}, Lx B W d o n x l F → ∀ q ∈ F, (W.setCell ⟨d, 1, none⟩ (.int .i64 y)).heap[q]? = W.heap[q]? := fun {F o n x l} ha q hq => Below.heap_setCell _ _ _ _ (fun e => ha.far h.fb store_ne_keys store_ne_key (by have e2 : q = d := e; rw [← e2]; exact hq))
  exact ⟨hf, h.hd, h.a0.keep ((hf.cell 2).trans (h.fb.cell 2).symm) ((hf.cell 3).trans (h.fb.cell 3).symm) (hk h.a0), h.a1.keep ((hf.cell 4).trans (h.fb.cell 4).symm) ((hf.cell 5).trans (h.fb.cell 5).symm) (hk h.a1), h.a2.keep ((hf.cell 6).trans (h.fb.cell 6).symm) ((hf.cell 7).trans (h.fb.cell 7).symm) (hk h.a2), h.p0, h.p1, h.p2, h.d01, h.d02, h.d12⟩
theorem Sy.kpinc {W : World} (h : Sy B d room many m0 m1 m2 x0 x1 x2 l0 l1 l2 F0 F1 F2 W) (y : Value) : Kp B W (W.setCell ⟨d, 1, none⟩ y) :=
  ⟨rfl, rfl, rfl, by simp [World.setCell], fun q hq => Below.heap_setCell _ _ _ _ (by have := h.hd; dsimp only; omega), fun {q t cs} hf h1 _ _ => (Below.heap_setCell _ _ _ _ (fb_neS hf h.fb h1)).trans hf⟩
/-- While a key is put into the lists. -/
def SyR (B : Nat) (W : World) (d bk : Nat) (room many : Int) (m : List Kt) (k : Kt) (g : Nat) (s : Value) (wr : World) : Prop :=
  Kp B W wr ∧ Fb wr bk 37 #[.int .i64 k.a, .int .i64 k.b, .int .i64 k.c] ∧
  ∃ y0 y1 y2 x0 x1 x2 l0 l1 l2 F0 F1 F2, Sy B d room many y0 y1 y2 x0 x1 x2 l0 l1 l2 F0 F1 F2 wr ∧ bk ∉ F0 ∧ bk ∉ F1 ∧ bk ∉ F2 ∧
  ((g = 3 ∧ s = .int .i64 0 ∧ Hid (y0 = m ∧ y1 = m ∧ y2 = m)) ∨ (g = 2 ∧ s = .int .i64 1 ∧ Hid (y0 = k :: m ∧ y1 = m ∧ y2 = m)) ∨ (g = 1 ∧ s = .int .i64 2 ∧ Hid (y0 = k :: m ∧ y1 = k :: m ∧ y2 = m)) ∨ (g = 0 ∧ s = .int .i64 3 ∧ Hid (y0 = k :: m ∧ y1 = k :: m ∧ y2 = k :: m)))
/-- Add: the keys behind, the error. -/
noncomputable def addR (room : Int) (m : List Kt) (k : Kt) : List Kt × Int := if k.a < 0 ∨ k.b < 0 ∨ k.c < 0 then (m, 2) else if k ∈ m then (m, 5) else if room ≤ m.length then (m, 6) else (k :: m, 0)
def SaddP (B d : Nat) (room : Int) (W : World) (r : List Kt × Int) (e : Ending) (w' : World) : Prop := e = .returned (.int .i64 r.2) ∧ Sx B d room (r.1.length : Int) r.1 r.1 r.1 w' ∧ Kp B W w'
end
set_option maxHeartbeats 16000000 in
theorem sadd_sx {B d : Nat} {room : Int} {m : List Kt} {W : World} (h : Sx B d room (m.length : Int) m m m W) (hml : m.length ≤ 200) (k : Kt) :
    Calls Try.prog 11 #[.pointer (some ⟨d, 0, none⟩), .agg #[.int .i64 k.a, .int .i64 k.b, .int .i64 k.c]] W (SaddP B d room W (addR room m k)) := by
  obtain ⟨W2, hW2⟩ : ∃ W2, W2 = W.alloc (.cells #[.int .i64 k.a, .int .i64 k.b, .int .i64 k.c] 37) := ⟨_, rfl⟩
  have hB1 : Below W.heap.size W W2 := by rw [hW2]; exact (Below.refl _ _).alloc (Nat.le_refl _) _
  have hk : Fb W2 W.heap.size 37 #[.int .i64 k.a, .int .i64 k.b, .int .i64 k.c] := by rw [hW2]; exact Fb.new _ _ _
  have hBW : B ≤ W.heap.size ∧ d < W.heap.size := by
    obtain ⟨_, _, _, _, _, _, _, _, _, q⟩ := h
    exact ⟨Nat.le_of_lt (Nat.lt_of_le_of_lt q.hd q.fb.lt), q.fb.lt⟩
  have h2 := h.below hB1
  have cH := shas_sx h2 (by omega) k
  have k0 : W2.cell? ⟨W.heap.size, 0, none⟩ = some (.int .i64 k.a) := hk.cell 0
  have k1 : W2.cell? ⟨W.heap.size, 1, none⟩ = some (.int .i64 k.b) := hk.cell 1
  have k2 : W2.cell? ⟨W.heap.size, 2, none⟩ = some (.int .i64 k.c) := hk.cell 2
  obtain ⟨M, hM⟩ : ∃ M : Int, M = (if (if k.b < k.a then k.b else k.a) > k.c then k.c else (if k.b < k.a then k.b else k.a)) := ⟨_, rfl⟩
  have hmin : ∀ (ts : Array TypeId) (ty : TypeId) w, (Builtin.min_ ts ty #[.int .i64 k.a, .int .i64 k.b, .int .i64 k.c]).run Try.prog w = .ok (.int .i64 M) w := fun ts ty w => by
    rw [hM]
    simp [Builtin.min_, Builtin.min2]
  have HE := Lib.hid (fun (r : Int) (w : World) (hb : Below W.heap.size W w) (hr : addR room m k = (m, r)) => (show SaddP B d room W (addR room m k) (.returned (.int .i64 r)) w from by rw [hr]; exact ⟨rfl, h.below hb, Kp.of hb hBW.1⟩))
  have HB1 := Lib.hid hB1
  have HML := Lib.hid hml
  have HBW := Lib.hid hBW
  have H2 := Lib.hid h2
  have HK := Lib.hid hk
  by_cases hneg : k.a < 0 ∨ k.b < 0 ∨ k.c < 0
  · have hMn : M < 0 := by rw [hM]; split <;> split at * <;> omega
    have HR := Lib.hid (show addR room m k = (m, 2) from by unfold addR; rw [if_pos hneg])
    clear hM hneg h hB1 hk h2 cH hml hBW
    subst hW2
    go_enter Try.func11, Try.ntmps11
    go_wp2
    go_ret
    exact HE.out _ _ HB1.out HR.out
  · have hMn : ¬ M < 0 := by rw [hM]; split <;> split at * <;> omega
    have HNN := Lib.hid hneg
    by_cases hkm : k ∈ m
    · have HR := Lib.hid (show addR room m k = (m, 5) from by unfold addR; rw [if_neg hneg, if_pos hkm])
      rw [decide_eq_true hkm] at cH
      clear hM hneg h hB1 hk h2 hml hBW hkm
      subst hW2
      go_enter Try.func11, Try.ntmps11
      go_wp2_with (go_at_call 15; (with_reducible refine cH.mono ?_); rintro e w1 ⟨rfl, hb1⟩)
      go_ret
      exact HE.out _ _ (HB1.out.trans (hb1.mono HB1.out.size)) HR.out
    · rw [decide_eq_false hkm] at cH
      have HKM := Lib.hid hkm
      have hz : ∀ w1 : World, Below W2.heap.size W2 w1 → w1.cell? ⟨d, 0, none⟩ = some (.int .i64 room) ∧ w1.cell? ⟨d, 1, none⟩ = some (.int .i64 m.length) := fun w1 hb => by
        obtain ⟨_, _, _, _, _, _, _, _, _, q⟩ := H2.out.below hb
        exact ⟨q.fb.cell 0, q.fb.cell 1⟩
      have HZ := Lib.hid hz
      by_cases hfull : room ≤ (m.length : Int)
      · have HR := Lib.hid (show addR room m k = (m, 6) from by unfold addR; rw [if_neg hneg, if_neg hkm, if_pos hfull])
        have d1 : decide (room ≤ (m.length : Int)) = true := decide_eq_true hfull
        clear hM hneg h hB1 hk h2 hml hBW hkm hz
        subst hW2
        go_enter Try.func11, Try.ntmps11
        go_wp2_with (go_at_call 15; (with_reducible refine cH.mono ?_); rintro e w1 ⟨rfl, hb1⟩; obtain ⟨z0, z1⟩ := HZ.out _ hb1)
        go_quiet (fail)
        go_wp2
        go_ret
        exact HE.out _ _ (below_drewP (HB1.out.trans (hb1.mono HB1.out.size)) _) HR.out
      · have HR := Lib.hid (show addR room m k = (k :: m, 0) from by unfold addR; rw [if_neg hneg, if_neg hkm, if_neg hfull])
        have d1 : decide (room ≤ (m.length : Int)) = false := decide_eq_false hfull
        have hst : ∀ w1 : World, Below W2.heap.size W2 w1 → SyR B W d W.heap.size room m.length m k 3 (.int .i64 0) w1 := fun w1 hb => by
          obtain ⟨x0, x1, x2, l0, l1, l2, F0, F1, F2, q⟩ := H2.out
          obtain ⟨y0, y1, y2, t0, t1, t2, G0, G1, G2, p⟩ := h
          have hbb := HB1.out.trans (hb.mono HB1.out.size)
          exact ⟨Kp.of hbb HBW.out.1, HK.out.below hb, m, m, m, y0, y1, y2, t0, t1, t2, G0, G1, G2, p.below hbb, (fun hm => by have := (p.a0.ge _ hm).2; omega), (fun hm => by have := (p.a1.ge _ hm).2; omega), (fun hm => by have := (p.a2.ge _ hm).2; omega), .inl ⟨rfl, rfl, Lib.hid ⟨rfl, rfl, rfl⟩⟩⟩
        have HST := Lib.hid hst
        have HDW := Lib.hid hBW.2
        clear hM hneg h hB1 hk h2 hml hBW hkm hz hst
        subst hW2
        go_enter Try.func11, Try.ntmps11
        go_wp2_with (go_at_call 15; (with_reducible refine cH.mono ?_); rintro e w1 ⟨rfl, hb1⟩; obtain ⟨z0, z1⟩ := HZ.out _ hb1)
        go_quiet (fail)
        go_wp2
        have HS := Lib.hid (HST.out _ (below_drewP hb1 nq))
        clear hb1 cH k0 k1 k2 z0 z1 HZ HST HE hmin
        go_loopg [29] 3 (fun g s wr => SyR B W d W.heap.size room m.length m k g s wr)
        case atStart => exact HS.out
        case round =>
          clear HS
          obtain ⟨hKP, hKB, y0, y1, y2, x0, x1, x2, l0, l1, l2, F0, F1, F2, hY, nb0, nb1, nb2, hw⟩ := hrel
          have k0 : wr.cell? ⟨W.heap.size, 0, none⟩ = some (.int .i64 k.a) := hKB.cell 0
          have k1 : wr.cell? ⟨W.heap.size, 1, none⟩ = some (.int .i64 k.b) := hKB.cell 1
          have k2 : wr.cell? ⟨W.heap.size, 2, none⟩ = some (.int .i64 k.c) := hKB.cell 2
          have HKP := Lib.hid hKP
          have HKB := Lib.hid hKB
          have HY := Lib.hid hY
          have HNB := Lib.hid (And.intro nb0 (And.intro nb1 nb2))
          have HBL := Lib.hid hKB.lt
          clear hKP hKB hY nb0 nb1 nb2
          rcases hw with ⟨hg, rfl, HZ⟩ | ⟨hg, rfl, HZ⟩ | ⟨hg, rfl, HZ⟩ | ⟨hg, rfl, HZ⟩
          · subst hg
            have hmi : k ∉ y0 := by rw [HZ.out.1]; exact HKM.out
            have hli : l0.length ≤ 200 := by rw [HY.out.p0.length_eq, HZ.out.1]; exact HML.out
            have hD := HY.out.below (Below.drew (Below.refl _ _))
            have cL := sladd_lx (W := wr.drew) (d := d) (o := 2) hD.fb rfl rfl hD.a0 hli (by have := HY.out.fb.lt; have := HY.out.hd; show B ≤ wr.heap.size; omega) k (fun hm => hmi (HY.out.p0.mem_iff.1 hm))
            have HD := Lib.hid hD
            clear hD hmi hli
            go_wp2
            go_region_held3 (fun w => w.cell? ⟨W.heap.size, 0, none⟩ = some (.int .i64 k.a) ∧ w.cell? ⟨W.heap.size, 1, none⟩ = some (.int .i64 k.b) ∧ w.cell? ⟨W.heap.size, 2, none⟩ = some (.int .i64 k.c))
              (first | exact ⟨k0, k1, k2⟩ | exact ⟨Fb.cell HK6.out 0, Fb.cell HK6.out 1, Fb.cell HK6.out 2⟩)
              (first
                | (go_at_call 24; (with_reducible refine cL.mono ?_); rintro e w5 ⟨rfl, x', l', F', hP⟩; have HP := Lib.hid hP; have HK6 : Hid (Fb w5 W.heap.size 37 #[.int .i64 k.a, .int .i64 k.b, .int .i64 k.c]) := Lib.hid ((hP.block _ HBL.out (Nat.ne_of_lt (Nat.lt_of_lt_of_le HDW.out (Nat.le_refl _))).symm HNB.out.1).trans HKB.out); clear hP)
                | fail)
            all_goals
              go_wp2
              go_roundg 2
              case measure => exact Nat.lt_succ_self _
              case rel =>
                have HNX : Hid (W.heap.size ∉ F') := Lib.hid (fun hm => by
                  rcases HP.out.far _ hm with y | y
                  · exact HNB.out.1 y
                  · have h1 := HBL.out
                    have h2 : wr.heap.size ≤ W.heap.size := y
                    omega)
                exact ⟨HKP.out.trans ((Kp.of (Below.drew (Below.refl _ _)) (by have := HY.out.fb.lt; have := HY.out.hd; omega)).trans (HP.out.kp HD.out.a0 HD.out.fb HD.out.hd)), HK6.out, _, _, _, _, _, _, _, _, _, _, _, _, HD.out.add0 HP.out, HNX.out, HNB.out.2.1, HNB.out.2.2, .inr (.inl ⟨rfl, rfl, Lib.hid ⟨by rw [HZ.out.1], HZ.out.2.1, HZ.out.2.2⟩⟩)⟩
          · subst hg
            have hmi : k ∉ y1 := by rw [HZ.out.2.1]; exact HKM.out
            have hli : l1.length ≤ 200 := by rw [HY.out.p1.length_eq, HZ.out.2.1]; exact HML.out
            have hD := HY.out.below (Below.drew (Below.refl _ _))
            have cL := sladd_lx (W := wr.drew) (d := d) (o := 4) hD.fb rfl rfl hD.a1 hli (by have := HY.out.fb.lt; have := HY.out.hd; show B ≤ wr.heap.size; omega) k (fun hm => hmi (HY.out.p1.mem_iff.1 hm))
            have HD := Lib.hid hD
            clear hD hmi hli
            go_wp2
            go_region_held3 (fun w => w.cell? ⟨W.heap.size, 0, none⟩ = some (.int .i64 k.a) ∧ w.cell? ⟨W.heap.size, 1, none⟩ = some (.int .i64 k.b) ∧ w.cell? ⟨W.heap.size, 2, none⟩ = some (.int .i64 k.c))
              (first | exact ⟨k0, k1, k2⟩ | exact ⟨Fb.cell HK6.out 0, Fb.cell HK6.out 1, Fb.cell HK6.out 2⟩)
              (first
                | (go_at_call 24; (with_reducible refine cL.mono ?_); rintro e w5 ⟨rfl, x', l', F', hP⟩; have HP := Lib.hid hP; have HK6 : Hid (Fb w5 W.heap.size 37 #[.int .i64 k.a, .int .i64 k.b, .int .i64 k.c]) := Lib.hid ((hP.block _ HBL.out (Nat.ne_of_lt (Nat.lt_of_lt_of_le HDW.out (Nat.le_refl _))).symm HNB.out.2.1).trans HKB.out); clear hP)
                | fail)
            all_goals
              go_wp2
              go_roundg 1
              case measure => exact Nat.lt_succ_self _
              case rel =>
                have HNX : Hid (W.heap.size ∉ F') := Lib.hid (fun hm => by
                  rcases HP.out.far _ hm with y | y
                  · exact HNB.out.2.1 y
                  · have h1 := HBL.out
                    have h2 : wr.heap.size ≤ W.heap.size := y
                    omega)
                exact ⟨HKP.out.trans ((Kp.of (Below.drew (Below.refl _ _)) (by have := HY.out.fb.lt; have := HY.out.hd; omega)).trans (HP.out.kp HD.out.a1 HD.out.fb HD.out.hd)), HK6.out, _, _, _, _, _, _, _, _, _, _, _, _, HD.out.add1 HP.out, HNB.out.1, HNX.out, HNB.out.2.2, .inr (.inr (.inl ⟨rfl, rfl, Lib.hid ⟨HZ.out.1, by rw [HZ.out.2.1], HZ.out.2.2⟩⟩))⟩
          · subst hg
            have hmi : k ∉ y2 := by rw [HZ.out.2.2]; exact HKM.out
            have hli : l2.length ≤ 200 := by rw [HY.out.p2.length_eq, HZ.out.2.2]; exact HML.out
            have hD := HY.out.below (Below.drew (Below.refl _ _))
            have cL := sladd_lx (W := wr.drew) (d := d) (o := 6) hD.fb rfl rfl hD.a2 hli (by have := HY.out.fb.lt; have := HY.out.hd; show B ≤ wr.heap.size; omega) k (fun hm => hmi (HY.out.p2.mem_iff.1 hm))
            have HD := Lib.hid hD
            clear hD hmi hli
            go_wp2
            go_region_held3 (fun w => w.cell? ⟨W.heap.size, 0, none⟩ = some (.int .i64 k.a) ∧ w.cell? ⟨W.heap.size, 1, none⟩ = some (.int .i64 k.b) ∧ w.cell? ⟨W.heap.size, 2, none⟩ = some (.int .i64 k.c))
              (first | exact ⟨k0, k1, k2⟩ | exact ⟨Fb.cell HK6.out 0, Fb.cell HK6.out 1, Fb.cell HK6.out 2⟩)
              (first
                | (go_at_call 24; (with_reducible refine cL.mono ?_); rintro e w5 ⟨rfl, x', l', F', hP⟩; have HP := Lib.hid hP; have HK6 : Hid (Fb w5 W.heap.size 37 #[.int .i64 k.a, .int .i64 k.b, .int .i64 k.c]) := Lib.hid ((hP.block _ HBL.out (Nat.ne_of_lt (Nat.lt_of_lt_of_le HDW.out (Nat.le_refl _))).symm HNB.out.2.2).trans HKB.out); clear hP)
                | fail)
            all_goals
              go_wp2
              go_roundg 0
              case measure => exact Nat.lt_succ_self _
              case rel =>
                have HNX : Hid (W.heap.size ∉ F') := Lib.hid (fun hm => by
                  rcases HP.out.far _ hm with y | y
                  · exact HNB.out.2.2 y
                  · have h1 := HBL.out
                    have h2 : wr.heap.size ≤ W.heap.size := y
                    omega)
                exact ⟨HKP.out.trans ((Kp.of (Below.drew (Below.refl _ _)) (by have := HY.out.fb.lt; have := HY.out.hd; omega)).trans (HP.out.kp HD.out.a2 HD.out.fb HD.out.hd)), HK6.out, _, _, _, _, _, _, _, _, _, _, _, _, HD.out.add2 HP.out, HNB.out.1, HNB.out.2.1, HNX.out, .inr (.inr (.inr ⟨rfl, rfl, Lib.hid ⟨HZ.out.1, HZ.out.2.1, by rw [HZ.out.2.2]⟩⟩))⟩
          · have c1 : wr.cell? ⟨d, 1, none⟩ = some (.int .i64 m.length) := HY.out.fb.cell 1
            have f1 := HY.out.fb.free 1
            have ld := HY.out.fb.lt
            have hwz : wrap64 ((m.length : Int) + 1) = (m.length : Int) + 1 := IntWalk.wrap64_in _ ⟨by omega, by have := HML.out; omega⟩
            have hwz2 : IntKind.i64.wrap ((m.length : Int) + 1) = (m.length : Int) + 1 := IntWalk.i64_in _ (by have := HML.out; omega)
            have hfin : SaddP B d room W (addR room m k) (.returned (.int .i64 0)) (wr.setCell ⟨d, 1, none⟩ (.int .i64 ((m.length : Int) + 1))) := by
              rw [HR.out]
              have hq := HY.out.inc ((m.length : Int) + 1)
              rw [HZ.out.1, HZ.out.2.1, HZ.out.2.2] at hq
              exact ⟨rfl, ⟨_, _, _, _, _, _, _, _, _, by simpa using hq⟩, HKP.out.trans (HY.out.kpinc _)⟩
            have HF := Lib.hid hfin
            clear hfin
            subst hg
            go_wp2
            go_ret
            exact HF.out
end Go.Proofs.Ytoiigplflmejmaa
