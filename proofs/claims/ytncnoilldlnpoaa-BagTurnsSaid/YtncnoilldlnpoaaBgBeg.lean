/-
  Bag.begin: a place for the keys of a time that has none.
-/
import Derived.Test.YtncnoilldlnpoaaBgRow
namespace Go.Proofs.Ytncnoilldlnpoaa
open Go.RowKit
set_option linter.unusedVariables false
set_option linter.unusedSimpArgs false
set_option maxRecDepth 100000

theorem part_at {x : Int} : ∀ {ts : List Int}, ts.Pairwise (· < ·) → (∀ y ∈ ts.take (ts.countP (· < x)), y < x) ∧ ∀ y ∈ ts.drop (ts.countP (· < x)), x ≤ y
  | [], _ => ⟨fun y h => by simp at h, fun y h => by simp at h⟩
  | t :: ts, h => by
    obtain ⟨h1, h2⟩ := List.pairwise_cons.1 h
    obtain ⟨ih1, ih2⟩ := part_at (x := x) h2
    by_cases ht : t < x
    · rw [List.countP_cons_of_pos (by simpa using ht)]
      refine ⟨fun y hy => ?_, fun y hy => ih2 y hy⟩
      rw [List.take_succ_cons] at hy
      rcases List.mem_cons.1 hy with rfl | hy
      · exact ht
      · exact ih1 y hy
    · have h0 : ts.countP (· < x) = 0 := by
        rw [List.countP_eq_zero]
        intro y hy
        have := h1 y hy
        simp
        omega
      rw [List.countP_cons_of_neg (by simpa using ht), h0]
      refine ⟨fun y hy => by simp at hy, fun y hy => ?_⟩
      rw [List.drop_zero] at hy
      rcases List.mem_cons.1 hy with rfl | hy
      · omega
      · have := h1 y hy
        omega
theorem ins_so {x : Int} {ts : List Int} (h : ts.Pairwise (· < ·)) (hx : x ∉ ts) : (ts.take (ts.countP (· < x)) ++ x :: ts.drop (ts.countP (· < x))).Pairwise (· < ·) := by
  obtain ⟨p1, p2⟩ := part_at (x := x) h
  have p3 : ∀ y ∈ ts.drop (ts.countP (· < x)), x < y := fun y hy => by
    have := p2 y hy
    rcases Int.lt_or_eq_of_le this with h | h
    · exact h
    · exact absurd (h ▸ List.mem_of_mem_drop hy) hx
  refine List.pairwise_append.2 ⟨h.sublist (List.take_sublist _ _), List.pairwise_cons.2 ⟨p3, h.sublist (List.drop_sublist _ _)⟩, fun a ha b hb => ?_⟩
  rcases List.mem_cons.1 hb with rfl | hb
  · exact p1 a ha
  · have := p1 a ha
    have := p3 b hb
    omega
theorem TsR.shape {B : Nat} {W : World} {v : Value} {ts : List Int} (h : TsR B W v ts) : ∃ A n c, v = .slice A n c := by
  rcases id h.2 with ⟨hv, _⟩ | ⟨g, cap, cur, hv, _⟩
  · exact ⟨_, _, _, hv⟩
  · exact ⟨_, _, _, hv⟩
/-- What a call of a bag leaves: the bag, with other elements. -/
structure Nx (B d : Nat) (room : Int) (am : Nat) (v : Value) (D : List Tz) (W : World) (v' : Value) (D' : List Tz) (M' : List (Int × Ky)) (w' : World) : Prop where
  bk : Bk B d room v' am D' M' w'
  ch : Ch (Fp d am v D) W w'
  fp : ∀ q, Fp d am v' D' q → Fp d am v D q ∨ W.heap.size ≤ q
def BegP (B d : Nat) (room : Int) (am : Nat) (v : Value) (D : List Tz) (M : List (Int × Ky)) (W : World) (x : Int) (e : Ending) (w' : World) : Prop :=
  e = .returned (.tuple #[]) ∧ ∃ v' nb D1 D2, D = D1 ++ D2 ∧ Nx B d room am v D W v' (D1 ++ ⟨x, nb, []⟩ :: D2) M w' ∧ TsR B w' v' ((D1 ++ ⟨x, nb, []⟩ :: D2).map (·.t))
theorem mkMap (w : World) : (Instr.makeMap 51 none).run Try.prog w = .ok (.map (some w.heap.size)) (w.alloc (.map #[] 0)) := by
  first | rfl | kernel_rfl | simp [Instr.makeMap]
section
variable {B d am : Nat} {room : Int} {v : Value} {D : List Tz} {M : List (Int × Ky)} {W : World}
/-- The end of begin: the row, and the map, hold one more. -/
theorem beg_end (h : Bk B d room v am D M W) (hB : B ≤ W.heap.size) {x : Int} (hx : x ∉ D.map (·.t)) {w2 W5 : World} {v' : Value} {o : Obj} {E : List (Int × Nat)} {vb : Nat}
    (hE : E.Perm (D.map fun z => (z.t, z.b))) (hvb : W.heap.size ≤ vb)
    (hg : Ch (fun q => vB v = some q) W w2) (hr : TsR B w2 v' ((D.map (·.t)).take ((D.map (·.t)).countP (· < x)) ++ x :: (D.map (·.t)).drop ((D.map (·.t)).countP (· < x)))) (hv' : ∀ k, vB v' = some k → vB v = some k ∨ W.heap.size ≤ k) (hv9 : ∀ k, vB v' = some k → k < w2.heap.size)
    (hmo : Mq iE mE (putBlock ((w2.setCell ⟨d, 3, none⟩ v').alloc (.map #[] 0)) am o) am (putM x w2.heap.size E)) (hW5 : W5 = putBlock ((w2.setCell ⟨d, 3, none⟩ v').alloc (.map #[] 0)) am o) (hl : D.length ≤ 50000) :
    BegP B d room am v D M W x (.returned (.tuple #[])) W5 := by
  obtain ⟨i, hi⟩ : ∃ i, i = (D.map (·.t)).countP (· < x) := ⟨_, rfl⟩
  have hso := ins_so h.so hx
  rw [← hi] at hr hso
  have e1 : (D.map (·.t)).take i ++ x :: (D.map (·.t)).drop i = (D.take i ++ (⟨x, w2.heap.size, []⟩ : Tz) :: D.drop i).map (·.t) := by simp [List.map_take, List.map_drop]
  rw [e1] at hr hso
  have hDp : (D.take i ++ (⟨x, w2.heap.size, []⟩ : Tz) :: D.drop i).Perm (⟨x, w2.heap.size, []⟩ :: D) := by
    refine List.perm_middle.trans ?_
    rw [List.take_append_drop]
  have hmem : ∀ z, z ∈ D.take i ++ (⟨x, w2.heap.size, []⟩ : Tz) :: D.drop i ↔ z = ⟨x, w2.heap.size, []⟩ ∨ z ∈ D := fun z => by rw [hDp.mem_iff]; simp
  have s0 := hg.size
  have hd := h.lt d (.inl rfl)
  have ham := h.lt am (.inr (.inl rfl))
  have dam : d ≠ am := by
    obtain ⟨E0, h0, _⟩ := h.mo
    exact h0.ne h.st
  have s1 : ((w2.setCell ⟨d, 3, none⟩ v').alloc (.map #[] 0)).heap.size = w2.heap.size + 1 := by simp
  have s5 : W5.heap.size = w2.heap.size + 1 := by rw [hW5, putBlock_size, s1]
  have far : ∀ q, q ≠ d → q ≠ am → q < w2.heap.size → W5.heap[q]? = w2.heap[q]? := fun q h1 h2 h3 => by
    rw [hW5, putBlock_far h2]
    exact (Below.heap_alloc _ _ q (by simpa using h3)).trans (Below.heap_setCell _ _ _ _ h1)
  have hrow2 : TsA W5 v' ((D.take i ++ (⟨x, w2.heap.size, []⟩ : Tz) :: D.drop i).map (·.t)) ∧ TsR B W5 v' ((D.take i ++ (⟨x, w2.heap.size, []⟩ : Tz) :: D.drop i).map (·.t)) := by
    have hq : ∀ k, vB v' = some k → W5.heap[k]? = w2.heap[k]? := fun k hk => by
      have hkl := hv9 k hk
      refine far k (fun e => ?_) (fun e => ?_) hkl
      · rcases hv' k hk with h1 | h1
        · exact h.vd (e ▸ h1)
        · omega
      · rcases id hr.2 with ⟨h1, _⟩ | ⟨g, cap, cur, h1, _, h2, _⟩
        · rw [h1] at hk; cases hk
        · rw [h1] at hk
          injection hk with hk
          have hk' : g = k := hk
          rcases hv' k (by rw [h1, ← hk']; rfl) with h3 | h3
          · obtain ⟨E0, ⟨es, c, y1, _⟩, _⟩ := h.mo
            rcases h.ts with ⟨z1, _⟩ | ⟨g', off, c', cs', z1, z2, _⟩
            · rw [z1] at h3; cases h3
            · rw [z1] at h3
              injection h3 with h3
              have h3' : g' = k := h3
              unfold Fb at z2
              rw [h3', e, y1] at z2
              cases z2
          · omega
    have hR : TsR B W5 v' ((D.take i ++ (⟨x, w2.heap.size, []⟩ : Tz) :: D.drop i).map (·.t)) := by
      refine ⟨hr.1, ?_⟩
      rcases id hr.2 with y | ⟨g, cap, cur, h1, h0, h2, h3⟩
      · exact .inl y
      · exact .inr ⟨g, cap, cur, h1, h0, (hq g (by rw [h1]; rfl)).trans h2, h3⟩
    exact ⟨hR.at (by rw [List.length_map, hDp.length_eq]; simp; omega), hR⟩
  refine ⟨rfl, v', w2.heap.size, D.take i, D.drop i, (List.take_append_drop i D).symm, ⟨⟨?_, ⟨_, hW5 ▸ hmo, ?_⟩, fun z hz => ?_, hrow2.1, hso, ?_, fun z hz => ?_, fun q hq => ?_, fun q hq => ?_, ?_, fun z hz k => ?_, fun z hz => ?_, fun z hz => ?_, fun z hz => ?_, fun y hy => ?_⟩, ?_, fun q hq => ?_⟩, hrow2.2⟩
  · rw [hW5]
    unfold Fb
    rw [putBlock_far dam]
    have hf : Fb w2 d 48 #[.int .i64 room, .int .i64 M.length, .map (some am), v] := (hg.far d hd (fun e => h.vd e)).trans h.st
    exact (hf.set 3 v').alloc _
  · have hnE : posM x E = none := by
      cases hp : posM x E with
      | none => rfl
      | some q =>
        obtain ⟨j, u⟩ := q
        have := List.mem_of_getElem? (pos_at hp)
        have := hE.mem_iff.1 this
        obtain ⟨z, hz, e⟩ := List.mem_map.1 this
        exact absurd (List.mem_map.2 ⟨z, hz, congrArg Prod.fst e⟩) hx
    rw [put_none _ hnE]
    refine (hE.append_right _).trans ?_
    refine List.perm_append_comm.trans ?_
    simpa using (hDp.map (fun z : Tz => (z.t, z.b))).symm
  · rcases (hmem z).1 hz with rfl | hz
    · have hn := Mq.new (enc := kE) (encV := nE) (w2.setCell ⟨d, 3, none⟩ v')
      rw [show (w2.setCell ⟨d, 3, none⟩ v').heap.size = w2.heap.size by simp] at hn
      refine hn.of ?_
      rw [hW5]
      exact putBlock_far (show w2.heap.size ≠ am by omega)
    · have hzl := h.lt z.b (.inr (.inr (.inr ⟨z, hz, rfl⟩)))
      have hzv : vB v ≠ some z.b := fun e => by
        rcases h.ts with ⟨z1, _⟩ | ⟨g', off, c', cs', z1, z2, _⟩
        · rw [z1] at e; cases e
        · rw [z1] at e
          injection e with e
          have e' : g' = z.b := e
          exact (h.mi z hz).ne z2 e'
      exact (h.mi z hz).of ((far z.b (fun e => (h.mi z hz).ne h.st e.symm) (h.ne z hz) (by omega)).trans (hg.far z.b hzl hzv))
  · refine ((hDp.map (·.b)).nodup_iff).2 ?_
    simp only [List.map_cons, List.nodup_cons]
    refine ⟨fun hm => ?_, h.un⟩
    obtain ⟨z, hz, e⟩ := List.mem_map.1 hm
    have := h.lt z.b (.inr (.inr (.inr ⟨z, hz, rfl⟩)))
    omega
  · rcases (hmem z).1 hz with rfl | hz
    · show w2.heap.size ≠ am
      omega
    · exact h.ne z hz
  · rcases hq with rfl | rfl | hq | ⟨z, hz, rfl⟩
    · exact h.ge _ (.inl rfl)
    · exact h.ge _ (.inr (.inl rfl))
    · rcases hv' q hq with h1 | h1
      · exact h.ge q (.inr (.inr (.inl h1)))
      · omega
    · rcases (hmem z).1 hz with rfl | hz
      · show B ≤ w2.heap.size
        omega
      · exact h.ge z.b (.inr (.inr (.inr ⟨z, hz, rfl⟩)))
  · rw [s5]
    rcases hq with rfl | rfl | hq | ⟨z, hz, rfl⟩
    · omega
    · omega
    · have := hv9 q hq
      omega
    · rcases (hmem z).1 hz with rfl | hz
      · exact Nat.lt_succ_self _
      · have := h.lt z.b (.inr (.inr (.inr ⟨z, hz, rfl⟩)))
        omega
  · intro e
    rcases hv' d e with h1 | h1
    · exact h.vd h1
    · omega
  · rcases (hmem z).1 hz with rfl | hz
    · show cntK [] k = M.count (x, k)
      rw [List.count_eq_zero.2]
      · rfl
      · intro hm
        exact hx (h.al _ hm)
    · exact h.cn z hz k
  · rcases (hmem z).1 hz with rfl | hz
    · show sumN [] = M.countP (fun y => decide (y.1 = x))
      rw [List.countP_eq_zero.2]
      · rfl
      · intro y hy
        simp only [decide_eq_true_eq]
        intro e
        exact hx (e ▸ h.al y hy)
    · exact h.sm z hz
  · rcases (hmem z).1 hz with rfl | hz
    · exact List.nodup_nil
    · exact h.nd z hz
  · rcases (hmem z).1 hz with rfl | hz
    · intro p hp; cases hp
    · exact h.ps z hz
  · have := h.al y hy
    obtain ⟨z, hz, e⟩ := List.mem_map.1 this
    exact List.mem_map.2 ⟨z, (hmem z).2 (.inr hz), e⟩
  · refine ⟨?_, ?_, ?_, by omega, fun q hq hf => ?_⟩
    · rw [hW5]; exact hg.os
    · rw [hW5]; exact hg.tape
    · rw [hW5]; exact hg.output
    · exact (far q (fun e => hf (.inl e)) (fun e => hf (.inr (.inl e))) (by omega)).trans (hg.far q hq (fun e => hf (.inr (.inr (.inl e)))))
  · rcases hq with rfl | rfl | hq | ⟨z, hz, rfl⟩
    · exact .inl (.inl rfl)
    · exact .inl (.inr (.inl rfl))
    · rcases hv' q hq with h1 | h1
      · exact .inl (.inr (.inr (.inl h1)))
      · exact .inr h1
    · rcases (hmem z).1 hz with rfl | hz
      · exact .inr s0
      · exact .inl (.inr (.inr (.inr ⟨z, hz, rfl⟩)))
set_option maxHeartbeats 8000000 in
theorem begin_any (h : Bk B d room v am D M W) (hr : TsR B W v (D.map (·.t))) (hB : B ≤ W.heap.size) (hl : D.length ≤ 40000) {x : Int} (hx : x ∉ D.map (·.t)) :
    Calls Try.prog 15 #[.pointer (some ⟨d, 0, none⟩), .int .i64 x] W (BegP B d room am v D M W x) := by
  have cB := gbin_any h.ts h.so x
  have hd := h.lt d (.inl rfl)
  have c3 : W.cell? ⟨d, 3, none⟩ = some v := h.st.cell 3
  have hi : (D.map (·.t)).countP (· < x) ≤ (D.map (·.t)).length := List.countP_le_length
  have cI := fun (q : Nat) => gins_any (W := (W.drewN q).alloc (.cells #[.int .i64 x] 3)) (vb := W.heap.size) (i := (D.map (·.t)).countP (· < x)) (x := x) (B := B) (v := v) (ts := D.map (·.t))
    (by
      refine ⟨hr.1, ?_⟩
      rcases id hr.2 with y | ⟨g, cap, cur, h1, h0, h2, h3⟩
      · exact .inl y
      · exact .inr ⟨g, cap, cur, h1, h0, (Below.heap_alloc _ _ g (Array.getElem?_eq_some_iff.1 h2).1).trans h2, h3⟩)
    (by rw [List.length_map]; omega) (by simp; omega) hi (Fb.new _ _ _) (fun e => by have := h.lt _ (.inr (.inr (.inl e))); omega)
  have HE := Lib.hid (fun (q : Nat) (w2 : World) (v' : Value) (hI : InsP B v (D.map (·.t)) ((W.drewN q).alloc (.cells #[.int .i64 x] 3)) ((D.map (·.t)).countP (· < x)) x (.returned v') w2) => (show (w2.cell? ⟨d, 2, none⟩ = some (.map (some am)) ∧ w2.cell? ⟨d, 3, none⟩ = some v ∧ w2.frozen? ⟨d, 3, none⟩ = false) ∧
      ∃ o, (Instr.mapUpdate 45 (.map (some am)) (.int .i64 x) (.map (some w2.heap.size))).run Try.prog ((w2.setCell ⟨d, 3, none⟩ v').alloc (.map #[] 0)) = .ok () (putBlock ((w2.setCell ⟨d, 3, none⟩ v').alloc (.map #[] 0)) am o) ∧ BegP B d room am v D M W x (.returned (.tuple #[])) (putBlock ((w2.setCell ⟨d, 3, none⟩ v').alloc (.map #[] 0)) am o) from by
    obtain ⟨u, e, r1, r2, r3⟩ := hI
    injection e with e
    subst e
    have hs1 : ((W.drewN q).alloc (.cells #[.int .i64 x] 3)).heap.size = W.heap.size + 1 := by simp
    have hs2 := r2.size
    have hf : Fb w2 d 48 #[.int .i64 room, .int .i64 M.length, .map (some am), v] := by
      unfold Fb
      rw [r2.block d (by omega) (fun e => h.vd e.symm)]
      exact (Below.heap_alloc _ _ d hd).trans h.st
    obtain ⟨E, hE1, hE2⟩ := h.mo
    have ham := hE1.lt
    have hv9 : ∀ k, vB v' = some k → k < w2.heap.size := fun k hk => by
      rcases id r1.2 with ⟨y, _⟩ | ⟨g, cap, cur, y1, _, y2, _⟩
      · rw [y] at hk; cases hk
      · rw [y1] at hk
        injection hk with hk
        have hk' : g = k := hk
        exact hk' ▸ (Array.getElem?_eq_some_iff.1 y2).1
    have hvam : vB v ≠ some am := fun e => by
      rcases h.ts with ⟨z1, _⟩ | ⟨g', off, c', cs', z1, z2, _⟩
      · rw [z1] at e; cases e
      · rw [z1] at e
        injection e with e
        have e' : g' = am := e
        exact hE1.ne z2 e'
    have dam : d ≠ am := hE1.ne h.st
    have hm2 : Mq iE mE w2 am E := hE1.of ((r2.block am (by omega) (fun e => hvam e.symm)).trans (Below.heap_alloc _ _ am ham))
    have hm4 : Mq iE mE ((w2.setCell ⟨d, 3, none⟩ v').alloc (.map #[] 0)) am E := hm2.of ((Below.heap_alloc _ _ am (by simp; omega)).trans (Below.heap_setCell _ _ _ _ dam.symm))
    obtain ⟨o, u1, u2⟩ := hm4.update KLi mapO x w2.heap.size
    refine ⟨⟨hf.cell 2, hf.cell 3, hf.free 3⟩, o, u1, beg_end h hB hx hE2 (Nat.le_refl _) ⟨r2.os, r2.tape, r2.output, by omega, fun q' hq' hf' => (r2.block q' (by omega) (fun e => hf' e.symm)).trans (Below.heap_alloc _ _ q' hq')⟩ r1 (fun k hk => (r3 k hk).imp id (fun h => by omega)) hv9 (u2 _ (by simp; omega)) rfl (by omega)⟩))
  have hz0 : (0 : Int) ≤ (((D.map (·.t)).countP (· < x) : Nat) : Int) := by omega
  generalize (D.map (·.t)).contains x = bb at cB
  generalize (D.map (·.t)).countP (· < x) = i at *
  clear hi h hr hB hl
  go_enter Try.func15, Try.ntmps15
  go_wp2_with (first
    | (go_at_call 20; (with_reducible refine cB.mono ?_); rintro e w1 ⟨rfl, q, rfl⟩)
    | (go_at_call 22; (with_reducible refine (cI _).mono ?_); rintro e w2 hI; obtain ⟨v', rfl, hr9, _⟩ := id hI; obtain ⟨A9, n9, c9, rfl⟩ := hr9.shape; clear hr9; obtain ⟨⟨y2, y3, y4⟩, o, hup, hend⟩ := HE.out _ _ _ hI; have hmk := mkMap (w2.setCell ⟨d, 3, none⟩ (.slice A9 n9 c9)); rw [World.size_setCell] at hmk; have HZ := Lib.hid hend; clear hend hI))
  go_end0
  exact HZ.out
end
end Go.Proofs.Ytncnoilldlnpoaa
