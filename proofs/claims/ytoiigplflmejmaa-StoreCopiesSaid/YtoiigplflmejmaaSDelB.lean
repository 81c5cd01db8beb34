/-
  slices.Delete of one key, in place.
-/
import Derived.Test.YtoiigplflmejmaaSInsA
import Derived.Deep.RegionLaw
import Derived.Lib.SliceRun
import Derived.Laws.IdiomCopy
namespace Go.Proofs.Ytoiigplflmejmaa
open Go.RowKit Go.Lib
set_option linter.unusedVariables false
set_option linter.unusedSimpArgs false
set_option maxRecDepth 100000

theorem heap_setCells {g : Nat} {t : TypeId} : ∀ (vs : List Value) (o : Nat) (w : World) (L : List Value), w.heap[g]? = some (.cells L.toArray t (0, 0)) → o + vs.length ≤ L.length → (w.setCells g o vs).heap[g]? = some (.cells (L.take o ++ vs ++ L.drop (o + vs.length)).toArray t (0, 0))
  | [], o, w, L, h, _ => by simpa [World.setCells] using h
  | v :: r, o, w, L, h, hl => by
    have h1 : (w.setCell ⟨g, o, none⟩ v).heap[g]? = some (.cells (L.toArray.setIfInBounds o v) t (0, 0)) := heap_setCell_same w g o _ _ _ h
    have e : L.toArray.setIfInBounds o v = (L.set o v).toArray := by simp
    rw [e] at h1
    simp only [List.length_cons] at hl
    have := heap_setCells r (o + 1) _ (L.set o v) h1 (by simp; omega)
    show ((w.setCell ⟨g, o, none⟩ v).setCells g (o + 1) r).heap[g]? = _
    rw [this]
    congr 3
    have e1 : (L.set o v).take (o + 1) = L.take o ++ [v] := by
      rw [List.take_add_one, List.take_set_of_le (Nat.le_refl _), List.getElem?_set_self (by omega)]; rfl
    have e2 : (L.set o v).drop (o + 1 + r.length) = L.drop (o + (v :: r).length) := by
      rw [List.drop_set_of_lt (by omega), List.length_cons]; congr 1; omega
    rw [e1, e2]; simp
theorem grown_setCells {W : World} {g : Nat} (vs : List Value) (o : Nat) (w : World) (h : W.grownBy w (some g)) : W.grownBy (w.setCells g o vs) (some g) := by
  induction vs generalizing o w with
  | nil => exact h
  | cons v r ih => exact ih _ _ ⟨h.os, h.tape, h.output, by simpa [World.setCell] using h.size, fun q hq hn => (Below.heap_setCell _ _ _ _ (fun e => hn (by rw [e]))).trans (h.block q hq hn)⟩
theorem kd_clear (W : World) (ty : TypeId) (g o r c : Nat) (hr : r = 1) (hs : ∀ j, j < 3 → (W.cell? ⟨g, o + j, none⟩).isSome = true ∧ W.frozen? ⟨g, o + j, none⟩ = false) : (Builtin.clear_ #[70] ty #[.slice (some ⟨g, o, none⟩) r c]).run Try.prog W = .ok (.tuple #[]) (W.setCells g o [.int .i64 0, .int .i64 0, .int .i64 0]) := by
  subst hr
  have hz : ∀ w, (zeroValue 37).run Try.prog w = .ok (.agg #[.int .i64 0, .int .i64 0, .int .i64 0]) w := fun w => by kernel_rfl
  have hst := run_storeCells_cells (P := Try.prog) g o [.int .i64 0, .int .i64 0, .int .i64 0] 0 W (by simpa using fun j hj => (hs j hj).1) (by simpa using fun j hj => (hs j hj).2) (by decide)
  simp only [Nat.add_zero] at hst
  have hzc : (Builtin.zeroCells (.agg #[.int .i64 0, .int .i64 0, .int .i64 0] : Value).cells 1).toList = [.int .i64 0, .int .i64 0, .int .i64 0] := by first | kernel_rfl | rfl | (simp [Builtin.zeroCells, Value.cells, Array.range]; done)
  simp [Builtin.clear_, run_underlying Try.underlying70, hz, hzc, hst]
/-- One is taken away, in place. -/
def kdDelP (W : World) (g n cap i : Nat) (L : List Value) (e : Ending) (w' : World) : Prop :=
  e = .returned (.slice (some ⟨g, 0, none⟩) (n - 1) cap) ∧ W.grownBy w' (some g) ∧ ∃ L2 : List Value, w'.heap[g]? = some (.cells L2.toArray 37 (0, 0)) ∧ L2.length = L.length ∧ L2.take ((n - 1) * 3) = (L.take (n * 3)).take (i * 3) ++ (L.take (n * 3)).drop ((i + 1) * 3)
theorem kd_lay {W : World} {g n cap i : Nat} {L : List Value} (hg : W.heap[g]? = some (.cells L.toArray 37 (0, 0))) (hc : n * 3 ≤ L.length) (hi : i < n) (hn : n ≤ cap) (W1 W2 : World) (hw : W1.heap = W.heap ∧ W1.os = W.os ∧ W1.tape = W.tape ∧ W1.output = W.output)
    (h2 : W2 = (W1.setCells g (0 + i * 3) ((L.take (n * 3)).drop ((i + 1) * 3))).setCells g ((n - 1) * 3) [.int .i64 0, .int .i64 0, .int .i64 0]) : W.grownBy W2 (some g) ∧ ∃ L2 : List Value, W2.heap[g]? = some (.cells L2.toArray 37 (0, 0)) ∧ L2.length = L.length ∧ L2.take ((n - 1) * 3) = (L.take (n * 3)).take (i * 3) ++ (L.take (n * 3)).drop ((i + 1) * 3) := by
  subst h2
  have hg1 : W1.heap[g]? = some (.cells L.toArray 37 (0, 0)) := by rw [hw.1]; exact hg
  have hl1 : ((L.take (n * 3)).drop ((i + 1) * 3)).length = (n - 1 - i) * 3 := by rw [List.length_drop, List.length_take]; omega
  have a1 := heap_setCells ((L.take (n * 3)).drop ((i + 1) * 3)) (0 + i * 3) W1 L hg1 (by omega)
  have a2 := heap_setCells [.int .i64 0, .int .i64 0, .int .i64 0] ((n - 1) * 3) _ _ a1 (by simp only [List.length_append, List.length_take, List.length_drop, List.length_cons, List.length_nil]; omega)
  refine ⟨grown_setCells _ _ _ (grown_setCells _ _ _ ⟨hw.2.1, hw.2.2.1, hw.2.2.2, by rw [hw.1]; exact Nat.le_refl _, fun q _ _ => by rw [hw.1]⟩), _, a2, ?_, ?_⟩
  · simp only [List.length_append, List.length_take, List.length_drop, List.length_cons, List.length_nil]; omega
  · rw [List.append_assoc, List.take_append_of_le_length (by simp only [List.length_append, List.length_take, List.length_drop]; omega), List.take_take, Nat.min_self, List.take_append_of_le_length (by simp only [List.length_append, List.length_take, List.length_drop]; omega), List.take_of_length_le (by simp only [List.length_append, List.length_take, List.length_drop]; omega), List.take_take, show 0 + i * 3 = i * 3 by omega, show min (i * 3) (n * 3) = i * 3 by omega]
set_option maxHeartbeats 8000000 in
theorem kd_del {W : World} {g n cap i : Nat} {L : List Value} (hg : W.heap[g]? = some (.cells L.toArray 37 (0, 0))) (hc : n * 3 ≤ L.length) (hi : i < n) (hn : n ≤ cap) (h1 : ∀ v ∈ L.take (n * 3), v.oneCell' = true) (j : Nat) (hj : j = i + 1) :
    Calls Try.prog 38 #[.slice (some ⟨g, 0, none⟩) n cap, .int .i64 i, .int .i64 j] W (kdDelP W g n cap i L) := by
  obtain ⟨i0, hi0⟩ : ∃ i0, Try.prog.info? 37 = some i0 := Option.isSome_iff_exists.1 (by kernel_rfl)
  have hz0 : i0.size = 3 := by have := keyInfo; rw [hi0] at this; simpa using this
  have hcell : ∀ (k : Nat) (u : Value), L[k]? = some u → W.drew.cell? ⟨g, k, none⟩ = some u := fun k u hk => (cell_of_row W g k L.toArray 37 (0, 0) hg).trans (by simpa using hk)
  have hfz : ∀ k, W.drew.frozen? ⟨g, k, none⟩ = false := fun k => Lib.frozen_of_heap (show W.drew.heap[g]? = _ from hg) k
  obtain ⟨news, hnews⟩ : ∃ news, news = (L.take (n * 3)).drop (j * 3) := ⟨_, rfl⟩
  have hlen : news.length = (n - j) * 3 := by rw [hnews, List.length_drop, List.length_take]; omega
  obtain ⟨A, hA, hsrc⟩ : ∃ A : Addr, (if cap = j then some (⟨g, 0, none⟩ : Addr) else some ⟨g, j * 3, none⟩) = some A ∧ Hid (∀ t u, news[t]? = some u → W.drew.cell? (A.add t) = some u) := by
    by_cases h : cap = j
    · refine ⟨⟨g, 0, none⟩, by simp [h], Lib.hid fun t u hu => ?_⟩
      have h0 : news.length = 0 := by rw [hlen, show n - j = 0 by omega, Nat.zero_mul]
      rw [List.length_eq_zero_iff.1 h0] at hu
      simp at hu
    · refine ⟨⟨g, j * 3, none⟩, by simp [h], Lib.hid fun t u hu => ?_⟩
      rw [show (⟨g, j * 3, none⟩ : Addr).add t = ⟨g, j * 3 + t, none⟩ from keys_lit g (j * 3) t]
      refine hcell _ _ ?_
      rw [hnews, List.getElem?_drop, List.getElem?_take] at hu
      split at hu
      · exact hu
      · cases hu
  have s1 := Lib.hid hlen
  have s2 := Lib.hid (show ∀ u ∈ news, u.oneCell' = true from fun u hu => h1 u (List.mem_of_mem_drop (hnews ▸ hu)))
  have hsp : ∀ t, t < n * 3 → (W.drew.cell? ⟨g, t, none⟩).isSome = true ∧ W.drew.frozen? ⟨g, t, none⟩ = false := fun t ht => ⟨by rw [hcell t L[t] (List.getElem?_eq_getElem (by omega))]; rfl, hfz t⟩
  have s3 := Lib.hid (show ∀ t, t < news.length → (W.drew.cell? ⟨g, 0 + i * 3 + t, none⟩).isSome = true ∧ W.drew.frozen? ⟨g, 0 + i * 3 + t, none⟩ = false from fun t ht => by rw [hlen] at ht; exact hsp _ (by omega))
  obtain ⟨W1, hW1⟩ : ∃ W1, W1 = W.drew.setCells g (0 + i * 3) news := ⟨_, rfl⟩
  have hsp1 : ∀ t, t < n * 3 → (W1.cell? ⟨g, t, none⟩).isSome = true ∧ W1.frozen? ⟨g, t, none⟩ = false := fun t ht => by
    rw [hW1, World.frozen?_setCells]
    exact ⟨World.isSome_setCells g news _ _ _ (hsp t ht).1, (hsp t ht).2⟩
  have hcl : ∀ ty, (Builtin.clear_ #[70] ty #[.slice (some ⟨g, (i + (n - j)) * 3, none⟩) (n - (i + (n - j))) (cap - (i + (n - j)))]).run Try.prog W1 = .ok (.tuple #[]) (W1.setCells g ((i + (n - j)) * 3) [.int .i64 0, .int .i64 0, .int .i64 0]) :=
    fun ty => kd_clear W1 ty g _ _ _ (by omega) (fun k hk => hsp1 _ (by omega))
  have HD := Lib.hid (kd_lay hg hc hi hn W.drew (W1.setCells g ((i + (n - j)) * 3) [.int .i64 0, .int .i64 0, .int .i64 0]) ⟨rfl, rfl, rfl, rfl⟩ (by rw [hW1, hnews, hj, show i + (n - (i + 1)) = n - 1 by omega] <;> simp only [Nat.mul_one]))
  have HW := Lib.hid hW1
  have hne : ¬ (i : Int) = (j : Int) := by omega
  have hne2 : ((i : Int) == (j : Int)) = false := by rw [beq_eq_false_iff_ne]; exact hne
  have hne3 : ((j : Int) == (i : Int)) = false := by rw [beq_eq_false_iff_ne]; omega
  have b1 : (0 : Int) ≤ (i : Int) := by omega
  have b2 : (i : Int) ≤ (j : Int) := by omega
  have b3 : (j : Int) ≤ (n : Int) := by omega
  have b4 : (n : Int) ≤ (cap : Int) := by omega
  have b5 : (i : Int) ≤ (cap : Int) := by omega
  have b6 : (j : Int) ≤ (cap : Int) := by omega
  have b7 : (0 : Int) ≤ (j : Int) := by omega
  have b8 : i + (n - j) ≤ n := by omega
  have b9 : ¬ cap = i + (n - j) := by omega
  have n1 : i ≤ j := by omega
  have n2 : j ≤ n := by omega
  have n4 : i ≤ cap := by omega
  have n5 : j ≤ cap := by omega
  have HE := Lib.hid (show n - 1 = i + (n - j) from by omega)
  clear hW1 hsp1 hsp hlen hnews hcell hfz h1 hg hc hi hj
  go_enter Try.func38, Try.ntmps38
  go_wp2_with fail
  go_region_law (refine step_append_room rfl (.tmp 22) (.tmp 25) 70 rfl 37 i0 3 Try.underlying70 hi0 hz0 g 0 i cap (by simp [Act.eval, Act.put]) A (n - j) (cap - j) news (by simp [Act.eval, Act.put]) s1.out hsrc.out s2.out (by omega) s3.out ?_; rw [← HW.out])
  go_wp2
  go_ret
  exact ⟨by rw [HE.out]; rfl, HD.out⟩
theorem kdel_any {B : Nat} {W : World} {v : Value} {l : List Kt} (h : KtR B W v l) (i j : Nat) (hi : i < l.length) (hj : j = i + 1) :
    Calls Try.prog 38 #[v, .int .i64 i, .int .i64 j] W (fun e w' => ∃ v', e = .returned v' ∧ KtR B w' v' (l.eraseIdx i) ∧ W.grownBy w' v.ownBlock ∧ v'.ownBlock = v.ownBlock) := by
  rcases id h.2 with ⟨_, h0⟩ | ⟨g, cap, cur, hv, hge, hg, hnc, hcm, hcz, hct⟩
  · omega
  · subst hv
    have hone : ∀ v ∈ cur.toList.take (l.length * 3), v.oneCell' = true := by rw [hct]; exact ktc_one _
    refine (kd_del (L := cur.toList) (by simpa using hg) (by have : cur.toList.length = cap * 3 := by simpa using hcz
                                                             omega) hi hnc hone j hj).mono ?_
    rintro e w' ⟨h1, h2, L2, h3, h4, h5⟩
    have hlen : (l.eraseIdx i).length = l.length - 1 := List.length_eraseIdx_of_lt hi
    have hfl : (l.eraseIdx i).flatMap ktc = (l.flatMap ktc).take (i * 3) ++ (l.flatMap ktc).drop ((i + 1) * 3) := by
      rw [List.eraseIdx_eq_take_drop_succ, List.flatMap_append, flat_takeK, flat_dropK]
    rw [hct, ← hfl, ← hlen] at h5
    refine ⟨_, h1, ?_, h2, rfl⟩
    rw [← hlen]
    exact ⟨by rw [hfl]; simp [h.1]; omega, .inr ⟨g, cap, L2.toArray, rfl, hge, h3, by omega, hcm, by simp [h4, hcz], by simpa using h5⟩⟩
theorem blockInfo : (Try.prog.info? 70).map (·.size) = some 1 := by kernel_rfl
theorem bd_clear (W : World) (ty : TypeId) (g o r c : Nat) (hr : r = 1) (hs : ∀ j, j < 1 → (W.cell? ⟨g, o + j, none⟩).isSome = true ∧ W.frozen? ⟨g, o + j, none⟩ = false) : (Builtin.clear_ #[55] ty #[.slice (some ⟨g, o, none⟩) r c]).run Try.prog W = .ok (.tuple #[]) (W.setCells g o [.slice none 0 0]) := by
  subst hr
  have hz : ∀ w, (zeroValue 70).run Try.prog w = .ok (.slice none 0 0) w := fun w => by kernel_rfl
  have hst := run_storeCells_cells (P := Try.prog) g o [.slice none 0 0] 0 W (by simpa using fun j hj => (hs j hj).1) (by simpa using fun j hj => (hs j hj).2) (by decide)
  simp only [Nat.add_zero] at hst
  have hzc : (Builtin.zeroCells (.slice none 0 0 : Value).cells 1).toList = [.slice none 0 0] := by first | kernel_rfl | rfl | (simp [Builtin.zeroCells, Value.cells, Array.range]; done)
  simp [Builtin.clear_, run_underlying Try.underlying55, hz, hzc, hst]
/-- One is taken away, in place. -/
def bdDelP (W : World) (g n cap i : Nat) (L : List Value) (e : Ending) (w' : World) : Prop :=
  e = .returned (.slice (some ⟨g, 0, none⟩) (n - 1) cap) ∧ W.grownBy w' (some g) ∧ ∃ L2 : List Value, w'.heap[g]? = some (.cells L2.toArray 70 (0, 0)) ∧ L2.length = L.length ∧ L2.take ((n - 1) * 1) = (L.take (n * 1)).take (i * 1) ++ (L.take (n * 1)).drop ((i + 1) * 1)
theorem bd_lay {W : World} {g n cap i : Nat} {L : List Value} (hg : W.heap[g]? = some (.cells L.toArray 70 (0, 0))) (hc : n * 1 ≤ L.length) (hi : i < n) (hn : n ≤ cap) (W1 W2 : World) (hw : W1.heap = W.heap ∧ W1.os = W.os ∧ W1.tape = W.tape ∧ W1.output = W.output)
    (h2 : W2 = (W1.setCells g (0 + i * 1) ((L.take (n * 1)).drop ((i + 1) * 1))).setCells g ((n - 1) * 1) [.slice none 0 0]) : W.grownBy W2 (some g) ∧ ∃ L2 : List Value, W2.heap[g]? = some (.cells L2.toArray 70 (0, 0)) ∧ L2.length = L.length ∧ L2.take ((n - 1) * 1) = (L.take (n * 1)).take (i * 1) ++ (L.take (n * 1)).drop ((i + 1) * 1) := by
  subst h2
  have hg1 : W1.heap[g]? = some (.cells L.toArray 70 (0, 0)) := by rw [hw.1]; exact hg
  have hl1 : ((L.take (n * 1)).drop ((i + 1) * 1)).length = (n - 1 - i) * 1 := by rw [List.length_drop, List.length_take]; omega
  have a1 := heap_setCells ((L.take (n * 1)).drop ((i + 1) * 1)) (0 + i * 1) W1 L hg1 (by omega)
  have a2 := heap_setCells [.slice none 0 0] ((n - 1) * 1) _ _ a1 (by simp only [List.length_append, List.length_take, List.length_drop, List.length_cons, List.length_nil]; omega)
  refine ⟨grown_setCells _ _ _ (grown_setCells _ _ _ ⟨hw.2.1, hw.2.2.1, hw.2.2.2, by rw [hw.1]; exact Nat.le_refl _, fun q _ _ => by rw [hw.1]⟩), _, a2, ?_, ?_⟩
  · simp only [List.length_append, List.length_take, List.length_drop, List.length_cons, List.length_nil]; omega
  · rw [List.append_assoc, List.take_append_of_le_length (by simp only [List.length_append, List.length_take, List.length_drop]; omega), List.take_take, Nat.min_self, List.take_append_of_le_length (by simp only [List.length_append, List.length_take, List.length_drop]; omega), List.take_of_length_le (by simp only [List.length_append, List.length_take, List.length_drop]; omega), List.take_take, show 0 + i * 1 = i * 1 by omega, show min (i * 1) (n * 1) = i * 1 by omega]
set_option maxHeartbeats 8000000 in
theorem bd_del {W : World} {g n cap i : Nat} {L : List Value} (hg : W.heap[g]? = some (.cells L.toArray 70 (0, 0))) (hc : n * 1 ≤ L.length) (hi : i < n) (hn : n ≤ cap) (h1 : ∀ v ∈ L.take (n * 1), v.oneCell' = true) (j : Nat) (hj : j = i + 1) :
    Calls Try.prog 39 #[.slice (some ⟨g, 0, none⟩) n cap, .int .i64 i, .int .i64 j] W (bdDelP W g n cap i L) := by
  obtain ⟨i0, hi0⟩ : ∃ i0, Try.prog.info? 70 = some i0 := Option.isSome_iff_exists.1 (by kernel_rfl)
  have hz0 : i0.size = 1 := by have := blockInfo; rw [hi0] at this; simpa using this
  have hcell : ∀ (k : Nat) (u : Value), L[k]? = some u → W.drew.cell? ⟨g, k, none⟩ = some u := fun k u hk => (cell_of_row W g k L.toArray 70 (0, 0) hg).trans (by simpa using hk)
  have hfz : ∀ k, W.drew.frozen? ⟨g, k, none⟩ = false := fun k => Lib.frozen_of_heap (show W.drew.heap[g]? = _ from hg) k
  obtain ⟨news, hnews⟩ : ∃ news, news = (L.take (n * 1)).drop (j * 1) := ⟨_, rfl⟩
  have hlen : news.length = (n - j) * 1 := by rw [hnews, List.length_drop, List.length_take]; omega
  obtain ⟨A, hA, hsrc⟩ : ∃ A : Addr, (if cap = j then some (⟨g, 0, none⟩ : Addr) else some ⟨g, j, none⟩) = some A ∧ Hid (∀ t u, news[t]? = some u → W.drew.cell? (A.add t) = some u) := by
    by_cases h : cap = j
    · refine ⟨⟨g, 0, none⟩, by simp [h], Lib.hid fun t u hu => ?_⟩
      have h0 : news.length = 0 := by rw [hlen, show n - j = 0 by omega, Nat.zero_mul]
      rw [List.length_eq_zero_iff.1 h0] at hu
      simp at hu
    · refine ⟨⟨g, j * 1, none⟩, by simp [h], Lib.hid fun t u hu => ?_⟩
      rw [show (⟨g, j * 1, none⟩ : Addr).add t = ⟨g, j * 1 + t, none⟩ from keys_lit g (j * 1) t]
      refine hcell _ _ ?_
      rw [hnews, List.getElem?_drop, List.getElem?_take] at hu
      split at hu
      · exact hu
      · cases hu
  have s1 := Lib.hid hlen
  have s2 := Lib.hid (show ∀ u ∈ news, u.oneCell' = true from fun u hu => h1 u (List.mem_of_mem_drop (hnews ▸ hu)))
  have hsp : ∀ t, t < n * 1 → (W.drew.cell? ⟨g, t, none⟩).isSome = true ∧ W.drew.frozen? ⟨g, t, none⟩ = false := fun t ht => ⟨by rw [hcell t L[t] (List.getElem?_eq_getElem (by omega))]; rfl, hfz t⟩
  have s3 := Lib.hid (show ∀ t, t < news.length → (W.drew.cell? ⟨g, 0 + i * 1 + t, none⟩).isSome = true ∧ W.drew.frozen? ⟨g, 0 + i * 1 + t, none⟩ = false from fun t ht => by rw [hlen] at ht; exact hsp _ (by omega))
  obtain ⟨W1, hW1⟩ : ∃ W1, W1 = W.drew.setCells g (0 + i * 1) news := ⟨_, rfl⟩
  have hsp1 : ∀ t, t < n * 1 → (W1.cell? ⟨g, t, none⟩).isSome = true ∧ W1.frozen? ⟨g, t, none⟩ = false := fun t ht => by
    rw [hW1, World.frozen?_setCells]
    exact ⟨World.isSome_setCells g news _ _ _ (hsp t ht).1, (hsp t ht).2⟩
  have hcl : ∀ ty, (Builtin.clear_ #[55] ty #[.slice (some ⟨g, (i + (n - j)), none⟩) (n - (i + (n - j))) (cap - (i + (n - j)))]).run Try.prog W1 = .ok (.tuple #[]) (W1.setCells g ((i + (n - j))) [.slice none 0 0]) :=
    fun ty => bd_clear W1 ty g _ _ _ (by omega) (fun k hk => hsp1 _ (by omega))
  have HD := Lib.hid (bd_lay hg hc hi hn W.drew (W1.setCells g ((i + (n - j))) [.slice none 0 0]) ⟨rfl, rfl, rfl, rfl⟩ (by rw [hW1, hnews, hj, show i + (n - (i + 1)) = n - 1 by omega] <;> simp only [Nat.mul_one]))
  have HW := Lib.hid hW1
  have hne : ¬ (i : Int) = (j : Int) := by omega
  have hne2 : ((i : Int) == (j : Int)) = false := by rw [beq_eq_false_iff_ne]; exact hne
  have hne3 : ((j : Int) == (i : Int)) = false := by rw [beq_eq_false_iff_ne]; omega
  have b1 : (0 : Int) ≤ (i : Int) := by omega
  have b2 : (i : Int) ≤ (j : Int) := by omega
  have b3 : (j : Int) ≤ (n : Int) := by omega
  have b4 : (n : Int) ≤ (cap : Int) := by omega
  have b5 : (i : Int) ≤ (cap : Int) := by omega
  have b6 : (j : Int) ≤ (cap : Int) := by omega
  have b7 : (0 : Int) ≤ (j : Int) := by omega
  have b8 : i + (n - j) ≤ n := by omega
  have b9 : ¬ cap = i + (n - j) := by omega
  have n1 : i ≤ j := by omega
  have n2 : j ≤ n := by omega
  have n4 : i ≤ cap := by omega
  have n5 : j ≤ cap := by omega
  have HE := Lib.hid (show n - 1 = i + (n - j) from by omega)
  clear hW1 hsp1 hsp hlen hnews hcell hfz h1 hg hc hi hj
  go_enter Try.func39, Try.ntmps39
  go_wp2_with fail
  go_region_law (refine step_append_room rfl (.tmp 22) (.tmp 25) 55 rfl 70 i0 1 Try.underlying55 hi0 hz0 g 0 i cap (by simp [Act.eval, Act.put]) A (n - j) (cap - j) news (by simp [Act.eval, Act.put]) s1.out hsrc.out s2.out (by omega) s3.out ?_; rw [← HW.out])
  go_wp2
  go_ret
  exact ⟨by rw [HE.out]; rfl, HD.out⟩
end Go.Proofs.Ytoiigplflmejmaa
