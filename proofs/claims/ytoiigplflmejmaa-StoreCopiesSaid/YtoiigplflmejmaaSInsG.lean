/-
  slices.Insert of one key, THERE BEING NO ROOM, ahead of others: a new row.
-/
import Derived.Test.YtoiigplflmejmaaSIns
import Derived.Shelf.Spec.SlicesInsertGrow
namespace Go.Proofs.Ytoiigplflmejmaa
open Go.RowKit Go.Lib
set_option linter.unusedVariables false
set_option linter.unusedSimpArgs false
set_option maxRecDepth 100000

theorem ins_new {α : Type} (R X cs : List α) (k n : Nat) (hc : cs.length = n - k) (hkn : k ≤ n) (hn : n + X.length ≤ R.length) :
    let A1 := R.take k ++ X ++ R.drop (k + X.length)
    (A1.take (k + X.length) ++ cs ++ A1.drop (k + X.length + cs.length)).take (n + X.length) = R.take k ++ X ++ cs := by
  intro A1
  have e1 : A1.take (k + X.length) = R.take k ++ X := by
    show (R.take k ++ X ++ R.drop (k + X.length)).take (k + X.length) = _
    rw [List.take_append_of_le_length (by simp; omega)]
    exact List.take_of_length_le (by simp; omega)
  rw [e1, List.take_append_of_le_length (by simp; omega)]
  exact List.take_of_length_le (by simp; omega)
theorem keyZ : (Try.prog.info? 37).map (fun i => (i.zero, i.size, i.bytes)) = some (some (.agg #[.int .i64 0, .int .i64 0, .int .i64 0]), 3, 24) := by kernel_rfl
theorem kTypes : Try.prog.underlying 3 = some (.int .i64) := by kernel_rfl
set_option maxHeartbeats 16000000 in
/-- There is no room (n keys, n places), and the place is ahead of another one: a new row. -/
theorem kins_grow {W : World} {g n i vb vc : Nat} {L : List Value} {a b c : Int} (hg : W.heap[g]? = some (.cells L.toArray 37 (0, 0))) (hc : L.length = n * 3) (hi : i < n) (hm : n ≤ 100000) (hv : Fb W vb 37 #[.int .i64 a, .int .i64 b, .int .i64 c]) (h1 : ∀ v ∈ L, v.oneCell' = true) :
    Calls Try.prog 36 #[.slice (some ⟨g, 0, none⟩) n n, .int .i64 i, .slice (some ⟨vb, 0, none⟩) 1 vc] W fun e w' => ∃ G, e = .returned (.slice (some ⟨W.heap.size, 0, none⟩) (n + 1) G) ∧ W.grownBy w' none ∧ n + 1 ≤ G ∧ G ≤ maxLen ∧ ∃ L2 : List Value, w'.heap[W.heap.size]? = some (.cells L2.toArray 37 (0, 0)) ∧ L2.length = G * 3 ∧ L2.take ((n + 1) * 3) = L.take (i * 3) ++ [.int .i64 a, .int .i64 b, .int .i64 c] ++ L.drop (i * 3) := by
  have hgl : g < W.heap.size := (Array.getElem?_eq_some_iff.1 hg).1
  have hvl : vb < W.heap.size := hv.lt
  obtain ⟨iT, hT0, hT1, hT2, hT3⟩ := info_parts keyZ
  have hold : (Builtin.firstCells iT.size i (.slice (some ⟨g, 0, none⟩) i n)).run Try.prog W.drew = .ok (L.take (i * 3)).toArray W.drew := by
    rw [hT2]
    exact run_firstCells_some W.drew 3 i ⟨g, 0, none⟩ i n (L.take (i * 3)) (by rw [List.length_take]; omega) (fun j v hj => by
      rw [at_add, cell_of_row W.drew g _ _ _ _ (show W.drew.heap[g]? = _ from hg)]
      rw [List.getElem?_take] at hj
      split at hj
      · simpa using hj
      · cases hj)
  have hik : i + (n + 1 - i) = n + 1 := by omega
  obtain ⟨G, hG⟩ : ∃ G, G = grownCap W (n + 1) n 37 := ⟨_, rfl⟩
  obtain ⟨ROW, hROW⟩ : ∃ ROW : Array Value, ROW = (L.take (i * 3)).toArray ++ Builtin.zeroCells (Value.agg #[.int .i64 0, .int .i64 0, .int .i64 0]).cells (n + 1 - i) ++ Builtin.zeroCells (Value.agg #[.int .i64 0, .int .i64 0, .int .i64 0]).cells (G - (n + 1)) := ⟨_, rfl⟩
  have hkk : (n : Int) + 1 - (i : Int) = ((n + 1 - i : Nat) : Int) := by omega
  have hrz : ∀ ty, (Builtin.append_ #[70, 3] ty #[.slice (some ⟨g, 0, none⟩) i n, .int .i64 ((n : Int) + 1 - (i : Int))]).run Try.prog W = .ok (.slice (some ⟨W.heap.size, 0, none⟩) (n + 1) G) (W.drew.alloc (.cells ROW 37)) := fun ty => by
    have h := Lib.run_append_grow_zeros W 70 3 ty 37 iT _ .i64 .i64 Try.underlying70 kTypes hT0 hT1 (some ⟨g, 0, none⟩) i n (L.take (i * 3)) hold (n + 1 - i) (by omega) (by omega) (by omega) (by omega) (by rw [hT3]; omega) (by rw [hT3, hik]; exact growslice_fits (by omega) (by omega))
    rw [hik, ← hG, ← hROW] at h
    rw [hkk]
    exact h
  have hGn : n + 1 ≤ G := by rw [hG]; exact grownCap_ge W _ _ _
  have hGm : G ≤ maxLen := by rw [hG]; exact grownCap_le_maxLen W (n + 1) n 37 (by unfold maxLen; omega)
  have hRl : ROW.size = G * 3 := by
    rw [hROW]
    simp [size_zeroCells, Value.cells, hc]
    omega
  have hRt : ROW.toList.take (i * 3) = L.take (i * 3) := by
    rw [hROW]
    simp only [Array.toList_append, List.append_assoc]
    rw [List.take_append_of_le_length (by simp; omega)]
    exact List.take_of_length_le (by simp; exact Nat.min_le_left _ _)
  obtain ⟨R, hR⟩ : ∃ R, R = ROW.toList := ⟨_, rfl⟩
  have hRR : ROW = R.toArray := by rw [hR]
  rw [← hR] at hRt
  have hRz : R.length = G * 3 := by rw [hR]; simpa using hRl
  subst hRR
  obtain ⟨W1, hW1⟩ : ∃ W1, W1 = W.drew.alloc (.cells R.toArray 37) := ⟨_, rfl⟩
  have hN1 : W1.heap[W.heap.size]? = some (.cells R.toArray 37 (0, 0)) := by rw [hW1]; exact heap_alloc_new W.drew _
  have hB1 : Below W.heap.size W W1 := by rw [hW1]; exact (Below.drew (Below.refl _ _)).alloc (Nat.le_refl _) _
  obtain ⟨cs, hcs⟩ : ∃ cs, cs = L.drop (i * 3) := ⟨_, rfl⟩
  have hcl : cs.length = (n - i) * 3 := by rw [hcs, List.length_drop, hc, Nat.sub_mul]
  obtain ⟨A1, hA1⟩ : ∃ A1, A1 = R.take (i * 3) ++ [.int .i64 a, .int .i64 b, .int .i64 c] ++ R.drop (i * 3 + 3) := ⟨_, rfl⟩
  obtain ⟨A2, hA2⟩ : ∃ A2, A2 = A1.take ((i + 1) * 3) ++ cs ++ A1.drop ((i + 1) * 3 + cs.length) := ⟨_, rfl⟩
  have hA1l : A1.length = G * 3 := by rw [hA1]; simp; omega
  have hcpA : ∀ (V : World), V.heap = W1.heap → ∀ ty dc, (Builtin.copy_ #[70, 70] ty #[.slice (some ⟨W.heap.size, i * 3, none⟩) (n + 1 - i) dc, .slice (some ⟨vb, 0, none⟩) 1 vc]).run Try.prog V = .ok (goInt (Nat.min 1 (n + 1 - i))) (V.setRow W.heap.size A1.toArray) := fun V hV ty dc => by
    have h := run_copy_rowz (P := Try.prog) V 70 70 ty 37 3 W.heap.size (i * 3) (n + 1 - i) dc ⟨vb, 0, none⟩ 1 vc R.toArray 37 [.int .i64 a, .int .i64 b, .int .i64 c] Try.underlying70 keyInfo (by rw [hV]; exact hN1) (by simp only [Nat.min_def]; split <;> simp <;> omega)
      (fun j v hj => by
        rw [at_add, cell_of_row V vb _ _ _ _ (show V.heap[vb]? = _ from by rw [hV]; exact (hB1.block vb hvl).trans hv)]
        simpa using hj) (by simp; omega) (fun v hv => by simp at hv; rcases hv with rfl | rfl | rfl <;> rfl)
    rw [h, hA1]
    rfl
  have hcpB : ∀ (V : World), V.heap = (W1.setRow W.heap.size A1.toArray).heap → ∀ ty dc sc, (Builtin.copy_ #[70, 70] ty #[.slice (some ⟨W.heap.size, (i + 1) * 3, none⟩) (n - i) dc, .slice (some ⟨g, i * 3, none⟩) (n - i) sc]).run Try.prog V = .ok (goInt (n - i)) (V.setRow W.heap.size A2.toArray) := fun V hV ty dc sc => by
    have h := run_copy_rowz (P := Try.prog) V 70 70 ty 37 3 W.heap.size ((i + 1) * 3) (n - i) dc ⟨g, i * 3, none⟩ (n - i) sc A1.toArray 37 cs Try.underlying70 keyInfo (by rw [hV]; exact setRow_heap W1 _ _ _ _ _ hN1) (by rw [hcl]; congr 1; simp only [Nat.min_def]; split <;> omega)
      (fun j v hj => by
        rw [at_add, cell_of_row V g _ _ _ _ (show V.heap[g]? = _ from by rw [hV, setRow_other W1 _ g _ (by omega)]; exact (hB1.block g hgl).trans hg)]
        rw [hcs, List.getElem?_drop] at hj
        simpa using hj) (by simp; omega) (fun v hv => h1 v (List.mem_of_mem_drop (by rw [← hcs]; exact hv)))
    rw [h, hA2]
    simp only [Nat.min_def]
    congr 2
    split <;> omega
  have hE : ∀ (V : World), V.heap = (W1.setRow W.heap.size A1.toArray).heap → V.os = W.os ∧ V.tape = W.tape ∧ V.output = W.output → W.grownBy (V.setRow W.heap.size A2.toArray) none ∧ n + 1 ≤ G ∧ G ≤ maxLen ∧ ∃ L2 : List Value, (V.setRow W.heap.size A2.toArray).heap[W.heap.size]? = some (.cells L2.toArray 37 (0, 0)) ∧ L2.length = G * 3 ∧ L2.take ((n + 1) * 3) = L.take (i * 3) ++ [.int .i64 a, .int .i64 b, .int .i64 c] ++ L.drop (i * 3) := fun V hh ⟨e1, e2, e3⟩ => by
    have hVN : V.heap[W.heap.size]? = some (.cells A1.toArray 37 (0, 0)) := by rw [hh]; exact setRow_heap W1 _ _ _ _ _ hN1
    refine ⟨⟨e1, e2, e3, ?_, fun k hk _ => ?_⟩, hGn, hGm, A2, setRow_heap V _ _ _ _ _ hVN, ?_, ?_⟩
    · have : V.heap.size = W1.heap.size := by rw [hh]; simp [World.setRow]
      have := hB1.size
      simp [World.setRow]
      omega
    · rw [setRow_other V _ k _ (by omega), hh, setRow_other W1 _ k _ (by omega)]
      exact hB1.block k hk
    · rw [hA2]; simp; omega
    · have h := ins_new R [.int .i64 a, .int .i64 b, .int .i64 c] cs (i * 3) (n * 3) (by rw [hcl, Nat.sub_mul]) (by omega) (by simp; omega)
      have e4 : (n + 1) * 3 = n * 3 + 3 := by omega
      have e5 : (i + 1) * 3 = i * 3 + 3 := by omega
      rw [e4, hA2, hA1, e5, ← hRt, ← hcs]
      exact h
  have hcpC : ∀ ty dc sc, (Builtin.copy_ #[70, 70] ty #[.slice (some ⟨W.heap.size, (i + 1) * 3, none⟩) (n - i) dc, .slice (some ⟨g, i * 3, none⟩) (n - i) sc]).run Try.prog (((W.alloc (.cells R.toArray 37)).drew.setRow W.heap.size A1.toArray).drew) = .ok (goInt (n - i)) ((((W.alloc (.cells R.toArray 37)).drew.setRow W.heap.size A1.toArray).drew).setRow W.heap.size A2.toArray) := fun ty dc sc => hcpB _ (by subst hW1; rfl) ty dc sc
  have hE2 := hE (((W.alloc (.cells R.toArray 37)).drew.setRow W.heap.size A1.toArray).drew) (by subst hW1; rfl) ⟨rfl, rfl, rfl⟩
  have HE := Lib.hid hE2
  have hz3 : (n : Int) < (n : Int) + 1 := by omega
  have hz2 : ¬ ((i : Int) = (n : Int)) := by omega
  have hw1 : IntKind.i64.wrap ((i : Int) + 1) = (i : Int) + 1 := IntWalk.i64_in _ (by omega)
  have hw2 : IntKind.i64.wrap ((n : Int) + 1) = (n : Int) + 1 := IntWalk.i64_in _ (by omega)
  have hw3 : IntKind.i64.wrap ((n : Int) + 1 - (i : Int)) = (n : Int) + 1 - (i : Int) := IntWalk.i64_in _ (by omega)
  have hb1 : (0 : Int) ≤ (i : Int) + 1 := by omega
  have hb0 : (0 : Int) ≤ (i : Int) := by omega
  have hbn : (i : Int) ≤ (n : Int) := by omega
  have hb5 : (i : Int) + 1 ≤ (n : Int) + 1 := by omega
  have hb6 : (i : Int) ≤ (n : Int) + 1 := by omega
  have hb7 : ¬ n = i := by omega
  have hb9 : ¬ G = i := by omega
  have hb10 : ¬ G = i + 1 := by omega
  clear hE hE2 hcpB hA1l hcl h1 hv hg hA1 hA2 hcs hR hRz hRt hN1 hB1 hold hkk hik hG hROW hRl
  go_enter Try.func36, Try.ntmps36
  go_wp2_with (first
    | (at_builtin; refine Lib.wpList_append_run _ rfl _ _ _ _ rfl _ _ rfl rfl _ _ (hrz _) ?_)
    | (at_builtin; refine wpList_copy_runI _ rfl _ _ 70 70 rfl _ _ rfl rfl (hcpA _ (by first | rfl | (rw [hW1]; done) | (rw [hW1]; rfl)) _ _) ?_))
  go_region_law (refine step_copy_runI rfl _ _ 70 70 rfl _ _ (by simp [Act.eval, Act.put]) (by simp [Act.eval, Act.put]) (hcpC _ _ _) ?_)
  go_wp2
  go_ret
  exact ⟨G, rfl, HE.out⟩
end Go.Proofs.Ytoiigplflmejmaa
