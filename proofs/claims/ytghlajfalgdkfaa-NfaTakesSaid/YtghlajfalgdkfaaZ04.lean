/-
  MERGED (a claim has at most 60 files): NgInsS, NgInsG.
-/
import Derived.Test.YtghlajfalgdkfaaZ03
import Derived.IntWalk
import Derived.Shelf.Spec.SlicesInsert
import Derived.Deep.RegionLaw
import Derived.Shelf.Spec.SlicesInsertGrow
/-
  slices.Insert of one move, THERE BEING ROOM, ahead of others: in place.
-/
namespace Go.Proofs.Ytghlajfalgdkfaa
open Go.RowKit Go.Lib
set_option linter.unusedVariables false
set_option linter.unusedSimpArgs false
set_option maxRecDepth 100000

/-- copy between rows of elements of z cells. -/
theorem run_copy_rowz {P : Program} (w : World) (dT sT ty elem : TypeId) (z g o dLen dCap : Nat) (a : Addr) (sLen sCap : Nat) (cur : Array Value) (t : TypeId) (cs : List Value)
    (hu : P.underlying dT = some (.slice elem)) (hs : (P.info? elem).map (·.size) = some z)
    (hg : w.heap[g]? = some (.cells cur t (0, 0))) (hn : cs.length = Nat.min sLen dLen * z)
    (hsrc : ∀ j v, cs[j]? = some v → w.cell? (a.add j) = some v) (hfit : o + cs.length ≤ cur.size) (h1 : ∀ v ∈ cs, v.oneCell' = true) :
    (Builtin.copy_ #[dT, sT] ty #[.slice (some ⟨g, o, none⟩) dLen dCap, .slice (some a) sLen sCap]).run P w =
      .ok (goInt (Nat.min sLen dLen)) (w.setRow g (cur.toList.take o ++ cs ++ cur.toList.drop (o + cs.length)).toArray) := by
  have hl := run_loadCells_list (P := P) w a cs hsrc
  have hst := run_storeCells_at P g o t cs 0 cur w hg (by simpa using hfit) h1
  cases hq : P.info? elem with
  | none => simp [hq] at hs
  | some i =>
    have hi : i.size = z := by simpa [hq] using hs
    simp [Builtin.copy_, run_underlying hu, Builtin.lenOf, Builtin.firstCells, sizeOf, typeInfo, hq, hi, ← hn, hl, hst]
theorem ins_list {α : Type} (L X : List α) (k n : Nat) (hk : k + X.length ≤ n + X.length) (hn : n + X.length ≤ L.length) :
    let A1 := L.take (k + X.length) ++ (L.take n).drop k ++ L.drop (k + X.length + (n - k))
    (A1.take k ++ X ++ A1.drop (k + X.length)).take (n + X.length) = (L.take n).take k ++ X ++ (L.take n).drop k := by
  intro A1
  have hkn : k ≤ n := by omega
  have e1 : A1.take k = (L.take n).take k := by
    show (L.take (k + X.length) ++ (L.take n).drop k ++ L.drop (k + X.length + (n - k))).take k = _
    rw [List.append_assoc, List.take_append_of_le_length (by rw [List.length_take]; omega), List.take_take, List.take_take]
    congr 1
    omega
  have e2 : A1.drop (k + X.length) = (L.take n).drop k ++ L.drop (k + X.length + (n - k)) := by
    show (L.take (k + X.length) ++ (L.take n).drop k ++ L.drop (k + X.length + (n - k))).drop (k + X.length) = _
    rw [List.append_assoc, List.drop_append, List.length_take, List.drop_eq_nil_of_le (by rw [List.length_take]; omega)]
    rw [show k + X.length - min (k + X.length) L.length = 0 by omega]
    simp
  rw [e1, e2, ← List.append_assoc, List.take_append_of_le_length (by simp; omega)]
  refine List.take_of_length_le ?_
  simp
  omega
theorem keyInfo : (Try.prog.info? 84).map (·.size) = some 3 := by kernel_rfl
theorem keySize : ∀ w, (sizeOf 84).run Try.prog w = .ok 3 w := fun w => by
  obtain ⟨i, hi⟩ : ∃ i, Try.prog.info? 84 = some i := Option.isSome_iff_exists.1 (by kernel_rfl)
  have := keyInfo
  rw [hi] at this
  have hz : i.size = 3 := by simpa using this
  simp [sizeOf, typeInfo, hi, hz]
theorem setRow_grown {W : World} {g : Nat} (cs : Array Value) {w0 : World} {r : Option Nat} (h : w0.grownBy W r) (hr : r = some g) : w0.grownBy (W.setRow g cs) r := by
  subst hr
  exact ⟨h.os, h.tape, h.output, by simpa [World.setRow] using h.size, fun k hk hne => (setRow_other W g k cs (fun e => hne (by rw [e]))).trans (h.block k hk hne)⟩
theorem keys_lit (g o j : Nat) : (⟨g, o, none⟩ : Addr).add j = ⟨g, o + j, none⟩ := at_add g o j
set_option maxHeartbeats 8000000 in
/-- There is room, and the place is ahead of another one: in place. -/
theorem kins_shift {W : World} {g n cap i vb vc : Nat} {L : List Value} {a c : Int} {b : Bool} (hg : W.heap[g]? = some (.cells L.toArray 84 (0, 0))) (hc : L.length = cap * 3) (hi : i < n) (hroom : n + 1 ≤ cap) (hm0 : cap ≤ maxLen) (hv : Fb W vb 84 #[.int .i64 a, .bool b, .int .i64 c]) (hne : vb ≠ g) (h1 : ∀ v ∈ L.take (n * 3), v.oneCell' = true) :
    Calls Try.prog 55 #[.slice (some ⟨g, 0, none⟩) n cap, .int .i64 i, .slice (some ⟨vb, 0, none⟩) 1 vc] W fun e w' => e = .returned (.slice (some ⟨g, 0, none⟩) (n + 1) cap) ∧ W.grownBy w' (some g) ∧ ∃ L2 : List Value, w'.heap[g]? = some (.cells L2.toArray 84 (0, 0)) ∧ L2.length = L.length ∧ L2.take ((n + 1) * 3) = (L.take (n * 3)).take (i * 3) ++ [.int .i64 a, .bool b, .int .i64 c] ++ (L.take (n * 3)).drop (i * 3) := by
  have hm : cap ≤ 9223372036854775807 := hm0
  clear hm0
  have hgl : g < W.heap.size := (Array.getElem?_eq_some_iff.1 hg).1
  have hz3 : ¬ ((cap : Int) < (n : Int) + 1) := by omega
  have hz2 : ¬ ((i : Int) = (n : Int)) := by omega
  have hov : ∀ lb cb, (callFunc 70 #[.slice (some ⟨vb, 0, none⟩) 1 vc, .slice (some ⟨g, (i + 1) * 3, none⟩) lb cb]).run Try.prog W = .ok (.value (.bool false)) W := fun lb cb => by
    rw [run_callFunc_extern Try.func70 (by kernel_rfl) (by kernel_rfl) (by kernel_rfl) (e := Extern.SlicesOverlaps.overlaps #[67, 67] #[4]) (by kernel_rfl),
      Lib.run_overlaps_apart W 67 4 84 Try.underlying67 3 keySize ⟨vb, 0, none⟩ ⟨g, (i + 1) * 3, none⟩ 1 vc lb cb hne 84 84 3 L.length (by unfold Fb at hv; unfold World.shape?; rw [hv]; rfl) (by unfold World.shape?; rw [hg]; rfl) (by omega) (hv.free 0) (hv.free 3)]
    rfl
  obtain ⟨cs, hcs⟩ : ∃ cs, cs = (L.take (n * 3)).drop (i * 3) := ⟨_, rfl⟩
  have hcl : cs.length = (n - i) * 3 := by rw [hcs, List.length_drop, List.length_take, Nat.min_eq_left (by omega), Nat.sub_mul]
  obtain ⟨A1, hA1⟩ : ∃ A1, A1 = L.take ((i + 1) * 3) ++ cs ++ L.drop ((i + 1) * 3 + cs.length) := ⟨_, rfl⟩
  have hA1l : A1.length = L.length := by rw [hA1]; simp; omega
  have hgd : (W.drew).heap[g]? = some (.cells L.toArray 84 (0, 0)) := hg
  have hcp1 : ∀ ty dc sc, (Builtin.copy_ #[67, 67] ty #[.slice (some ⟨g, (i + 1) * 3, none⟩) (n - i) dc, .slice (some ⟨g, i * 3, none⟩) (n + 1 - i) sc]).run Try.prog W.drew = .ok (goInt (Nat.min (n + 1 - i) (n - i))) (W.drew.setRow g A1.toArray) := fun ty dc sc => by
    have h := run_copy_rowz (P := Try.prog) W.drew 67 67 ty 84 3 g ((i + 1) * 3) (n - i) dc ⟨g, i * 3, none⟩ (n + 1 - i) sc L.toArray 84 cs Try.underlying67 keyInfo hgd (by rw [hcl]; congr 1; simp only [Nat.min_def]; split <;> omega)
      (fun j v hj => by
        rw [at_add, cell_of_row W.drew g _ _ _ _ hgd]
        rw [hcs, List.getElem?_drop, List.getElem?_take] at hj
        split at hj
        · simpa using hj
        · cases hj) (by simp; omega) (fun v hv => h1 v (List.mem_of_mem_drop (by rw [← hcs]; exact hv)))
    rw [h, hA1]
  obtain ⟨W1, hW1⟩ : ∃ W1, W1 = W.drew.setRow g A1.toArray := ⟨_, rfl⟩
  have hg1 : W1.heap[g]? = some (.cells A1.toArray 84 (0, 0)) := by rw [hW1]; exact setRow_heap W.drew g _ _ _ _ hgd
  have hv1 : Fb W1 vb 84 #[.int .i64 a, .bool b, .int .i64 c] := by rw [hW1]; exact (setRow_other W.drew g vb _ hne).trans hv
  have hgr1 : W.grownBy W1 (some g) := by rw [hW1]; exact setRow_grown _ ⟨rfl, rfl, rfl, Nat.le_refl _, fun _ _ _ => rfl⟩ rfl
  obtain ⟨A2, hA2⟩ : ∃ A2, A2 = A1.take (i * 3) ++ [.int .i64 a, .bool b, .int .i64 c] ++ A1.drop (i * 3 + 3) := ⟨_, rfl⟩
  have hcp2 : ∀ (W2 : World), W2.heap = W1.heap → ∀ ty dc, (Builtin.copy_ #[67, 67] ty #[.slice (some ⟨g, i * 3, none⟩) (n + 1 - i) dc, .slice (some ⟨vb, 0, none⟩) 1 vc]).run Try.prog W2 = .ok (goInt (Nat.min 1 (n + 1 - i))) (W2.setRow g A2.toArray) := fun W2 hW2 ty dc => by
    have h := run_copy_rowz (P := Try.prog) W2 67 67 ty 84 3 g (i * 3) (n + 1 - i) dc ⟨vb, 0, none⟩ 1 vc A1.toArray 84 [.int .i64 a, .bool b, .int .i64 c] Try.underlying67 keyInfo (by rw [hW2]; exact hg1) (by simp only [Nat.min_def]; split <;> simp <;> omega)
      (fun j v hj => by
        rw [at_add, cell_of_row W2 vb _ _ _ _ (show W2.heap[vb]? = _ from by rw [hW2]; exact hv1)]
        simpa using hj) (by simp; omega) (fun v hv => by simp at hv; rcases hv with rfl | rfl | rfl <;> rfl)
    rw [h, hA2]
    rfl
  have hE : ∀ (W2 : World), W2.heap = W1.heap → W1.os = W2.os ∧ W1.tape = W2.tape ∧ W1.output = W2.output → W.grownBy (W2.setRow g A2.toArray) (some g) ∧ ∃ L2 : List Value, (W2.setRow g A2.toArray).heap[g]? = some (.cells L2.toArray 84 (0, 0)) ∧ L2.length = L.length ∧ L2.take ((n + 1) * 3) = (L.take (n * 3)).take (i * 3) ++ [.int .i64 a, .bool b, .int .i64 c] ++ (L.take (n * 3)).drop (i * 3) := fun W2 hh ⟨e1, e2, e3⟩ => by
    refine ⟨setRow_grown _ ⟨e1 ▸ hgr1.os, e2 ▸ hgr1.tape, e3 ▸ hgr1.output, by rw [hh]; exact hgr1.size, fun k hk hne => by rw [hh]; exact hgr1.block k hk hne⟩ rfl, A2, setRow_heap W2 g _ _ _ _ (by rw [hh]; exact hg1), ?_, ?_⟩
    · rw [hA2]; simp; omega
    · have h := ins_list L [.int .i64 a, .bool b, .int .i64 c] (i * 3) (n * 3) (by omega) (by simp; omega)
      have e4 : (n + 1) * 3 = n * 3 + 3 := by omega
      have e5 : (i + 1) * 3 = i * 3 + 3 := by omega
      rw [e4, hA2, hA1, hcl, hcs, e5, Nat.sub_mul]
      exact h
  rw [← hW1] at hcp1
  have HE := Lib.hid hE
  have hw1 : IntKind.i64.wrap ((i : Int) + 1) = (i : Int) + 1 := IntWalk.i64_in _ (by omega)
  have hw2 : IntKind.i64.wrap ((n : Int) + 1) = (n : Int) + 1 := IntWalk.i64_in _ (by omega)
  have hb1 : (0 : Int) ≤ (i : Int) + 1 := by omega
  have hb0 : (0 : Int) ≤ (i : Int) := by omega
  have hbn : (i : Int) ≤ (n : Int) := by omega
  have hb3 : (n : Int) + 1 ≤ (cap : Int) := by omega
  have hb4 : (0 : Int) ≤ (n : Int) + 1 := by omega
  have hb5 : (i : Int) + 1 ≤ (n : Int) + 1 := by omega
  have hb6 : (i : Int) ≤ (n : Int) + 1 := by omega
  have hb7 : ¬ cap = i := by omega
  have hb8 : ¬ cap = i + 1 := by omega
  clear hE hgr1 hv1 hg1 hgd hA1l hcl h1 hv hg hA1 hA2 hcs
  go_enter Try.func55, Try.ntmps55
  go_wp2_with (simp only [hov])
  go_region_law (refine step_copy_runI rfl _ _ 67 67 rfl _ _ (by simp [Act.eval, Act.put]) (by simp [Act.eval, Act.put]) (hcp1 _ _ _) ?_)
  go_wp2_with (at_builtin; refine wpList_copy_runI _ rfl _ _ 67 67 rfl _ _ rfl rfl (hcp2 _ rfl _ _) ?_)
  go_ret
  exact ⟨rfl, HE.out _ (by first | rfl | rw [hW1]) ⟨by first | rfl | rw [hW1], by first | rfl | rw [hW1], by first | rfl | rw [hW1]⟩⟩
end Go.Proofs.Ytghlajfalgdkfaa

/-
  slices.Insert of one move, THERE BEING NO ROOM, ahead of others: a new row.
-/
namespace Go.Proofs.Ytghlajfalgdkfaa
open Go.RowKit Go.Lib
set_option linter.unusedVariables false
set_option linter.unusedSimpArgs false
set_option maxRecDepth 100000

theorem ins_new {α : Type} (R X cs : List α) (k n : Nat) (hc : cs.length = n - k) (hkn : k ≤ n) (hn : n + X.length ≤ R.length) :
    let A1 := R.take k ++ X ++ R.drop (k + X.length)
    (A1.take (k + X.length) ++ cs ++ A1.drop (k + X.length + cs.length)).take (n + X.length) = R.take k ++ X ++ cs := by
  intro A1
  have e1 : A1.take (k + X.length) = R.take k ++ X := by
    show (R.take k ++ X ++ R.drop (k + X.length)).take (k + X.length) = _
    rw [List.take_append_of_le_length (by simp; omega)]
    exact List.take_of_length_le (by simp; omega)
  rw [e1, List.take_append_of_le_length (by simp; omega)]
  exact List.take_of_length_le (by simp; omega)
theorem keyZ : (Try.prog.info? 84).map (fun i => (i.zero, i.size, i.bytes)) = some (some (.agg #[.int .i64 0, .bool false, .int .i64 0]), 3, 24) := by kernel_rfl
theorem kTypes : Try.prog.underlying 3 = some (.int .i64) := by kernel_rfl
set_option maxHeartbeats 16000000 in
/-- There is no room (n keys, n places), and the place is ahead of another one: a new row. -/
theorem kins_grow {W : World} {g n i vb vc : Nat} {L : List Value} {a c : Int} {b : Bool} (hg : W.heap[g]? = some (.cells L.toArray 84 (0, 0))) (hc : L.length = n * 3) (hi : i < n) (hm : n ≤ 100000) (hv : Fb W vb 84 #[.int .i64 a, .bool b, .int .i64 c]) (h1 : ∀ v ∈ L, v.oneCell' = true) :
    Calls Try.prog 55 #[.slice (some ⟨g, 0, none⟩) n n, .int .i64 i, .slice (some ⟨vb, 0, none⟩) 1 vc] W fun e w' => ∃ G, e = .returned (.slice (some ⟨W.heap.size, 0, none⟩) (n + 1) G) ∧ W.grownBy w' none ∧ n + 1 ≤ G ∧ G ≤ maxLen ∧ ∃ L2 : List Value, w'.heap[W.heap.size]? = some (.cells L2.toArray 84 (0, 0)) ∧ L2.length = G * 3 ∧ L2.take ((n + 1) * 3) = L.take (i * 3) ++ [.int .i64 a, .bool b, .int .i64 c] ++ L.drop (i * 3) := by
  have hgl : g < W.heap.size := (Array.getElem?_eq_some_iff.1 hg).1
  have hvl : vb < W.heap.size := hv.lt
  obtain ⟨iT, hT0, hT1, hT2, hT3⟩ := info_parts keyZ
  dsimp only at hT1 hT2 hT3
  have hold : (Builtin.firstCells iT.size i (.slice (some ⟨g, 0, none⟩) i n)).run Try.prog W.drew = .ok (L.take (i * 3)).toArray W.drew := by
    rw [hT2]
    exact run_firstCells_some W.drew 3 i ⟨g, 0, none⟩ i n (L.take (i * 3)) (by rw [List.length_take]; omega) (fun j v hj => by
      rw [at_add, cell_of_row W.drew g _ _ _ _ (show W.drew.heap[g]? = _ from hg)]
      rw [List.getElem?_take] at hj
      split at hj
      · simpa using hj
      · cases hj)
  have hik : i + (n + 1 - i) = n + 1 := by omega
  obtain ⟨G, hG⟩ : ∃ G, G = grownCap W (n + 1) n 84 := ⟨_, rfl⟩
  obtain ⟨ROW, hROW⟩ : ∃ ROW : Array Value, ROW = (L.take (i * 3)).toArray ++ Builtin.zeroCells (Value.agg #[.int .i64 0, .bool false, .int .i64 0]).cells (n + 1 - i) ++ Builtin.zeroCells (Value.agg #[.int .i64 0, .bool false, .int .i64 0]).cells (G - (n + 1)) := ⟨_, rfl⟩
  have hkk : (n : Int) + 1 - (i : Int) = ((n + 1 - i : Nat) : Int) := by omega
  have hrz : ∀ ty, (Builtin.append_ #[67, 3] ty #[.slice (some ⟨g, 0, none⟩) i n, .int .i64 ((n : Int) + 1 - (i : Int))]).run Try.prog W = .ok (.slice (some ⟨W.heap.size, 0, none⟩) (n + 1) G) (W.drew.alloc (.cells ROW 84)) := fun ty => by
    have h := Lib.run_append_grow_zeros W 67 3 ty 84 iT _ .i64 .i64 Try.underlying67 kTypes hT0 hT1 (some ⟨g, 0, none⟩) i n (L.take (i * 3)) hold (n + 1 - i) (by omega) (by omega) (by omega) (by omega) (by rw [hT3]; omega) (by rw [hT3, hik]; exact growslice_fits (by omega) (by omega))
    rw [hik, ← hG, ← hROW] at h
    rw [hkk]
    exact h
  have hGn : n + 1 ≤ G := by rw [hG]; exact grownCap_ge W _ _ _
  have hGm : G ≤ maxLen := by rw [hG]; exact grownCap_le_maxLen W (n + 1) n 84 (by unfold maxLen; omega)
  have hRl : ROW.size = G * 3 := by
    rw [hROW]
    simp [size_zeroCells, Value.cells, hc]
    omega
  have hRt : ROW.toList.take (i * 3) = L.take (i * 3) := by
    rw [hROW]
    simp only [Array.toList_append, List.append_assoc]
    rw [List.take_append_of_le_length (by simp; omega)]
    exact List.take_of_length_le (by simp; exact Nat.min_le_left _ _)
  obtain ⟨R, hR⟩ : ∃ R, R = ROW.toList := ⟨_, rfl⟩
  have hRR : ROW = R.toArray := by rw [hR]
  rw [← hR] at hRt
  have hRz : R.length = G * 3 := by rw [hR]; simpa using hRl
  subst hRR
  obtain ⟨W1, hW1⟩ : ∃ W1, W1 = W.drew.alloc (.cells R.toArray 84) := ⟨_, rfl⟩
  have hN1 : W1.heap[W.heap.size]? = some (.cells R.toArray 84 (0, 0)) := by rw [hW1]; exact heap_alloc_new W.drew _
  have hB1 : Below W.heap.size W W1 := by rw [hW1]; exact (Below.drew (Below.refl _ _)).alloc (Nat.le_refl _) _
  obtain ⟨cs, hcs⟩ : ∃ cs, cs = L.drop (i * 3) := ⟨_, rfl⟩
  have hcl : cs.length = (n - i) * 3 := by rw [hcs, List.length_drop, hc, Nat.sub_mul]
  obtain ⟨A1, hA1⟩ : ∃ A1, A1 = R.take (i * 3) ++ [.int .i64 a, .bool b, .int .i64 c] ++ R.drop (i * 3 + 3) := ⟨_, rfl⟩
  obtain ⟨A2, hA2⟩ : ∃ A2, A2 = A1.take ((i + 1) * 3) ++ cs ++ A1.drop ((i + 1) * 3 + cs.length) := ⟨_, rfl⟩
  have hA1l : A1.length = G * 3 := by rw [hA1]; simp; omega
  have hcpA : ∀ (V : World), V.heap = W1.heap → ∀ ty dc, (Builtin.copy_ #[67, 67] ty #[.slice (some ⟨W.heap.size, i * 3, none⟩) (n + 1 - i) dc, .slice (some ⟨vb, 0, none⟩) 1 vc]).run Try.prog V = .ok (goInt (Nat.min 1 (n + 1 - i))) (V.setRow W.heap.size A1.toArray) := fun V hV ty dc => by
    have h := run_copy_rowz (P := Try.prog) V 67 67 ty 84 3 W.heap.size (i * 3) (n + 1 - i) dc ⟨vb, 0, none⟩ 1 vc R.toArray 84 [.int .i64 a, .bool b, .int .i64 c] Try.underlying67 keyInfo (by rw [hV]; exact hN1) (by simp only [Nat.min_def]; split <;> simp <;> omega)
      (fun j v hj => by
        rw [at_add, cell_of_row V vb _ _ _ _ (show V.heap[vb]? = _ from by rw [hV]; exact (hB1.block vb hvl).trans hv)]
        simpa using hj) (by simp; omega) (fun v hv => by simp at hv; rcases hv with rfl | rfl | rfl <;> rfl)
    rw [h, hA1]
    rfl
  have hcpB : ∀ (V : World), V.heap = (W1.setRow W.heap.size A1.toArray).heap → ∀ ty dc sc, (Builtin.copy_ #[67, 67] ty #[.slice (some ⟨W.heap.size, (i + 1) * 3, none⟩) (n - i) dc, .slice (some ⟨g, i * 3, none⟩) (n - i) sc]).run Try.prog V = .ok (goInt (n - i)) (V.setRow W.heap.size A2.toArray) := fun V hV ty dc sc => by
    have h := run_copy_rowz (P := Try.prog) V 67 67 ty 84 3 W.heap.size ((i + 1) * 3) (n - i) dc ⟨g, i * 3, none⟩ (n - i) sc A1.toArray 84 cs Try.underlying67 keyInfo (by rw [hV]; exact setRow_heap W1 _ _ _ _ _ hN1) (by rw [hcl]; congr 1; simp only [Nat.min_def]; split <;> omega)
      (fun j v hj => by
        rw [at_add, cell_of_row V g _ _ _ _ (show V.heap[g]? = _ from by rw [hV, setRow_other W1 _ g _ (by omega)]; exact (hB1.block g hgl).trans hg)]
        rw [hcs, List.getElem?_drop] at hj
        simpa using hj) (by simp; omega) (fun v hv => h1 v (List.mem_of_mem_drop (by rw [← hcs]; exact hv)))
    rw [h, hA2]
    simp only [Nat.min_def]
    congr 2
    split <;> omega
  have hE : ∀ (V : World), V.heap = (W1.setRow W.heap.size A1.toArray).heap → V.os = W.os ∧ V.tape = W.tape ∧ V.output = W.output → W.grownBy (V.setRow W.heap.size A2.toArray) none ∧ n + 1 ≤ G ∧ G ≤ maxLen ∧ ∃ L2 : List Value, (V.setRow W.heap.size A2.toArray).heap[W.heap.size]? = some (.cells L2.toArray 84 (0, 0)) ∧ L2.length = G * 3 ∧ L2.take ((n + 1) * 3) = L.take (i * 3) ++ [.int .i64 a, .bool b, .int .i64 c] ++ L.drop (i * 3) := fun V hh ⟨e1, e2, e3⟩ => by
    have hVN : V.heap[W.heap.size]? = some (.cells A1.toArray 84 (0, 0)) := by rw [hh]; exact setRow_heap W1 _ _ _ _ _ hN1
    refine ⟨⟨e1, e2, e3, ?_, fun k hk _ => ?_⟩, hGn, hGm, A2, setRow_heap V _ _ _ _ _ hVN, ?_, ?_⟩
    · have : V.heap.size = W1.heap.size := by rw [hh]; simp [World.setRow]
      have := hB1.size
      simp [World.setRow]
      omega
    · rw [setRow_other V _ k _ (by omega), hh, setRow_other W1 _ k _ (by omega)]
      exact hB1.block k hk
    · rw [hA2]; simp; omega
    · have h := ins_new R [.int .i64 a, .bool b, .int .i64 c] cs (i * 3) (n * 3) (by rw [hcl, Nat.sub_mul]) (by omega) (by simp; omega)
      have e4 : (n + 1) * 3 = n * 3 + 3 := by omega
      have e5 : (i + 1) * 3 = i * 3 + 3 := by omega
      rw [e4, hA2, hA1, e5, ← hRt, ← hcs]
      exact h
  have hcpC : ∀ ty dc sc, (Builtin.copy_ #[67, 67] ty #[.slice (some ⟨W.heap.size, (i + 1) * 3, none⟩) (n - i) dc, .slice (some ⟨g, i * 3, none⟩) (n - i) sc]).run Try.prog (((W.alloc (.cells R.toArray 84)).drew.setRow W.heap.size A1.toArray).drew) = .ok (goInt (n - i)) ((((W.alloc (.cells R.toArray 84)).drew.setRow W.heap.size A1.toArray).drew).setRow W.heap.size A2.toArray) := fun ty dc sc => hcpB _ (by subst hW1; rfl) ty dc sc
  have hE2 := hE (((W.alloc (.cells R.toArray 84)).drew.setRow W.heap.size A1.toArray).drew) (by subst hW1; rfl) ⟨rfl, rfl, rfl⟩
  have HE := Lib.hid hE2
  have hz3 : (n : Int) < (n : Int) + 1 := by omega
  have hz2 : ¬ ((i : Int) = (n : Int)) := by omega
  have hw1 : IntKind.i64.wrap ((i : Int) + 1) = (i : Int) + 1 := IntWalk.i64_in _ (by omega)
  have hw2 : IntKind.i64.wrap ((n : Int) + 1) = (n : Int) + 1 := IntWalk.i64_in _ (by omega)
  have hw3 : IntKind.i64.wrap ((n : Int) + 1 - (i : Int)) = (n : Int) + 1 - (i : Int) := IntWalk.i64_in _ (by omega)
  have hb1 : (0 : Int) ≤ (i : Int) + 1 := by omega
  have hb0 : (0 : Int) ≤ (i : Int) := by omega
  have hbn : (i : Int) ≤ (n : Int) := by omega
  have hb5 : (i : Int) + 1 ≤ (n : Int) + 1 := by omega
  have hb6 : (i : Int) ≤ (n : Int) + 1 := by omega
  have hb7 : ¬ n = i := by omega
  have hb9 : ¬ G = i := by omega
  have hb10 : ¬ G = i + 1 := by omega
  clear hE hE2 hcpB hA1l hcl h1 hv hg hA1 hA2 hcs hR hRz hRt hN1 hB1 hold hkk hik hG hROW hRl
  go_enter Try.func55, Try.ntmps55
  go_wp2_with (first
    | (at_builtin; refine Lib.wpList_append_run _ rfl _ _ _ _ rfl _ _ rfl rfl _ _ (hrz _) ?_)
    | (at_builtin; refine wpList_copy_runI _ rfl _ _ 67 67 rfl _ _ rfl rfl (hcpA _ (by first | rfl | (rw [hW1]; done) | (rw [hW1]; rfl)) _ _) ?_))
  go_region_law (refine step_copy_runI rfl _ _ 67 67 rfl _ _ (by simp [Act.eval, Act.put]) (by simp [Act.eval, Act.put]) (hcpC _ _ _) ?_)
  go_wp2
  go_ret
  exact ⟨G, rfl, HE.out⟩
end Go.Proofs.Ytghlajfalgdkfaa
