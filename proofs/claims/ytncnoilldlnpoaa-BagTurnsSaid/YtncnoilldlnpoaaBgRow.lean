/-
  A ROW OF TIMES: where a time stands in it, a time put in.
-/
import Derived.Test.YtncnoilldlnpoaaBgPl
import Derived.Test.YtncnoilldlnpoaaVShelf
namespace Go.Proofs.Ytncnoilldlnpoaa
open Go.RowKit
set_option linter.unusedVariables false
set_option linter.unusedSimpArgs false
set_option maxRecDepth 100000

theorem gbin_any {W : World} {v : Value} {ts : List Int} (h : TsA W v ts) (so : ts.Pairwise (· < ·)) (x : Int) :
    Calls Try.prog 20 #[v, .int .i64 x] W fun e w' => e = .returned (.tuple #[.int .i64 ((ts.countP (· < x) : Nat) : Int), .bool (ts.contains x)]) ∧ ∃ q, w' = W.drewN q := by
  rcases h with ⟨rfl, rfl⟩ | ⟨g, off, c, cs, rfl, hg, hnc, hn, hc, hx⟩
  · refine (Try.slices_BinarySearch_int_empty none 0 x W).mono ?_
    rintro e w' ⟨rfl, rfl⟩
    exact ⟨rfl, 0, rfl⟩
  · have := Try.slices_BinarySearch_int g off ts.length c ts x W (Nat.le_refl _) (by omega) (fun j hj => by
      rw [hg.cell, hx j ts[j] (List.getElem?_eq_getElem hj)]
      simp [iE, List.getD, hj]) (by rw [List.take_length]; exact so.imp (fun h => Int.le_of_lt h))
    rw [List.take_length] at this
    exact this
def setL (L : List Value) : Nat → List Value → List Value
  | _, [] => L
  | o, v :: r => setL (L.set o v) (o + 1) r
theorem setL_eq : ∀ (vs : List Value) (o : Nat) (L : List Value), o + vs.length ≤ L.length → setL L o vs = L.take o ++ vs ++ L.drop (o + vs.length)
  | [], o, L, h => by simp [setL]
  | v :: r, o, L, h => by
    simp only [List.length_cons] at h
    unfold setL
    rw [setL_eq r (o + 1) (L.set o v) (by simp; omega)]
    rw [List.take_set, List.drop_set_of_lt (by omega)]
    have h1 : (L.take (o + 1)).set o v = L.take o ++ [v] := by
      rw [List.take_add_one, List.getElem?_eq_getElem (show o < L.length by omega), Option.toList_some, List.set_append_right _ _ (by simp; omega)]
      simp [Nat.min_eq_left (show o ≤ L.length by omega)]
    rw [h1]
    simp only [List.append_assoc, List.cons_append, List.nil_append, List.length_cons]
    rw [show o + 1 + r.length = o + (r.length + 1) by omega]
theorem setL_len : ∀ (vs : List Value) (o : Nat) (L : List Value), (setL L o vs).length = L.length
  | [], _, _ => rfl
  | v :: r, o, L => by unfold setL; rw [setL_len r]; simp
theorem heap_setCells {g : Nat} {t : TypeId} : ∀ (vs : List Value) (o : Nat) (W : World) (L : List Value), W.heap[g]? = some (.cells L.toArray t (0, 0)) → (W.setCells g o vs).heap[g]? = some (.cells (setL L o vs).toArray t (0, 0))
  | [], _, _, _, h => h
  | v :: r, o, W, L, h => by
    unfold World.setCells setL
    refine heap_setCells r (o + 1) _ (L.set o v) ?_
    have := heap_setCell_same W g o _ _ v h
    first | (rw [this]; simp) | simpa using this
theorem far_setCells {g q : Nat} (hq : q ≠ g) : ∀ (vs : List Value) (o : Nat) (W : World), (W.setCells g o vs).heap[q]? = W.heap[q]?
  | [], _, _ => rfl
  | v :: r, o, W => by
    unfold World.setCells
    rw [far_setCells hq r]
    exact Below.heap_setCell _ _ _ _ hq
theorem rest_setCells {g : Nat} : ∀ (vs : List Value) (o : Nat) (W : World), (W.setCells g o vs).os = W.os ∧ (W.setCells g o vs).tape = W.tape ∧ (W.setCells g o vs).output = W.output ∧ (W.setCells g o vs).heap.size = W.heap.size
  | [], _, _ => ⟨rfl, rfl, rfl, rfl⟩
  | v :: r, o, W => by
    unfold World.setCells
    obtain ⟨h1, h2, h3, h4⟩ := rest_setCells r (o + 1) (W.setCell ⟨g, o, none⟩ v)
    exact ⟨h1, h2, h3, by rw [h4]; simp⟩
/-- A row of integers. -/
def TsR (B : Nat) (W : World) (v : Value) (ts : List Int) : Prop := W.ownsRow B 3 1 v ts.length (ts.map iE)
theorem iE_one (l : List Int) : ∀ u ∈ l.map iE, u.oneCell' = true := fun u hu => by
  obtain ⟨x, _, rfl⟩ := List.mem_map.1 hu
  rfl
theorem TsR.at {B : Nat} {W : World} {v : Value} {ts : List Int} (h : TsR B W v ts) (hn : ts.length ≤ 100000) : TsA W v ts := by
  rcases id h.2 with ⟨hv, hl⟩ | ⟨g, cap, cur, hv, hge, hg, hnc, hcm, hcz, hct⟩
  · exact .inl ⟨hv, List.length_eq_zero_iff.1 hl⟩
  · refine .inr ⟨g, 0, cap, cur, hv, hg, hnc, hn, hcm, fun j x hj => ?_⟩
    have hl := (List.getElem?_eq_some_iff.1 hj).1
    have : (cur.toList.take (ts.length * 1))[j]? = some (iE x) := by rw [hct, List.getElem?_map, hj]; rfl
    rw [List.getElem?_take_of_lt (by omega)] at this
    simpa using this
def InsP (B : Nat) (v : Value) (ts : List Int) (W : World) (i : Nat) (x : Int) (e : Ending) (w' : World) : Prop := ∃ v', e = .returned v' ∧ TsR B w' v' (ts.take i ++ x :: ts.drop i) ∧ W.grownBy w' (vB v) ∧ ∀ k, vB v' = some k → vB v = some k ∨ W.heap.size ≤ k
theorem ins_len (l : List Int) (i : Nat) (x : Int) (hi : i ≤ l.length) : (l.take i ++ x :: l.drop i).length = l.length + 1 := by
  simp
  omega
theorem ins_map (l : List Int) (i : Nat) (x : Int) : (l.take i ++ x :: l.drop i).map iE = (l.map iE).take i ++ [iE x] ++ (l.map iE).drop i := by
  simp [List.map_take, List.map_drop]
set_option maxHeartbeats 4000000 in
theorem gins_any {B : Nat} {W : World} {v : Value} {ts : List Int} {vb i : Nat} {x : Int} (h : TsR B W v ts) (hl : ts.length ≤ 50000) (hB : B ≤ W.heap.size) (hi : i ≤ ts.length) (hu : Fb W vb 3 #[.int .i64 x]) (hne : vB v ≠ some vb) :
    Calls Try.prog 22 #[v, .int .i64 i, .slice (some ⟨vb, 0, none⟩) 1 1] W (InsP B v ts W i x) := by
  have hvs : ∀ j u, [iE x][j]? = some u → W.cell? ⟨vb, 0 + j, none⟩ = some u := fun j u hj => by
    rw [hu.cell, Nat.zero_add]
    simpa [iE] using hj
  have h1v : ∀ u ∈ [iE x], u.oneCell' = true := fun u hu => by simp at hu; subst hu; rfl
  have hlen := ins_len ts i x hi
  have hmap := ins_map ts i x
  have hml : (ts.map iE).length = ts.length := by simp
  by_cases he : i = ts.length
  · subst he
    have hgrow : ∀ (base : Option Addr) (c : Nat), v = .slice base ts.length c → ts.length ≤ c → c < ts.length + 1 → (base = none → ts.length = 0) → (∀ a, base = some a → ∀ j u, (ts.map iE)[j]? = some u → W.cell? (a.add j) = some u) → Calls Try.prog 22 #[v, .int .i64 ts.length, .slice (some ⟨vb, 0, none⟩) 1 1] W (InsP B v ts W ts.length x) := fun base c hv hnc hr hnil hcs => by
      subst hv
      refine (Any2.slices_Insert_int_end_grow Try.laysNm221 base ts.length c vb 0 1 1 (ts.map iE) [iE x] W (by omega) hnc hr (by omega) hml rfl hnil hcs hvs h1v).mono ?_
      rintro e w' ⟨rfl, rfl⟩
      have hG1 := grownCap_ge W (ts.length + 1) c 3
      have hG2 : grownCap W (ts.length + 1) c 3 ≤ maxLen := grownCap_le_maxLen W (ts.length + 1) c 3 (by unfold maxLen; omega)
      refine ⟨_, rfl, ⟨by rw [List.length_map]; omega, .inr ⟨W.heap.size, grownCap W (ts.length + 1) c 3, _, by rw [hlen]; rfl, hB, heap_alloc_new W.drew _, by rw [hlen]; exact hG1, hG2, ?_, ?_⟩⟩, ⟨rfl, rfl, rfl, by simp, fun k hk _ => Below.heap_alloc W.drew _ k hk⟩, fun k hk => .inr ?_⟩
      · have hG3 : ts.length + 1 ≤ grownCap W (ts.length + 1) c (Try.laysNm221_ren.t 3) := hG1
        simp [Builtin.zeroCells, Value.cells, hml]
        show ts.length + 1 + (grownCap W (ts.length + 1) c (Try.laysNm221_ren.t 3) - (ts.length + 1)) = grownCap W (ts.length + 1) c (Try.laysNm221_ren.t 3)
        omega
      · rw [hmap, hlen]
        simp only [Array.toList_append, List.take_append_of_le_length, List.length_append, List.length_map, List.length_cons, List.length_nil, Nat.mul_one, Nat.le_refl]
        rw [List.take_of_length_le (by simp), List.take_of_length_le (by simp), List.drop_of_length_le (by simp), List.append_nil]
      · have e' : some W.heap.size = some k := hk
        injection e' with e'
        omega
    rcases id h.2 with ⟨hv, h0⟩ | ⟨g, cap, cur, hv, hge, hg, hnc, hcm, hcz, hct⟩
    · exact hgrow none 0 (by rw [hv, h0]) (by omega) (by omega) (fun _ => h0) (fun a ha => by cases ha)
    · by_cases hr : ts.length + 1 ≤ cap
      · subst hv
        have hcur : W.heap[g]? = some (.cells cur.toList.toArray 3 (0, 0)) := by simpa using hg
        have hsz : cur.toList.length = cap := by simpa using hcz
        refine (Any2.slices_Insert_int_end_room Try.laysNm221 g 0 ts.length cap vb 0 1 1 [iE x] W (by omega) hr hcm rfl (fun j hj => ?_) (fun j hj => Lib.frozen_of_heap hg _) hvs h1v).mono ?_
        · rw [show W.cell? ⟨g, 0 + ts.length + j, none⟩ = cur[0 + ts.length + j]? from cell_of_row W g _ _ _ _ hg, Array.getElem?_eq_getElem (show 0 + ts.length + j < cur.size by have h9 : cur.size = cap := (by simpa using hcz); omega)]
          rfl
        · rintro e w' ⟨rfl, rfl⟩
          have h2 := heap_setCells [iE x] (0 + ts.length) W cur.toList hcur
          obtain ⟨r1, r2, r3, r4⟩ := rest_setCells (g := g) [iE x] (0 + ts.length) W
          refine ⟨_, rfl, ⟨by rw [List.length_map]; omega, .inr ⟨g, cap, _, by rw [hlen], hge, h2, by rw [hlen]; exact hr, hcm, by simp [setL_len, hsz], ?_⟩⟩, ⟨r1, r2, r3, Nat.le_of_eq r4.symm, fun k hk hk2 => far_setCells (fun e => hk2 (by rw [e]; rfl)) _ _ _⟩, fun k hk => .inl hk⟩
          rw [hmap, hlen, setL_eq _ _ _ (by simp [hsz]; omega)]
          have hct' : cur.toList.take ts.length = ts.map iE := by simpa using hct
          simp only [Nat.zero_add, Nat.mul_one, hct']
          rw [List.take_append_of_le_length (by simp), List.take_of_length_le (by simp), List.take_of_length_le (by simp), List.drop_of_length_le (by simp), List.append_nil]
      · refine hgrow _ cap hv hnc (by omega) (fun e => by cases e) fun a ha j u hj => ?_
        injection ha with ha
        subst ha
        rw [at_add, cell_of_row W g _ _ _ _ hg, Nat.zero_add]
        have hct' : cur.toList.take ts.length = ts.map iE := by simpa using hct
        rw [← hct'] at hj
        have hjl := (List.getElem?_eq_some_iff.1 hj).1
        simp only [List.length_take] at hjl
        rw [List.getElem?_take_of_lt (by omega)] at hj
        simpa using hj
  · have hil : i < ts.length := by omega
    rcases id h.2 with ⟨_, h0⟩ | ⟨g, cap, cur, hv, hge, hg, hnc, hcm, hcz, hct⟩
    · omega
    · subst hv
      have hcur : W.heap[g]? = some (.cells cur.toList.toArray 3 (0, 0)) := by simpa using hg
      have hsz : cur.toList.length = cap := by simpa using hcz
      have hsz2 : cur.size = cap := by simpa using hcz
      have hct' : cur.toList.take ts.length = ts.map iE := by simpa using hct
      have hgl : g < W.heap.size := (Array.getElem?_eq_some_iff.1 hg).1
      have hgn : vb ≠ g := fun e => hne (by rw [e]; rfl)
      have hcs : ∀ j u, (ts.map iE)[j]? = some u → W.cell? ⟨g, 0 + j, none⟩ = some u := fun j u hj => by
        rw [cell_of_row W g _ _ _ _ hg, Nat.zero_add]
        rw [← hct'] at hj
        have hjl := (List.getElem?_eq_some_iff.1 hj).1
        simp only [List.length_take] at hjl
        rw [List.getElem?_take_of_lt (by omega)] at hj
        simpa using hj
      by_cases hr : ts.length + 1 ≤ cap
      · refine (Any2.slices_Insert_int_shift Try.laysNm221 g 0 ts.length cap i vb 0 1 1 (ts.map iE) [iE x] W hil (by omega) hr hcm hgn hml rfl hcs (fun j hj => ?_) (fun j hj => Lib.frozen_of_heap hg _) hvs (iE_one ts) h1v 3 3 1 cap (by unfold Fb at hu; unfold World.shape?; rw [hu]; rfl) (by unfold World.shape?; rw [hg]; simp [hsz2]) (by omega) (hu.free 0) (hu.free 1)).mono ?_
        · rw [cell_of_row W g _ _ _ _ hg, Array.getElem?_eq_getElem (by omega)]
          rfl
        · rintro e w' ⟨rfl, rfl⟩
          have hcur2 : W.drew.heap[g]? = some (.cells cur.toList.toArray 3 (0, 0)) := hcur
          have h2 := heap_setCells [iE x] (0 + i) _ _ (heap_setCells ((ts.map iE).drop i) (0 + (i + 1)) W.drew cur.toList hcur2)
          obtain ⟨r1, r2, r3, r4⟩ := rest_setCells (g := g) [iE x] (0 + i) (W.drew.setCells g (0 + (i + 1)) ((ts.map iE).drop i))
          obtain ⟨q1, q2, q3, q4⟩ := rest_setCells (g := g) ((ts.map iE).drop i) (0 + (i + 1)) W.drew
          refine ⟨_, rfl, ⟨by rw [List.length_map]; omega, .inr ⟨g, cap, _, by rw [hlen], hge, h2, by rw [hlen]; exact hr, hcm, by simp [setL_len, hsz], ?_⟩⟩, ⟨r1.trans q1, r2.trans q2, r3.trans q3, Nat.le_of_eq (r4.trans q4).symm, fun k hk hk2 => (far_setCells (fun e => hk2 (by rw [e]; rfl)) _ _ _).trans (far_setCells (fun e => hk2 (by rw [e]; rfl)) _ _ _)⟩, fun k hk => .inl hk⟩
          have hdl : ((ts.map iE).drop i).length = ts.length - i := by simp
          rw [hmap, hlen, setL_eq _ _ _ (by rw [setL_len]; simp; omega), setL_eq _ _ _ (by rw [hdl]; omega)]
          simp only [Nat.zero_add, Nat.mul_one, hdl, List.length_cons, List.length_nil]
          have e1 : (cur.toList.take (i + 1) ++ (ts.map iE).drop i ++ cur.toList.drop (i + 1 + (ts.length - i))).take i = (ts.map iE).take i := by
            rw [← hct', List.append_assoc, List.take_append_of_le_length (by rw [List.length_take]; omega), List.take_take, List.take_take]
            congr 1
            omega
          have e2 : (cur.toList.take (i + 1) ++ (ts.map iE).drop i ++ cur.toList.drop (i + 1 + (ts.length - i))).drop (i + 1) = (ts.map iE).drop i ++ cur.toList.drop (i + 1 + (ts.length - i)) := by
            rw [List.append_assoc, List.drop_append, List.length_take, List.drop_eq_nil_of_le (by rw [List.length_take]; omega)]
            rw [show i + 1 - min (i + 1) cur.toList.length = 0 by omega]
            simp
          rw [e1, e2, ← List.append_assoc, List.take_append_of_le_length (by simp; omega)]
          refine List.take_of_length_le ?_
          simp
          omega
      · refine (Any2.slices_Insert_int_grow Try.laysNm221 g 0 ts.length cap i vb 0 1 1 (ts.map iE) [iE x] W hil (by omega) hnc (by omega) (by omega) hml rfl hcs hvs (iE_one ts) h1v).mono ?_
        rintro e w' ⟨rfl, rfl⟩
        obtain ⟨G, hG⟩ : ∃ G, G = grownCap W (ts.length + 1) cap (Try.laysNm221_ren.t 3) := ⟨_, rfl⟩
        have hG1 : ts.length + 1 ≤ G := by rw [hG]; exact grownCap_ge W _ _ _
        have hG2 : G ≤ maxLen := by rw [hG]; exact grownCap_le_maxLen W (ts.length + 1) cap _ (by unfold maxLen; omega)
        rw [← hG]
        obtain ⟨R, hR⟩ : ∃ R : List Value, R = (((ts.map iE).take i).toArray ++ Builtin.zeroCells (Value.int .i64 0).cells (ts.length + 1 - i) ++ Builtin.zeroCells (Value.int .i64 0).cells (G - (ts.length + 1))).toList := ⟨_, rfl⟩
        have hRA : ((ts.map iE).take i).toArray ++ Builtin.zeroCells (Value.int .i64 0).cells (ts.length + 1 - i) ++ Builtin.zeroCells (Value.int .i64 0).cells (G - (ts.length + 1)) = R.toArray := by rw [hR]
        have hRl : R.length = G := by
          rw [hR]
          simp [Builtin.zeroCells, Value.cells]
          omega
        have hRt : R.take i = (ts.map iE).take i := by
          rw [hR]
          simp only [Array.toList_append, List.append_assoc]
          rw [List.take_append_of_le_length (by simp; omega)]
          exact List.take_of_length_le (by simp; exact Nat.min_le_left _ _)
        have ht3 : Try.laysNm221_ren.t 3 = 3 := rfl
        rw [hRA, ht3]
        clear hR hRA hG
        obtain ⟨W1, hW1⟩ : ∃ W1, W1 = (W.alloc (.cells R.toArray 3)).drew := ⟨_, rfl⟩
        have hN1 : W1.heap[W.heap.size]? = some (.cells R.toArray 3 (0, 0)) := by rw [hW1]; exact heap_alloc_new W _
        have hB1 : Below W.heap.size W W1 := by rw [hW1]; exact ((Below.refl _ _).alloc (Nat.le_refl _) _).drew
        rw [← hW1]
        have h1 := heap_setCells [iE x] i W1 R hN1
        obtain ⟨W2, hW2⟩ : ∃ W2, W2 = (W1.setCells W.heap.size i [iE x]).drew := ⟨_, rfl⟩
        rw [← hW2]
        have h1' : W2.heap[W.heap.size]? = some (.cells (setL R i [iE x]).toArray 3 (0, 0)) := by rw [hW2]; exact h1
        have h2 := heap_setCells ((ts.map iE).drop i) (i + 1) W2 _ h1'
        obtain ⟨r1, r2, r3, r4⟩ := rest_setCells (g := W.heap.size) [iE x] i W1
        obtain ⟨q1, q2, q3, q4⟩ := rest_setCells (g := W.heap.size) ((ts.map iE).drop i) (i + 1) W2
        have hdl : ((ts.map iE).drop i).length = ts.length - i := by simp
        refine ⟨_, rfl, ⟨by rw [List.length_map]; omega, .inr ⟨W.heap.size, G, _, by rw [hlen], hB, h2, by rw [hlen]; exact hG1, hG2, by simp [setL_len, hRl], ?_⟩⟩, ⟨?_, ?_, ?_, ?_, fun k hk _ => ?_⟩, fun k hk => .inr ?_⟩
        · rw [hmap, hlen, setL_eq _ _ _ (by rw [setL_len, hdl]; omega), setL_eq _ _ _ (by simp; omega)]
          simp only [Nat.mul_one, hdl, List.length_cons, List.length_nil, Nat.zero_add]
          have e1 : (R.take i ++ [iE x] ++ R.drop (i + 1)).take (i + 1) = R.take i ++ [iE x] := by
            rw [List.take_append_of_le_length (by simp; omega)]
            exact List.take_of_length_le (by simp; omega)
          rw [e1, hRt, List.take_append_of_le_length (by simp; omega)]
          refine List.take_of_length_le ?_
          simp
          omega
        · rw [q1, hW2]; exact r1.trans hB1.os
        · rw [q2, hW2]; exact r2.trans hB1.tape
        · rw [q3, hW2]; exact r3.trans hB1.output
        · rw [q4, hW2]; exact Nat.le_trans hB1.size (Nat.le_of_eq r4.symm)
        · rw [far_setCells (by omega), hW2]
          exact (far_setCells (by omega) _ _ W1).trans (hB1.block k hk)
        · have e' : some W.heap.size = some k := hk
          injection e' with e'
          omega
end Go.Proofs.Ytncnoilldlnpoaa
