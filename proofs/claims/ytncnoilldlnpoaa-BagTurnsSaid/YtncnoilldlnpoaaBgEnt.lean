/-
  counts.entries: the content that has just these keys, so often.
-/
import Derived.Test.YtncnoilldlnpoaaBgSort
import Derived.Deep.AppendLies
import Derived.Laws.MakeOwn
import Derived.Lib.OwnBridge
namespace Go.Proofs.Ytncnoilldlnpoaa
open Go.RowKit Go.Sort Go.Shelf
set_option linter.unusedVariables false
set_option linter.unusedSimpArgs false
set_option maxRecDepth 100000

theorem entInfo : (Try.prog.info? 41).map (fun i => (i.zero, i.size, i.bytes)) = some (some (.agg #[.int .i64 0, .int .i64 0, .int .i64 0, .int .i64 0]), 4, 32) := by kernel_rfl
theorem flat_at : ∀ (l : List (Ky × Nat)) (j u : Nat) (x : Ky × Nat), l[j]? = some x → u < 4 → (l.flatMap entC)[j * 4 + u]? = (entC x)[u]?
  | [], j, u, x, h, _ => by simp at h
  | y :: l, 0, u, x, h, hu => by
    simp at h; subst h
    rw [List.flatMap_cons, Nat.zero_mul, Nat.zero_add, List.getElem?_append_left (by simpa [entC] using hu)]
  | y :: l, j + 1, u, x, h, hu => by
    simp at h
    rw [List.flatMap_cons, List.getElem?_append_right (by simp [entC]; omega)]
    rw [show (j + 1) * 4 + u - (entC y).length = j * 4 + u by simp [entC]; omega]
    exact flat_at l j u x h hu
theorem flat_len (l : List (Ky × Nat)) : (l.flatMap entC).length = l.length * 4 := by
  induction l with
  | nil => rfl
  | cons y l ih => rw [List.flatMap_cons, List.length_append, ih]; simp [entC]; omega
theorem entC_one (x : Ky × Nat) : ∀ u ∈ entC x, u.oneCell' = true := fun u hu => by
  unfold entC at hu; simp at hu; rcases hu with rfl | rfl | rfl | rfl <;> rfl
/-- A content as it lies. -/
def EnA (w : World) (v : Value) (L : List (Ky × Nat)) : Prop := ∃ g c, v = .slice (some ⟨g, 0, none⟩) L.length c ∧ L.length ≤ 100000 ∧ ∀ j x, L[j]? = some x → ∀ u, u < 4 → w.cell? ⟨g, j * 4 + u, none⟩ = (entC x)[u]?
theorem rows_hold {B g c : Nat} {w : World} {l : List (Ky × Nat)} (h : w.ownsRow B 41 4 (.slice (some ⟨g, 0, none⟩) l.length c) l.length (l.flatMap entC)) : HoldsK entC 4 w g 0 l.toArray ∧ g < w.heap.size ∧ B ≤ g := by
  rcases id h.2 with ⟨e, _⟩ | ⟨g', cap, cur, e, hge, hg, hnc, hcm, hcz, hct⟩
  · cases e
  · injection e with e1 e2 e3
    injection e1 with e1
    have eg : g = g' := congrArg Addr.block e1
    subst eg
    refine ⟨fun t ht => ?_, (Array.getElem?_eq_some_iff.1 hg).1, hge⟩
    rw [size_flatK] at ht
    have ht' : t < l.length * 4 := by simpa using ht
    refine ⟨?_, Lib.frozen_of_heap hg _⟩
    rw [cell_of_row w g _ _ _ _ hg, Nat.zero_add]
    have hj : t / 4 < l.length := by omega
    have h1 := flat_at l (t / 4) (t % 4) l[t / 4] (List.getElem?_eq_getElem hj) (Nat.mod_lt _ (by omega))
    rw [show t / 4 * 4 + t % 4 = t by omega, ← hct, List.getElem?_take_of_lt ht'] at h1
    rw [get_flatK entC 4 l.toArray t (by simpa using ht')]
    have h2 : cur[t]? = (entC l[t / 4])[t % 4]? := by simpa using h1
    rw [h2]
    have h3 : l.toArray[t / 4]! = l[t / 4] := by rw [getElem!_pos l.toArray (t / 4) (by simpa using hj)]; simp
    rw [h3]
    have h4 : t % 4 < (entC l[t / 4]).length := by simp [entC]; omega
    rw [List.getElem?_eq_getElem h4, getElem!_pos (entC l[t / 4]) (t % 4) h4]
    rfl
theorem hold_en {w : World} {g c : Nat} {d : Array (Ky × Nat)} (h : HoldsK entC 4 w g 0 d) (hn : d.size ≤ 100000) : EnA w (.slice (some ⟨g, 0, none⟩) d.size c) d.toList := by
  refine ⟨g, c, by simp, by simpa using hn, fun j x hj u hu => ?_⟩
  have hjl : j < d.size := by simpa using (List.getElem?_eq_some_iff.1 hj).1
  have h1 := (h (j * 4 + u) (by rw [size_flatK]; omega)).1
  rw [Nat.zero_add] at h1
  rw [h1, get_flatK entC 4 d (j * 4 + u) (by omega)]
  have e1 : (j * 4 + u) / 4 = j := by omega
  have e2 : (j * 4 + u) % 4 = u := by omega
  rw [e1, e2]
  have h3 : d[j]! = x := by
    rw [getElem!_pos d j hjl]
    have : d.toList[j]? = some d[j] := by simp [hjl]
    rw [this] at hj
    injection hj
  rw [h3]
  have h4 : u < (entC x).length := by simpa [entC] using hu
  rw [List.getElem?_eq_getElem h4, getElem!_pos (entC x) u h4]
  rfl
theorem below_sort {B : Nat} {W w : World} (h : Below B W w) (hB : B ≤ W.heap.size) {g : Nat} (hg : B ≤ g) (n : Nat) (d : Array (Ky × Nat)) (os : Array Obj) : Below B W (sortWorldK entC 4 w g 0 n d os) := by
  have h1 := Lib.below_putRow (enc := id) (q := n) (d := flatK entC 4 d) h hg
  have h2 : ∀ v : World, Below B W v → Below B W (grow v os) := fun v hv => ⟨hv.os, hv.tape, hv.output, by
    have := hv.size
    simp [grow]
    omega, fun q hq => by
    rw [← hv.block q hq]
    have : q < v.heap.size := Nat.lt_of_lt_of_le hq (Nat.le_trans hB hv.size)
    simp [grow, Array.getElem?_append_left this]⟩
  exact h2 _ h1
theorem lenM {W : World} {m : Nat} {l : List (Ky × Nat)} (h : Mq kE nE W m l) (ty : TypeId) : (Builtin.len_ #[51] ty #[.map (some m)]).run Try.prog W = .ok (.int .i64 (l.length : Int)) W := by
  obtain ⟨es, c, hb, he⟩ := h.len
  simp [Builtin.len_, run_underlying mapI, MapKept.run_getObj_map hb, goInt, Result.andThen, he]
def EntRel (W : World) (m r : Nat) (l : List (Ky × Nat)) (gk : Nat) (s : Value) (wr : World) : Prop :=
  ∃ (dn left : List (Ky × Nat)) (g c : Nat), s = .slice (some ⟨g, 0, none⟩) dn.length c ∧ wr.ownsRow W.heap.size 41 4 (.slice (some ⟨g, 0, none⟩) dn.length c) dn.length (dn.flatMap entC) ∧ Rg kE nE wr m r left ∧ (dn ++ left).Perm l ∧ left.length ≤ gk ∧ Below W.heap.size W wr
theorem sort_row {B g c : Nat} {w : World} {l : List (Ky × Nat)} (h : w.ownsRow B 41 4 (.slice (some ⟨g, 0, none⟩) l.length c) l.length (l.flatMap entC)) (d' : Array (Ky × Nat)) (hd : d'.size = l.length) (n : Nat) (os : Array Obj) (hH : HoldsK entC 4 (sortWorldK entC 4 w g 0 n d' os) g 0 d') :
    (sortWorldK entC 4 w g 0 n d' os).ownsRow B 41 4 (.slice (some ⟨g, 0, none⟩) l.length c) d'.toList.length (d'.toList.flatMap entC) := by
  have hdl : d'.toList.length = l.length := by simpa using hd
  rcases id h.2 with ⟨e, _⟩ | ⟨g', cap, cur, e, hge, hg, hnc, hcm, hcz, hct⟩
  · cases e
  · injection e with e1 e2 e3
    injection e1 with e1
    have eg : g = g' := congrArg Addr.block e1
    subst eg
    subst e3
    have hgl : g < w.heap.size := (Array.getElem?_eq_some_iff.1 hg).1
    have hg2 : (sortWorldK entC 4 w g 0 n d' os).heap[g]? = some (.cells (putCells id 0 (flatK entC 4 d') cur) 41 (0, 0)) := by
      unfold sortWorldK grow putRowK putRow mapBlock Sort.ahead
      dsimp only
      rw [Array.getElem?_append_left (by simpa using hgl), Array.getElem?_modify, if_pos rfl, hg]
      rfl
    have hsz : (putCells id 0 (flatK entC 4 d') cur).size = cur.size := by simp [putCells]
    refine ⟨flat_len _, .inr ⟨g, _, _, by rw [hdl], hge, hg2, by rw [hdl]; exact hnc, hcm, by rw [hsz]; exact hcz, ?_⟩⟩
    rw [hdl]
    apply List.ext_getElem?
    intro t
    by_cases ht : t < l.length * 4
    · rw [List.getElem?_take_of_lt ht]
      have h1 := (hH t (by rw [size_flatK]; omega)).1
      rw [cell_of_row _ g _ _ _ _ hg2, Nat.zero_add, get_flatK entC 4 d' t (by omega)] at h1
      have hj : t / 4 < d'.size := by omega
      have h2 := flat_at d'.toList (t / 4) (t % 4) d'[t / 4] (by simp [hj]) (Nat.mod_lt _ (by omega))
      rw [show t / 4 * 4 + t % 4 = t by omega] at h2
      rw [h2]
      have h4 : t % 4 < (entC d'[t / 4]).length := by simp [entC]; omega
      have h5 : (putCells id 0 (flatK entC 4 d') cur).toList[t]? = some (id (entC d'[t / 4]!)[t % 4]!) := by simpa using h1
      rw [h5, getElem!_pos d' (t / 4) hj, List.getElem?_eq_getElem h4, getElem!_pos (entC d'[t / 4]) (t % 4) h4]
      rfl
    · rw [List.getElem?_eq_none_iff.2 (by simp; omega), List.getElem?_eq_none_iff.2 (by rw [flat_len]; omega)]
theorem row_base {B B' : Nat} {w : World} {ty : TypeId} {z n : Nat} {v : Value} {xs : List Value} (h : w.ownsRow B ty z v n xs) (hb : B' ≤ B) : w.ownsRow B' ty z v n xs :=
  ⟨h.1, h.2.imp id fun ⟨g, cap, cur, e, hge, r⟩ => ⟨g, cap, cur, e, Nat.le_trans hb hge, r⟩⟩
def EntP (W : World) (l : List (Ky × Nat)) (e : Ending) (w' : World) : Prop := ∃ v L, e = .returned v ∧ IsC L (cntK l) ∧ EnA w' v L ∧ Below W.heap.size W w'
def EntQ (W : World) (l : List (Ky × Nat)) (e : Ending) (w' : World) : Prop := ∃ v L, e = .returned v ∧ IsC L (cntK l) ∧ EnA w' v L ∧ Below W.heap.size W w' ∧ w'.ownsRow W.heap.size 41 4 v L.length (L.flatMap entC)
theorem ent_done {W wr : World} {l dn : List (Ky × Nat)} {g c : Nat} (hn : (l.map (·.1)).Nodup) (hp : ∀ p ∈ l, 0 < p.2) (hl : l.length ≤ 30000) (h : wr.ownsRow W.heap.size 41 4 (.slice (some ⟨g, 0, none⟩) dn.length c) dn.length (dn.flatMap entC)) (hperm : dn.Perm l) (hb : Below W.heap.size W wr) :
    Calls Try.prog 27 #[.slice (some ⟨g, 0, none⟩) dn.length c, .func (.func 28) #[] #[]] wr fun e w' => e = .returned (.tuple #[]) ∧ EntQ W l (.returned (.slice (some ⟨g, 0, none⟩) dn.length c)) w' := by
  obtain ⟨h1, h2, h3⟩ := rows_hold h
  have hdl : dn.length ≤ 30000 := by rw [hperm.length_eq]; exact hl
  have := gsort_any g 0 c dn.toArray wr h1 h2 (by simp; omega)
  rw [show dn.toArray.size = dn.length by simp] at this
  refine this.mono ?_
  rintro e w' ⟨rfl, d', n, os, p1, p2, rfl⟩
  have hn' : (dn.map (·.1)).Nodup := (hperm.map (·.1)).nodup_iff.2 hn
  have hp' : ∀ p ∈ dn, 0 < p.2 := fun p h => hp p (hperm.mem_iff.1 h)
  obtain ⟨c1, c2⟩ := sort_isC hn' hp' (by simpa using p1) (by simpa using p2)
  have hc : ∀ k, cntK dn k = cntK l k := fun k => by
    have : ∀ n, 0 < n → (cntK dn k = n ↔ cntK l k = n) := fun n hn0 => by
      have a := mem_cnt hn' hp' (k, n)
      have b := mem_cnt hn hp (k, n)
      have c := hperm.mem_iff (a := (k, n))
      simp only [hn0, true_and] at a b
      rw [← a, ← b, c]
    rcases Nat.eq_zero_or_pos (cntK dn k) with h0 | h0
    · rcases Nat.eq_zero_or_pos (cntK l k) with h1 | h1
      · rw [h0, h1]
      · have := (this _ h1).2 rfl
        omega
    · exact ((this _ h0).1 rfl).symm
  have hH := holdsK_sortWorldK_c entC 4 wr g 0 dn.toArray d' n os h1 h2 (by simp [c2])
  have hE := hold_en (c := c) hH (by omega)
  have hRow := sort_row h d' c2 n os hH
  rw [c2] at hE
  exact ⟨rfl, _, d'.toList, rfl, ⟨c1.so, c1.ps, fun k => (c1.cn k).trans (hc k)⟩, hE, below_sort hb (Nat.le_refl _) h3 n d' os, hRow⟩
set_option maxHeartbeats 8000000 in
theorem gentries_own {W : World} {m : Nat} {l : List (Ky × Nat)} (h : Mq kE nE W m l) (hn : (l.map (·.1)).Nodup) (hp : ∀ p ∈ l, 0 < p.2) (hl : l.length ≤ 30000) :
    Calls Try.prog 18 #[.map (some m)] W (EntQ W l) := by
  obtain ⟨i0, hi0, hi1, hi2, hi3⟩ := info_parts entInfo
  have hln := lenM h 3
  obtain ⟨W1, hm1, hm2, hm3⟩ := run_make_own (P := Try.prog) W W.heap.size 35 41 i0 (.agg #[.int .i64 0, .int .i64 0, .int .i64 0, .int .i64 0]) 4 Try.underlying35 hi0 hi1 hi2 .i64 .i64 l.length (by rw [hi3]; omega) (by unfold maxLen; omega) (Nat.le_refl _)
  have h1 : Mq kE nE W1 m l := h.of (hm3.block m h.lt (by simp))
  obtain ⟨o, hr, hR⟩ := h1.range (t := 51) mapI
  have hB1 : Below W.heap.size W W1 := (Below.refl _ _).grown hm3 (Nat.le_refl _) (fun k hk => by cases hk)
  have hB2 : Below W.heap.size W (W1.alloc o) := hB1.alloc hm3.size o
  have hs1 := hm3.size
  obtain ⟨W2, hW2⟩ : ∃ W2, W2 = W1.alloc o := ⟨_, rfl⟩
  have hOW : W2.ownsRow W.heap.size 41 4 (.slice (some ⟨W.heap.size, 0, none⟩) 0 l.length) 0 [] := by rw [hW2]; exact hm2.alloc o
  rw [← hW2] at hr hR hB2
  have HST := Lib.hid (show EntRel W m W1.heap.size l l.length (.slice (some ⟨W.heap.size, 0, none⟩) 0 l.length) W2 from ⟨[], l, W.heap.size, l.length, rfl, hOW, hR, List.Perm.refl _, Nat.le_refl _, hB2⟩)
  have HS1 := Lib.hid hs1
  have HDN := Lib.hid (fun (wr : World) (dn : List (Ky × Nat)) (g c : Nat) => ent_done (W := W) (wr := wr) (dn := dn) (g := g) (c := c) hn hp hl)
  have HL := Lib.hid hl
  have hl0 : (0 : Int) ≤ (l.length : Int) := by omega
  have hl1 : (l.length : Int) ≤ 30000 := by omega
  clear h hn hp hm2 hm3 h1 hB1 hB2 hOW hR hs1 hW2 hl
  go_enter Try.func18, Try.ntmps18
  go_wp2
  go_loopg [3] l.length (fun gk s3 wr => EntRel W m W1.heap.size l gk s3 wr)
  case atStart => exact HST.out
  case round =>
    obtain ⟨dn, left, g, c, rfl, hown, hRg, hperm, hgk, hb⟩ := hrel
    rcases hRg.next 0 with ⟨rfl, hnx⟩ | ⟨p, A, B, V, o2, rfl, hV, hnx, hL2, he⟩
    · have cS := HDN.out wr dn g c hown (by simpa using hperm) hb
      clear hRg hperm hgk hb hown
      go_wp2_with (go_at_call 27; (with_reducible refine cS.mono ?_); rintro e w5 ⟨rfl, hz⟩; have HZ := Lib.hid hz; clear hz)
      go_ret
      exact HZ.out
    · obtain ⟨W3, hW3⟩ : ∃ W3, W3 = putBlock V W1.heap.size o2 := ⟨_, rfl⟩
      rw [← hW3] at hnx hL2 he
      have hrl : W.heap.size ≤ W1.heap.size := HS1.out
      have hb3 : Below W.heap.size W W3 := by
        rw [hW3]
        rcases hV with rfl | rfl
        · exact below_put hb hrl _
        · exact below_put hb.drew hrl _
      have hgr : g ≠ W1.heap.size ∧ g ≠ m := by
        rcases id hown.2 with ⟨e, _⟩ | ⟨g', cap, cur, e, hge, hg, _⟩
        · cases e
        · injection e with e1
          injection e1 with e1
          have eg : g = g' := congrArg Addr.block e1
          subst eg
          obtain ⟨es, ck, si, se, c0, q1, q2, _⟩ := hRg
          exact ⟨fun e => (by rw [e, q2] at hg; cases hg), fun e => (by rw [e, q1] at hg; cases hg)⟩
      have hV2 : V.ownsRow W.heap.size 41 4 (.slice (some ⟨g, 0, none⟩) dn.length c) dn.length (dn.flatMap entC) := by
        rcases hV with rfl | rfl
        · exact hown
        · exact hown
      have hown3 : W3.ownsRow W.heap.size 41 4 (.slice (some ⟨g, 0, none⟩) dn.length c) dn.length (dn.flatMap entC) := by
        rw [hW3]
        refine ⟨hV2.1, ?_⟩
        rcases id hV2.2 with e | ⟨g', cap, cur, e, hge, hg, h5⟩
        · exact .inl e
        · injection e with e1 e2 e3
          injection e1 with e1
          have eg : g = g' := congrArg Addr.block e1
          subst eg
          subst e3
          exact .inr ⟨g, _, cur, rfl, hge, (putBlock_far hgr.1).trans hg, h5⟩
      have hdn : dn.length ≤ 30000 := by
        have := hperm.length_eq
        have := HL.out
        simp only [List.length_append] at *
        omega
      obtain ⟨k, n⟩ := p
      have hEnd : ∀ (w6 : World) (g5 c7 : Nat), w6.ownsRow W.heap.size 41 4 (.slice (some ⟨g5, 0, none⟩) (dn.length + 1) c7) (dn.length + 1) (dn.flatMap entC ++ entC (k, n)) → ((W3.alloc (.cells #[.int .i64 k.1, .int .i64 k.2.1, .int .i64 k.2.2] 39)).alloc (.cells (entC (k, n)).toArray 41)).grownBy w6 (some g) → EntRel W m W1.heap.size l (A ++ B).length (.slice (some ⟨g5, 0, none⟩) (dn.length + 1) c7) w6 := fun w6 g5 c7 q1 q2 => by
        have hr3 : W1.heap.size < W3.heap.size := by
          obtain ⟨es, ck, si, se, c0, q1, q2, _⟩ := hL2
          exact (Array.getElem?_eq_some_iff.1 q2).1
        have hm3 : m < W3.heap.size := by
          obtain ⟨es, ck, si, se, c0, q1, q2, _⟩ := hL2
          exact (Array.getElem?_eq_some_iff.1 q1).1
        have far : ∀ q, q < W3.heap.size → q ≠ g → w6.heap[q]? = W3.heap[q]? := fun q h1 h2 => by
          rw [q2.block q (by simp; omega) (fun e => h2 (Option.some.inj e))]
          exact (Below.heap_alloc _ _ q (by simp; omega)).trans (Below.heap_alloc _ _ q h1)
        have hgB : W.heap.size ≤ g := by
          rcases id hown3.2 with ⟨e, _⟩ | ⟨g', cap, cur, e, hge, _⟩
          · cases e
          · injection e with e1
            injection e1 with e1
            have eg : g = g' := congrArg Addr.block e1
            omega
        refine ⟨dn ++ [(k, n)], A ++ B, g5, c7, by simp, ?_, hL2.of (far m hm3 hgr.2.symm) (far W1.heap.size hr3 hgr.1.symm), ?_, Nat.le_refl _, ?_⟩
        · rw [List.length_append, List.flatMap_append]
          simpa using q1
        · refine List.Perm.trans ?_ hperm
          rw [List.append_assoc]
          exact List.Perm.append_left dn (List.perm_middle (a := (k, n)) (l₁ := A) (l₂ := B)).symm
        · have hb5 : Below W.heap.size W ((W3.alloc (.cells #[.int .i64 k.1, .int .i64 k.2.1, .int .i64 k.2.2] 39)).alloc (.cells (entC (k, n)).toArray 41)) := (hb3.alloc hb3.size _).alloc (by have := hb3.size; simp; omega) _
          exact hb5.grown q2 hb5.size (fun j hj => by injection hj with hj; omega)
      have HE := Lib.hid hEnd
      have HOW := Lib.hid hown3
      have HB3 := Lib.hid hb3
      have HDL := Lib.hid hdn
      have hlen : (A ++ B).length + 1 ≤ gk := by simpa [Nat.add_assoc] using hgk
      have HG := Lib.hid hlen
      clear hRg hperm hgk hb hown hL2 hV hV2 hb3 hgr hown3 hdn hEnd hlen hW3
      dsimp only at hnx he
      unfold nE kE at hnx he
      go_wp2_with (at_builtin; refine wpList_append_lies _ rfl _ _ 35 rfl W.heap.size 41 i0 (.agg #[.int .i64 0, .int .i64 0, .int .i64 0, .int .i64 0]) 4 32 Try.underlying35 hi0 hi1 hi2 hi3 rfl (by decide) _ _ _ rfl ((HOW.out.alloc _).alloc _) ⟨W3.heap.size + 1, 0, none⟩ 1 1 (entC (k, n)) rfl rfl (fun j u hj => by rw [at_add, Nat.zero_add]; have h9 := (Fb.new (W3.alloc (.cells #[.int .i64 k.1, .int .i64 k.2.1, .int .i64 k.2.2] 39)) 41 (entC (k, n)).toArray).cell j; rw [World.size_alloc] at h9; exact h9.trans (by simpa using hj)) (entC_one _) (by decide) (by have := HDL.out; unfold maxLen; omega) (by have := HDL.out; omega) (by have := HB3.out.size; simp; omega) _ rfl ?_; intro g5 c7 w6 hown hgrow hloc hg5; have HZ := Lib.hid (HE.out w6 g5 c7 hown hgrow); clear hown hgrow hloc hg5)
      go_roundg ((A ++ B).length)
      case measure => have := HG.out; omega
      case rel => exact HZ.out
theorem gentries_any {W : World} {m : Nat} {l : List (Ky × Nat)} (h : Mq kE nE W m l) (hn : (l.map (·.1)).Nodup) (hp : ∀ p ∈ l, 0 < p.2) (hl : l.length ≤ 30000) :
    Calls Try.prog 18 #[.map (some m)] W (EntP W l) :=
  (gentries_own h hn hp hl).mono fun _ _ ⟨v, L, a, b, c, d, _⟩ => ⟨v, L, a, b, c, d⟩
end Go.Proofs.Ytncnoilldlnpoaa
