/-
  One fewer, plain; Bag.end.
-/
import Derived.Test.YtncnoilldlnpoaaBgExp
import Derived.Test.YtncnoilldlnpoaaWShelf
namespace Go.Proofs.Ytncnoilldlnpoaa
open Go.RowKit
set_option linter.unusedVariables false
set_option linter.unusedSimpArgs false
set_option maxRecDepth 100000

theorem del_sub {α β : Type} [DecidableEq α] (k : α) : ∀ l : List (α × β), (delM k l).Sublist l
  | [] => List.Sublist.refl _
  | p :: l => by
    unfold delM
    split
    · exact List.sublist_cons_self _ _
    · exact (del_sub k l).cons_cons p
theorem cnt_del {k k' : Ky} : ∀ {l : List (Ky × Nat)}, (l.map (·.1)).Nodup → cntK (delM k l) k' = if k' = k then 0 else cntK l k'
  | [], _ => by simp [delM, cntK, getM]
  | p :: l, h => by
    simp only [List.map_cons, List.nodup_cons] at h
    have ih := cnt_del (k := k) (k' := k') h.2
    unfold delM
    by_cases hp : p.1 = k
    · rw [if_pos hp]
      by_cases hk : k' = k
      · rw [if_pos hk, hk, ← hp]
        exact (cntK_not h.1).1
      · rw [if_neg hk]
        unfold cntK
        conv => rhs; unfold getM
        rw [if_neg (by rw [hp]; exact fun e => hk e.symm)]
    · rw [if_neg hp]
      by_cases hq : p.1 = k'
      · have hk : ¬ k' = k := fun e => hp (hq.trans e)
        rw [if_neg hk]
        unfold cntK getM
        rw [if_pos hq, if_pos hq]
      · unfold cntK at *
        unfold getM
        rw [if_neg hq, if_neg hq]
        exact ih
theorem sum_del (k : Ky) : ∀ l : List (Ky × Nat), sumN (delM k l) + cntK l k = sumN l
  | [] => rfl
  | p :: l => by
    have ih := sum_del k l
    unfold delM
    unfold sumN cntK at *
    unfold getM
    by_cases hp : p.1 = k
    · rw [if_pos hp, if_pos hp]; simp; omega
    · rw [if_neg hp, if_neg hp]
      simp only [List.map_cons, List.sum_cons]
      omega
theorem sum_set (k : Ky) (n : Nat) : ∀ l : List (Ky × Nat), sumN (putM k n l) + cntK l k = sumN l + n
  | [] => by simp [putM, cntK, getM, sumN]
  | p :: l => by
    have ih := sum_set k n l
    unfold putM
    unfold sumN cntK at *
    unfold getM
    by_cases hp : p.1 = k
    · rw [if_pos hp, if_pos hp]; simp; omega
    · rw [if_neg hp, if_neg hp]
      simp only [List.map_cons, List.sum_cons]
      omega
/-- A time's keys with one fewer. -/
def lesL (k : Ky) (l : List (Ky × Nat)) : List (Ky × Nat) := if cntK l k = 1 then delM k (putM k 0 l) else putM k (cntK l k - 1) l
theorem les_cnt {k k' : Ky} {l : List (Ky × Nat)} (h : (l.map (·.1)).Nodup) : cntK (lesL k l) k' = if k' = k then cntK l k - 1 else cntK l k' := by
  unfold lesL
  split
  · rename_i h1
    rw [cnt_del (nodup_put h), cnt_put]
    by_cases hk : k' = k
    · rw [if_pos hk, if_pos hk, h1]
    · rw [if_neg hk, if_neg hk, if_neg hk]
  · rw [cnt_put]
theorem les_sum {k : Ky} {l : List (Ky × Nat)} (h : 0 < cntK l k) : sumN (lesL k l) + 1 = sumN l := by
  unfold lesL
  split
  · rename_i h1
    have := sum_del k (putM k 0 l)
    have := sum_set k 0 l
    have e : cntK (putM k 0 l) k = 0 := by rw [cnt_put, if_pos rfl]
    omega
  · have := sum_set k (cntK l k - 1) l
    omega
theorem les_nd {k : Ky} {l : List (Ky × Nat)} (h : (l.map (·.1)).Nodup) : ((lesL k l).map (·.1)).Nodup := by
  unfold lesL
  split
  · exact (nodup_put h).sublist ((del_sub k _).map _)
  · exact nodup_put h
theorem pos_of_cnt {l : List (Ky × Nat)} (hn : (l.map (·.1)).Nodup) : ∀ p ∈ l, cntK l p.1 = p.2 := by
  induction l with
  | nil => intro p hp; cases hp
  | cons q l ih =>
    intro p hp
    simp only [List.map_cons, List.nodup_cons] at hn
    unfold cntK getM
    rcases List.mem_cons.1 hp with rfl | hp
    · rw [if_pos rfl]; rfl
    · rw [if_neg (fun (e : q.1 = p.1) => hn.1 (by rw [e]; exact List.mem_map.2 ⟨p, hp, rfl⟩))]
      exact ih hn.2 p hp
theorem les_ps {k : Ky} {l : List (Ky × Nat)} (hn : (l.map (·.1)).Nodup) (h : ∀ p ∈ l, 0 < p.2) (hk : 0 < cntK l k) : ∀ p ∈ lesL k l, 0 < p.2 := by
  have h1 : ∀ p ∈ putM k (cntK l k - 1) l, p.1 ≠ k → 0 < p.2 := by
    clear hn hk
    generalize cntK l k - 1 = n
    induction l with
    | nil =>
      intro p hp hne
      simp [putM] at hp
      subst hp
      exact absurd rfl hne
    | cons q l ih =>
      intro p hp hne
      unfold putM at hp
      split at hp
      · rename_i hq
        rcases List.mem_cons.1 hp with rfl | hp
        · exact absurd hq hne
        · exact h p (.tail _ hp)
      · rcases List.mem_cons.1 hp with rfl | hp
        · exact h p (.head _)
        · exact ih (fun x hx => h x (.tail _ hx)) p hp hne
  intro p hp
  by_cases hpk : p.1 = k
  · have h2 := pos_of_cnt (les_nd (k := k) hn) p hp
    rw [les_cnt hn, if_pos hpk] at h2
    unfold lesL at hp
    split at hp
    · rename_i h3
      have h4 := pos_of_cnt ((nodup_put (k := k) (n := 0) hn).sublist ((del_sub k _).map _)) p hp
      rw [cnt_del (nodup_put hn), if_pos hpk] at h4
      exfalso
      have h5 : k ∉ (delM k (putM k 0 l)).map (·.1) := by
        have hnn := nodup_put (k := k) (n := 0) hn
        clear h4 hp
        generalize putM k 0 l = l1 at *
        clear h2 h1 h3 hk h hn
        induction l1 with
        | nil => simp [delM]
        | cons q l1 ih =>
          simp only [List.map_cons, List.nodup_cons] at hnn
          unfold delM
          split
          · rename_i hq
            rw [← hq]; exact hnn.1
          · rename_i hq
            simp only [List.map_cons, List.mem_cons, not_or]
            exact ⟨fun e => hq e.symm, ih hnn.2⟩
      exact h5 (List.mem_map.2 ⟨p, hp, hpk⟩)
    · omega
  · unfold lesL at hp
    split at hp
    · rename_i h3
      rw [h3] at h1
      exact h1 p ((del_sub k _).mem hp) hpk
    · exact h1 p hp hpk
section
variable {B d am : Nat} {room many : Int} {v : Value} {W : World}
theorem at_mid {ts1 ts2 : List Int} {x : Int} (h : (ts1 ++ x :: ts2).Pairwise (· < ·)) : (ts1 ++ x :: ts2).countP (· < x) = ts1.length ∧ (ts1 ++ x :: ts2).contains x = true := by
  obtain ⟨h1, h2, h3⟩ := List.pairwise_append.1 h
  obtain ⟨h4, h5⟩ := List.pairwise_cons.1 h2
  constructor
  · rw [List.countP_append, List.countP_cons_of_neg (by simp), List.countP_eq_length.2 (fun y hy => by simpa using h3 y hy x (.head _)), List.countP_eq_zero.2 (fun y hy => by have := h4 y hy; simp; omega)]
    omega
  · simp
def EndP (d : Nat) (room many : Int) (am : Nat) (v : Value) (W : World) (ts : List Int) (R : List (Int × Nat)) (e : Ending) (w' : World) : Prop :=
  e = .returned (.tuple #[]) ∧ ∃ v' E', Fb w' d 48 #[.int .i64 room, .int .i64 many, .map (some am), v'] ∧ Mq iE mE w' am E' ∧ E'.Perm R ∧ TsA w' v' ts ∧ (∀ q, vB v' = some q → vB v = some q) ∧ Ch (fun q => q = d ∨ q = am ∨ vB v = some q) W w'
theorem getD_at (T : List Int) (j : Nat) (hj : j < T.length) : some (iE T[j]) = some (.int .i64 (T.getD j 0)) := by
  simp [iE, List.getD, hj]
theorem gdel_any {W : World} {v : Value} {ts1 ts2 : List Int} {x : Int} (h : TsA W v (ts1 ++ x :: ts2)) :
    Calls Try.prog 30 #[v, .int .i64 (ts1.length : Int), .int .i64 ((ts1.length : Int) + 1)] W fun e w' => ∃ v', e = .returned v' ∧ TsA w' v' (ts1 ++ ts2) ∧ vB v' = vB v ∧ (∃ A n c, v' = .slice A n c) ∧ Ch (fun q => vB v = some q) W w' := by
  rcases h with ⟨_, e⟩ | ⟨g, off, c, cs, rfl, hg, hnc, hn, hc, hx⟩
  · simp at e
  · have hlen : (ts1 ++ x :: ts2).length = ts1.length + ts2.length + 1 := by simp; omega
    have hD := Try.slices_Delete_int_cells g off (ts1 ++ x :: ts2).length c ts1.length (ts1.length + 1) (ts1 ++ x :: ts2) W (Nat.le_refl _) hnc hc (by omega) (by omega) (fun j hj => by
      rw [hg.cell, hx j _ (List.getElem?_eq_getElem hj)]
      exact getD_at _ j hj) (fun j hj => Lib.frozen_of_heap hg _)
    rw [show ((ts1.length + 1 : Nat) : Int) = (ts1.length : Int) + 1 from by omega] at hD
    refine hD.mono ?_
    rintro e w' ⟨rfl, q, rfl⟩
    rw [List.take_length, show ts1.length + 1 - ts1.length = 1 by omega]
    have e1 : (ts1 ++ x :: ts2).take ts1.length = ts1 := by simp
    have e2 : (ts1 ++ x :: ts2).drop (ts1.length + 1) = ts2 := by
      rw [List.drop_append]
      simp
    rw [e1, e2]
    have hg2 : (W.drewN q).heap[g]? = some (.cells cs.toList.toArray 3 (0, 0)) := by
      have h : W.heap[g]? = some (.cells cs 3 (0, 0)) := hg
      simpa using h
    have hsz : off + (ts1 ++ x :: ts2).length ≤ cs.size := by
      have := hx ((ts1 ++ x :: ts2).length - 1) _ (List.getElem?_eq_getElem (by omega))
      have := (Array.getElem?_eq_some_iff.1 this).1
      omega
    have h2 := heap_setCells ((ts1 ++ ts2 ++ List.replicate 1 0).map (Value.int .i64)) off (W.drewN q) cs.toList hg2
    obtain ⟨r1, r2, r3, r4⟩ := rest_setCells (g := g) ((ts1 ++ ts2 ++ List.replicate 1 0).map (Value.int .i64)) off (W.drewN q)
    have hll : ((ts1 ++ ts2 ++ List.replicate 1 0).map (Value.int .i64)).length = ts1.length + ts2.length + 1 := by simp; omega
    refine ⟨_, rfl, .inr ⟨g, off, c, _, ?_, h2, ?_, ?_, hc, fun j y hj => ?_⟩, rfl, ⟨_, _, _, rfl⟩, ⟨r1, r2, r3, Nat.le_of_eq r4.symm, fun k hk hf => ?_⟩⟩
    · rw [show (ts1 ++ x :: ts2).length - 1 = (ts1 ++ ts2).length by rw [hlen, List.length_append]; omega]
    · simp; omega
    · simp; omega
    · have hjl := (List.getElem?_eq_some_iff.1 hj).1
      rw [List.length_append] at hjl
      rw [setL_eq _ _ _ (by rw [hll]; simp; omega)]
      simp only [List.getElem?_toArray]
      rw [List.append_assoc, List.getElem?_append_right (by simp; omega)]
      rw [show off + j - (cs.toList.take off).length = j by simp; omega]
      rw [List.getElem?_append_left (by rw [hll]; omega), List.getElem?_map, List.getElem?_append_left (by simp; omega), hj]
      rfl
    · exact far_setCells (fun e => hf (by rw [e]; rfl)) _ _ _
set_option maxHeartbeats 4000000 in
theorem gend_any {E R : List (Int × Nat)} {ts1 ts2 : List Int} {x : Int} {zb : Nat} (hd : Fb W d 48 #[.int .i64 room, .int .i64 many, .map (some am), v]) (hE : Mq iE mE W am E) (hp : E.Perm ((x, zb) :: R)) (hx : getM x E = some zb) (ht : TsA W v (ts1 ++ x :: ts2)) (so : (ts1 ++ x :: ts2).Pairwise (· < ·)) (hvd : vB v ≠ some d) (hva : vB v ≠ some am) :
    Calls Try.prog 19 #[.pointer (some ⟨d, 0, none⟩), .int .i64 x] W (EndP d room many am v W (ts1 ++ ts2) R) := by
  have cB := gbin_any ht so x
  obtain ⟨m1, m2⟩ := at_mid so
  rw [m1, m2] at cB
  have c3 : W.cell? ⟨d, 3, none⟩ = some v := hd.cell 3
  have cD := fun q => gdel_any (W := W.drewN q) (v := v) (ts1 := ts1) (ts2 := ts2) (x := x) (ht.of fun _ _ => rfl)
  have dam : d ≠ am := hE.ne hd
  have HE := Lib.hid (fun (q : Nat) (w2 : World) (A : Option Addr) (n c : Nat) (hT : TsA w2 (.slice A n c) (ts1 ++ ts2)) (hv : vB (.slice A n c) = vB v) (hc : Ch (fun q => vB v = some q) (W.drewN q) w2) => (show (w2.cell? ⟨d, 2, none⟩ = some (.map (some am)) ∧ w2.cell? ⟨d, 3, none⟩ = some v ∧ w2.frozen? ⟨d, 3, none⟩ = false) ∧
      ∃ o, (Builtin.delete_ #[45, 3] 0 #[.map (some am), .int .i64 x]).run Try.prog (w2.setCell ⟨d, 3, none⟩ (.slice A n c)) = .ok (.tuple #[]) (putBlock (w2.setCell ⟨d, 3, none⟩ (.slice A n c)) am o) ∧ EndP d room many am v W (ts1 ++ ts2) R (.returned (.tuple #[])) (putBlock (w2.setCell ⟨d, 3, none⟩ (.slice A n c)) am o) from by
    have hf : Fb w2 d 48 #[.int .i64 room, .int .i64 many, .map (some am), v] := (hc.far d hd.lt hvd).trans hd
    have hm2 : Mq iE mE w2 am E := hE.of (hc.far am hE.lt hva)
    have hm3 : Mq iE mE (w2.setCell ⟨d, 3, none⟩ (.slice A n c)) am E := hm2.of (Below.heap_setCell _ _ _ _ dam.symm)
    obtain ⟨o, u1, u2⟩ := hm3.drop KLi mapO x 0
    have hperm : (delM x E).Perm R := (List.perm_cons _).1 ((del_perm hx).symm.trans hp)
    refine ⟨⟨hf.cell 2, hf.cell 3, hf.free 3⟩, o, u1, rfl, .slice A n c, delM x E, ?_, u2 _ hm3.lt, hperm, ?_, fun q hq => by rw [← hv]; exact hq, ?_⟩
    · unfold Fb
      rw [putBlock_far dam]
      exact hf.set 3 _
    · refine hT.of fun q hq => ?_
      rw [hv] at hq
      rw [putBlock_far (fun (e : q = am) => hva (by rw [hq, e]))]
      exact Below.heap_setCell _ _ _ _ (fun (e : q = d) => hvd (by rw [hq, e]))
    · have h1 : Ch (fun q => q = d ∨ q = am ∨ vB v = some q) W w2 := ⟨hc.os, hc.tape, hc.output, hc.size, fun q hq hf => hc.far q hq fun e => hf (.inr (.inr e))⟩
      exact (h1.trans (G := fun q => q = d ∨ q = am ∨ vB v = some q) (Ch.set (.inl rfl)) fun q hq => .inl hq).trans (G := fun q => q = d ∨ q = am ∨ vB v = some q) (Ch.put (.inr (.inl rfl))) fun q hq => .inl hq))
  have hz0 : (0 : Int) ≤ (ts1.length : Int) := by omega
  have hz1 : (ts1.length : Int) ≤ 100000 := by have := ht.len; simp at this; omega
  clear hE hp hx ht so m1 m2 hd
  generalize ts1.length = i at *
  go_enter Try.func19, Try.ntmps19
  go_wp2_with (first
    | (go_at_call 20; (with_reducible refine cB.mono ?_); rintro e w1 ⟨rfl, q, rfl⟩)
    | (go_at_call 30; (with_reducible refine (cD _).mono ?_); rintro e w2 ⟨v', rfl, hT, hv, ⟨A9, n9, c9, rfl⟩, hc⟩; obtain ⟨⟨y2, y3, y4⟩, o, hdel, hend⟩ := HE.out _ _ _ _ _ hT hv hc; have HZ := Lib.hid hend; clear hend hT hv hc))
  go_end0
  exact HZ.out
end
end Go.Proofs.Ytncnoilldlnpoaa
