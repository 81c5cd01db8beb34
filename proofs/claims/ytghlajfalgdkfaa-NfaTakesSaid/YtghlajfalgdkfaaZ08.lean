/-
  MERGED (a claim has at most 60 files): NfMore, NgMa, NgLk.
-/
import Derived.Test.YtghlajfalgdkfaaZ03
import Derived.Test.YtghlajfalgdkfaaZ07
import Derived.Laws.OwnMore
/-
  more: one more state.
-/
namespace Go.Proofs.Ytghlajfalgdkfaa
open Go.RowKit
set_option linter.unusedVariables false
set_option linter.unusedSimpArgs false
set_option maxRecDepth 100000

/-- What a call on a machine in the making leaves as it was. -/
structure Kp (B : Nat) (W W' : World) : Prop where
  b : Below B W W'
  k : ∀ g t cs, Fb W g t cs → t ≠ 66 → t ≠ 73 → Fb W' g t cs
theorem Kp.refl (B : Nat) (W : World) : Kp B W W := ⟨Below.refl _ _, fun _ _ _ h _ _ => h⟩
theorem Kp.trans {B : Nat} {W W' W'' : World} (h : Kp B W W') (h' : Kp B W' W'') : Kp B W W'' := ⟨h.b.trans h'.b, fun g t cs hf h1 h2 => h'.k g t cs (h.k g t cs hf h1 h2) h1 h2⟩
theorem Kp.below {B : Nat} {W W' : World} (h : Below W.heap.size W W') (hB : B ≤ W.heap.size) : Kp B W W' := ⟨h.mono hB, fun g t cs hf _ _ => hf.below h⟩
/-- A machine in the making: n states. -/
def MS (B d n : Nat) (xs : List Value) (W : World) : Prop := ∃ A c, Fb W d 66 #[.slice A n c] ∧ W.ownsRow B 73 2 (.slice A n c) n xs ∧ B ≤ d
theorem MS.below {B d n : Nat} {xs : List Value} {W W' : World} (h : MS B d n xs W) (hb : Below W.heap.size W W') : MS B d n xs W' := by
  obtain ⟨A, c, h1, h2, h3⟩ := h
  refine ⟨A, c, h1.below hb, ?_, h3⟩
  rcases id h2.2 with ⟨hv, h0⟩ | ⟨g, cap, cur, hv, hB, hg, hr⟩
  · exact ⟨h2.1, .inl ⟨hv, h0⟩⟩
  · exact ⟨h2.1, .inr ⟨g, cap, cur, hv, hB, (hb.block g (Array.getElem?_eq_some_iff.1 hg).1).trans hg, hr⟩⟩
theorem row_type {B : Nat} {w : World} {e : TypeId} {size n : Nat} {v : Value} {xs : List Value} (h : w.ownsRow B e size v n xs) {k : Nat} (hk : v.ownBlock = some k) : ∃ cs, Fb w k e cs := by
  rcases id h.2 with ⟨hv, _⟩ | ⟨g, cap, cur, hv, hB, hg, hr⟩
  · rw [hv] at hk; cases hk
  · rw [hv] at hk
    have : g = k := by simpa [Value.ownBlock] using hk
    subst this
    exact ⟨_, hg⟩
set_option maxHeartbeats 8000000 in
theorem more_any {B d n : Nat} {xs : List Value} {W : World} (h : MS B d n xs W) (hn : n ≤ 1000) (hB : B ≤ W.heap.size) :
    Calls Try.prog 29 #[.pointer (some ⟨d, 0, none⟩)] W fun e w' => e = .returned (.int .i64 (n : Int)) ∧ MS B d (n + 1) (xs ++ [.slice none 0 0, .bool false]) w' ∧ Kp B W w' := by
  obtain ⟨A, c, hF, hrow, hd⟩ := h
  obtain ⟨i0, hi0, hi1, hi2, hi3⟩ := info_parts nfState
  have d0 := hF.cell 0
  have HF := Lib.hid hF
  have HRow := Lib.hid hrow
  have HD := Lib.hid hd
  have HB := Lib.hid hB
  have hd2 : d < W.heap.size := hF.lt
  have hn0 : (0 : Int) ≤ (n : Int) := by omega
  have hn1 : (n : Int) ≤ 1000 := by omega
  have HN := Lib.hid hn
  clear hF hrow hd hB hn
  go_enter Try.func29, Try.ntmps29
  go_wp2_with (at_builtin; refine wpList_append_own _ rfl _ _ 64 rfl B 73 i0 (.agg #[.slice none 0 0, .bool false]) 2 32 Try.underlying64 hi0 hi1 hi2 hi3 rfl (by decide) _ _ _ rfl (HRow.out.alloc _) ⟨W.heap.size, 0, none⟩ 1 1 [.slice none 0 0, .bool false] rfl rfl ?c1 ?c2 ?c3 ?c4 ?c5 ?_)
  try (case c1 =>
    intro j u hj
    rw [at_add, Nat.zero_add]
    match j, hj with
    | 0, hj => simp at hj; subst hj; exact (Fb.new W 73 #[.slice none 0 0, .bool false]).cell 0
    | 1, hj => simp at hj; subst hj; exact (Fb.new W 73 #[.slice none 0 0, .bool false]).cell 1)
  try (case c2 => first | rfl | decide | (intro u hu; simp at hu; rcases hu with rfl | rfl <;> rfl) | simp)
  try (case c3 => have := HN.out; unfold maxLen; omega)
  try (case c4 => have := HN.out; omega)
  try (case c5 => first | (have := HB.out; rw [World.size_alloc]; omega) | (have := HB.out; simp; omega) | exact HB.out | (have := HN.out; unfold maxLen; omega) | (have := HN.out; omega) | (have := HN.out; go_num))
  intro v' w3 hown hgrow _
  obtain ⟨g, cg, rfl, hc, hBg, hlt, hcell⟩ := own_at hown (by omega)
  have keep : ∀ k t cs, Fb W k t cs → t ≠ 73 → Fb w3 k t cs := fun k t cs hk ht => by
    refine (hgrow.block k (by rw [World.size_alloc]; have := hk.lt; omega) (fun e => ?_)).trans (hk.alloc _)
    obtain ⟨cs', h'⟩ := row_type HRow.out e.symm
    have : t = 73 := by
      unfold Fb at hk h'
      rw [hk] at h'
      injection h' with h'
      injection h' with _ h'
    exact ht this
  have hF3 := keep d _ _ HF.out (by decide)
  have x0 := hF3.cell 0
  have xf := hF3.free 0
  have hb3 : Below B W w3 := (((Below.refl B W).alloc HB.out _).grown hgrow (by rw [World.size_alloc]; have := HB.out; omega) (fun k hk => (World.ownsRow.lt HRow.out k hk).1))
  have hne : g ≠ d := fun e => by
    obtain ⟨cs', h'⟩ := row_type hown (k := g) rfl
    unfold Fb at hF3 h'
    rw [e] at h'
    rw [h'] at hF3
    injection hF3 with h1
    injection h1 with _ h1
    exact absurd h1 (by decide)
  have HMS := Lib.hid (show MS B d (n + 1) (xs ++ [.slice none 0 0, .bool false]) (w3.setCell ⟨d, 0, none⟩ (.slice (some ⟨g, 0, none⟩) (n + 1) cg)) from by
    refine ⟨_, _, hF3.set 0 _, ?_, HD.out⟩
    rcases id hown.2 with ⟨hv, h0⟩ | ⟨g', cap, cur, hv, hB', hg, hr⟩
    · exact ⟨hown.1, .inl ⟨hv, h0⟩⟩
    · have : g = g' := by injection hv with e1; injection e1 with e1; exact congrArg Addr.block e1
      subst this
      exact ⟨hown.1, .inr ⟨g, cap, cur, hv, hB', (heap_setCell_other _ _ _ _ hne).trans hg, hr⟩⟩)
  have HK := Lib.hid (show Kp B W (w3.setCell ⟨d, 0, none⟩ (.slice (some ⟨g, 0, none⟩) (n + 1) cg)) from ⟨hb3.setCell HD.out _, fun k t cs hk h1 h2 => (keep k t cs hk h2).far 0 _ (fun e => by
    have hk' := HF.out
    unfold Fb at hk hk'
    rw [e, hk'] at hk
    injection hk with h'
    injection h' with _ h'
    exact h1 h'.symm)⟩)
  have HSz := Lib.hid hF3
  clear hown hgrow hcell keep hb3 hF3
  have y0 : (w3.setCell ⟨d, 0, none⟩ (.slice (some ⟨g, 0, none⟩) (n + 1) cg)).cell? ⟨d, 0, none⟩ = some (.slice (some ⟨g, 0, none⟩) (n + 1) cg) := (HSz.out.set 0 _).cell 0
  go_wp2
  go_ret
  exact ⟨rfl, HMS.out, HK.out⟩
end Go.Proofs.Ytghlajfalgdkfaa

/-
  A MACHINE IN MEMORY: any states, their moves.
-/
namespace Go.Proofs.Ytghlajfalgdkfaa
open Go.RowKit
set_option linter.unusedVariables false
set_option linter.unusedSimpArgs false
set_option maxRecDepth 100000

theorem Fb.nt {W : World} {g g' : Nat} {t t' : TypeId} {cs cs' : Array Value} (h : Fb W g t cs) (h' : Fb W g' t' cs') (ht : t ≠ t') : g ≠ g' := fun e => by
  unfold Fb at h h'
  rw [e, h'] at h
  injection h with h1
  injection h1 with _ h1
  exact ht h1.symm
/-- A state: where its moves lie, its moves, whether it is final. -/
abbrev St := Value × List Mo × Bool
def stc (t : St) : List Value := [t.1, .bool t.2.2]
/-- The blocks of moves. -/
def OB (T : List St) (q : Nat) : Prop := ∃ (i : Nat) (t : St), T[i]? = some t ∧ t.1.ownBlock = some q
structure Ma (B d : Nat) (T : List St) (W : World) : Prop where
  st : ∃ A c, Fb W d 66 #[.slice A T.length c] ∧ W.ownsRow B 73 2 (.slice A T.length c) T.length (T.flatMap stc)
  mv : ∀ (i : Nat) (t : St), T[i]? = some t → MvR B W t.1 t.2.1
  dj : ∀ (i j : Nat) (s t : St), T[i]? = some s → T[j]? = some t → i ≠ j → ∀ q, s.1.ownBlock = some q → t.1.ownBlock ≠ some q
  hd : B ≤ d
/-- What a call on a machine leaves as it was. -/
structure Fr (B : Nat) (T T' : List St) (W W' : World) : Prop where
  b : Below B W W'
  k : ∀ g t cs, Fb W g t cs → t ≠ 66 → t ≠ 73 → ¬ OB T g → Fb W' g t cs
  o : ∀ q, OB T' q → OB T q ∨ W.heap.size ≤ q
theorem Fr.refl (B : Nat) (T : List St) (W : World) : Fr B T T W W := ⟨Below.refl _ _, fun _ _ _ h _ _ _ => h, fun _ h => .inl h⟩
theorem Fr.trans {B : Nat} {T T' T'' : List St} {W W' W'' : World} (h : Fr B T T' W W') (h' : Fr B T' T'' W' W'') : Fr B T T'' W W'' :=
  ⟨h.b.trans h'.b, fun g t cs hf h1 h2 h3 => h'.k g t cs (h.k g t cs hf h1 h2 h3) h1 h2 (fun e => (h.o g e).elim h3 (fun e => by have := hf.lt; omega)), fun q hq => (h'.o q hq).elim (h.o q) (fun e => .inr (Nat.le_trans h.b.size e))⟩
theorem Fr.below {B : Nat} {T : List St} {W W' : World} (h : Below W.heap.size W W') (hB : B ≤ W.heap.size) : Fr B T T W W' := ⟨h.mono hB, fun g t cs hf _ _ _ => hf.below h, fun _ h => .inl h⟩
theorem row_keep {B : Nat} {W W' : World} {e : TypeId} {z n : Nat} {v : Value} {xs : List Value} (h : W.ownsRow B e z v n xs) (hk : ∀ k, v.ownBlock = some k → W'.heap[k]? = W.heap[k]?) : W'.ownsRow B e z v n xs := by
  rcases id h.2 with ⟨hv, h0⟩ | ⟨g, cap, cur, hv, hB, hg, hr⟩
  · exact ⟨h.1, .inl ⟨hv, h0⟩⟩
  · exact ⟨h.1, .inr ⟨g, cap, cur, hv, hB, (hk g (by rw [hv]; rfl)).trans hg, hr⟩⟩
theorem row_lt {B : Nat} {W : World} {e : TypeId} {z n : Nat} {v : Value} {xs : List Value} (h : W.ownsRow B e z v n xs) : ∀ k, v.ownBlock = some k → B ≤ k ∧ k < W.heap.size := World.ownsRow.lt h
theorem row_below {B : Nat} {W W' : World} {e : TypeId} {z n : Nat} {v : Value} {xs : List Value} (h : W.ownsRow B e z v n xs) (hb : Below W.heap.size W W') : W'.ownsRow B e z v n xs := row_keep h fun k hk => hb.block k (row_lt h k hk).2
theorem Fr.row {B B' : Nat} {T T' : List St} {W W' : World} (h : Fr B T T' W W') {e : TypeId} {z n : Nat} {v : Value} {xs : List Value} (hr : W.ownsRow B' e z v n xs) (h1 : e ≠ 66) (h2 : e ≠ 73) (h3 : ∀ k, v.ownBlock = some k → ¬ OB T k) : W'.ownsRow B' e z v n xs :=
  row_keep hr fun k hk => by
    obtain ⟨cs, hc⟩ := row_type hr hk
    exact (h.k k e cs hc h1 h2 (h3 k hk)).trans hc.symm
theorem OB.type {B d : Nat} {T : List St} {W : World} (h : Ma B d T W) {q : Nat} (hq : OB T q) : ∃ cs, Fb W q 84 cs := by
  obtain ⟨i, t, ht, e⟩ := hq
  exact row_type (h.mv i t ht) e
theorem OB.not {B d : Nat} {T : List St} {W : World} (h : Ma B d T W) {q : Nat} {t : TypeId} {cs : Array Value} (hf : Fb W q t cs) (ht : t ≠ 84) : ¬ OB T q := fun hq => by
  obtain ⟨cs', hc⟩ := OB.type h hq
  unfold Fb at hf hc
  rw [hf] at hc
  injection hc with hc
  injection hc with _ hc
  exact ht hc
theorem Ma.below {B d : Nat} {T : List St} {W W' : World} (h : Ma B d T W) (hb : Below W.heap.size W W') : Ma B d T W' := by
  obtain ⟨⟨A, c, h1, h2⟩, h3, h4, h5⟩ := h
  exact ⟨⟨A, c, h1.below hb, row_below h2 hb⟩, fun i t ht => row_below (h3 i t ht) hb, h4, h5⟩
theorem flat_st : ∀ {T : List St} {i : Nat} {t : St} {j : Nat}, T[i]? = some t → j < 2 → (T.flatMap stc)[i * 2 + j]? = (stc t)[j]?
  | [], i, t, j, h, _ => by simp at h
  | s :: T, 0, t, j, h, hj => by
    simp at h
    subst h
    rw [List.flatMap_cons, List.getElem?_append_left (by simp [stc]; omega)]
    simp
  | s :: T, i + 1, t, j, h, hj => by
    rw [List.flatMap_cons, List.getElem?_append_right (by simp [stc]; omega)]
    have h' : T[i]? = some t := by simpa using h
    have := flat_st h' hj
    rw [← this]
    congr 1
    simp [stc]
    omega
theorem flat_set : ∀ {T : List St} {i : Nat} {t : St} {v' : Value} {L' : List Mo}, T[i]? = some t → (T.set i (v', L', t.2.2)).flatMap stc = (T.flatMap stc).set (i * 2) v'
  | [], i, t, v', L', h => by simp at h
  | s :: T, 0, t, v', L', h => by
    have : s = t := by simpa using h
    subst this
    simp [stc]
  | s :: T, i + 1, t, v', L', h => by
    have h' : T[i]? = some t := by simpa using h
    rw [List.set_cons_succ, List.flatMap_cons, flat_set h', List.flatMap_cons, List.set_append_right _ _ (by simp [stc]; omega)]
    congr 1
    simp [stc]
    congr 1
    omega
/-- Where a state lies. -/
theorem Ma.at {B d : Nat} {T : List St} {W : World} (h : Ma B d T W) {i : Nat} {t : St} (hi : T[i]? = some t) : ∃ gs c cs, Fb W d 66 #[.slice (some ⟨gs, 0, none⟩) T.length c] ∧ Fb W gs 73 cs ∧ B ≤ gs ∧
    W.cell? ⟨gs, i * 2, none⟩ = some t.1 ∧ W.cell? ⟨gs, i * 2 + 1, none⟩ = some (.bool t.2.2) := by
  obtain ⟨⟨A, c, h1, h2⟩, h3, h4, h5⟩ := h
  have hlt : i < T.length := (List.getElem?_eq_some_iff.1 hi).1
  rcases id h2.2 with ⟨hv, h0⟩ | ⟨g, cap, cur, hv, hB, hg, hr⟩
  · omega
  · injection hv with e1 e2 e3
    subst e1
    have key : ∀ j u, j < 2 → (stc t)[j]? = some u → W.cell? ⟨g, i * 2 + j, none⟩ = some u := fun j u hj hu => by
      have := h2.cells (g := g) rfl (i * 2 + j) u ((flat_st hi hj).trans hu)
      rwa [at_add, Nat.zero_add] at this
    exact ⟨g, c, cur, h1, hg, hB, key 0 _ (by decide) rfl, key 1 _ (by decide) rfl⟩
/-- A state's moves are others by now, where they lie; the rest is as it was. -/
theorem Ma.put {B d : Nat} {T : List St} {W w : World} (h : Ma B d T W) {i : Nat} {t : St} (hi : T[i]? = some t) {gs c : Nat} {cs : Array Value} (hd : Fb W d 66 #[.slice (some ⟨gs, 0, none⟩) T.length c]) (hg : Fb W gs 73 cs)
    {v' : Value} {L' : List Mo} (hr : MvR B w v' L') (hgr : W.grownBy w t.1.ownBlock) (hn : ∀ k, v'.ownBlock = some k → t.1.ownBlock = some k ∨ W.heap.size ≤ k) (hBW : B ≤ W.heap.size) :
    Ma B d (T.set i (v', L', t.2.2)) (w.setCell ⟨gs, i * 2, none⟩ v') ∧ Fr B T (T.set i (v', L', t.2.2)) W (w.setCell ⟨gs, i * 2, none⟩ v') := by
  have h0 := h
  obtain ⟨⟨A, c', h1, h2⟩, h3, h4, h5⟩ := h
  have hlt : i < T.length := (List.getElem?_eq_some_iff.1 hi).1
  have hneT : ∀ g ty cs', Fb W g ty cs' → ty ≠ 84 → Fb w g ty cs' := fun g ty cs' hf hty => (hgr.block g hf.lt (fun e => by
    obtain ⟨cs2, hc⟩ := row_type (h3 i t hi) e.symm
    unfold Fb at hf hc
    rw [hf] at hc
    injection hc with hc
    injection hc with _ hc
    exact hty hc)).trans hf
  have e1 : A = some ⟨gs, 0, none⟩ ∧ c' = c := by
    unfold Fb at h1 hd
    rw [h1] at hd
    injection hd with hd
    injection hd with hd
    simpa using hd
  obtain ⟨rfl, rfl⟩ := e1
  have hdw := hneT d _ _ hd (by decide)
  have hgw := hneT gs _ _ hg (by decide)
  have hgd : d ≠ gs := hd.nt hg (by decide)
  have hBg : B ≤ gs := (row_lt h2 gs rfl).1
  have hvg : v'.ownBlock ≠ some gs := fun e => by
    obtain ⟨cs2, hc⟩ := row_type hr e
    have hgw' := hgw
    unfold Fb at hgw' hc
    rw [hgw'] at hc
    injection hc with hc
    injection hc with _ hc
    exact absurd hc (by decide)
  have hb : Below B W w := (Below.refl B W).grown hgr hBW (fun k hk => (row_lt (h3 i t hi) k hk).1)
  have hset : ∀ (j : Nat) (s : St), (T.set i (v', L', t.2.2))[j]? = some s → (j = i ∧ s = (v', L', t.2.2)) ∨ (j ≠ i ∧ T[j]? = some s) := fun j s hj => by
    by_cases hji : i = j
    · subst hji
      rw [List.getElem?_set_self hlt] at hj
      injection hj with hj
      exact .inl ⟨rfl, hj.symm⟩
    · rw [List.getElem?_set_ne hji] at hj
      exact .inr ⟨fun e => hji e.symm, hj⟩
  have hob : ∀ (j : Nat) (s : St), (T.set i (v', L', t.2.2))[j]? = some s → ∀ q, s.1.ownBlock = some q → OB T q ∨ W.heap.size ≤ q := fun j s hs q hq => by
    rcases hset j s hs with ⟨_, rfl⟩ | ⟨_, hs⟩
    · rcases hn q hq with e | e
      · exact .inl ⟨i, t, hi, e⟩
      · exact .inr e
    · exact .inl ⟨j, s, hs, hq⟩
  refine ⟨⟨⟨some ⟨gs, 0, none⟩, c', ?_, ?_⟩, fun j s hs => ?_, ?_, h5⟩, ⟨hb.setCell hBg _, fun g ty cs' hf t1 t2 t3 => ?_, fun q hq => ?_⟩⟩
  · rw [List.length_set]; exact hdw.far _ _ hgd
  · rw [List.length_set]
    rcases id h2.2 with ⟨hv, e0⟩ | ⟨g, cap, cur, hv, hB, hgg, hcap, hm, hz, ht⟩
    · omega
    · injection hv with e1 e2 e3
      injection e1 with e1
      injection e1 with e1
      subst e1
      have hcur : cs = cur := by
        unfold Fb at hg
        rw [hg] at hgg
        injection hgg with hgg
        injection hgg
      subst hcur
      have hl2 := h2.1
      refine ⟨by rw [flat_set hi]; rw [List.length_set]; exact hl2, .inr ⟨gs, cap, cs.setIfInBounds (i * 2) v', by rw [e3], hB, hgw.set _ _, hcap, hm, by simp [hz], ?_⟩⟩
      rw [flat_set hi, Array.toList_setIfInBounds, List.take_set, ht]
  · rcases hset j s hs with ⟨_, rfl⟩ | ⟨hji, hs'⟩
    · exact row_keep hr fun k hk => heap_setCell_other _ _ _ _ (fun e => hvg (by rw [hk, e]))
    · refine row_keep (h3 j s hs') fun k hk => ?_
      have hk1 := row_lt (h3 j s hs') k hk
      have hkg : k ≠ gs := fun e => by
        obtain ⟨cs2, hc⟩ := row_type (h3 j s hs') hk
        exact (hc.nt hg (by decide)) e
      rw [heap_setCell_other _ _ _ _ hkg]
      exact hgr.block k hk1.2 (fun e => h4 j i s t hs' hi hji k hk e.symm)
  · intro a b s u ha hb' hab q hsq huq
    rcases hset a s ha with ⟨ha1, rfl⟩ | ⟨ha1, ha2⟩ <;> rcases hset b u hb' with ⟨hb1, rfl⟩ | ⟨hb1, hb2⟩
    · omega
    · rcases hn q hsq with e | e
      · exact h4 b i u t hb2 hi hb1 q huq e
      · have := (row_lt (h3 b u hb2) q huq).2; omega
    · rcases hn q huq with e | e
      · exact h4 a i s t ha2 hi ha1 q hsq e
      · have := (row_lt (h3 a s ha2) q hsq).2; omega
    · exact h4 a b s u ha2 hb2 hab q hsq huq
  · have hfw : Fb w g ty cs' := (hgr.block g hf.lt (fun e => t3 ⟨i, t, hi, e.symm⟩)).trans hf
    exact hfw.far _ _ (hf.nt hg t2)
  · obtain ⟨j, s, hs, hq'⟩ := hq
    exact hob j s hs q hq'
end Go.Proofs.Ytghlajfalgdkfaa

/-
  What lead does to a machine's moves: plain.
-/
namespace Go.Proofs.Ytghlajfalgdkfaa
open Go.RowKit
set_option linter.unusedVariables false
set_option linter.unusedSimpArgs false
set_option maxRecDepth 100000

/-- Each move leads to a state that there is, by that state's symbol. -/
def Gm (sy : Nat → Sy) (N : Nat) (L : List Mo) : Prop := ∀ y ∈ L, y.2 < N ∧ sy y.2 = y.1
theorem nodup_le : ∀ (n : Nat) (l : List Nat), l.Nodup → (∀ x ∈ l, x < n) → l.length ≤ n
  | 0, l, _, h => by
    cases l with
    | nil => exact Nat.le_refl _
    | cons x l => exact absurd (h x (List.mem_cons_self ..)) (Nat.not_lt_zero _)
  | n + 1, l, hn, h => by
    by_cases hm : n ∈ l
    · have h1 := nodup_le n (l.erase n) (hn.erase n) (fun x hx => by
        have h2 := (List.Nodup.mem_erase_iff hn).1 hx
        have := h x h2.2
        have := h2.1
        omega)
      rw [List.length_erase_of_mem hm] at h1
      omega
    · have h1 := nodup_le n l hn (fun x hx => by
        have := h x hx
        have : x ≠ n := fun e => hm (e ▸ hx)
        omega)
      omega
theorem gm_len {sy : Nat → Sy} {N : Nat} {L : List Mo} (hs : L.Pairwise ltM) (hg : Gm sy N L) : L.length ≤ N := by
  have hn : (L.map (·.2)).Nodup := by
    refine List.pairwise_map.2 (hs.imp_of_mem ?_)
    intro a b ha hb hab e
    have h1 := (hg a ha).2
    have h2 := (hg b hb).2
    rw [e] at h1
    have : a = b := Prod.ext (h1.symm.trans h2) e
    rw [this] at hab
    exact ltM_irrefl _ hab
  have := nodup_le N (L.map (·.2)) hn (fun x hx => by
    obtain ⟨y, hy, rfl⟩ := List.mem_map.1 hx
    exact (hg y hy).1)
  simpa using this
theorem ins_sorted {L : List Mo} {x : Mo} {k : Nat} (hs : L.Pairwise ltM) (hb : BinAt L x k false) : (L.take k ++ x :: L.drop k).Pairwise ltM ∧ ∀ y, y ∈ (L.take k ++ x :: L.drop k) ↔ y ∈ L ∨ y = x := by
  have hlo : ∀ y ∈ L.take k, ltM y x := fun y hy => by
    obtain ⟨j, hj, rfl⟩ := List.getElem_of_mem hy
    have hj' : j < k := by have := List.length_take_le k L; omega
    rw [List.getElem_take]
    exact hb.lo j _ hj' (List.getElem?_eq_getElem _)
  have hhi : ∀ y ∈ L.drop k, ltM x y := fun y hy => by
    obtain ⟨j, hj, rfl⟩ := List.getElem_of_mem hy
    rw [List.getElem_drop]
    have hlt : k + j < L.length := by rw [List.length_drop] at hj; omega
    have h1 := hb.hi (k + j) _ (by omega) (List.getElem?_eq_getElem hlt)
    rcases ltM_tri L[k + j] x with h | h | h
    · exact absurd h h1
    · exfalso
      cases j with
      | zero => exact absurd (hb.eq.2 (by rw [List.getElem?_eq_getElem (by omega)]; rw [← h]; rfl)) (by simp)
      | succ j =>
        have h2 := rise_lt hs (show k < k + (j + 1) by omega) (List.getElem?_eq_getElem (by omega)) (List.getElem?_eq_getElem hlt)
        rw [h] at h2
        exact hb.hi k _ (Nat.le_refl _) (List.getElem?_eq_getElem (by omega)) h2
    · exact h
  have hp : (L.take k ++ L.drop k).Pairwise ltM := by rw [List.take_append_drop]; exact hs
  rw [List.pairwise_append] at hp
  constructor
  · rw [List.pairwise_append]
    refine ⟨hp.1, List.pairwise_cons.2 ⟨hhi, hp.2.1⟩, fun a ha b hb' => ?_⟩
    rcases List.mem_cons.1 hb' with rfl | hb'
    · exact hlo a ha
    · exact hp.2.2 a ha b hb'
  · intro y
    have e : y ∈ L ↔ y ∈ L.take k ∨ y ∈ L.drop k := by rw [← List.mem_append, List.take_append_drop]
    rw [e, List.mem_append, List.mem_cons]
    constructor
    · rintro (h | h | h)
      · exact .inl (.inl h)
      · exact .inr h
      · exact .inl (.inr h)
    · rintro ((h | h) | h)
      · exact .inl h
      · exact .inr (.inr h)
      · exact .inr (.inl h)
/-- Other moves: some more. -/
structure Lk (T T' : List St) (P : Nat → Mo → Prop) : Prop where
  len : T'.length = T.length
  st : ∀ (j : Nat) (s : St), T[j]? = some s → ∃ s', T'[j]? = some s' ∧ s'.2.2 = s.2.2 ∧ s'.2.1.Pairwise ltM ∧ ∀ x, x ∈ s'.2.1 ↔ x ∈ s.2.1 ∨ P j x
theorem Lk.congr {T T' : List St} {P P' : Nat → Mo → Prop} (h : Lk T T' P) (hp : ∀ j x, P j x ↔ P' j x) : Lk T T' P' := ⟨h.len, fun j s hj => by
  obtain ⟨s', h1, h2, h3, h4⟩ := h.st j s hj
  exact ⟨s', h1, h2, h3, fun x => (h4 x).trans (or_congr Iff.rfl (hp j x))⟩⟩
theorem Lk.refl {T : List St} {P : Nat → Mo → Prop} (hs : ∀ (j : Nat) (s : St), T[j]? = some s → s.2.1.Pairwise ltM) (hp : ∀ j x, ¬ P j x) : Lk T T P := ⟨rfl, fun j s hj => ⟨s, hj, rfl, hs j s hj, fun x => ⟨.inl, fun h => h.elim id (fun h => absurd h (hp j x))⟩⟩⟩
theorem Lk.gm {T T' : List St} {P : Nat → Mo → Prop} {sy : Nat → Sy} {N : Nat} (h : Lk T T' P) (hg : ∀ (j : Nat) (s : St), T[j]? = some s → Gm sy N s.2.1) (hp : ∀ j x, P j x → x.2 < N ∧ sy x.2 = x.1) {j : Nat} {s' : St} (hj : T'[j]? = some s') : s'.2.1.Pairwise ltM ∧ Gm sy N s'.2.1 := by
  have hlt : j < T.length := by rw [← h.len]; exact (List.getElem?_eq_some_iff.1 hj).1
  obtain ⟨s2, h1, h2, h3, h4⟩ := h.st j _ (List.getElem?_eq_getElem hlt)
  rw [h1] at hj
  injection hj with hj
  subst hj
  exact ⟨h3, fun y hy => ((h4 y).1 hy).elim (hg j _ (List.getElem?_eq_getElem hlt) y) (hp j y)⟩
/-- One more move to one state. -/
theorem Lk.put {T T' : List St} {P P' : Nat → Mo → Prop} (h : Lk T T' P) {i : Nat} {t : St} (hi : T'[i]? = some t) {v' : Value} {x : Mo} {k : Nat} (hb : BinAt t.2.1 x k false) (hp : ∀ j y, P' j y ↔ P j y ∨ (j = i ∧ y = x)) :
    Lk T (T'.set i (v', t.2.1.take k ++ x :: t.2.1.drop k, t.2.2)) P' := by
  have hlt : i < T'.length := (List.getElem?_eq_some_iff.1 hi).1
  refine ⟨by rw [List.length_set]; exact h.len, fun j s hj => ?_⟩
  obtain ⟨s', h1, h2, h3, h4⟩ := h.st j s hj
  by_cases hji : i = j
  · subst hji
    rw [hi] at h1
    injection h1 with h1
    subst h1
    obtain ⟨g1, g2⟩ := ins_sorted h3 hb
    refine ⟨_, List.getElem?_set_self hlt, h2, g1, fun y => ?_⟩
    rw [g2, h4, hp]
    constructor
    · rintro ((h | h) | h)
      · exact .inl h
      · exact .inr (.inl h)
      · exact .inr (.inr ⟨rfl, h⟩)
    · rintro (h | h | ⟨_, h⟩)
      · exact .inl (.inl h)
      · exact .inl (.inr h)
      · exact .inr h
  · refine ⟨s', by rw [List.getElem?_set_ne hji]; exact h1, h2, h3, fun y => ?_⟩
    rw [h4, hp]
    constructor
    · rintro (h | h)
      · exact .inl h
      · exact .inr (.inl h)
    · rintro (h | h | ⟨h, _⟩)
      · exact .inl h
      · exact .inr h
      · exact absurd h.symm hji
/-- A move that is there already. -/
theorem Lk.same {T T' : List St} {P P' : Nat → Mo → Prop} (h : Lk T T' P) {i : Nat} {t : St} (hi : T'[i]? = some t) {x : Mo} (hx : x ∈ t.2.1) (hp : ∀ j y, P' j y ↔ P j y ∨ (j = i ∧ y = x)) : Lk T T' P' := by
  refine ⟨h.len, fun j s hj => ?_⟩
  obtain ⟨s', h1, h2, h3, h4⟩ := h.st j s hj
  refine ⟨s', h1, h2, h3, fun y => ?_⟩
  rw [h4, hp]
  constructor
  · rintro (h | h)
    · exact .inl h
    · exact .inr (.inl h)
  · rintro (h | h | ⟨e, e'⟩)
    · exact .inl h
    · exact .inr h
    · subst e e'
      rw [hi] at h1
      injection h1 with h1
      subst h1
      exact (h4 _).1 hx
def PqA (l : List Nat) (F : List Mo) (a : Nat) (j : Nat) (x : Mo) : Prop := j ∈ l.take a ∧ x ∈ F
def PqI (l : List Nat) (F : List Mo) (a i b : Nat) (j : Nat) (x : Mo) : Prop := PqA l F a j x ∨ (j = i ∧ x ∈ F.take b)
theorem take_snoc {α : Type} {l : List α} {a : Nat} {x : α} (h : l[a]? = some x) : l.take (a + 1) = l.take a ++ [x] := by
  obtain ⟨hlt, rfl⟩ := List.getElem?_eq_some_iff.1 h
  rw [List.take_succ_eq_append_getElem hlt]
theorem pq_step {l : List Nat} {F : List Mo} {a i b : Nat} {x : Mo} (h : F[b]? = some x) (j : Nat) (y : Mo) : PqI l F a i (b + 1) j y ↔ PqI l F a i b j y ∨ (j = i ∧ y = x) := by
  unfold PqI
  rw [take_snoc h, List.mem_append, List.mem_singleton]
  constructor
  · rintro (h | ⟨h1, h2 | h2⟩)
    · exact .inl (.inl h)
    · exact .inl (.inr ⟨h1, h2⟩)
    · exact .inr ⟨h1, h2⟩
  · rintro ((h | ⟨h1, h2⟩) | ⟨h1, h2⟩)
    · exact .inl h
    · exact .inr ⟨h1, .inl h2⟩
    · exact .inr ⟨h1, .inr h2⟩
theorem pq_start {l : List Nat} {F : List Mo} {a i : Nat} (j : Nat) (y : Mo) : PqA l F a j y ↔ PqI l F a i 0 j y := by
  unfold PqI
  simp
theorem pq_end {l : List Nat} {F : List Mo} {a i : Nat} (h : l[a]? = some i) (j : Nat) (y : Mo) : PqI l F a i F.length j y ↔ PqA l F (a + 1) j y := by
  unfold PqI PqA
  rw [take_snoc h, List.take_length, List.mem_append, List.mem_singleton]
  constructor
  · rintro (⟨h1, h2⟩ | ⟨h1, h2⟩)
    · exact ⟨.inl h1, h2⟩
    · exact ⟨.inr h1, h2⟩
  · rintro ⟨h1 | h1, h2⟩
    · exact .inl ⟨h1, h2⟩
    · exact .inr ⟨h1, h2⟩
theorem pqI_gm {l : List Nat} {F : List Mo} {a i b : Nat} {sy : Nat → Sy} {N : Nat} (hF : Gm sy N F) (j : Nat) (x : Mo) (h : PqI l F a i b j x) : x.2 < N ∧ sy x.2 = x.1 := by
  rcases h with ⟨_, h⟩ | ⟨_, h⟩
  · exact hF x h
  · exact hF x (List.mem_of_mem_take h)
end Go.Proofs.Ytghlajfalgdkfaa
