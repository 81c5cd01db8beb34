/-
  COUNTS OF KEYS, plain.
-/
import Derived.Test.YtncnoilldlnpoaaBgMem
namespace Go.Proofs.Ytncnoilldlnpoaa
open Go.RowKit
set_option linter.unusedVariables false
set_option linter.unusedSimpArgs false
set_option maxRecDepth 100000

theorem cnt_put (k k' : Ky) (n : Nat) : ∀ l : List (Ky × Nat), cntK (putM k n l) k' = if k' = k then n else cntK l k'
  | [] => by
    unfold putM cntK getM getM
    by_cases h : k = k'
    · rw [if_pos h, if_pos h.symm]; rfl
    · rw [if_neg h, if_neg fun e => h e.symm]
  | p :: l => by
    have ih := cnt_put k k' n l
    unfold putM
    unfold cntK at *
    by_cases hp : p.1 = k
    · rw [if_pos hp]
      unfold getM
      by_cases h : k' = k
      · rw [if_pos h, if_pos (by dsimp only; rw [hp, h])]; rfl
      · rw [if_neg h, if_neg (by dsimp only; rw [hp]; exact fun e => h e.symm), if_neg (by rw [hp]; exact fun e => h e.symm)]
    · rw [if_neg hp]
      unfold getM
      by_cases h : p.1 = k'
      · rw [if_pos h, if_pos h, if_neg (fun e => hp (by rw [h, e]))]
      · rw [if_neg h, if_neg h]; exact ih
theorem sum_put (k : Ky) (n : Nat) : ∀ l : List (Ky × Nat), sumN (putM k (cntK l k + n) l) = sumN l + n
  | [] => by simp [putM, cntK, getM, sumN]
  | p :: l => by
    have ih := sum_put k n l
    unfold putM
    unfold sumN cntK at *
    unfold getM
    by_cases hp : p.1 = k
    · rw [if_pos hp, if_pos hp]; simp; omega
    · rw [if_neg hp, if_neg hp]
      simp only [List.map_cons, List.sum_cons]
      omega
theorem keys_put {α β : Type} [DecidableEq α] (k : α) (n : β) : ∀ l : List (α × β), (putM k n l).map (·.1) = if k ∈ l.map (·.1) then l.map (·.1) else l.map (·.1) ++ [k]
  | [] => rfl
  | p :: l => by
    have ih := keys_put k n l
    unfold putM
    by_cases hp : p.1 = k
    · rw [if_pos hp]
      simp [hp]
    · rw [if_neg hp, List.map_cons, ih]
      have : (k ∈ (p :: l).map (·.1)) ↔ k ∈ l.map (·.1) := by
        simp only [List.map_cons, List.mem_cons]
        exact ⟨fun h => h.elim (fun e => absurd e.symm hp) id, .inr⟩
      by_cases hk : k ∈ l.map (·.1)
      · rw [if_pos hk, if_pos (this.2 hk)]; rfl
      · rw [if_neg hk, if_neg (fun h => hk (this.1 h))]; rfl
theorem nodup_put {α β : Type} [DecidableEq α] {k : α} {n : β} {l : List (α × β)} (h : (l.map (·.1)).Nodup) : ((putM k n l).map (·.1)).Nodup := by
  rw [keys_put]
  split
  · exact h
  · rename_i hk
    exact List.nodup_append.2 ⟨h, by simp, fun a ha b hb e => by simp at hb; subst hb; exact hk (e ▸ ha)⟩
theorem pos_put {k : Ky} {n : Nat} (hn : 0 < n) : ∀ {l : List (Ky × Nat)}, (∀ p ∈ l, 0 < p.2) → ∀ p ∈ putM k n l, 0 < p.2
  | [], h, p, hp => by
    unfold putM at hp
    simp at hp; subst hp; exact hn
  | q :: l, h, p, hp => by
    unfold putM at hp
    split at hp
    · rcases List.mem_cons.1 hp with rfl | hp
      · exact hn
      · exact h p (.tail _ hp)
    · rcases List.mem_cons.1 hp with rfl | hp
      · exact h p (.head _)
      · exact pos_put hn (fun x hx => h x (.tail _ hx)) p hp
/-- How often a key, by all that names it. -/
def cntL (l : List (Ky × Nat)) (k : Ky) : Nat := ((l.filter (fun p => decide (p.1 = k))).map (·.2)).sum
theorem cntL_cons (p : Ky × Nat) (l : List (Ky × Nat)) (k : Ky) : cntL (p :: l) k = (if p.1 = k then p.2 else 0) + cntL l k := by
  unfold cntL
  by_cases h : p.1 = k
  · rw [List.filter_cons_of_pos (by simpa using h), if_pos h]; simp
  · rw [List.filter_cons_of_neg (by simpa using h), if_neg h]; simp
theorem cntL_mid (A B : List (Ky × Nat)) (p : Ky × Nat) (k : Ky) : cntL (A ++ p :: B) k = (if p.1 = k then p.2 else 0) + cntL (A ++ B) k := by
  induction A with
  | nil => exact cntL_cons p B k
  | cons a A ih =>
    rw [List.cons_append, cntL_cons, ih, List.cons_append, cntL_cons]
    omega
theorem cntK_not {k : Ky} : ∀ {l : List (Ky × Nat)}, k ∉ l.map (·.1) → cntK l k = 0 ∧ cntL l k = 0
  | [], _ => ⟨rfl, rfl⟩
  | p :: l, h => by
    simp only [List.map_cons, List.mem_cons, not_or] at h
    have ih := cntK_not h.2
    refine ⟨?_, ?_⟩
    · unfold cntK getM
      rw [if_neg (fun e => h.1 e.symm)]
      exact ih.1
    · rw [cntL_cons, if_neg (fun e => h.1 e.symm), ih.2]
theorem cntL_K {k : Ky} : ∀ {l : List (Ky × Nat)}, (l.map (·.1)).Nodup → cntL l k = cntK l k
  | [], _ => rfl
  | p :: l, h => by
    simp only [List.map_cons, List.nodup_cons] at h
    rw [cntL_cons]
    by_cases hp : p.1 = k
    · have := cntK_not (k := k) (l := l) (by rw [← hp]; exact h.1)
      rw [if_pos hp, this.2]
      unfold cntK getM
      rw [if_pos hp]; rfl
    · rw [if_neg hp, cntL_K h.2]
      unfold cntK
      conv => rhs; unfold getM
      rw [if_neg hp]; simp
theorem mem_cnt {l : List (Ky × Nat)} (hn : (l.map (·.1)).Nodup) (hp : ∀ p ∈ l, 0 < p.2) (p : Ky × Nat) : p ∈ l ↔ 0 < p.2 ∧ cntK l p.1 = p.2 := by
  induction l with
  | nil =>
    refine ⟨fun h => (by cases h), fun h => ?_⟩
    have : cntK [] p.1 = 0 := rfl
    omega
  | cons q l ih =>
    simp only [List.map_cons, List.nodup_cons] at hn
    have ih := ih hn.2 (fun x hx => hp x (.tail _ hx))
    by_cases hq : q.1 = p.1
    · have e1 : cntK (q :: l) p.1 = q.2 := by unfold cntK getM; rw [if_pos hq]; rfl
      rw [e1]
      constructor
      · intro h
        rcases List.mem_cons.1 h with rfl | h
        · exact ⟨hp _ (.head _), rfl⟩
        · exact absurd (List.mem_map.2 ⟨p, h, rfl⟩) (hq ▸ hn.1)
      · intro h
        have : p = q := Prod.ext hq.symm h.2.symm
        rw [this]; exact .head _
    · have e1 : cntK (q :: l) p.1 = cntK l p.1 := by unfold cntK; conv => lhs; unfold getM
                                                     rw [if_neg hq]
      rw [e1, ← ih]
      constructor
      · intro h
        rcases List.mem_cons.1 h with rfl | h
        · exact absurd rfl hq
        · exact h
      · exact .tail _
/-- Keys in their order. -/
def ltY (a b : Ky) : Prop := a.1 < b.1 ∨ a.1 = b.1 ∧ (a.2.1 < b.2.1 ∨ a.2.1 = b.2.1 ∧ a.2.2 < b.2.2)
theorem ltY_irr (a : Ky) : ¬ ltY a a := by unfold ltY; omega
theorem ltY_tr {a b c : Ky} (h : ltY a b) (k : ltY b c) : ltY a c := by unfold ltY at *; omega
theorem ltY_tot {a b : Ky} (h : a ≠ b) : ltY a b ∨ ltY b a := by
  obtain ⟨a1, a2, a3⟩ := a
  obtain ⟨b1, b2, b3⟩ := b
  have : ¬ (a1 = b1 ∧ a2 = b2 ∧ a3 = b3) := fun ⟨h1, h2, h3⟩ => h (by rw [h1, h2, h3])
  unfold ltY
  dsimp only
  omega
/-- A content: keys rising, each as often as it is there. -/
structure IsC (L : List (Ky × Nat)) (f : Ky → Nat) : Prop where
  so : L.Pairwise fun p q => ltY p.1 q.1
  ps : ∀ p ∈ L, 0 < p.2
  cn : ∀ k, cntK L k = f k
theorem IsC.nd {L : List (Ky × Nat)} {f : Ky → Nat} (h : IsC L f) : (L.map (·.1)).Nodup := by
  refine List.pairwise_map.2 (h.so.imp fun {a b} hab e => ?_)
  rw [e] at hab
  exact ltY_irr _ hab
theorem sorted_same : ∀ {A B : List (Ky × Nat)}, A.Pairwise (fun p q => ltY p.1 q.1) → B.Pairwise (fun p q => ltY p.1 q.1) → (∀ p, p ∈ A ↔ p ∈ B) → A = B
  | [], [], _, _, _ => rfl
  | [], b :: B, _, _, h => absurd ((h b).2 (.head _)) (by simp)
  | a :: A, [], _, _, h => absurd ((h a).1 (.head _)) (by simp)
  | a :: A, b :: B, hA, hB, h => by
    obtain ⟨a1, a2⟩ := List.pairwise_cons.1 hA
    obtain ⟨b1, b2⟩ := List.pairwise_cons.1 hB
    have hab : a = b := by
      rcases List.mem_cons.1 ((h a).1 (.head _)) with e | e
      · exact e
      · rcases List.mem_cons.1 ((h b).2 (.head _)) with e' | e'
        · exact e'.symm
        · exact absurd (ltY_tr (a1 _ e') (b1 _ e)) (ltY_irr _)
    subst hab
    rw [sorted_same a2 b2 fun p => ?_]
    constructor
    · intro hp
      rcases List.mem_cons.1 ((h p).1 (.tail _ hp)) with rfl | e
      · exact absurd (a1 _ hp) (ltY_irr _)
      · exact e
    · intro hp
      rcases List.mem_cons.1 ((h p).2 (.tail _ hp)) with rfl | e
      · exact absurd (b1 _ hp) (ltY_irr _)
      · exact e
theorem IsC.uniq {A B : List (Ky × Nat)} {f : Ky → Nat} (h : IsC A f) (k : IsC B f) : A = B :=
  sorted_same h.so k.so fun p => by rw [mem_cnt h.nd h.ps, mem_cnt k.nd k.ps, h.cn, k.cn]
/-- Of times, each once, what elements have them. -/
theorem count_times (M : List (Int × Ky)) (k : Ky) : ∀ T : List Int, T.Nodup → (T.map fun t => M.count (t, k)).sum = M.countP (fun x => decide (x.1 ∈ T) && decide (x.2 = k))
  | [], _ => by simp
  | t :: T, h => by
    simp only [List.nodup_cons] at h
    rw [List.map_cons, List.sum_cons, count_times M k T h.2]
    induction M with
    | nil => rfl
    | cons x M ih =>
      simp only [List.count_cons, List.countP_cons]
      have : (if (x == (t, k)) = true then 1 else 0) + (if (decide (x.1 ∈ T) && decide (x.2 = k)) = true then 1 else 0) = (if (decide (x.1 ∈ t :: T) && decide (x.2 = k)) = true then 1 else 0) := by
        obtain ⟨x1, x2⟩ := x
        by_cases e1 : x1 = t
        · subst e1
          by_cases e2 : x2 = k
          · simp [e2, h.1]
          · simp [e2]
        · by_cases e2 : x2 = k <;> simp [e1, e2]
      omega
theorem countP_times (M : List (Int × Ky)) : ∀ T : List Int, T.Nodup → (T.map fun t => M.countP (fun x => decide (x.1 = t))).sum = M.countP (fun x => decide (x.1 ∈ T))
  | [], _ => by simp
  | t :: T, h => by
    simp only [List.nodup_cons] at h
    rw [List.map_cons, List.sum_cons, countP_times M T h.2]
    induction M with
    | nil => rfl
    | cons x M ih =>
      simp only [List.countP_cons]
      have : (if decide (x.1 = t) = true then 1 else 0) + (if decide (x.1 ∈ T) = true then 1 else 0) = (if decide (x.1 ∈ t :: T) = true then 1 else 0) := by
        obtain ⟨x1, x2⟩ := x
        by_cases e1 : x1 = t
        · subst e1; simp [h.1]
        · simp [e1]
      omega
end Go.Proofs.Ytncnoilldlnpoaa
