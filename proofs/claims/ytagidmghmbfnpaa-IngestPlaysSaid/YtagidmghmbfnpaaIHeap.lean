/-
  HEAPS OF ITEMS, as lists: plain. Which item is ahead; an exchange; what up and down keep.
-/
namespace Go.Proofs.Ytagidmghmbfnpaa

/-- An item: its time, its number, its key. -/
structure It where
  t : Int
  s : Int
  a : Int
  b : Int
  c : Int
theorem It.ext' {x y : It} (h1 : x.t = y.t) (h2 : x.s = y.s) (h3 : x.a = y.a) (h4 : x.b = y.b) (h5 : x.c = y.c) : x = y := by
  cases x; cases y; simp_all
/-- Is an item ahead of another one? -/
def ltI (x y : It) : Bool := if x.t = y.t then decide (x.s < y.s) else decide (x.t < y.t)
theorem ltI_iff {x y : It} : ltI x y = true ↔ x.t < y.t ∨ x.t = y.t ∧ x.s < y.s := by
  unfold ltI
  split <;> simp <;> omega
/-- It isn't behind. -/
def LeI (x y : It) : Prop := x.t < y.t ∨ x.t = y.t ∧ x.s ≤ y.s
theorem leI_of {x y : It} (h : ltI y x = false) : LeI x y := by
  have : ¬ (ltI y x = true) := by rw [h]; decide
  rw [ltI_iff] at this
  unfold LeI; omega
theorem leI_lt {x y : It} (h : ltI x y = true) : LeI x y := by
  rw [ltI_iff] at h
  unfold LeI; omega
theorem LeI.refl (x : It) : LeI x x := .inr ⟨rfl, Int.le_refl _⟩
theorem LeI.trans {x y z : It} (h : LeI x y) (k : LeI y z) : LeI x z := by unfold LeI at *; omega
def it0 : It := ⟨0, 0, 0, 0, 0⟩
abbrev itAt (l : List It) (i : Nat) : It := l.getD i it0
/-- Two items exchanged. -/
def swI (l : List It) (i j : Nat) : List It := (l.set i (itAt l j)).set j (itAt l i)
theorem swI_len (l : List It) (i j : Nat) : (swI l i j).length = l.length := by unfold swI; simp
theorem itAt_lt {l : List It} {i : Nat} (h : i < l.length) : l[i]? = some (itAt l i) := by
  unfold itAt; rw [List.getD_eq_getElem?_getD, List.getElem?_eq_getElem h]; rfl
theorem itAt_of {l : List It} {i : Nat} {x : It} (h : l[i]? = some x) : itAt l i = x := by
  unfold itAt; rw [List.getD_eq_getElem?_getD, h]; rfl
theorem swI_at {l : List It} {i j : Nat} (hi : i < l.length) (hj : j < l.length) (k : Nat) : itAt (swI l i j) k = if k = j then itAt l i else if k = i then itAt l j else itAt l k := by
  show (swI l i j).getD k it0 = _
  unfold swI
  rw [List.getD_eq_getElem?_getD, List.getElem?_set]
  by_cases h1 : k = j
  · subst h1
    simp [hj]
  · rw [if_neg (fun e => h1 e.symm), if_neg h1, List.getElem?_set]
    by_cases h2 : k = i
    · subst h2
      simp [hi]
    · rw [if_neg (fun e => h2 e.symm), if_neg h2]
      rfl
theorem swI_perm {l : List It} {i j : Nat} (hi : i < l.length) (hj : j < l.length) : (swI l i j).Perm l := by
  have h := Array.swap_perm (xs := l.toArray) (i := i) (j := j) (by simpa using hi) (by simpa using hj)
  have e : (l.toArray.swap i j (by simpa using hi) (by simpa using hj)).toList = swI l i j := by
    unfold swI
    rw [Array.toList_swap]
    have e1 : itAt l j = l[j] := by unfold itAt; rw [List.getD_eq_getElem?_getD, List.getElem?_eq_getElem hj]; rfl
    have e2 : itAt l i = l[i] := by unfold itAt; rw [List.getD_eq_getElem?_getD, List.getElem?_eq_getElem hi]; rfl
    rw [e1, e2]
    simp
  have h2 := h.toList
  rw [e] at h2
  simpa using h2
/-- A heap: none is ahead of the one above it. -/
def Hp (l : List It) (n : Nat) : Prop := ∀ k, 0 < k → k < n → LeI (itAt l ((k - 1) / 2)) (itAt l k)
/-- Up to the one at j. -/
def UpI (l : List It) (n j : Nat) : Prop := (∀ k, 0 < k → k < n → k ≠ j → LeI (itAt l ((k - 1) / 2)) (itAt l k)) ∧ ∀ k, 0 < k → k < n → (k - 1) / 2 = j → 0 < j → LeI (itAt l ((j - 1) / 2)) (itAt l k)
theorem UpI.start {l : List It} {n : Nat} (h : Hp l n) (x : It) (hl : l.length = n) : UpI (l ++ [x]) (n + 1) n := by
  have e : ∀ k, k < n → itAt (l ++ [x]) k = itAt l k := fun k hk => by
    unfold itAt; rw [List.getD_eq_getElem?_getD, List.getElem?_append_left (by omega)]; rfl
  refine ⟨fun k h0 h1 h2 => ?_, fun k h0 h1 h2 h3 => by omega⟩
  rw [e k (by omega), e _ (by omega)]
  exact h k h0 (by omega)
theorem UpI.stop {l : List It} {n j : Nat} (h : UpI l n j) (hs : j = 0 ∨ ltI (itAt l j) (itAt l ((j - 1) / 2)) = false) : Hp l n := fun k h0 h1 => by
  by_cases e : k = j
  · rcases hs with rfl | hs
    · omega
    · subst e; exact leI_of hs
  · exact h.1 k h0 h1 e
theorem UpI.step {l : List It} {n j : Nat} (h : UpI l n j) (hn : n ≤ l.length) (hj : j < n) (h0 : 0 < j) (hs : ltI (itAt l j) (itAt l ((j - 1) / 2)) = true) : UpI (swI l ((j - 1) / 2) j) n ((j - 1) / 2) := by
  have hle := leI_lt hs
  have sw := swI_at (l := l) (i := (j - 1) / 2) (j := j) (by omega) (by omega)
  refine ⟨fun k hk0 hk1 hk2 => ?_, fun k hk0 hk1 hk2 hk3 => ?_⟩
  · rw [sw, sw]
    by_cases e : k = j
    · subst e
      rw [if_pos rfl, if_neg (by omega), if_pos rfl]
      exact hle
    · rw [if_neg (c := k = j) e, if_neg (c := k = (j - 1) / 2) hk2]
      by_cases e2 : (k - 1) / 2 = j
      · rw [if_pos e2]
        exact h.2 k hk0 hk1 e2 h0
      · rw [if_neg e2]
        by_cases e3 : (k - 1) / 2 = (j - 1) / 2
        · rw [if_pos e3]
          have := h.1 k hk0 hk1 e
          rw [e3] at this
          exact hle.trans this
        · rw [if_neg e3]
          exact h.1 k hk0 hk1 e
  · rw [sw, sw, if_neg (c := ((j - 1) / 2 - 1) / 2 = j) (by omega), if_neg (c := ((j - 1) / 2 - 1) / 2 = (j - 1) / 2) (by omega)]
    have hp := h.1 ((j - 1) / 2) hk3 (by omega) (by omega)
    by_cases e : k = j
    · rw [if_pos e]; exact hp
    · rw [if_neg e, if_neg (by omega)]
      have := h.1 k hk0 hk1 e
      rw [hk2] at this
      exact hp.trans this
/-- Down from the one at i. -/
def DnI (l : List It) (n i : Nat) : Prop := (∀ k, 0 < k → k < n → (k - 1) / 2 ≠ i → LeI (itAt l ((k - 1) / 2)) (itAt l k)) ∧ ∀ k, 0 < k → k < n → (k - 1) / 2 = i → 0 < i → LeI (itAt l ((i - 1) / 2)) (itAt l k)
theorem DnI.start {l : List It} {n : Nat} (h : Hp l (n + 1)) (hl : l.length = n + 1) : DnI (swI l 0 n) n 0 := by
  have sw := swI_at (l := l) (i := 0) (j := n) (by omega) (by omega)
  refine ⟨fun k h0 h1 h2 => ?_, fun k h0 h1 h2 h3 => by omega⟩
  rw [sw, sw, if_neg (by omega), if_neg (by omega), if_neg (by omega), if_neg (by omega)]
  exact h k h0 (by omega)
theorem DnI.leaf {l : List It} {n i : Nat} (h : DnI l n i) (hs : n ≤ 2 * i + 1) : Hp l n := fun k h0 h1 => h.1 k h0 h1 (by omega)
/-- The child that isn't behind the other one. -/
def Child (l : List It) (n i j : Nat) : Prop := (j = 2 * i + 1 ∨ j = 2 * i + 2) ∧ j < n ∧ ∀ k, 0 < k → k < n → (k - 1) / 2 = i → LeI (itAt l j) (itAt l k)
theorem DnI.stop {l : List It} {n i j : Nat} (h : DnI l n i) (hc : Child l n i j) (hs : ltI (itAt l j) (itAt l i) = false) : Hp l n := fun k h0 h1 => by
  by_cases e : (k - 1) / 2 = i
  · rw [e]; exact (leI_of hs).trans (hc.2.2 k h0 h1 e)
  · exact h.1 k h0 h1 e
theorem DnI.step {l : List It} {n i j : Nat} (h : DnI l n i) (hn : n ≤ l.length) (hc : Child l n i j) (hs : ltI (itAt l j) (itAt l i) = true) : DnI (swI l i j) n j := by
  have hle := leI_lt hs
  obtain ⟨hj, hjn, hch⟩ := hc
  have sw := swI_at (l := l) (i := i) (j := j) (by omega) (by omega)
  refine ⟨fun k hk0 hk1 hk2 => ?_, fun k hk0 hk1 hk2 hk3 => ?_⟩
  · rw [sw, sw, if_neg (c := (k - 1) / 2 = j) hk2]
    by_cases e : (k - 1) / 2 = i
    · rw [if_pos e]
      by_cases e2 : k = j
      · rw [if_pos e2]; exact hle
      · rw [if_neg e2, if_neg (by omega)]
        exact hch k hk0 hk1 e
    · rw [if_neg e, if_neg (c := k = j) (by omega)]
      by_cases e2 : k = i
      · rw [if_pos e2]
        subst e2
        exact h.2 j (by omega) hjn (by omega) hk0
      · rw [if_neg e2]; exact h.1 k hk0 hk1 e
  · rw [sw, sw, if_neg (c := (j - 1) / 2 = j) (by omega), if_pos (c := (j - 1) / 2 = i) (by omega), if_neg (c := k = j) (by omega), if_neg (c := k = i) (by omega)]
    have := h.1 k hk0 hk1 (by omega)
    rw [hk2] at this
    exact this
theorem Hp.root {l : List It} {n : Nat} (h : Hp l n) : ∀ k, k < n → LeI (itAt l 0) (itAt l k) := fun k => by
  induction k using Nat.strongRecOn with
  | ind k ih =>
    intro hk
    by_cases e : k = 0
    · subst e; exact LeI.refl _
    · exact (ih ((k - 1) / 2) (by omega) (by omega)).trans (h k (by omega) hk)
theorem Hp.mem {l : List It} (h : Hp l l.length) : ∀ y ∈ l, LeI (itAt l 0) y := fun y hy => by
  obtain ⟨k, hk⟩ := List.getElem?_of_mem hy
  have hkl := (List.getElem?_eq_some_iff.1 hk).1
  have := h.root k hkl
  rwa [itAt_of hk] at this
theorem Hp.nil : Hp [] 0 := fun k h0 h1 => by omega
theorem Hp.take {l : List It} {n : Nat} (h : Hp l n) (hn : n ≤ l.length) : Hp (l.take n) (l.take n).length := by
  have e : ∀ k, k < n → itAt (l.take n) k = itAt l k := fun k hk => by
    unfold itAt; rw [List.getD_eq_getElem?_getD, List.getElem?_take_of_lt hk]; rfl
  have hl : (l.take n).length = n := by rw [List.length_take]; omega
  rw [hl]
  intro k h0 h1
  rw [e k h1, e _ (by omega)]
  exact h k h0 h1
/-- What a removal leaves. -/
theorem pop_perm {l l' : List It} {n : Nat} (hl : l.length = n + 1) (hp : l'.Perm l) : ((itAt l' n) :: l'.take n).Perm l := by
  have hl' : l'.length = n + 1 := by rw [hp.length_eq, hl]
  have e : l' = l'.take n ++ [itAt l' n] := by
    have h1 := List.take_append_drop n l'
    have h2 : l'.drop n = [itAt l' n] := by
      rw [List.drop_eq_getElem?_toList_append, itAt_lt (by omega), List.drop_of_length_le (by omega)]; rfl
    rw [h2] at h1
    exact h1.symm
  have : (itAt l' n :: l'.take n).Perm (l'.take n ++ [itAt l' n]) := (List.perm_append_singleton _ _).symm
  rw [← e] at this
  exact this.trans hp
end Go.Proofs.Ytagidmghmbfnpaa
