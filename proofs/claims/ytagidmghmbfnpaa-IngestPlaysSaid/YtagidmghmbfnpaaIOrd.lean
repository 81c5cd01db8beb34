/-
  ITEMS IN ORDER, as lists: plain. What is taken below a time is what the document takes.
-/
import Derived.Test.YtagidmghmbfnpaaIHeap
namespace Go.Proofs.Ytagidmghmbfnpaa

/-- In order. -/
abbrev Ord (l : List It) : Prop := l.Pairwise LeI
/-- An item laid where it belongs. -/
def insI (x : It) : List It → List It
  | [] => [x]
  | y :: l => if ltI y x = true then y :: insI x l else x :: y :: l
theorem insI_perm (x : It) : ∀ l, (insI x l).Perm (x :: l)
  | [] => List.Perm.refl _
  | y :: l => by
    unfold insI
    split
    · exact ((insI_perm x l).cons y).trans (List.Perm.swap x y l)
    · exact List.Perm.refl _
theorem insI_ord (x : It) : ∀ {l}, Ord l → Ord (insI x l)
  | [], _ => List.pairwise_singleton _ _
  | y :: l, h => by
    unfold insI
    obtain ⟨h1, h2⟩ := List.pairwise_cons.1 h
    split
    · rename_i hlt
      refine List.pairwise_cons.2 ⟨fun z hz => ?_, insI_ord x h2⟩
      rcases List.mem_cons.1 ((insI_perm x l).mem_iff.1 hz) with rfl | hz
      · exact leI_lt hlt
      · exact h1 z hz
    · rename_i hlt
      have hle : LeI x y := leI_of (Bool.not_eq_true _ ▸ hlt)
      refine List.pairwise_cons.2 ⟨fun z hz => ?_, h⟩
      rcases List.mem_cons.1 hz with rfl | hz
      · exact hle
      · exact hle.trans (h1 z hz)
/-- How many of a row are ahead of an item, from the beginning on. -/
def plI (x : It) : List It → Nat
  | [] => 0
  | y :: l => if ltI y x = true then plI x l + 1 else 0
theorem plI_le (x : It) : ∀ l, plI x l ≤ l.length
  | [] => Nat.le_refl _
  | y :: l => by
    unfold plI
    have := plI_le x l
    split
    · simp; omega
    · exact Nat.zero_le _
theorem insI_at (x : It) : ∀ l, insI x l = l.take (plI x l) ++ x :: l.drop (plI x l)
  | [] => rfl
  | y :: l => by
    unfold insI plI
    split
    · rw [insI_at x l]; rfl
    · rfl
theorem plI_go {x : It} : ∀ {l : List It} {k : Nat} {y : It}, k ≤ plI x l → l[k]? = some y → (ltI y x = true → k + 1 ≤ plI x l) ∧ (ltI y x = false → plI x l = k)
  | [], k, y, _, h => by cases h
  | z :: l, 0, y, _, h => by
    obtain rfl : z = y := Option.some.inj h
    unfold plI
    refine ⟨fun e => by rw [if_pos e]; omega, fun e => by rw [if_neg (by rw [e]; decide)]⟩
  | z :: l, k + 1, y, hk, h => by
    unfold plI at hk ⊢
    by_cases e : ltI z x = true
    · rw [if_pos e] at hk ⊢
      obtain ⟨h1, h2⟩ := plI_go (x := x) (l := l) (k := k) (y := y) (by omega) h
      exact ⟨fun a => by have := h1 a; omega, fun a => by have := h2 a; omega⟩
    · rw [if_neg e] at hk; omega
/-- The document's: those that are taken, in order. -/
def takS (p : It → Bool) (l : List It) : List It := (l.filter p).foldl (fun o x => insI x o) []
theorem fold_ins : ∀ (l o : List It), Ord o → Ord (l.foldl (fun o x => insI x o) o) ∧ (l.foldl (fun o x => insI x o) o).Perm (l ++ o)
  | [], o, h => ⟨h, List.Perm.refl _⟩
  | x :: l, o, h => by
    obtain ⟨h1, h2⟩ := fold_ins l (insI x o) (insI_ord x h)
    refine ⟨h1, h2.trans (((insI_perm x o).append_left l).trans ?_)⟩
    exact List.perm_middle
theorem takS_perm (p : It → Bool) (l : List It) : (takS p l).Perm (l.filter p) := by
  have := (fold_ins (l.filter p) [] List.Pairwise.nil).2
  rwa [List.append_nil] at this
theorem takS_snoc (p : It → Bool) (l : List It) (x : It) : takS p (l ++ [x]) = if p x = true then insI x (takS p l) else takS p l := by
  unfold takS
  rw [List.filter_append, List.foldl_append]
  by_cases h : p x = true
  · rw [if_pos h, List.filter_cons, if_pos h]; rfl
  · rw [if_neg h, List.filter_cons, if_neg h]; rfl
end Go.Proofs.Ytagidmghmbfnpaa
