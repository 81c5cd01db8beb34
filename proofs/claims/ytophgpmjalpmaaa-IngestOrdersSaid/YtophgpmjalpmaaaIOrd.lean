/-
  ITEMS IN ORDER, as lists: plain. What is taken below a time is what the document takes.
-/
import Derived.Test.YtophgpmjalpmaaaIHeap
namespace Go.Proofs.Ytophgpmjalpmaaa

/-- In order. -/
abbrev Ord (l : List It) : Prop := l.Pairwise LeI
theorem ord_uniq : ∀ {l k : List It}, l.Perm k → Ord l → Ord k → (∀ x ∈ l, ∀ y ∈ l, x.t = y.t → x.s = y.s → x = y) → l = k
  | [], k, hp, _, _, _ => (List.Perm.nil_eq hp)
  | x :: l, [], hp, _, _, _ => absurd hp.length_eq (by simp)
  | x :: l, y :: k, hp, h1, h2, hd => by
    have hx : x ∈ y :: k := hp.mem_iff.1 List.mem_cons_self
    have hy : y ∈ x :: l := hp.mem_iff.2 List.mem_cons_self
    have e1 : LeI x y := by
      rcases List.mem_cons.1 hy with rfl | hy
      · exact LeI.refl _
      · exact (List.pairwise_cons.1 h1).1 y hy
    have e2 : LeI y x := by
      rcases List.mem_cons.1 hx with rfl | hx
      · exact LeI.refl _
      · exact (List.pairwise_cons.1 h2).1 x hx
    have e : x = y := hd x List.mem_cons_self y hy (by unfold LeI at *; omega) (by unfold LeI at *; omega)
    subst e
    rw [ord_uniq (List.Perm.cons_inv hp) (List.pairwise_cons.1 h1).2 (List.pairwise_cons.1 h2).2 fun a ha b hb => hd a (List.mem_cons_of_mem _ ha) b (List.mem_cons_of_mem _ hb)]
/-- An item laid where it belongs. -/
def insI (x : It) : List It → List It
  | [] => [x]
  | y :: l => if ltI y x = true then y :: insI x l else x :: y :: l
theorem insI_perm (x : It) : ∀ l, (insI x l).Perm (x :: l)
  | [] => List.Perm.refl _
  | y :: l => by
    unfold insI
    split
    · exact ((insI_perm x l).cons y).trans (List.Perm.swap x y l)
    · exact List.Perm.refl _
theorem insI_ord (x : It) : ∀ {l}, Ord l → Ord (insI x l)
  | [], _ => List.pairwise_singleton _ _
  | y :: l, h => by
    unfold insI
    obtain ⟨h1, h2⟩ := List.pairwise_cons.1 h
    split
    · rename_i hlt
      refine List.pairwise_cons.2 ⟨fun z hz => ?_, insI_ord x h2⟩
      rcases List.mem_cons.1 ((insI_perm x l).mem_iff.1 hz) with rfl | hz
      · exact leI_lt hlt
      · exact h1 z hz
    · rename_i hlt
      have hle : LeI x y := leI_of (Bool.not_eq_true _ ▸ hlt)
      refine List.pairwise_cons.2 ⟨fun z hz => ?_, h⟩
      rcases List.mem_cons.1 hz with rfl | hz
      · exact hle
      · exact hle.trans (h1 z hz)
/-- How many of a row are ahead of an item, from the beginning on. -/
def plI (x : It) : List It → Nat
  | [] => 0
  | y :: l => if ltI y x = true then plI x l + 1 else 0
theorem plI_le (x : It) : ∀ l, plI x l ≤ l.length
  | [] => Nat.le_refl _
  | y :: l => by
    unfold plI
    have := plI_le x l
    split
    · simp; omega
    · exact Nat.zero_le _
theorem insI_at (x : It) : ∀ l, insI x l = l.take (plI x l) ++ x :: l.drop (plI x l)
  | [] => rfl
  | y :: l => by
    unfold insI plI
    split
    · rw [insI_at x l]; rfl
    · rfl
theorem plI_go {x : It} : ∀ {l : List It} {k : Nat} {y : It}, k ≤ plI x l → l[k]? = some y → (ltI y x = true → k + 1 ≤ plI x l) ∧ (ltI y x = false → plI x l = k)
  | [], k, y, _, h => by cases h
  | z :: l, 0, y, _, h => by
    obtain rfl : z = y := Option.some.inj h
    unfold plI
    refine ⟨fun e => by rw [if_pos e]; omega, fun e => by rw [if_neg (by rw [e]; decide)]⟩
  | z :: l, k + 1, y, hk, h => by
    unfold plI at hk ⊢
    by_cases e : ltI z x = true
    · rw [if_pos e] at hk ⊢
      obtain ⟨h1, h2⟩ := plI_go (x := x) (l := l) (k := k) (y := y) (by omega) h
      exact ⟨fun a => by have := h1 a; omega, fun a => by have := h2 a; omega⟩
    · rw [if_neg e] at hk; omega
/-- The document's: those that are taken, in order. -/
def takS (p : It → Bool) (l : List It) : List It := (l.filter p).foldl (fun o x => insI x o) []
theorem fold_ins : ∀ (l o : List It), Ord o → Ord (l.foldl (fun o x => insI x o) o) ∧ (l.foldl (fun o x => insI x o) o).Perm (l ++ o)
  | [], o, h => ⟨h, List.Perm.refl _⟩
  | x :: l, o, h => by
    obtain ⟨h1, h2⟩ := fold_ins l (insI x o) (insI_ord x h)
    refine ⟨h1, h2.trans (((insI_perm x o).append_left l).trans ?_)⟩
    exact List.perm_middle
theorem takS_ord (p : It → Bool) (l : List It) : Ord (takS p l) := (fold_ins _ [] List.Pairwise.nil).1
theorem takS_perm (p : It → Bool) (l : List It) : (takS p l).Perm (l.filter p) := by
  have := (fold_ins (l.filter p) [] List.Pairwise.nil).2
  rwa [List.append_nil] at this
theorem takS_snoc (p : It → Bool) (l : List It) (x : It) : takS p (l ++ [x]) = if p x = true then insI x (takS p l) else takS p l := by
  unfold takS
  rw [List.filter_append, List.foldl_append]
  by_cases h : p x = true
  · rw [if_pos h, List.filter_cons, if_pos h]; rfl
  · rw [if_neg h, List.filter_cons, if_neg h]; rfl
/-- Numbers of their own. -/
def Own (l : List It) : Prop := ∀ x ∈ l, ∀ y ∈ l, x.s = y.s → x = y
theorem Own.perm {l k : List It} (h : Own l) (hp : k.Perm l) : Own k := fun x hx y hy => h x (hp.mem_iff.1 hx) y (hp.mem_iff.1 hy)
theorem Own.sub {l k : List It} (h : Own l) (hs : ∀ x ∈ k, x ∈ l) : Own k := fun x hx y hy => h x (hs x hx) y (hs y hy)
/-- What was taken is the document's, and what stays too. -/
theorem taken_is {out rest wait : List It} {p : It → Bool} (hp : (out ++ rest).Perm wait) (ho : Ord out) (hw : Own wait) (h1 : ∀ x ∈ out, p x = true) (h2 : ∀ x ∈ rest, p x = false) :
    out = takS p wait ∧ rest.Perm (wait.filter fun x => !p x) := by
  have e1 : (out ++ rest).filter p = out := by
    rw [List.filter_append, List.filter_eq_self.2 h1, List.filter_eq_nil_iff.2 (fun x hx => by rw [h2 x hx]; decide), List.append_nil]
  have e2 : (out ++ rest).filter (fun x => !p x) = rest := by
    rw [List.filter_append, List.filter_eq_nil_iff.2 (fun x hx => by rw [h1 x hx]; decide), List.filter_eq_self.2 (fun x hx => by rw [h2 x hx]; decide), List.nil_append]
  have p1 := hp.filter p
  have p2 := hp.filter (fun x => !p x)
  rw [e1] at p1
  rw [e2] at p2
  refine ⟨ord_uniq (p1.trans (takS_perm p wait).symm) ho (takS_ord p wait) fun x hx y hy _ hs => ?_, p2⟩
  exact hw x ((List.mem_filter.1 (p1.mem_iff.1 hx)).1) y ((List.mem_filter.1 (p1.mem_iff.1 hy)).1) hs
/-- The greatest of numbers. -/
def Mx (L : List Int) (x : Int) : Prop := x ∈ L ∧ ∀ y ∈ L, y ≤ x
theorem Mx.one (x : Int) : Mx [x] x := ⟨List.mem_singleton.2 rfl, fun y hy => by rw [List.mem_singleton.1 hy]; exact Int.le_refl _⟩
theorem Mx.uniq {L : List Int} {x y : Int} (h : Mx L x) (k : Mx L y) : x = y := by
  have := h.2 y k.1
  have := k.2 x h.1
  omega
theorem Mx.perm {L K : List Int} {x : Int} (h : Mx L x) (hp : L.Perm K) : Mx K x := ⟨hp.mem_iff.1 h.1, fun y hy => h.2 y (hp.mem_iff.2 hy)⟩
theorem Mx.snoc {L : List Int} {x : Int} (h : Mx L x) (y : Int) : Mx (L ++ [y]) (if y < x then x else y) := by
  split
  · exact ⟨List.mem_append_left _ h.1, fun z hz => by
      rcases List.mem_append.1 hz with hz | hz
      · exact h.2 z hz
      · rw [List.mem_singleton.1 hz]; omega⟩
  · exact ⟨List.mem_append_right _ (List.mem_singleton.2 rfl), fun z hz => by
      rcases List.mem_append.1 hz with hz | hz
      · have := h.2 z hz; omega
      · rw [List.mem_singleton.1 hz]; omega⟩
end Go.Proofs.Ytophgpmjalpmaaa
