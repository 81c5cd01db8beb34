/-
  MERGED (a claim has at most 60 files): NSem, NBack, NRef, NText.
-/
import Derived.Test.YtjalhcbomjgkoaaGreatDoorZ09
import Derived.Test.YtjalhcbomjgkoaaGreatDoorZ16
import Derived.Test.YtjalhcbomjgkoaaGreatDoorZ06
import Derived.Test.YtjalhcbomjgkoaaGreatDoorZ15
import Derived.Test.YtjalhcbomjgkoaaGreatDoorZ10
import Derived.Test.YtjalhcbomjgkoaaGreatDoorZ00
import Derived.Laws.StructEq
import Derived.Test.YtjalhcbomjgkoaaGreatDoorZ05
import Derived.Laws.Concat
/-
  WHAT TERMS' TEXTS ARE, sign by sign: plain functions that the program's readers and the document's are both held against.
-/
namespace Go.Proofs.YtjalhcbomjgkoaaGreatDoor
set_option linter.unusedVariables false

/-- The marks of a blank node's label, of a language. -/
abbrev msB : List Int := [95, 45]
abbrev msL : List Int := [45]
/-- Behind a quoted text l: p is the place behind it. -/
def tailP (sl : List Int) (l : List Int) (p : Nat) : Nat × Option Tm :=
  if sl[p]? = some 94 ∧ sl[p + 1]? = some 94 then ((irP sl (p + 2)).1, (irP sl (p + 2)).2.map fun t => Tm.lit (textOf l) (textOf t) mt)
  else if sl[p]? = some 64 then (p + 1 + (wmL msL (sl.drop (p + 1))).length, some (.lit (textOf l) XL (textOf (wmL msL (sl.drop (p + 1))))))
  else (p, some (.lit (textOf l) XS mt))
/-- A literal at a place. -/
def litP (sl : List Int) (k : Nat) : Nat × Option Tm :=
  match (qd sl k).2 with
  | none => ((qd sl k).1, none)
  | some l => tailP sl l (qd sl k).1
/-- What has a term's form at a place. -/
def formP (sl : List Int) (k : Nat) : Nat × Option Tm :=
  if sl[k]? = some 60 then ((irP sl k).1, (irP sl k).2.map fun t => Tm.iri (textOf t))
  else if sl[k]? = some 34 then litP sl k
  else if sl[k]? = some 95 then (if sl[k + 1]? = some 58 then (k + 2 + (wmL msB (sl.drop (k + 2))).length, some (.blank (textOf (wmL msB (sl.drop (k + 2)))))) else (k + 1, none))
  else (k, none)
/-- The term at a place; the place behind it, or the error's; the error. -/
noncomputable def readP (sl : List Int) (k : Nat) : Option Tm × Nat × Int :=
  match (formP sl k).2 with
  | none => (none, (formP sl k).1, 1)
  | some t => if goodT t = true then (some t, (formP sl k).1, 0) else (none, k, 3)
theorem irf_le (sl : List Int) : ∀ (f p : Nat) (acc : List Int), p ≤ sl.length → (irf sl f p acc).1 ≤ sl.length ∧ p ≤ (irf sl f p acc).1 ∧ ∀ l, (irf sl f p acc).2 = some l → AllS acc → AllS sl → AllS l ∧ l.length ≤ acc.length + f
  | 0, p, acc, h => ⟨h, Nat.le_refl _, fun l hl => by cases hl⟩
  | f + 1, p, acc, h => by
    unfold irf
    cases hx : sl[p]? with
    | none => exact ⟨h, Nat.le_refl _, fun l hl => by cases hl⟩
    | some c =>
      have hp := (List.getElem?_eq_some_iff.1 hx).1
      dsimp only
      split
      · exact ⟨hp, by dsimp only; omega, fun l hl ha _ => by simp at hl; subst hl; exact ⟨ha, by omega⟩⟩
      split
      · exact ⟨h, Nat.le_refl _, fun l hl => by cases hl⟩
      split
      · have hn := nef_le sl (p + 1) (by omega)
        cases ho : (nef sl (p + 1)).2 with
        | none => exact ⟨hn.1, by dsimp only; omega, fun l hl => by cases hl⟩
        | some n =>
          have ih := irf_le sl f (nef sl (p + 1)).1 (acc ++ [n]) hn.1
          refine ⟨ih.1, by dsimp only; omega, fun l hl ha hs => ?_⟩
          have hsn := nef_sgn sl (p + 1) n ho
          obtain ⟨a, b⟩ := ih.2.2 l hl (fun x hx => by
            rcases List.mem_append.1 hx with hx | hx
            · exact ha x hx
            · simp at hx; subst hx; exact hsn) hs
          exact ⟨a, by simp at b; omega⟩
      · have ih := irf_le sl f (p + 1) (acc ++ [c]) (by omega)
        refine ⟨ih.1, by omega, fun l hl ha hs => ?_⟩
        obtain ⟨a, b⟩ := ih.2.2 l hl (fun x hx' => by
            rcases List.mem_append.1 hx' with hx' | hx'
            · exact ha x hx'
            · simp at hx'; subst hx'; exact hs x (List.mem_of_getElem? hx)) hs
        exact ⟨a, by simp at b; omega⟩
theorem irP_le (sl : List Int) (k : Nat) (h : k ≤ sl.length) : (irP sl k).1 ≤ sl.length ∧ k ≤ (irP sl k).1 ∧ ∀ l, (irP sl k).2 = some l → AllS sl → AllS l ∧ l.length ≤ sl.length := by
  unfold irP
  split
  · rename_i hx
    have hk := (List.getElem?_eq_some_iff.1 hx).1
    have := irf_le sl (sl.length - (k + 1)) (k + 1) [] (by omega)
    exact ⟨this.1, by omega, fun l hl hs => by obtain ⟨a, b⟩ := this.2.2 l hl allS_nil hs; exact ⟨a, by simp at b; omega⟩⟩
  · exact ⟨h, Nat.le_refl _, fun l hl => by cases hl⟩
theorem qf_le (sl : List Int) : ∀ (f p : Nat) (acc : List Int), p ≤ sl.length → (qf sl f p acc).1 ≤ sl.length ∧ p ≤ (qf sl f p acc).1 ∧ ∀ l, (qf sl f p acc).2 = some l → AllS acc → AllS sl → AllS l ∧ l.length ≤ acc.length + f
  | 0, p, acc, h => ⟨h, Nat.le_refl _, fun l hl => by cases hl⟩
  | f + 1, p, acc, h => by
    unfold qf
    cases hx : sl[p]? with
    | none => exact ⟨h, Nat.le_refl _, fun l hl => by cases hl⟩
    | some c =>
      have hp := (List.getElem?_eq_some_iff.1 hx).1
      dsimp only
      split
      · exact ⟨hp, by dsimp only; omega, fun l hl ha _ => by simp at hl; subst hl; exact ⟨ha, by omega⟩⟩
      split
      · exact ⟨h, Nat.le_refl _, fun l hl => by cases hl⟩
      split
      · have hn := ef_le sl (p + 1) (by omega)
        cases ho : (ef sl (p + 1)).2 with
        | none => exact ⟨hn.1, by dsimp only; omega, fun l hl => by cases hl⟩
        | some n =>
          have ih := qf_le sl f (ef sl (p + 1)).1 (acc ++ [n]) hn.1
          refine ⟨ih.1, by dsimp only; omega, fun l hl ha hs => ?_⟩
          have hsn := ef_sgn sl (p + 1) n ho
          obtain ⟨a, b⟩ := ih.2.2 l hl (fun x hx => by
            rcases List.mem_append.1 hx with hx | hx
            · exact ha x hx
            · simp at hx; subst hx; exact hsn) hs
          exact ⟨a, by simp at b; omega⟩
      · have ih := qf_le sl f (p + 1) (acc ++ [c]) (by omega)
        refine ⟨ih.1, by omega, fun l hl ha hs => ?_⟩
        obtain ⟨a, b⟩ := ih.2.2 l hl (fun x hx' => by
            rcases List.mem_append.1 hx' with hx' | hx'
            · exact ha x hx'
            · simp at hx'; subst hx'; exact hs x (List.mem_of_getElem? hx)) hs
        exact ⟨a, by simp at b; omega⟩
theorem qd_le (sl : List Int) (k : Nat) (h : k ≤ sl.length) : (qd sl k).1 ≤ sl.length ∧ k ≤ (qd sl k).1 ∧ ∀ l, (qd sl k).2 = some l → AllS sl → AllS l ∧ l.length ≤ sl.length := by
  unfold qd
  split
  · rename_i hx
    have hk := (List.getElem?_eq_some_iff.1 hx).1
    have := qf_le sl (sl.length - (k + 1)) (k + 1) [] (by omega)
    exact ⟨this.1, by omega, fun l hl hs => by obtain ⟨a, b⟩ := this.2.2 l hl allS_nil hs; exact ⟨a, by simp at b; omega⟩⟩
  · exact ⟨h, Nat.le_refl _, fun l hl => by cases hl⟩
theorem wmL_le (ms l : List Int) : (wmL ms l).length ≤ l.length := takeWhile_len _ _
theorem mem_takeWhile {f : Int → Bool} {n : Int} : ∀ {l : List Int}, n ∈ l.takeWhile f → n ∈ l
  | [], h => h
  | m :: l, h => by
    rw [List.takeWhile_cons] at h
    split at h
    · rcases List.mem_cons.1 h with rfl | h
      · exact List.mem_cons_self
      · exact List.mem_cons_of_mem _ (mem_takeWhile h)
    · cases h
theorem wmL_all {ms l : List Int} (h : AllS l) : AllS (wmL ms l) := fun n hn => h n (mem_takeWhile hn)
theorem AllS.drop {l : List Int} (h : AllS l) (k : Nat) : AllS (l.drop k) := fun n hn => h n (List.mem_of_mem_drop hn)
/-- A text of so many signs isn't long. -/
theorem text_size (l : List Int) : (textOf l).size ≤ 4 * l.length := by
  have := (encL_len l).2
  rw [Lib.size_eq, textOf_list]; exact this
/-- What is read is of texts of signs, none long. -/
def Tm.soft (N : Nat) (t : Tm) : Prop := (t.ta.size ≤ 4 * N ∧ t.tb.size ≤ 4 * N + 100 ∧ t.tc.size ≤ 4 * N) ∧ t.kind < 3
theorem tailP_le (sl l : List Int) (p : Nat) (h : p ≤ sl.length) (hl : l.length ≤ sl.length) (hs : AllS sl) : (tailP sl l p).1 ≤ sl.length ∧ p ≤ (tailP sl l p).1 ∧ ∀ t, (tailP sl l p).2 = some t → t.soft sl.length := by
  have z1 := text_size l
  unfold tailP
  split
  · rename_i hx
    have hk := (List.getElem?_eq_some_iff.1 hx.2).1
    have hi := irP_le sl (p + 2) (by omega)
    refine ⟨hi.1, by dsimp only; omega, fun t ht => ?_⟩
    cases ho : (irP sl (p + 2)).2 with
    | none => rw [ho] at ht; cases ht
    | some u =>
      rw [ho] at ht
      simp at ht
      subst ht
      have hu := (hi.2.2 u ho hs).2
      have := text_size u
      exact ⟨⟨by simp only [Tm.ta]; omega, by simp only [Tm.tb]; omega, by simp only [Tm.tc]; exact Nat.zero_le _⟩, by simp only [Tm.kind]; decide⟩
  split
  · rename_i hx
    have hk := (List.getElem?_eq_some_iff.1 hx).1
    have hw := wmL_le msL (sl.drop (p + 1))
    rw [List.length_drop] at hw
    refine ⟨by dsimp only; omega, by dsimp only; omega, fun t ht => ?_⟩
    simp at ht
    subst ht
    have := text_size (wmL msL (sl.drop (p + 1)))
    exact ⟨⟨by simp only [Tm.ta]; omega, by simp only [Tm.tb]; exact Nat.le_trans (show XL.size ≤ 100 by decide) (by omega), by simp only [Tm.tc]; omega⟩, by simp only [Tm.kind]; decide⟩
  · refine ⟨h, Nat.le_refl _, fun t ht => ?_⟩
    simp at ht
    subst ht
    exact ⟨⟨by simp only [Tm.ta]; omega, by simp only [Tm.tb]; exact Nat.le_trans (show XS.size ≤ 100 by decide) (by omega), Nat.zero_le _⟩, by simp only [Tm.kind]; decide⟩
theorem formP_le (sl : List Int) (k : Nat) (h : k ≤ sl.length) (hs : AllS sl) : (formP sl k).1 ≤ sl.length ∧ k ≤ (formP sl k).1 ∧ ∀ t, (formP sl k).2 = some t → t.soft sl.length ∧ k < (formP sl k).1 := by
  unfold formP
  split
  · rename_i hx
    have hi := irP_le sl k h
    refine ⟨hi.1, hi.2.1, fun t ht => ?_⟩
    cases ho : (irP sl k).2 with
    | none => rw [ho] at ht; cases ht
    | some u =>
      rw [ho] at ht
      simp at ht
      subst ht
      have hu := (hi.2.2 u ho hs).2
      have := text_size u
      refine ⟨⟨⟨by simp only [Tm.ta]; omega, Nat.zero_le _, Nat.zero_le _⟩, by simp only [Tm.kind]; decide⟩, ?_⟩
      have hk := (List.getElem?_eq_some_iff.1 hx).1
      have := (irf_le sl (sl.length - (k + 1)) (k + 1) [] (by omega)).2.1
      show k < (irP sl k).1
      unfold irP
      rw [if_pos hx]; omega
  split
  · rename_i hx
    have hq := qd_le sl k h
    have hk := (List.getElem?_eq_some_iff.1 hx).1
    have hlt : k < (qd sl k).1 := by
      have := (qf_le sl (sl.length - (k + 1)) (k + 1) [] (by omega)).2.1
      unfold qd
      rw [if_pos hx]; omega
    unfold litP
    cases ho : (qd sl k).2 with
    | none => exact ⟨hq.1, hq.2.1, fun t ht => by cases ht⟩
    | some l =>
      have ht := tailP_le sl l (qd sl k).1 hq.1 ((hq.2.2 l ho hs).2) hs
      exact ⟨ht.1, by dsimp only; omega, fun t h => ⟨ht.2.2 t h, by dsimp only; omega⟩⟩
  split
  · rename_i hx
    have hk := (List.getElem?_eq_some_iff.1 hx).1
    split
    · rename_i hy
      have hk2 := (List.getElem?_eq_some_iff.1 hy).1
      have hw := wmL_le msB (sl.drop (k + 2))
      rw [List.length_drop] at hw
      refine ⟨by dsimp only; omega, by dsimp only; omega, fun t ht => ?_⟩
      simp at ht
      subst ht
      have := text_size (wmL msB (sl.drop (k + 2)))
      exact ⟨⟨⟨by simp only [Tm.ta]; omega, Nat.zero_le _, Nat.zero_le _⟩, by simp only [Tm.kind]; decide⟩, by dsimp only; omega⟩
    · exact ⟨by dsimp only; omega, by dsimp only; omega, fun t ht => by cases ht⟩
  · exact ⟨h, Nat.le_refl _, fun t ht => by cases ht⟩
theorem Tm.soft.few {N : Nat} {t : Tm} (h : t.soft N) (hN : N ≤ 100000) : t.few := ⟨by have := h.1.1; omega, by have := h.1.2.1; omega, by have := h.1.2.2; omega⟩
theorem readP_le (sl : List Int) (k : Nat) (h : k ≤ sl.length) (hs : AllS sl) : (readP sl k).2.1 ≤ sl.length ∧ k ≤ (readP sl k).2.1 ∧ ∀ t, (readP sl k).1 = some t → t.soft sl.length ∧ k < (readP sl k).2.1 ∧ goodT t = true ∧ (readP sl k).2.2 = 0 := by
  have hf := formP_le sl k h hs
  unfold readP
  cases ho : (formP sl k).2 with
  | none => exact ⟨hf.1, hf.2.1, fun t ht => by cases ht⟩
  | some t =>
    dsimp only
    by_cases hg : goodT t = true
    · rw [if_pos hg]
      refine ⟨hf.1, hf.2.1, fun u hu => ?_⟩
      simp at hu
      subst hu
      exact ⟨(hf.2.2 t ho).1, (hf.2.2 t ho).2, hg, rfl⟩
    · rw [if_neg hg]
      exact ⟨h, Nat.le_refl _, fun u hu => by cases hu⟩
end Go.Proofs.YtjalhcbomjgkoaaGreatDoor

/-
  PLAIN LEAN, NO RUN: a good term's text, sign by sign; read again it is the term.
-/
namespace Go.Proofs.YtjalhcbomjgkoaaGreatDoor
set_option linter.unusedVariables false
set_option linter.unusedSimpArgs false

theorem drop_two {l t : List Int} {p : Nat} {c : Int} (h : l.drop p = c :: t) : l[p]? = some c ∧ l.drop (p + 1) = t := by
  have h1 : l[p]? = (l.drop p)[0]? := by rw [List.getElem?_drop, Nat.add_zero]
  refine ⟨by rw [h1, h]; rfl, ?_⟩
  rw [← List.drop_drop, h]; rfl
theorem drop_more {l a t : List Int} {p : Nat} (h : l.drop p = a ++ t) : l.drop (p + a.length) = t := by
  rw [← List.drop_drop, h, List.drop_left]
theorem drop_lt {l a t : List Int} {p : Nat} (h : l.drop p = a ++ t) : a.length + t.length = l.length - p := by
  rw [← List.length_append, ← h, List.length_drop]
theorem drop_at {l a t : List Int} {p : Nat} (j : Nat) (h : l.drop p = a ++ t) (hj : j < a.length) : l[p + j]? = a[j]? := by
  rw [← List.getElem?_drop, h, List.getElem?_append_left hj]
/-- An IRI's signs, read. -/
theorem irf_body (sl r : List Int) : ∀ (u : List Int) (f p : Nat) (acc : List Int), sl.drop p = u ++ 62 :: r → (∀ n ∈ u, n ≠ 62 ∧ n ≠ 10 ∧ n ≠ 92) → u.length < f → irf sl f p acc = (p + u.length + 1, some (acc ++ u))
  | [], 0, p, acc, _, _, hf => by simp at hf
  | [], f + 1, p, acc, h, _, _ => by
    unfold irf
    rw [(drop_two h).1]
    simp
  | n :: u, 0, p, acc, _, _, hf => by simp at hf
  | n :: u, f + 1, p, acc, h, hu, hf => by
    obtain ⟨h1, h2⟩ := drop_two h
    obtain ⟨a, b, c⟩ := hu n List.mem_cons_self
    unfold irf
    rw [h1]
    dsimp only
    rw [if_neg a, if_neg b, if_neg c, irf_body sl r u f (p + 1) (acc ++ [n]) h2 (fun m hm => hu m (List.mem_cons_of_mem _ hm)) (by simp at hf; omega)]
    rw [List.length_cons, List.append_assoc]
    congr 1
    omega
theorem irP_text (sl u r : List Int) (k : Nat) (h : sl.drop k = 60 :: (u ++ 62 :: r)) (hu : ∀ n ∈ u, n ≠ 62 ∧ n ≠ 10 ∧ n ≠ 92) : irP sl k = (k + u.length + 2, some u) := by
  obtain ⟨h1, h2⟩ := drop_two h
  have hl := drop_lt h2
  rw [List.length_cons] at hl
  unfold irP
  rw [if_pos h1, irf_body sl r u _ _ [] h2 hu (by omega)]
  rw [List.nil_append]
  congr 1
  omega
/-! ### A quoted text -/
theorem hexv_hxx (x : Int) (h0 : 0 ≤ x) (h1 : x < 16) : hexv (hx x) = x := by unfold hexv hx; omega
theorem escS_len (n : Int) : 1 ≤ (escS n).length := by unfold escS; split <;> (try split) <;> simp
theorem bodyS_cons (n : Int) (l : List Int) : bodyS (n :: l) = escS n ++ bodyS l := by unfold bodyS; rw [List.flatMap_cons]
theorem body_len : ∀ l : List Int, l.length ≤ (bodyS l).length
  | [] => by simp
  | n :: l => by rw [bodyS_cons, List.length_append, List.length_cons]; have := escS_len n; have := body_len l; omega
theorem qf_one (sl r : List Int) (n : Int) (hn : sgn n = true) (f p : Nat) (acc : List Int) (h : sl.drop p = escS n ++ r) : qf sl (f + 1) p acc = qf sl f (p + (escS n).length) (acc ++ [n]) := by
  unfold escS at h ⊢
  by_cases hl : lett n ≠ 0
  · rw [if_pos hl] at h ⊢
    obtain ⟨h1, h2⟩ := drop_two h
    obtain ⟨h3, h4⟩ := drop_two h2
    have he : ef sl (p + 1) = (p + 2, some n) := by
      have e1 : lett n ≠ 117 := by unfold lett at *; omega
      have e2 : lett n ≠ 85 := by unfold lett at *; omega
      have e3 : unl (lett n) = n := by unfold lett unl at *; omega
      have e4 : 0 ≤ n := by unfold lett at *; omega
      unfold ef
      rw [h3]
      dsimp only
      rw [if_neg e1, if_neg e2, e3, if_pos e4]
    conv => lhs; unfold qf
    rw [h1]
    dsimp only
    rw [if_neg (by decide), if_neg (by decide), if_pos rfl, he]
    rfl
  rw [if_neg hl] at h ⊢
  by_cases h4 : cls n = 4
  · rw [if_pos h4] at h ⊢
    obtain ⟨h1, h2⟩ := drop_two h
    obtain ⟨h3, h5⟩ := drop_two h2
    have hr := cls4_range n h4
    have he : ef sl (p + 1) = (p + 6, some n) := by
      have x1 := hexv_hxx (n / 16) (by omega) (by omega)
      have x2 := hexv_hxx (n % 16) (by omega) (by omega)
      unfold ef
      rw [h3]
      dsimp only
      rw [if_pos rfl, h5]
      show rd 4 0 (48 :: 48 :: hx (n / 16) :: hx (n % 16) :: r) (p + 1 + 1) = _
      rw [rd_cons, if_neg (by decide), rd_cons, if_neg (by decide), rd_cons, if_neg (by rw [x1]; omega), rd_cons, if_neg (by rw [x2]; omega), rd_zero, x1, x2]
      have e : ((0 * 16 + hexv 48) * 16 + hexv 48) * 16 + n / 16 = n / 16 := by
        have : hexv 48 = 0 := by decide
        rw [this]; omega
      rw [e, show n / 16 * 16 + n % 16 = n by omega, if_pos hn]
    conv => lhs; unfold qf
    rw [h1]
    dsimp only
    rw [if_neg (by decide), if_neg (by decide), if_pos rfl, he]
    rfl
  · rw [if_neg h4] at h ⊢
    obtain ⟨h1, h2⟩ := drop_two h
    have e1 : n ≠ 34 := by intro e; apply hl; unfold lett; omega
    have e2 : ¬ (n = 10 ∨ n = 13) := by intro e; apply hl; unfold lett; omega
    have e3 : n ≠ 92 := by intro e; apply hl; unfold lett; omega
    conv => lhs; unfold qf
    rw [h1]
    dsimp only
    rw [if_neg e1, if_neg e2, if_neg e3]
    rfl
theorem qf_body (sl r : List Int) : ∀ (l : List Int) (f p : Nat) (acc : List Int), sl.drop p = bodyS l ++ 34 :: r → AllS l → l.length < f → qf sl f p acc = (p + (bodyS l).length + 1, some (acc ++ l))
  | [], 0, p, acc, _, _, hf => by simp at hf
  | [], f + 1, p, acc, h, _, _ => by
    unfold qf
    rw [(drop_two h).1]
    simp [bodyS]
  | n :: l, 0, p, acc, _, _, hf => by simp at hf
  | n :: l, f + 1, p, acc, h, ha, hf => by
    rw [bodyS_cons, List.append_assoc] at h
    rw [qf_one sl _ n (ha n List.mem_cons_self) f p acc h, qf_body sl r l f _ (acc ++ [n]) (drop_more h) (fun m hm => ha m (List.mem_cons_of_mem _ hm)) (by simp at hf; omega)]
    rw [bodyS_cons, List.length_append, List.append_assoc]
    congr 1
    omega
theorem quoS_len (l : List Int) : (quoS l).length = (bodyS l).length + 2 := by unfold quoS; simp
theorem qd_text (sl l r : List Int) (k : Nat) (h : sl.drop k = quoS l ++ r) (ha : AllS l) : qd sl k = (k + (quoS l).length, some l) := by
  unfold quoS at h
  have h' : sl.drop k = 34 :: (bodyS l ++ 34 :: r) := by rw [h]; simp
  obtain ⟨h1, h2⟩ := drop_two h'
  have hl := drop_lt h2
  have hb := body_len l
  rw [List.length_cons] at hl
  unfold qd
  rw [if_pos h1, qf_body sl r l _ _ [] h2 ha (by omega), quoS_len, List.nil_append]
  congr 1
  omega
/-! ### A word -/
theorem wmL_word (ms u r : List Int) (hu : ∀ n ∈ u, wms ms n = true) (h32 : wms ms 32 = false) : wmL ms (u ++ 32 :: r) = u := by
  unfold wmL
  induction u with
  | nil => rw [List.nil_append, List.takeWhile_cons, h32]; rfl
  | cons n u ih =>
    rw [List.cons_append, List.takeWhile_cons, hu n List.mem_cons_self, if_pos rfl, ih (fun m hm => hu m (List.mem_cons_of_mem _ hm))]
/-! ### What good terms' texts are of -/
theorem sg_text {s : ByteArray} (h : (sgP s).2 = []) : textOf (sgP s).1 = s := by
  have := sgP_parts s
  rw [h] at this
  exact this.text.symm
theorem iri_signs {s : ByteArray} (h : iriG s = true) : (sgP s).2 = [] ∧ ∀ n ∈ (sgP s).1, n ≠ 62 ∧ n ≠ 10 ∧ n ≠ 92 := by
  unfold iriG iriB at h
  rw [Bool.and_eq_true, Bool.and_eq_true, Bool.and_eq_true, decide_eq_true_eq, decide_eq_true_eq, List.all_eq_true] at h
  refine ⟨h.1, fun n hn => ?_⟩
  have := h.2.2.2 n hn
  unfold okS at this
  rw [decide_eq_true_eq] at this
  refine ⟨by omega, fun e => this.2.1 ?_, by omega⟩
  rw [e]; decide
theorem lab_signs : ∀ (l : List Int) (i : Nat), labSG i l = true → ∀ n ∈ l, wms msB n = true
  | [], _, _, n, hn => by cases hn
  | m :: l, i, h, n, hn => by
    unfold labSG at h
    rw [Bool.and_eq_true] at h
    rcases List.mem_cons.1 hn with rfl | hn
    · have := h.1
      unfold labS at this
      unfold wms
      simp only [Bool.or_eq_true, Bool.and_eq_true, beq_iff_eq] at this ⊢
      rcases this with a | a | ⟨_, a⟩
      · exact .inl a
      · exact .inr (.inl a)
      · exact .inr (.inr (by simp; omega))
    · exact lab_signs l (i + 1) h.2 n hn
theorem label_signs {s : ByteArray} (h : labelG s = true) : (sgP s).2 = [] ∧ ∀ n ∈ (sgP s).1, wms msB n = true := by
  rw [← blankB_label (sgP_parts s)] at h
  unfold blankB at h
  rw [Bool.and_eq_true, Bool.and_eq_true, decide_eq_true_eq] at h
  exact ⟨h.1, lab_signs _ 0 h.2.1⟩
theorem mach_bytes : ∀ (l : List UInt8) (p g : Nat), mach p g l = true → ∀ c ∈ l, c = 45 ∨ letU c = true ∨ digU c = true
  | [], _, _, _, c, hc => by cases hc
  | d :: l, p, g, h, c, hc => by
    unfold mach at h
    by_cases h45 : d = 45
    · rw [if_pos h45] at h
      by_cases hg : g = 0
      · rw [if_pos hg] at h; cases h
      · rw [if_neg hg] at h
        rcases List.mem_cons.1 hc with rfl | hc
        · exact .inl h45
        · exact mach_bytes l _ _ h c hc
    · rw [if_neg h45] at h
      by_cases ho : okc p d = true
      · rw [if_pos ho] at h
        by_cases hg : 8 < g + 1
        · rw [if_pos hg] at h; cases h
        · rw [if_neg hg] at h
          rcases List.mem_cons.1 hc with rfl | hc
          · unfold okc at ho
            rw [Bool.or_eq_true, Bool.and_eq_true] at ho
            rcases ho with a | a
            · exact .inr (.inl a)
            · exact .inr (.inr a.2)
          · exact mach_bytes l _ _ h c hc
      · rw [if_neg ho] at h; cases h
theorem lang_signs {s : ByteArray} (h : langB s = true) : (sgP s).2 = [] ∧ ∀ n ∈ (sgP s).1, wms msL n = true := by
  unfold langB at h
  rw [Bool.and_eq_true] at h
  have hb := mach_bytes _ _ _ h.2
  have hc : ∀ c ∈ s.data.toList, c.toNat < 128 ∧ wms msL (c.toNat : Int) = true := fun c hc => by
    rcases hb c hc with rfl | a | a
    · exact ⟨by decide, by decide⟩
    · unfold letU at a
      rw [decide_eq_true_eq] at a
      refine ⟨by omega, ?_⟩
      have e : cls (c.toNat : Int) = 1 := by unfold cls; omega
      unfold wms
      rw [e]; rfl
    · unfold digU at a
      rw [decide_eq_true_eq] at a
      refine ⟨by omega, ?_⟩
      have e : cls (c.toNat : Int) = 2 := by unfold cls; omega
      unfold wms
      rw [e]; rfl
  have hp : Parts s.data.toList (sigs s.data.toList) [] := by
    refine ascii_parts s _ ?_ ?_
    · unfold ascii sigs
      rw [List.all_eq_true]
      intro n hn
      obtain ⟨c, hc1, rfl⟩ := List.mem_map.1 hn
      have := (hc c hc1).1
      simp; omega
    · unfold sigs
      rw [List.map_map]
      conv => lhs; rw [← List.map_id s.data.toList]
      exact List.map_congr_left fun c _ => by simp
  obtain ⟨e1, e2⟩ := sgP_one hp
  refine ⟨e2, fun n hn => ?_⟩
  rw [e1] at hn
  obtain ⟨c, hc1, rfl⟩ := List.mem_map.1 hn
  exact (hc c hc1).2
theorem mt_of {c : ByteArray} (h : c.size = 0) : c = mt := by
  obtain ⟨⟨l⟩⟩ := c
  have : l = [] := List.length_eq_zero_iff.1 h
  subst this
  rfl
theorem xl_of {b : ByteArray} (h : (b.toList == lL) = true) : b = XL := by
  rw [beq_iff_eq, ByteArray.toList_eq] at h
  obtain ⟨⟨l⟩⟩ := b
  have : l = lL := h
  subst this
  rfl
/-- The signs of a term's text. -/
noncomputable def tailS (b c : ByteArray) : List Int := if c.size = 0 then (if b = XS then [] else 94 :: 94 :: 60 :: ((sgP b).1 ++ [62])) else 64 :: (sgP c).1
noncomputable def tS : Tm → List Int
  | .iri s => 60 :: ((sgP s).1 ++ [62])
  | .blank s => 95 :: 58 :: (sgP s).1
  | .lit a b c => quoS (sgP a).1 ++ tailS b c
  | _ => []
theorem allS_cons {n : Int} {l : List Int} (h : sgn n = true) (hl : AllS l) : AllS (n :: l) := fun m hm => by
  rcases List.mem_cons.1 hm with rfl | hm
  · exact h
  · exact hl m hm
theorem allS_app {a b : List Int} (ha : AllS a) (hb : AllS b) : AllS (a ++ b) := fun m hm => by
  rcases List.mem_append.1 hm with hm | hm
  · exact ha m hm
  · exact hb m hm
theorem tS_all (t : Tm) : AllS (tS t) := by
  have one : ∀ c : Int, sgn c = true → AllS [c] := fun c hc => allS_cons hc allS_nil
  cases t with
  | iri s => exact allS_cons (by decide) (allS_app (sgP_parts s).all (one 62 (by decide)))
  | blank s => exact allS_cons (by decide) (allS_cons (by decide) (sgP_parts s).all)
  | lit a b c =>
    refine allS_app (fun n hn => (quoS_ok _ (sgP_parts a).all n hn).1) ?_
    unfold tailS
    split
    · split
      · exact allS_nil
      · exact allS_cons (by decide) (allS_cons (by decide) (allS_cons (by decide) (allS_app (sgP_parts b).all (one 62 (by decide)))))
    · exact allS_cons (by decide) (sgP_parts c).all
  | odd n => exact allS_nil
  | none => exact allS_nil
theorem formP_text (sl r : List Int) (k : Nat) (t : Tm) (hg : goodT t = true) (h : sl.drop k = tS t ++ 32 :: r) : formP sl k = (k + (tS t).length, some t) := by
  cases t with
  | iri s =>
    obtain ⟨e, hu⟩ := iri_signs (s := s) hg
    have h' : sl.drop k = 60 :: ((sgP s).1 ++ 62 :: (32 :: r)) := by rw [h]; unfold tS; simp
    have h1 := (drop_two h').1
    unfold formP
    rw [if_pos h1, irP_text sl _ _ k h' hu]
    simp only [Option.map_some, sg_text e]
    congr 1
    unfold tS
    simp
    omega
  | blank s =>
    obtain ⟨e, hu⟩ := label_signs (s := s) hg
    have h' : sl.drop k = 95 :: (58 :: ((sgP s).1 ++ 32 :: r)) := by rw [h]; unfold tS; simp
    obtain ⟨h1, h2⟩ := drop_two h'
    obtain ⟨h3, h4⟩ := drop_two h2
    have hw := wmL_word msB (sgP s).1 r hu (by decide)
    unfold formP
    rw [if_neg (by rw [h1]; decide), if_neg (by rw [h1]; decide), if_pos h1, if_pos h3, show k + 2 = k + 1 + 1 from rfl, h4, hw]
    simp only [sg_text e]
    congr 1
    unfold tS
    simp
    omega
  | lit a b c =>
    have hg' : litG a b c = true := hg
    unfold litG at hg'
    rw [Bool.and_eq_true] at hg'
    have ea : (sgP a).2 = [] := by
      have := hg'.1
      unfold textG at this
      rw [Bool.and_eq_true, decide_eq_true_eq, decide_eq_true_eq] at this
      exact this.2
    have h' : sl.drop k = quoS (sgP a).1 ++ (tailS b c ++ 32 :: r) := by rw [h]; unfold tS; simp
    have h1 : sl[k]? = some 34 := (drop_two (show sl.drop k = 34 :: (bodyS (sgP a).1 ++ 34 :: (tailS b c ++ 32 :: r)) by rw [h']; simp [quoS])).1
    have hd := drop_more h'
    obtain ⟨p, hp⟩ : ∃ p, p = k + (quoS (sgP a).1).length := ⟨_, rfl⟩
    rw [← hp] at hd
    have hk : k + (tS (.lit a b c)).length = p + (tailS b c).length := by unfold tS; rw [List.length_append]; omega
    unfold formP litP
    rw [if_neg (by rw [h1]; decide), if_pos h1, qd_text sl _ _ k h' (sgP_parts a).all, hk, ← hp]
    dsimp only
    unfold tailP tailS
    unfold tailS at hd
    by_cases hc : c.size = 0
    · rw [if_pos hc] at hd ⊢
      rw [if_pos hc, Bool.and_eq_true] at hg'
      have hcm := mt_of hc
      subst hcm
      by_cases hb : b = XS
      · subst hb
        rw [if_pos rfl] at hd ⊢
        obtain ⟨h2, _⟩ := drop_two (show sl.drop p = 32 :: r from hd)
        rw [if_neg (by rw [h2]; intro e; exact absurd e.1 (by decide)), if_neg (by rw [h2]; decide), sg_text ea]
        rfl
      · rw [if_neg hb] at hd ⊢
        obtain ⟨e, hu⟩ := iri_signs hg'.2.2
        obtain ⟨h2, h3⟩ := drop_two (show sl.drop p = 94 :: (94 :: (60 :: ((sgP b).1 ++ 62 :: (32 :: r)))) by rw [hd]; simp)
        obtain ⟨h4, h5⟩ := drop_two h3
        rw [if_pos ⟨h2, h4⟩, irP_text sl _ _ (p + 2) h5 hu]
        simp only [Option.map_some, sg_text ea, sg_text e]
        congr 1
        simp
        omega
    · rw [if_neg hc] at hd ⊢
      rw [if_neg hc, Bool.and_eq_true] at hg'
      have hbx := xl_of hg'.2.1
      subst hbx
      obtain ⟨e, hu⟩ := lang_signs hg'.2.2
      obtain ⟨h2, h3⟩ := drop_two (show sl.drop p = 64 :: ((sgP c).1 ++ 32 :: r) by rw [hd]; simp)
      rw [if_neg (by rw [h2]; intro e; exact absurd e.1 (by decide)), if_pos h2, h3, wmL_word msL _ r hu (by decide)]
      simp only [sg_text ea, sg_text e]
      congr 1
      simp
      omega
  | odd n => cases hg
  | none => cases hg
theorem readP_text (sl r : List Int) (k : Nat) (t : Tm) (hg : goodT t = true) (h : sl.drop k = tS t ++ 32 :: r) : readP sl k = (some t, k + (tS t).length, 0) := by
  unfold readP
  rw [formP_text sl r k t hg h]
  dsimp only
  rw [if_pos hg]
end Go.Proofs.YtjalhcbomjgkoaaGreatDoor

/-
  A TERM AS THE DOCUMENT's (becklaw03.Ref).
-/
namespace Go.Proofs.YtjalhcbomjgkoaaGreatDoor
open Go.RowKit
set_option linter.unusedVariables false
set_option linter.unusedSimpArgs false

set_option maxRecDepth 100000 in
theorem lref_any (t : Tm) (w : World) : Calls Tryz.prog 63 #[t.val] w fun e w' => e = .returned (F4 t.kind t.ta t.tb t.tc) ∧ Below w.heap.size w w' := by
  cases t with
  | blank s =>
    simp only [Tm.val, Tm.kind, Tm.ta, Tm.tb, Tm.tc]
    have hBB := asBB
    go_enter Tryz.func63, Tryz.ntmps63
    go_wp2
    exact bodyPost_ret (v := F4 0 s mt mt) (by simp [results, Tryz.results63, go_sem]) rfl ⟨rfl, ((Below.refl _ _).alloc (Nat.le_refl _) _).alloc (by simp) _⟩
  | iri s =>
    simp only [Tm.val, Tm.kind, Tm.ta, Tm.tb, Tm.tc]
    have hIB := asIB
    have hII := asII
    go_enter Tryz.func63, Tryz.ntmps63
    go_wp2
    exact bodyPost_ret (v := F4 1 s mt mt) (by simp [results, Tryz.results63, go_sem]) rfl ⟨rfl, ((Below.refl _ _).alloc (Nat.le_refl _) _).alloc (by simp) _⟩
  | lit a b c =>
    simp only [Tm.val, Tm.kind, Tm.ta, Tm.tb, Tm.tc]
    have hLB := asLB
    have hLI := asLI
    have hLL := asLL
    go_enter Tryz.func63, Tryz.ntmps63
    go_wp2
    exact bodyPost_ret (v := F4 2 a b c) (by simp [results, Tryz.results63, go_sem]) rfl ⟨rfl, ((Below.refl _ _).alloc (Nat.le_refl _) _).alloc (by simp) _⟩
  | odd n =>
    simp only [Tm.val, Tm.kind, Tm.ta, Tm.tb, Tm.tc]
    have hOB := asOB
    have hOI := asOI
    have hOL := asOL
    go_enter Tryz.func63, Tryz.ntmps63
    go_wp2
    exact bodyPost_ret (v := F4 3 mt mt mt) (by simp [results, Tryz.results63, go_sem]) rfl ⟨rfl, (Below.refl _ _).alloc (Nat.le_refl _) _⟩
  | none =>
    simp only [Tm.val, Tm.kind, Tm.ta, Tm.tb, Tm.tc]
    have hNB := asNB
    have hNI := asNI
    have hNL := asNL
    go_enter Tryz.func63, Tryz.ntmps63
    go_wp2
    exact bodyPost_ret (v := F4 3 mt mt mt) (by simp [results, Tryz.results63, go_sem]) rfl ⟨rfl, (Below.refl _ _).alloc (Nat.le_refl _) _⟩
theorem eqlT4 (k : Int) (a b c : ByteArray) (k' : Int) (a' b' c' : ByteArray) (w : World) :
    (binOp .eql 23 (F4 k a b c) (F4 k' a' b' c')).run Tryz.prog w = .ok (.bool ((k == k') && ((a.toList == a'.toList) && ((b.toList == b'.toList) && (c.toList == c'.toList))))) w := by
  go_simp
  by_cases hk : k = k'
  · by_cases h1 : a.toList = a'.toList <;> by_cases h2 : b.toList = b'.toList <;> by_cases h3 : c.toList = c'.toList <;> simp [hk, h1, h2, h3]
  · simp [hk]
end Go.Proofs.YtjalhcbomjgkoaaGreatDoor

/-
  A TERM's TEXT (package nt).
-/
namespace Go.Proofs.YtjalhcbomjgkoaaGreatDoor
open Go.RowKit
set_option linter.unusedVariables false
set_option linter.unusedSimpArgs false

theorem bx {a b : ByteArray} (h : a.data.toList = b.data.toList) : a = b := by
  obtain ⟨⟨l⟩⟩ := a
  obtain ⟨⟨m⟩⟩ := b
  have : l = m := h
  subst this
  rfl
theorem textOf_app (a b : List Int) : textOf (a ++ b) = textOf a ++ textOf b := by
  apply bx
  rw [textOf_list, encL_append, ByteArray.data_append, Array.toList_append, textOf_list, textOf_list]
theorem add_any (a b : ByteArray) (h : a.size + b.size ≤ 100000000) (W : World) : (Op.stringOp .add a b).run Tryz.prog W = .ok (.string (a ++ b)) W := run_string_add_sum W a b (by omega)
theorem text_cons (c : Int) (l : List Int) : textOf (c :: l) = textOf [c] ++ textOf l := textOf_app [c] l
theorem escS_six (n : Int) : (escS n).length ≤ 6 := by unfold escS; split <;> (try split) <;> simp
theorem body_six : ∀ l : List Int, (bodyS l).length ≤ 6 * l.length
  | [] => by simp [bodyS]
  | n :: l => by rw [bodyS_cons, List.length_append, List.length_cons]; have := escS_six n; have := body_six l; omega
theorem sg_small (s : ByteArray) : (sgP s).1.length ≤ s.size := by
  have h1 := (sgP_parts s).size
  have h2 := encL_len (sgP s).1
  omega
theorem tail_small (b c : ByteArray) (hb : b.size ≤ 1000000) (hc : c.size ≤ 1000000) : (textOf (tailS b c)).size ≤ 50000000 := by
  have h1 := text_size (tailS b c)
  have hb' := sg_small b
  have hc' := sg_small c
  have h2 : (tailS b c).length ≤ 1000004 := by
    unfold tailS
    split
    · split
      · simp
      · simp; omega
    · simp; omega
  omega
set_option maxRecDepth 100000 in
set_option maxHeartbeats 2000000 in
/-- Behind a literal's quoted text. -/
theorem tailOf_any (a b c : ByteArray) (hb : b.size ≤ 1000000) (hc : c.size ≤ 1000000) (eb : c.size = 0 → b ≠ XS → (sgP b).2 = []) (ec : c.size ≠ 0 → (sgP c).2 = []) (w : World) :
    Calls Tryz.prog 80 #[.agg #[.string a, .string b, .string c]] w fun e w' => e = .returned (.string (textOf (tailS b c))) ∧ Below w.heap.size w w' := by
  obtain ⟨z, hz⟩ : ∃ z, z = textOf (tailS b c) := ⟨_, rfl⟩
  rw [← hz]
  unfold tailS at hz
  by_cases h0 : c.size = 0
  · rw [if_pos h0] at hz
    have hcm := mt_of h0
    subst hcm
    by_cases hx : b = XS
    · rw [if_pos hx] at hz
      subst hx
      have HZ := Lib.hid hz
      clear hz eb ec hb hc h0
      go_enter Tryz.func80, Tryz.ntmps80
      go_wp2
      go_ret
      exact ⟨by rw [HZ.out]; rfl, (Below.refl _ _).alloc (Nat.le_refl _) _⟩
    · rw [if_neg hx] at hz
      have e := sg_text (eb h0 hx)
      have hz2 : z = (⟨#[94, 94, 60]⟩ ++ b) ++ ⟨#[62]⟩ := by
        have e3 : textOf (94 :: 94 :: 60 :: ((sgP b).1 ++ [62])) = (textOf [94, 94, 60] ++ textOf (sgP b).1) ++ textOf [62] := by rw [← textOf_app, ← textOf_app]; rfl
        rw [hz, e3, e]; rfl
      have hn : (b.toList == lS) = false := by
        rw [beq_eq_false_iff_ne]
        intro e
        apply hx
        rw [ByteArray.toList_eq] at e
        obtain ⟨⟨l⟩⟩ := b
        have : l = lS := e
        subst this
        rfl
      obtain ⟨y, hy⟩ : ∃ y : ByteArray, y = ⟨#[94, 94, 60]⟩ ++ b := ⟨_, rfl⟩
      have hys : y.size = 3 + b.size := by rw [hy, ByteArray.size_append]; rfl
      have a1 : ∀ W, (Op.stringOp .add ⟨#[94, 94, 60]⟩ b).run Tryz.prog W = .ok (.string y) W := fun W => by rw [hy]; exact add_any _ _ (by show 3 + b.size ≤ _; omega) W
      have a2 : ∀ W, (Op.stringOp .add y ⟨#[62]⟩).run Tryz.prog W = .ok (.string z) W := fun W => by rw [hz2, ← hy]; exact add_any _ _ (by show y.size + 1 ≤ _; omega) W
      clear hz hz2 eb ec hb hc h0 e hy hys
      go_enter Tryz.func80, Tryz.ntmps80
      go_wp2
      go_ret
      exact ⟨rfl, (Below.refl _ _).alloc (Nat.le_refl _) _⟩
  · rw [if_neg h0] at hz
    have e := sg_text (ec h0)
    have hz2 : z = ⟨#[64]⟩ ++ c := by rw [hz, text_cons, e]; rfl
    have a1 : ∀ W, (Op.stringOp .add ⟨#[64]⟩ c).run Tryz.prog W = .ok (.string z) W := fun W => by rw [hz2]; exact add_any _ _ (by show 1 + c.size ≤ _; omega) W
    have hn : (c.toList == []) = false := by
      rw [beq_eq_false_iff_ne]
      intro e
      apply h0
      rw [ByteArray.toList_eq] at e
      obtain ⟨⟨l⟩⟩ := c
      have : l = [] := e
      subst this
      rfl
    have hn2 : ¬ c = mt := fun e => h0 (by rw [e]; rfl)
    clear hz hz2 eb ec hb hc e
    go_enter Tryz.func80, Tryz.ntmps80
    go_wp2
    go_ret
    exact ⟨rfl, (Below.refl _ _).alloc (Nat.le_refl _) _⟩
/-- The literal's box. -/
def Lx (w : World) (g : Nat) (a b c : ByteArray) (W : World) : Prop := Below w.heap.size w W ∧ Fb W g 78 #[.string a, .string b, .string c]
theorem Lx.drew {w : World} {g : Nat} {a b c : ByteArray} {W : World} (h : Lx w g a b c W) : Lx w g a b c W.drew := ⟨Below.drew h.1, h.2⟩
theorem Lx.all {w : World} {g : Nat} {a b c : ByteArray} {W : World} (h : Lx w g a b c W) : W.cell? ⟨g, 0, none⟩ = some (.string a) ∧ W.cell? ⟨g, 1, none⟩ = some (.string b) ∧ W.cell? ⟨g, 2, none⟩ = some (.string c) ∧ Lx w g a b c W := ⟨h.2.cell 0, h.2.cell 1, h.2.cell 2, h⟩
theorem lx_of {w : World} {g : Nat} {a b c : ByteArray} {W : World} {f : Nat} {args : Array Value} {y : Value} (h : Lx w g a b c W) (k : Calls Tryz.prog f args W fun e w' => e = .returned y ∧ Below W.heap.size W w') :
    Calls Tryz.prog f args W fun e w' => e = .returned y ∧ Lx w g a b c w' := k.mono fun _ _ ⟨x, z⟩ => ⟨x, h.1.trans (z.mono h.1.size), h.2.below z⟩
set_option maxRecDepth 100000 in
set_option maxHeartbeats 4000000 in
theorem textOf_any (t : Tm) (hg : goodT t = true) (hf : t.few) (w : World) (ty : TypeId) (fr : Nat × Nat) (htab : w.heap[0]? = some (.cells escCells ty fr)) :
    Calls Tryz.prog 53 #[t.val] w fun e w' => e = .returned (.string (textOf (tS t))) ∧ Below w.heap.size w w' := by
  obtain ⟨z, hz⟩ : ∃ z, z = textOf (tS t) := ⟨_, rfl⟩
  rw [← hz]
  cases t with
  | iri s =>
    have e := sg_text (iri_signs (s := s) hg).1
    have hs : s.size ≤ 1000000 := by have := hf.1; simp only [Tm.ta] at this; omega
    have hz2 : z = (⟨#[60]⟩ ++ s) ++ ⟨#[62]⟩ := by
      rw [hz]; unfold tS; rw [text_cons, textOf_app, e, ← ByteArray.append_assoc]; rfl
    obtain ⟨y, hy⟩ : ∃ y : ByteArray, y = ⟨#[60]⟩ ++ s := ⟨_, rfl⟩
    have hys : y.size = 1 + s.size := by rw [hy, ByteArray.size_append]; rfl
    have a1 : ∀ W, (Op.stringOp .add ⟨#[60]⟩ s).run Tryz.prog W = .ok (.string y) W := fun W => by rw [hy]; exact add_any _ _ (by show 1 + s.size ≤ _; omega) W
    have a2 : ∀ W, (Op.stringOp .add y ⟨#[62]⟩).run Tryz.prog W = .ok (.string z) W := fun W => by rw [hz2, ← hy]; exact add_any _ _ (by show y.size + 1 ≤ _; omega) W
    have hII := asII
    simp only [Tm.val]
    clear hz hz2 hg hf hs e hy hys htab
    go_enter Tryz.func53, Tryz.ntmps53
    go_wp2
    go_ret
    exact ⟨rfl, (Below.refl _ _).alloc (Nat.le_refl _) _⟩
  | blank s =>
    have e := sg_text (label_signs (s := s) hg).1
    have hs : s.size ≤ 1000000 := by have := hf.1; simp only [Tm.ta] at this; omega
    have hz2 : z = ⟨#[95, 58]⟩ ++ s := by
      rw [hz]; unfold tS
      have e3 : textOf (95 :: 58 :: (sgP s).1) = textOf [95, 58] ++ textOf (sgP s).1 := by rw [← textOf_app]; rfl
      rw [e3, e]; rfl
    have a1 : ∀ W, (Op.stringOp .add ⟨#[95, 58]⟩ s).run Tryz.prog W = .ok (.string z) W := fun W => by rw [hz2]; exact add_any _ _ (by show 2 + s.size ≤ _; omega) W
    have hBI := asBI
    have hBB := asBB
    simp only [Tm.val]
    clear hz hz2 hg hf hs e htab
    go_enter Tryz.func53, Tryz.ntmps53
    go_wp2
    go_ret
    exact ⟨rfl, (Below.refl _ _).alloc (Nat.le_refl _) _⟩
  | lit a b c =>
    have hg' : litG a b c = true := hg
    unfold litG at hg'
    rw [Bool.and_eq_true] at hg'
    have ea : (sgP a).2 = [] := by
      have := hg'.1
      unfold textG at this
      rw [Bool.and_eq_true, decide_eq_true_eq, decide_eq_true_eq] at this
      exact this.2
    have ha : a.size ≤ 1000000 := by have := hf.1; simp only [Tm.ta] at this; omega
    have hb : b.size ≤ 1000000 := by have := hf.2.1; simp only [Tm.tb] at this; omega
    have hc : c.size ≤ 1000000 := by have := hf.2.2; simp only [Tm.tc] at this; omega
    have cT := tailOf_any a b c hb hc (fun h0 hx => by have := hg'.2; rw [if_pos h0, Bool.and_eq_true] at this; exact (iri_signs this.2).1) (fun h0 => by have := hg'.2; rw [if_neg h0, Bool.and_eq_true] at this; exact (lang_signs this.2).1)
    have hpa := sgP_parts a
    rw [ea] at hpa
    have hde : a.data.toList = encL (sgP a).1 := by rw [hpa.eq, List.append_nil]
    obtain ⟨x, hx⟩ : ∃ x, x = textOf (quoS (sgP a).1) := ⟨_, rfl⟩
    have hq2 : (⟨(quoteL (sgP a).1).toArray⟩ : ByteArray) = x := by rw [hx]; apply bx; rw [textOf_list, quoS_bytes]
    obtain ⟨y, hy⟩ : ∃ y, y = textOf (tailS b c) := ⟨_, rfl⟩
    rw [← hy] at cT
    have hz2 : z = x ++ y := by rw [hz, hx, hy]; unfold tS; exact textOf_app _ _
    have hlen : (sgP a).1.length ≤ 1000000 := by have := hpa.size; have := encL_len (sgP a).1; omega
    have hxs : x.size ≤ 50000000 := by
      have h1 := text_size (quoS (sgP a).1)
      have h2 := body_six (sgP a).1
      rw [quoS_len] at h1
      rw [hx]; omega
    have hys : y.size ≤ 50000000 := by
      rw [hy]; exact tail_small b c hb hc
    have a1 : ∀ W, (Op.stringOp .add x y).run Tryz.prog W = .ok (.string z) W := fun W => by rw [hz2]; exact add_any _ _ (by omega) W
    have cQ : ∀ {g W}, Lx w g a b c W → Calls Tryz.prog 79 #[.string a] W fun e w' => e = .returned (.string x) ∧ Lx w g a b c w' := fun {g W} h => by
      have := quote_any a (sgP a).1 W hde hpa.all (by omega) ty fr (tab_below htab h.1 (Array.getElem?_eq_some_iff.1 htab).1)
      rw [hq2] at this
      exact lx_of h this
    have cL : ∀ {g W}, Lx w g a b c W → Calls Tryz.prog 80 #[.agg #[.string a, .string b, .string c]] W fun e w' => e = .returned (.string y) ∧ Lx w g a b c w' := fun {g W} h => lx_of h (cT W)
    have hLI := asLI
    have hLB := asLB
    have hLL := asLL
    simp only [Tm.val]
    clear hz hz2 hg hg' hf ha hb hc ea hpa hde hx hq2 hy hlen hxs hys htab cT
    go_enter Tryz.func53, Tryz.ntmps53
    go_wp2
    have hL : Lx w w.heap.size a b c (w.alloc (.cells #[.string a, .string b, .string c] 78)) := ⟨(Below.refl _ _).alloc (Nat.le_refl _) _, Fb.new _ _ _⟩
    generalize (w.alloc (.cells #[.string a, .string b, .string c] 78)) = w4 at hL ⊢
    have HLX := hL
    clear hL
    obtain ⟨g, hg⟩ : ∃ g, g = w.heap.size := ⟨_, rfl⟩
    rw [← hg] at HLX ⊢
    have HGG := Lib.hid hg
    clear hg
    go_region_held3 (fun W => W.cell? ⟨g, 0, none⟩ = some (.string a) ∧ W.cell? ⟨g, 1, none⟩ = some (.string b) ∧ W.cell? ⟨g, 2, none⟩ = some (.string c) ∧ Lx w g a b c W)
      (first | exact Lx.all (by assumption) | exact Lx.all (Lx.drew (by assumption)))
      (first
        | (go_at_call 79; (with_reducible refine (cQ (by first | assumption | exact Lx.drew (by assumption))).mono ?_); rintro e w8 ⟨rfl, hL8⟩)
        | (go_at_call 80; (with_reducible refine (cL (by first | assumption | exact Lx.drew (by assumption))).mono ?_); rintro e w9 ⟨rfl, hL9⟩))
    all_goals
      go_wp2
      go_ret
      exact ⟨rfl, by first | exact hL9.1 | exact hL8.1⟩
  | odd n => cases hg
  | none => cases hg
theorem ntext_any (t : Tm) (hg : goodT t = true) (hf : t.few) (w : World) (ty : TypeId) (fr : Nat × Nat) (htab : w.heap[0]? = some (.cells escCells ty fr)) :
    Calls Tryz.prog 28 #[t.val] w fun e w' => e = .returned (.string (textOf (tS t))) ∧ Below w.heap.size w w' := by
  have cT := textOf_any t hg hf w ty fr htab
  obtain ⟨z, hz⟩ : ∃ z, z = textOf (tS t) := ⟨_, rfl⟩
  rw [← hz] at cT ⊢
  obtain ⟨v, hv⟩ : ∃ v, v = t.val := ⟨_, rfl⟩
  rw [← hv] at cT ⊢
  clear htab hz hv hg hf
  go_enter Tryz.func28, Tryz.ntmps28
  go_wp2_with (go_at_call 53; (with_reducible refine cT.mono ?_); rintro e w8 ⟨rfl, hb⟩)
  go_ret
  exact ⟨rfl, hb⟩
end Go.Proofs.YtjalhcbomjgkoaaGreatDoor
