/-
  MERGED (a claim has at most 60 files): NSem, QLib.
-/
import Derived.Test.YtcllamipcgbfiaaDoorZ15
import Derived.Test.YtcllamipcgbfiaaDoorZ16
import Derived.Test.YtcllamipcgbfiaaDoorZ30
import Derived.Test.YtcllamipcgbfiaaDoorZ13
import Derived.Test.YtcllamipcgbfiaaDoorZ14
/-
  WHAT TERMS' TEXTS ARE, sign by sign: plain functions that the program's readers and the document's are both held against.
-/
namespace Go.Proofs.YtcllamipcgbfiaaDoor
set_option linter.unusedVariables false

/-- The marks of a blank node's label, of a language. -/
abbrev msB : List Int := [95, 45]
abbrev msL : List Int := [45]
/-- Behind a quoted text l: p is the place behind it. -/
def tailP (sl : List Int) (l : List Int) (p : Nat) : Nat × Option Tm :=
  if sl[p]? = some 94 ∧ sl[p + 1]? = some 94 then ((irP sl (p + 2)).1, (irP sl (p + 2)).2.map fun t => Tm.lit (textOf l) (textOf t) mt)
  else if sl[p]? = some 64 then (p + 1 + (wmL msL (sl.drop (p + 1))).length, some (.lit (textOf l) XL (textOf (wmL msL (sl.drop (p + 1))))))
  else (p, some (.lit (textOf l) XS mt))
/-- A literal at a place. -/
def litP (sl : List Int) (k : Nat) : Nat × Option Tm :=
  match (qd sl k).2 with
  | none => ((qd sl k).1, none)
  | some l => tailP sl l (qd sl k).1
/-- What has a term's form at a place. -/
def formP (sl : List Int) (k : Nat) : Nat × Option Tm :=
  if sl[k]? = some 60 then ((irP sl k).1, (irP sl k).2.map fun t => Tm.iri (textOf t))
  else if sl[k]? = some 34 then litP sl k
  else if sl[k]? = some 95 then (if sl[k + 1]? = some 58 then (k + 2 + (wmL msB (sl.drop (k + 2))).length, some (.blank (textOf (wmL msB (sl.drop (k + 2)))))) else (k + 1, none))
  else (k, none)
/-- The term at a place; the place behind it, or the error's; the error. -/
noncomputable def readP (sl : List Int) (k : Nat) : Option Tm × Nat × Int :=
  match (formP sl k).2 with
  | none => (none, (formP sl k).1, 1)
  | some t => if goodT t = true then (some t, (formP sl k).1, 0) else (none, k, 3)
theorem irf_le (sl : List Int) : ∀ (f p : Nat) (acc : List Int), p ≤ sl.length → (irf sl f p acc).1 ≤ sl.length ∧ p ≤ (irf sl f p acc).1 ∧ ∀ l, (irf sl f p acc).2 = some l → AllS acc → AllS sl → AllS l ∧ l.length ≤ acc.length + f
  | 0, p, acc, h => ⟨h, Nat.le_refl _, fun l hl => by cases hl⟩
  | f + 1, p, acc, h => by
    unfold irf
    cases hx : sl[p]? with
    | none => exact ⟨h, Nat.le_refl _, fun l hl => by cases hl⟩
    | some c =>
      have hp := (List.getElem?_eq_some_iff.1 hx).1
      dsimp only
      split
      · exact ⟨hp, by dsimp only; omega, fun l hl ha _ => by simp at hl; subst hl; exact ⟨ha, by omega⟩⟩
      split
      · exact ⟨h, Nat.le_refl _, fun l hl => by cases hl⟩
      split
      · have hn := nef_le sl (p + 1) (by omega)
        cases ho : (nef sl (p + 1)).2 with
        | none => exact ⟨hn.1, by dsimp only; omega, fun l hl => by cases hl⟩
        | some n =>
          have ih := irf_le sl f (nef sl (p + 1)).1 (acc ++ [n]) hn.1
          refine ⟨ih.1, by dsimp only; omega, fun l hl ha hs => ?_⟩
          have hsn := nef_sgn sl (p + 1) n ho
          obtain ⟨a, b⟩ := ih.2.2 l hl (fun x hx => by
            rcases List.mem_append.1 hx with hx | hx
            · exact ha x hx
            · simp at hx; subst hx; exact hsn) hs
          exact ⟨a, by simp at b; omega⟩
      · have ih := irf_le sl f (p + 1) (acc ++ [c]) (by omega)
        refine ⟨ih.1, by omega, fun l hl ha hs => ?_⟩
        obtain ⟨a, b⟩ := ih.2.2 l hl (fun x hx' => by
            rcases List.mem_append.1 hx' with hx' | hx'
            · exact ha x hx'
            · simp at hx'; subst hx'; exact hs x (List.mem_of_getElem? hx)) hs
        exact ⟨a, by simp at b; omega⟩
theorem irP_le (sl : List Int) (k : Nat) (h : k ≤ sl.length) : (irP sl k).1 ≤ sl.length ∧ k ≤ (irP sl k).1 ∧ ∀ l, (irP sl k).2 = some l → AllS sl → AllS l ∧ l.length ≤ sl.length := by
  unfold irP
  split
  · rename_i hx
    have hk := (List.getElem?_eq_some_iff.1 hx).1
    have := irf_le sl (sl.length - (k + 1)) (k + 1) [] (by omega)
    exact ⟨this.1, by omega, fun l hl hs => by obtain ⟨a, b⟩ := this.2.2 l hl allS_nil hs; exact ⟨a, by simp at b; omega⟩⟩
  · exact ⟨h, Nat.le_refl _, fun l hl => by cases hl⟩
theorem qf_le (sl : List Int) : ∀ (f p : Nat) (acc : List Int), p ≤ sl.length → (qf sl f p acc).1 ≤ sl.length ∧ p ≤ (qf sl f p acc).1 ∧ ∀ l, (qf sl f p acc).2 = some l → AllS acc → AllS sl → AllS l ∧ l.length ≤ acc.length + f
  | 0, p, acc, h => ⟨h, Nat.le_refl _, fun l hl => by cases hl⟩
  | f + 1, p, acc, h => by
    unfold qf
    cases hx : sl[p]? with
    | none => exact ⟨h, Nat.le_refl _, fun l hl => by cases hl⟩
    | some c =>
      have hp := (List.getElem?_eq_some_iff.1 hx).1
      dsimp only
      split
      · exact ⟨hp, by dsimp only; omega, fun l hl ha _ => by simp at hl; subst hl; exact ⟨ha, by omega⟩⟩
      split
      · exact ⟨h, Nat.le_refl _, fun l hl => by cases hl⟩
      split
      · have hn := ef_le sl (p + 1) (by omega)
        cases ho : (ef sl (p + 1)).2 with
        | none => exact ⟨hn.1, by dsimp only; omega, fun l hl => by cases hl⟩
        | some n =>
          have ih := qf_le sl f (ef sl (p + 1)).1 (acc ++ [n]) hn.1
          refine ⟨ih.1, by dsimp only; omega, fun l hl ha hs => ?_⟩
          have hsn := ef_sgn sl (p + 1) n ho
          obtain ⟨a, b⟩ := ih.2.2 l hl (fun x hx => by
            rcases List.mem_append.1 hx with hx | hx
            · exact ha x hx
            · simp at hx; subst hx; exact hsn) hs
          exact ⟨a, by simp at b; omega⟩
      · have ih := qf_le sl f (p + 1) (acc ++ [c]) (by omega)
        refine ⟨ih.1, by omega, fun l hl ha hs => ?_⟩
        obtain ⟨a, b⟩ := ih.2.2 l hl (fun x hx' => by
            rcases List.mem_append.1 hx' with hx' | hx'
            · exact ha x hx'
            · simp at hx'; subst hx'; exact hs x (List.mem_of_getElem? hx)) hs
        exact ⟨a, by simp at b; omega⟩
theorem qd_le (sl : List Int) (k : Nat) (h : k ≤ sl.length) : (qd sl k).1 ≤ sl.length ∧ k ≤ (qd sl k).1 ∧ ∀ l, (qd sl k).2 = some l → AllS sl → AllS l ∧ l.length ≤ sl.length := by
  unfold qd
  split
  · rename_i hx
    have hk := (List.getElem?_eq_some_iff.1 hx).1
    have := qf_le sl (sl.length - (k + 1)) (k + 1) [] (by omega)
    exact ⟨this.1, by omega, fun l hl hs => by obtain ⟨a, b⟩ := this.2.2 l hl allS_nil hs; exact ⟨a, by simp at b; omega⟩⟩
  · exact ⟨h, Nat.le_refl _, fun l hl => by cases hl⟩
theorem wmL_le (ms l : List Int) : (wmL ms l).length ≤ l.length := takeWhile_len _ _
theorem mem_takeWhile {f : Int → Bool} {n : Int} : ∀ {l : List Int}, n ∈ l.takeWhile f → n ∈ l
  | [], h => h
  | m :: l, h => by
    rw [List.takeWhile_cons] at h
    split at h
    · rcases List.mem_cons.1 h with rfl | h
      · exact List.mem_cons_self
      · exact List.mem_cons_of_mem _ (mem_takeWhile h)
    · cases h
theorem wmL_all {ms l : List Int} (h : AllS l) : AllS (wmL ms l) := fun n hn => h n (mem_takeWhile hn)
theorem AllS.drop {l : List Int} (h : AllS l) (k : Nat) : AllS (l.drop k) := fun n hn => h n (List.mem_of_mem_drop hn)
/-- A text of so many signs isn't long. -/
theorem text_size (l : List Int) : (textOf l).size ≤ 4 * l.length := by
  have := (encL_len l).2
  rw [Lib.size_eq, textOf_list]; exact this
/-- What is read is of texts of signs, none long. -/
def Tm.soft (N : Nat) (t : Tm) : Prop := (t.ta.size ≤ 4 * N ∧ t.tb.size ≤ 4 * N + 100 ∧ t.tc.size ≤ 4 * N) ∧ t.kind < 3
theorem tailP_le (sl l : List Int) (p : Nat) (h : p ≤ sl.length) (hl : l.length ≤ sl.length) (hs : AllS sl) : (tailP sl l p).1 ≤ sl.length ∧ p ≤ (tailP sl l p).1 ∧ ∀ t, (tailP sl l p).2 = some t → t.soft sl.length := by
  have z1 := text_size l
  unfold tailP
  split
  · rename_i hx
    have hk := (List.getElem?_eq_some_iff.1 hx.2).1
    have hi := irP_le sl (p + 2) (by omega)
    refine ⟨hi.1, by dsimp only; omega, fun t ht => ?_⟩
    cases ho : (irP sl (p + 2)).2 with
    | none => rw [ho] at ht; cases ht
    | some u =>
      rw [ho] at ht
      simp at ht
      subst ht
      have hu := (hi.2.2 u ho hs).2
      have := text_size u
      exact ⟨⟨by simp only [Tm.ta]; omega, by simp only [Tm.tb]; omega, by simp only [Tm.tc]; exact Nat.zero_le _⟩, by simp only [Tm.kind]; decide⟩
  split
  · rename_i hx
    have hk := (List.getElem?_eq_some_iff.1 hx).1
    have hw := wmL_le msL (sl.drop (p + 1))
    rw [List.length_drop] at hw
    refine ⟨by dsimp only; omega, by dsimp only; omega, fun t ht => ?_⟩
    simp at ht
    subst ht
    have := text_size (wmL msL (sl.drop (p + 1)))
    exact ⟨⟨by simp only [Tm.ta]; omega, by simp only [Tm.tb]; exact Nat.le_trans (show XL.size ≤ 100 by decide) (by omega), by simp only [Tm.tc]; omega⟩, by simp only [Tm.kind]; decide⟩
  · refine ⟨h, Nat.le_refl _, fun t ht => ?_⟩
    simp at ht
    subst ht
    exact ⟨⟨by simp only [Tm.ta]; omega, by simp only [Tm.tb]; exact Nat.le_trans (show XS.size ≤ 100 by decide) (by omega), Nat.zero_le _⟩, by simp only [Tm.kind]; decide⟩
theorem formP_le (sl : List Int) (k : Nat) (h : k ≤ sl.length) (hs : AllS sl) : (formP sl k).1 ≤ sl.length ∧ k ≤ (formP sl k).1 ∧ ∀ t, (formP sl k).2 = some t → t.soft sl.length ∧ k < (formP sl k).1 := by
  unfold formP
  split
  · rename_i hx
    have hi := irP_le sl k h
    refine ⟨hi.1, hi.2.1, fun t ht => ?_⟩
    cases ho : (irP sl k).2 with
    | none => rw [ho] at ht; cases ht
    | some u =>
      rw [ho] at ht
      simp at ht
      subst ht
      have hu := (hi.2.2 u ho hs).2
      have := text_size u
      refine ⟨⟨⟨by simp only [Tm.ta]; omega, Nat.zero_le _, Nat.zero_le _⟩, by simp only [Tm.kind]; decide⟩, ?_⟩
      have hk := (List.getElem?_eq_some_iff.1 hx).1
      have := (irf_le sl (sl.length - (k + 1)) (k + 1) [] (by omega)).2.1
      show k < (irP sl k).1
      unfold irP
      rw [if_pos hx]; omega
  split
  · rename_i hx
    have hq := qd_le sl k h
    have hk := (List.getElem?_eq_some_iff.1 hx).1
    have hlt : k < (qd sl k).1 := by
      have := (qf_le sl (sl.length - (k + 1)) (k + 1) [] (by omega)).2.1
      unfold qd
      rw [if_pos hx]; omega
    unfold litP
    cases ho : (qd sl k).2 with
    | none => exact ⟨hq.1, hq.2.1, fun t ht => by cases ht⟩
    | some l =>
      have ht := tailP_le sl l (qd sl k).1 hq.1 ((hq.2.2 l ho hs).2) hs
      exact ⟨ht.1, by dsimp only; omega, fun t h => ⟨ht.2.2 t h, by dsimp only; omega⟩⟩
  split
  · rename_i hx
    have hk := (List.getElem?_eq_some_iff.1 hx).1
    split
    · rename_i hy
      have hk2 := (List.getElem?_eq_some_iff.1 hy).1
      have hw := wmL_le msB (sl.drop (k + 2))
      rw [List.length_drop] at hw
      refine ⟨by dsimp only; omega, by dsimp only; omega, fun t ht => ?_⟩
      simp at ht
      subst ht
      have := text_size (wmL msB (sl.drop (k + 2)))
      exact ⟨⟨⟨by simp only [Tm.ta]; omega, Nat.zero_le _, Nat.zero_le _⟩, by simp only [Tm.kind]; decide⟩, by dsimp only; omega⟩
    · exact ⟨by dsimp only; omega, by dsimp only; omega, fun t ht => by cases ht⟩
  · exact ⟨h, Nat.le_refl _, fun t ht => by cases ht⟩
theorem Tm.soft.few {N : Nat} {t : Tm} (h : t.soft N) (hN : N ≤ 100000) : t.few := ⟨by have := h.1.1; omega, by have := h.1.2.1; omega, by have := h.1.2.2; omega⟩
theorem readP_le (sl : List Int) (k : Nat) (h : k ≤ sl.length) (hs : AllS sl) : (readP sl k).2.1 ≤ sl.length ∧ k ≤ (readP sl k).2.1 ∧ ∀ t, (readP sl k).1 = some t → t.soft sl.length ∧ k < (readP sl k).2.1 ∧ goodT t = true ∧ (readP sl k).2.2 = 0 := by
  have hf := formP_le sl k h hs
  unfold readP
  cases ho : (formP sl k).2 with
  | none => exact ⟨hf.1, hf.2.1, fun t ht => by cases ht⟩
  | some t =>
    dsimp only
    by_cases hg : goodT t = true
    · rw [if_pos hg]
      refine ⟨hf.1, hf.2.1, fun u hu => ?_⟩
      simp at hu
      subst hu
      exact ⟨(hf.2.2 t ho).1, (hf.2.2 t ho).2, hg, rfl⟩
    · rw [if_neg hg]
      exact ⟨h, Nat.le_refl _, fun u hu => by cases hu⟩
end Go.Proofs.YtcllamipcgbfiaaDoor

/-
  THE DOCUMENT's signs as a slice of ints; 'Stands'; its Text and Quoted of such a slice.
-/
namespace Go.Proofs.YtcllamipcgbfiaaDoor
open Go.RowKit
set_option linter.unusedVariables false

theorem ints_open {B : Nat} {w : World} {v : Value} {l : List Int} (h : Ints B w v l) : ∃ ao cap, v = .slice ao l.length cap ∧
    (0 < l.length → ∃ g, ao = some ⟨g, 0, none⟩ ∧ g < w.heap.size ∧ ∀ (j : Nat) (x : Int), l[j]? = some x → w.cell? ⟨g, 0 + j, none⟩ = some (.int .i64 x)) := by
  rcases id h.2 with ⟨hv, h0⟩ | ⟨g, cap, cur, hv, _⟩
  · exact ⟨none, 0, by rw [hv, h0], fun hp => by omega⟩
  · refine ⟨_, cap, hv, fun _ => ⟨g, rfl, (World.ownsRow.lt h g (by rw [hv]; rfl)).2, ?_⟩⟩
    intro j x hx
    subst hv
    have := World.ownsRow.cells h (g := g) rfl j (.int .i64 x) (by simp [intRow, hx])
    rw [addr_add] at this
    rw [Nat.zero_add]
    exact this
theorem text_ints {B : Nat} {W : World} {v : Value} {l : List Int} (h : Ints B W v l) (hall : AllS l) (hl : l.length ≤ 1000000) :
    Calls Tryd.prog 62 #[v] W fun e w' => e = .returned (.string (textOf l)) ∧ Below W.heap.size W w' := by
  obtain ⟨ao, cap, rfl, hc⟩ := ints_open h
  by_cases h0 : 0 < l.length
  · obtain ⟨g, rfl, hlt, hcell⟩ := hc h0
    exact text_any l hall hl _ g 0 cap W (fun _ => ⟨rfl, hlt⟩) hcell
  · obtain rfl : l = [] := List.length_eq_zero_iff.1 (by omega)
    exact text_any [] hall hl ao 0 0 cap W (fun hp => absurd hp (by simp)) (fun j x hx => by simp at hx)
/-- The document's signs, wherever they lie. -/
def Lv (W : World) (A : Option Addr) (sl : List Int) : Prop := 0 < sl.length → ∃ g o, A = some ⟨g, o, none⟩ ∧ g < W.heap.size ∧ ∀ (j : Nat) (x : Int), sl[j]? = some x → W.cell? ⟨g, o + j, none⟩ = some (.int .i64 x)
theorem Lv.below {B : Nat} {w w' : World} {A : Option Addr} {sl : List Int} (h : Lv w A sl) (hb : Below B w w') (hB : w.heap.size ≤ B) : Lv w' A sl := fun h0 => by
  obtain ⟨g, o, h1, h2, h3⟩ := h h0
  exact ⟨g, o, h1, Nat.lt_of_lt_of_le h2 hb.size, fun j x hx => (hb.cell (p := ⟨g, o + j, none⟩) (Nat.lt_of_lt_of_le h2 hB)).trans (h3 j x hx)⟩
theorem Lv.of {B : Nat} {w : World} {A : Option Addr} {c : Nat} {sl : List Int} (h : Ints B w (.slice A sl.length c) sl) : Lv w A sl := fun h0 => by
  obtain ⟨ao, cap, hv, hc⟩ := ints_open h
  cases hv
  obtain ⟨g, e, h1, h2⟩ := hc h0
  exact ⟨g, 0, e, h1, h2⟩
theorem rquoted_lv {W : World} {A : Option Addr} {sl : List Int} {cap : Nat} (h : Lv W A sl) (k : Nat) (hl : sl.length ≤ 100000) :
    Calls Tryd.prog 61 #[.slice A sl.length cap, .int .i64 k] W (QxPost W.heap.size W (qd sl k)) := by
  by_cases hk : k < sl.length
  · obtain ⟨g, o, rfl, hlt, hcell⟩ := h (by omega)
    exact rquoted_at sl k hk hl g o cap W hlt hcell
  · exact rquoted_far sl k (by omega) A cap W
set_option maxHeartbeats 2000000 in
theorem stands_any {W : World} {A : Option Addr} {sl : List Int} {cap : Nat} (h : Lv W A sl) (p : Nat) (c : Int) (h0 : 0 ≤ c) (h1 : c ≤ 255) (hl : sl.length ≤ 100000) :
    Calls Tryd.prog 58 #[.slice A sl.length cap, .int .i64 p, .int .u8 c] W fun e w' => e = .returned (.bool (decide (sl[p]? = some c))) ∧ W = w' := by
  by_cases hp : p < sl.length
  · obtain ⟨g, o, rfl, hlt, hcell⟩ := h (by omega)
    obtain ⟨x, hx⟩ : ∃ x, sl[p]? = some x := ⟨_, List.getElem?_eq_getElem hp⟩
    have hc := hcell p x hx
    have k1 : (p : Int) < (sl.length : Int) := by omega
    have k2 : (0 : Int) ≤ (p : Int) := by omega
    have hw : IntKind.i64.wrap c = c := IntWalk.i64_in _ (by omega)
    have hr : decide (sl[p]? = some c) = (x == c) := by
      rw [hx, Bool.eq_iff_iff, decide_eq_true_eq, beq_iff_eq, Option.some.injEq]
    have HR := Lib.hid hr
    clear hcell hx hr h h0 h1 hp
    go_enter Tryd.func58, Tryd.ntmps58
    go_wp2
    go_ret
    exact ⟨ret_bool (by rw [HR.out]), rfl⟩
  · have k1 : ¬ (p : Int) < (sl.length : Int) := by omega
    have hr : decide (sl[p]? = some c) = false := by rw [List.getElem?_eq_none (by omega)]; rfl
    have HR := Lib.hid hr
    clear hr h hp
    go_enter Tryd.func58, Tryd.ntmps58
    go_wp2
    go_ret
    exact ⟨ret_bool HR.out.symm, rfl⟩
end Go.Proofs.YtcllamipcgbfiaaDoor
