/-
  WHAT FITS A PATTERN STANDS TOGETHER (plain).
-/
import Derived.Test.YtoiigplflmejmaaSYield
import Derived.Test.YtoiigplflmejmaaSFits
import Derived.Test.YtoiigplflmejmaaSOrder
namespace Go.Proofs.Ytoiigplflmejmaa
open Go.RowKit
set_option linter.unusedVariables false
set_option linter.unusedSimpArgs false

def fitK (p : Kt) (k : Kt) : Bool := fit3 p.a p.b p.c k.a k.b k.c
def ordK (p : Kt) : Int := ordP p.a p.b p.c
def leastK (p : Kt) : Kt := ⟨max p.a 0, max p.b 0, max p.c 0⟩
theorem fitK_iff {p k : Kt} : fitK p k = true ↔ (p.a < 0 ∨ p.a = k.a) ∧ (p.b < 0 ∨ p.b = k.b) ∧ (p.c < 0 ∨ p.c = k.c) := by
  unfold fitK fit3 fit1
  simp [and_assoc]
theorem ordK_cases (p : Kt) : (ordK p = 1 ∧ 0 ≤ p.b ∧ p.a < 0) ∨ (ordK p = 2 ∧ ¬ (0 ≤ p.b ∧ p.a < 0) ∧ 0 ≤ p.c ∧ p.b < 0) ∨ (ordK p = 0 ∧ ¬ (0 ≤ p.b ∧ p.a < 0) ∧ ¬ (0 ≤ p.c ∧ p.b < 0)) := by
  unfold ordK ordP
  by_cases h1 : 0 ≤ p.b ∧ ¬ 0 ≤ p.a
  · rw [if_pos h1]; left; omega
  · rw [if_neg h1]
    by_cases h2 : 0 ≤ p.c ∧ ¬ 0 ≤ p.b
    · rw [if_pos h2]; right; left; omega
    · rw [if_neg h2]; right; right; omega
theorem ltK_iff1 {x y : Kt} : ltK 1 x y = true ↔ x.b < y.b ∨ (x.b = y.b ∧ (x.c < y.c ∨ (x.c = y.c ∧ x.a < y.a))) := by
  unfold ltK lsB; rw [if_pos rfl, lx_iff]
theorem ltK_iff2 {x y : Kt} : ltK 2 x y = true ↔ x.c < y.c ∨ (x.c = y.c ∧ (x.a < y.a ∨ (x.a = y.a ∧ x.b < y.b))) := by
  unfold ltK lsB; rw [if_neg (by decide), if_pos rfl, lx_iff]
theorem ltK_iff0 {x y : Kt} : ltK 0 x y = true ↔ x.a < y.a ∨ (x.a = y.a ∧ (x.b < y.b ∨ (x.b = y.b ∧ x.c < y.c))) := by
  unfold ltK lsB; rw [if_neg (by decide), if_neg (by decide), lx_iff]
theorem not_t {b : Bool} (h : b = false) : ¬ b = true := by rw [h]; decide
/-- Between the least and one that fits all fit. -/
theorem fit_between {p y k : Kt} (hf : fitK p k = true) (h1 : ltK (ordK p) y (leastK p) = false) (h2 : ltK (ordK p) k y = false) : fitK p y = true := by
  rw [fitK_iff] at hf ⊢
  have e1 := not_t h1
  have e2 := not_t h2
  unfold leastK at e1
  rcases ordK_cases p with ⟨ho, h⟩ | ⟨ho, h⟩ | ⟨ho, h⟩ <;> rw [ho] at e1 e2
  · rw [ltK_iff1] at e1 e2; dsimp only at e1 e2; omega
  · rw [ltK_iff2] at e1 e2; dsimp only at e1 e2; omega
  · rw [ltK_iff0] at e1 e2; dsimp only at e1 e2; omega
/-- One that fits isn't ahead of the least. -/
theorem fit_least {p k : Kt} (hf : fitK p k = true) (h0 : 0 ≤ k.a ∧ 0 ≤ k.b ∧ 0 ≤ k.c) : ltK (ordK p) k (leastK p) = false := by
  rw [fitK_iff] at hf
  cases hq : ltK (ordK p) k (leastK p) with
  | false => rfl
  | true =>
    exfalso
    unfold leastK at hq
    rcases ordK_cases p with ⟨ho, h⟩ | ⟨ho, h⟩ | ⟨ho, h⟩ <;> rw [ho] at hq
    · rw [ltK_iff1] at hq; dsimp only at hq; omega
    · rw [ltK_iff2] at hq; dsimp only at hq; omega
    · rw [ltK_iff0] at hq; dsimp only at hq; omega
theorem tw_mem {α : Type} {f : α → Bool} : ∀ {l : List α} {m : Nat} {x : α}, l[m]? = some x → (∀ j y, j ≤ m → l[j]? = some y → f y = true) → x ∈ l.takeWhile f
  | [], m, x, h, _ => by simp at h
  | y :: l, 0, x, h, hf => by
    obtain rfl : y = x := by simpa using h
    rw [List.takeWhile_cons, if_pos (hf 0 y (Nat.le_refl _) rfl)]
    exact List.mem_cons_self
  | y :: l, m + 1, x, h, hf => by
    rw [List.takeWhile_cons, if_pos (hf 0 y (Nat.zero_le _) rfl)]
    exact List.mem_cons_of_mem _ (tw_mem (by simpa using h) (fun j z hj hz => hf (j + 1) z (by omega) (by simpa using hz)))
/-- What is told: from the first one not ahead of the least on, as long as they fit. -/
def toldK (l : List Kt) (i : Nat) (p : Kt) : List Kt := (l.drop i).takeWhile (fitK p)
theorem told_mem {p k : Kt} {l : List Kt} {i : Nat} (hs : Rs (ordK p) l) (hi : SeaAt (notA (ordK p) l (leastK p)) l.length i) (h0 : 0 ≤ k.a ∧ 0 ≤ k.b ∧ 0 ≤ k.c) : k ∈ toldK l i p ↔ k ∈ l ∧ fitK p k = true := by
  constructor
  · intro h
    exact ⟨List.mem_of_mem_drop (List.IsPrefix.subset (List.takeWhile_prefix _) h), by
      have := List.all_takeWhile (p := fitK p) (l := l.drop i)
      rw [List.all_eq_true] at this
      exact this k h⟩
  · rintro ⟨hm, hf⟩
    obtain ⟨t, ht⟩ := List.getElem?_of_mem hm
    have htl := (List.getElem?_eq_some_iff.1 ht).1
    obtain ⟨s1, s2, s3⟩ := hi
    have hti : i ≤ t := by
      rcases Nat.lt_or_ge t i with e | e
      · have := s2 t e
        rw [notA_at ht, fit_least hf h0] at this
        cases this
      · exact e
    refine tw_mem (m := t - i) (by rw [List.getElem?_drop, show i + (t - i) = t by omega]; exact ht) fun j y hj hy => ?_
    rw [List.getElem?_drop] at hy
    have hyl := (List.getElem?_eq_some_iff.1 hy).1
    have hn := s3 (i + j) (by omega) hyl
    rw [notA_at hy] at hn
    refine fit_between hf (by simpa using hn) ?_
    rcases Nat.lt_or_ge (i + j) t with e | e
    · have hlt := hs.at hy ht e
      cases hq : ltK (ordK p) k y with
      | false => rfl
      | true => have := ltK_tr hlt hq; rw [ltK_irr] at this; cases this
    · have e2 : i + j = t := by omega
      rw [e2, ht] at hy
      injection hy with hy
      rw [hy]
      exact ltK_irr _ _
theorem Rs.nodup {n : Int} {l : List Kt} (h : Rs n l) : l.Nodup := h.imp fun {x y} hxy e => by rw [e, ltK_irr] at hxy; cases hxy
theorem told_nodup {p : Kt} {l : List Kt} {i : Nat} (hs : Rs (ordK p) l) : (toldK l i p).Nodup := (hs.nodup.sublist (List.drop_sublist _ _)).sublist (List.takeWhile_sublist _)
theorem nodup_count : ∀ {l : List Kt} {k : Kt}, l.Nodup → k ∈ l → l.count k = 1
  | [], k, _, h => by cases h
  | y :: l, k, hn, h => by
    rw [List.nodup_cons] at hn
    rcases List.mem_cons.1 h with rfl | h
    · rw [List.count_cons_self, List.count_eq_zero_of_not_mem hn.1]
    · rw [List.count_cons_of_ne (fun e => hn.1 (by first | (rw [e]; exact h) | (rw [← e]; exact h) | (have e2 := eq_of_beq e; rw [e2]; exact h))), nodup_count hn.2 h]
/-- A key is told once just if it is there and fits. -/
theorem told_count {p k : Kt} {l : List Kt} {i : Nat} (hs : Rs (ordK p) l) (hi : SeaAt (notA (ordK p) l (leastK p)) l.length i) (h0 : 0 ≤ k.a ∧ 0 ≤ k.b ∧ 0 ≤ k.c) (hf : fitK p k = true) : (toldK l i p).count k = if k ∈ l then 1 else 0 := by
  by_cases hm : k ∈ l
  · rw [if_pos hm, nodup_count (told_nodup hs) ((told_mem hs hi h0).2 ⟨hm, hf⟩)]
  · rw [if_neg hm, List.count_eq_zero_of_not_mem (fun h => hm ((told_mem hs hi h0).1 h).1)]
end Go.Proofs.Ytoiigplflmejmaa
