/-
  MERGED (a claim has at most 60 files): NPrt, NPru.
-/
import Derived.Test.YtpnfjjgihkmjmaaZ26
/-
  A TRIPLE's TEXT; lines of triples, printed (package nt).
-/
namespace Go.Proofs.Ytpnfjjgihkmjmaa
open Go.RowKit
set_option linter.unusedVariables false
set_option linter.unusedSimpArgs false

/-- A triple's text. -/
noncomputable def lnT (a b c : Tm) : List Int := tS a ++ 32 :: (tS b ++ 32 :: (tS c ++ [32, 46]))
theorem lnS_T (a b c : Tm) : lnS [a, b, c] = lnT a b c ++ [10] := by simp [lnS, lnT]
theorem tri_text (a b c : Tm) : textOf (lnT a b c) = ((((textOf (tS a) ++ ⟨#[32]⟩) ++ textOf (tS b)) ++ ⟨#[32]⟩) ++ textOf (tS c)) ++ ⟨#[32, 46]⟩ := by
  have e : lnT a b c = ((((tS a ++ [32]) ++ tS b) ++ [32]) ++ tS c) ++ [32, 46] := by simp [lnT]
  rw [e]
  simp only [textOf_app]
  rfl
end Go.Proofs.Ytpnfjjgihkmjmaa

/-
  LINES OF TRIPLES, PRINTED (package nt).
-/
namespace Go.Proofs.Ytpnfjjgihkmjmaa
open Go.RowKit
set_option linter.unusedVariables false
set_option linter.unusedSimpArgs false

theorem flat_at {α β : Type} {f : α → List β} {n : Nat} : ∀ (l : List α) (i d : Nat) (x : α), (∀ y ∈ l, (f y).length = n) → l[i]? = some x → d < n → (l.flatMap f)[i * n + d]? = (f x)[d]?
  | [], i, d, x, _, h, _ => by simp at h
  | y :: l, 0, d, x, hl, h, hd => by
    obtain rfl : y = x := by simpa using h
    rw [List.flatMap_cons, Nat.zero_mul, Nat.zero_add, List.getElem?_append_left (by rw [hl y List.mem_cons_self]; exact hd)]
  | y :: l, i + 1, d, x, hl, h, hd => by
    have ih := flat_at l i d x (fun z hz => hl z (List.mem_cons_of_mem _ hz)) (by simpa using h) hd
    rw [List.flatMap_cons, List.getElem?_append_right (by rw [hl y List.mem_cons_self, Nat.succ_mul]; omega), hl y List.mem_cons_self, show (i + 1) * n + d - n = i * n + d by rw [Nat.succ_mul]; omega]
    exact ih
theorem trsV_at {B : Nat} {W : World} {v : Value} {L : List (List Tm)} (h : TrsV B W v L) (h3 : ∀ ts ∈ L, ts.length = 3) {i : Nat} {a b c : Tm} (hi : L[i]? = some [a, b, c]) :
    ∃ g cap, v = .slice (some ⟨g, 0, none⟩) L.length cap ∧ g < W.heap.size ∧ W.cell? ⟨g, i * 3, none⟩ = some a.val ∧ W.cell? ⟨g, i * 3 + 1, none⟩ = some b.val ∧ W.cell? ⟨g, i * 3 + 2, none⟩ = some c.val := by
  rcases id h.2 with ⟨hv, hl⟩ | ⟨g, cap, cur, hv, _⟩
  · have := (List.getElem?_eq_some_iff.1 hi).1
    omega
  · have key : ∀ d, d < 3 → ∀ u, ([a, b, c].map Tm.val)[d]? = some u → W.cell? ⟨g, i * 3 + d, none⟩ = some u := fun d hd u hu => by
      have h1 := flat_at (f := fun ts : List Tm => ts.map Tm.val) L i d _ (fun y hy => by rw [List.length_map]; exact h3 y hy) hi hd
      have := World.ownsRow.cells h (g := g) (by rw [hv]; rfl) (i * 3 + d) u (by rw [← hu]; exact h1)
      rwa [at_add, Nat.zero_add] at this
    exact ⟨g, cap, hv, (World.ownsRow.lt h g (by rw [hv]; rfl)).2, key 0 (by decide) _ rfl, key 1 (by decide) _ rfl, key 2 (by decide) _ rfl⟩
end Go.Proofs.Ytpnfjjgihkmjmaa
