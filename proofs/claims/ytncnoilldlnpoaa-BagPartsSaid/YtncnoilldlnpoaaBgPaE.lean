/-
  BagParts: the bag, its contents, the row of both parts.
-/
import Derived.Test.YtncnoilldlnpoaaBgPaL
namespace Go.Proofs.Ytncnoilldlnpoaa
open Go.RowKit Go.Lib
set_option linter.unusedVariables false
set_option linter.unusedSimpArgs false
set_option maxRecDepth 100000

def OneS (w1 : World) (d n : Nat) (wr : World) : Prop := ∃ M F, Bo w1.heap.size d 100 n M F wr ∧ M.length ≤ n ∧ Below w1.heap.size w1 wr
theorem one_start (w1 : World) : OneS w1 (w1.heap.size + 1) 0 (newW w1 100) := by
  obtain ⟨F, a1, a2⟩ := new_bo (B := w1.heap.size) (W := w1) (room := 100) (Nat.le_refl _)
  exact ⟨[], F, a1, Nat.le_refl _, new_below w1 100⟩
theorem OneS.bl {w1 wr : World} {d n : Nat} (h : OneS w1 d n wr) : Below w1.heap.size w1 wr := by
  obtain ⟨_, _, _, _, h⟩ := h
  exact h
theorem one_round {w1 wr : World} {d n : Nat} (h : OneS w1 d n wr) (hn : n ≤ 40) (o : Obj) (x : Int) (k : Ky) :
    Calls Try.prog 8 #[.pointer (some ⟨d, 0, none⟩), .int .i64 x, kE k] (wr.alloc o) fun e w5 => (∃ c : Int, e = .returned (.int .i64 c)) ∧ OneS w1 d (n + 1) w5 := by
  obtain ⟨M, F, h1, h2, h3⟩ := h
  have hb : Below wr.heap.size wr (wr.alloc o) := (Below.refl _ _).alloc (Nat.le_refl _) o
  have h4 : Below w1.heap.size w1 (wr.alloc o) := h3.alloc h3.size o
  refine (bo_add (h1.below hb) h4.size (by omega) (by omega) x k).mono ?_
  rintro e w5 ⟨rfl, F', a1, a2, a3⟩
  refine ⟨⟨_, rfl⟩, _, F', a1, ?_, a2.below h1.ge h4.size h4⟩
  unfold addM
  split
  · exact Nat.le_succ_of_le h2
  · split
    · exact Nat.le_succ_of_le h2
    · simp; omega
/-- A row of entries that stays as it is. -/
def RowF (w : World) (v : Value) (L : List (Ky × Nat)) : Prop := ∃ A c, v = .slice A L.length c ∧ ∀ w', Below w.heap.size w w' → ∀ (j : Nat) (x : Ky × Nat), L[j]? = some x → ∃ g, A = some ⟨g, 0, none⟩ ∧
  w'.cell? ⟨g, j * 4, none⟩ = some (.int .i64 x.1.1) ∧ w'.cell? ⟨g, j * 4 + 1, none⟩ = some (.int .i64 x.1.2.1) ∧ w'.cell? ⟨g, j * 4 + 2, none⟩ = some (.int .i64 x.1.2.2) ∧ w'.cell? ⟨g, j * 4 + 3, none⟩ = some (.int .i64 (x.2 : Int))
theorem below_cell {w w' : World} {a : Addr} {x : Value} (h : w.cell? a = some x) (hb : Below w.heap.size w w') : w'.cell? a = some x := (hb.cell (World.block_lt_of_cell? _ _ h)).trans h
theorem row_f {B : Nat} {w : World} {v : Value} {l : List (Ky × Nat)} (h : w.ownsRow B 41 4 v l.length (l.flatMap entC)) : RowF w v l := by
  obtain ⟨A, c, e, hc⟩ := row_en h
  refine ⟨A, c, e, fun w' hb j x hj => ?_⟩
  obtain ⟨g, e2, h4⟩ := hc j x hj
  exact ⟨g, e2, below_cell (h4 0 (by omega)) hb, below_cell (h4 1 (by omega)) hb, below_cell (h4 2 (by omega)) hb, below_cell (h4 3 (by omega)) hb⟩
theorem row_below {B : Nat} {w w' : World} {v : Value} {n z : Nat} {xs : List Value} (h : w.ownsRow B 41 z v n xs) (hb : Below w.heap.size w w') : w'.ownsRow B 41 z v n xs :=
  ⟨h.1, h.2.imp id fun ⟨g, cap, cur, e, hge, hg, r⟩ => ⟨g, cap, cur, e, hge, (hb.block g (Array.getElem?_eq_some_iff.1 hg).1).trans hg, r⟩⟩
/-- What the three contents are, and what the row of the parts is then. -/
def PaQ (w1 w5 : World) (v3 v4 v5 : Value) : Prop := ∃ (L N P Q : List (Ky × Nat)) (B4 B5 : Nat), w5.ownsRow B4 41 4 v4 P.length (P.flatMap entC) ∧ w5.ownsRow B5 41 4 v5 Q.length (Q.flatMap entC) ∧ B4 ≤ w5.heap.size ∧ P.length + Q.length ≤ 100 ∧ L.length ≤ 40 ∧
  (∀ v6 w6, w6.ownsRow B4 41 4 v6 (P.length + Q.length) (P.flatMap entC ++ Q.flatMap entC) → w5.grownBy w6 v4.ownBlock → RowF w6 v3 L ∧ RowF w6 v6 N ∧ Below w1.heap.size w1 w6) ∧
  (∀ p ∈ L, cntL N p.1 = p.2) ∧ sumN L = sumN N ∧ sumN L ≤ 40 ∧ N.length ≤ 100
theorem pa_end {w1 wr : World} {d n : Nat} (h : OneS w1 d n wr) (hn : n ≤ 40) {a b c : Int} (h1 : a ≤ b) (h2 : b ≤ c) :
    Calls Try.prog 10 #[.pointer (some ⟨d, 0, none⟩), .agg #[.int .i64 a, .int .i64 c]] wr fun e w3 => ∃ v3, e = .returned v3 ∧ (∃ A n c, v3 = .slice A n c) ∧
      Calls Try.prog 10 #[.pointer (some ⟨d, 0, none⟩), .agg #[.int .i64 a, .int .i64 b]] w3 fun e w4 => ∃ v4, e = .returned v4 ∧ (∃ A n c, v4 = .slice A n c) ∧
        Calls Try.prog 10 #[.pointer (some ⟨d, 0, none⟩), .agg #[.int .i64 b, .int .i64 c]] w4 fun e w5 => ∃ v5, e = .returned v5 ∧ (∃ A n c, v5 = .slice A n c) ∧ PaQ w1 w5 v3 v4 v5 := by
  obtain ⟨M, F, ho, hM, hbl⟩ := h
  obtain ⟨am, v, D, k1, _⟩ := ho.ex
  refine (gcon_own k1 (by omega) a c).mono ?_
  rintro e w3 ⟨v3, L, rfl, c3, ⟨g3, p3, q3, e3⟩, b3, r3⟩
  refine ⟨v3, rfl, ⟨_, _, _, q3⟩, ?_⟩
  refine (gcon_own (k1.below b3) (by omega) a b).mono ?_
  rintro e w4 ⟨v4, P, rfl, c4, ⟨g4, p4, q4, e4⟩, b4, r4⟩
  refine ⟨v4, rfl, ⟨_, _, _, q4⟩, ?_⟩
  refine (gcon_own ((k1.below b3).below b4) (by omega) b c).mono ?_
  rintro e w5 ⟨v5, Q, rfl, c5, ⟨g5, p5, q5, e5⟩, b5, r5⟩
  obtain ⟨s1, s2, s3⟩ := parts_at h1 h2 c3 c4 c5
  have l3 := len_le_sum c3.ps
  have l4 := len_le_sum c4.ps
  have l5 := len_le_sum c5.ps
  have hPQ := sumN_app P Q
  refine ⟨v5, rfl, ⟨_, _, _, q5⟩, L, P ++ Q, P, Q, w3.heap.size, w4.heap.size, row_below r4 b5, r5, Nat.le_trans b4.size b5.size, by omega, by omega, fun v6 w6 hr hg => ?_, s1, s2, by omega, by rw [List.length_append]; omega⟩
  have hB4 : ∀ k, v4.ownBlock = some k → w3.heap.size ≤ k := fun k hk => by
    rcases id r4.2 with ⟨e, _⟩ | ⟨g, cap, cur, e, hge, _⟩
    · rw [e] at hk; cases hk
    · rw [e] at hk
      injection hk with hk
      have hk' : g = k := hk
      omega
  have hb35 : Below w3.heap.size w3 w5 := b4.trans (b5.mono b4.size)
  have hb36 : Below w3.heap.size w3 w6 := hb35.grown hg hb35.size hB4
  refine ⟨?_, ?_, ?_⟩
  · exact row_f (row_below r3 hb36)
  · have := row_f (w := w6) (v := v6) (l := P ++ Q) (B := w3.heap.size) (by rw [List.length_append, List.flatMap_append]; exact hr)
    exact this
  · have hb13 : Below w1.heap.size w1 w3 := hbl.trans (b3.mono hbl.size)
    exact hb13.trans (hb36.mono hb13.size)
end Go.Proofs.Ytncnoilldlnpoaa
