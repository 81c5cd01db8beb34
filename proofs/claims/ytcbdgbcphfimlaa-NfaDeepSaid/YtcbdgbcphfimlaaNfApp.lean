/-
  append to nothing: a new row.
-/
import Derived.Test.YtcbdgbcphfimlaaNfOrd
namespace Go.Proofs.Ytcbdgbcphfimlaa
open Go.RowKit
set_option linter.unusedVariables false
set_option linter.unusedSimpArgs false
set_option maxRecDepth 100000

theorem info_parts {e : TypeId} {x : Option Value × Nat × Nat} (h : (Try.prog.info? e).map (fun i => (i.zero, i.size, i.bytes)) = some x) : ∃ i, Try.prog.info? e = some i ∧ i.zero = x.1 ∧ i.size = x.2.1 ∧ i.bytes = x.2.2 := by
  cases hi : Try.prog.info? e with
  | none => rw [hi] at h; cases h
  | some i =>
    rw [hi] at h
    simp only [Option.map_some, Option.some.injEq] at h
    exact ⟨i, rfl, by rw [← h], by rw [← h], by rw [← h]⟩
theorem nfInt : (Try.prog.info? 3).map (fun i => (i.zero, i.size, i.bytes)) = some (some (.int .i64 0), 1, 8) := by kernel_rfl
theorem nfMove : (Try.prog.info? 85).map (fun i => (i.zero, i.size, i.bytes)) = some (some (.agg #[.int .i64 0, .bool false, .int .i64 0]), 3, 24) := by kernel_rfl
theorem nfState : (Try.prog.info? 74).map (fun i => (i.zero, i.size, i.bytes)) = some (some (.agg #[.slice none 0 0, .bool false]), 2, 32) := by kernel_rfl
/-- A row with something in it, where it lies. -/
theorem own_at {B : Nat} {w : World} {e : TypeId} {size n : Nat} {v : Value} {xs : List Value} (h : w.ownsRow B e size v n xs) (hn : n ≠ 0) : ∃ g c, v = .slice (some ⟨g, 0, none⟩) n c ∧ n ≤ c ∧ B ≤ g ∧ g < w.heap.size ∧ ∀ j u, xs[j]? = some u → w.cell? ⟨g, j, none⟩ = some u := by
  rcases id h.2 with ⟨_, h0⟩ | ⟨g, cap, cur, hv, hB, hg, hc, _⟩
  · exact absurd h0 hn
  · refine ⟨g, cap, hv, hc, hB, (Array.getElem?_eq_some_iff.1 hg).1, fun j u hj => ?_⟩
    have := h.cells (g := g) (by rw [hv]; rfl) j u hj
    rwa [at_add, Nat.zero_add] at this
theorem app_ints1 (B : Nat) (w : World) (hB : B ≤ w.heap.size) (x : Int) : ∃ g c w', (Builtin.append_ #[52, 52] 52 #[.slice none 0 0, .slice (some ⟨w.heap.size, 0, none⟩) 1 1]).run Try.prog (w.alloc (.cells #[.int .i64 x] 3)) = .ok (.slice (some ⟨g, 0, none⟩) 1 c) w' ∧
    w'.ownsRow B 3 1 (.slice (some ⟨g, 0, none⟩) 1 c) 1 [.int .i64 x] ∧ Below w.heap.size w w' ∧ w'.cell? ⟨g, 0, none⟩ = some (.int .i64 x) := by
  obtain ⟨i0, hi0, hi1, hi2, hi3⟩ := info_parts nfInt
  obtain ⟨v', w', hap, hown, hgrow, _⟩ := run_append_own (P := Try.prog) (w := w.alloc (.cells #[.int .i64 x] 3)) B 52 52 3 i0 (.int .i64 0) 1 8 Try.underlying52 hi0 hi1 hi2 hi3 rfl (by decide)
    (.slice none 0 0) 0 [] (World.ownsRow_nil _ _ _ _) ⟨w.heap.size, 0, none⟩ 1 1 [.int .i64 x] rfl (fun j u hj => by
      match j, hj with
      | 0, hj => simp at hj; subst hj; simp [Addr.add]) (fun u hu => by simp at hu; subst hu; rfl) (by unfold maxLen; omega) (by omega) (by rw [World.size_alloc]; omega)
  simp only [Nat.zero_add, List.nil_append] at hown
  obtain ⟨g, c, rfl, hc, hBg, hlt, hcell⟩ := own_at hown (by omega)
  exact ⟨g, c, w', hap, hown, ((Below.refl w.heap.size w).alloc (Nat.le_refl _) _).grown hgrow (by simp) (fun k hk => by cases hk), hcell 0 _ rfl⟩
/-- append of one move that lies at the beginning of a row. -/
theorem app_moves1 (w : World) (k c0 : Nat) (N : Int) (h0 : w.cell? ⟨k, 0, none⟩ = some (.int .i64 N)) (h1 : w.cell? ⟨k, 1, none⟩ = some (.bool false)) (h2 : w.cell? ⟨k, 2, none⟩ = some (.int .i64 1)) :
    ∃ g c w', (Builtin.append_ #[68, 68] 68 #[.slice none 0 0, .slice (some ⟨k, 0, none⟩) 1 c0]).run Try.prog w = .ok (.slice (some ⟨g, 0, none⟩) 1 c) w' ∧ 1 ≤ c ∧ w.heap.size ≤ g ∧ g < w'.heap.size ∧ Below w.heap.size w w' ∧
      w'.cell? ⟨g, 0, none⟩ = some (.int .i64 N) ∧ w'.cell? ⟨g, 1, none⟩ = some (.bool false) ∧ w'.cell? ⟨g, 2, none⟩ = some (.int .i64 1) := by
  obtain ⟨i0, hi0, hi1, hi2, hi3⟩ := info_parts nfMove
  obtain ⟨v', w', hap, hown, hgrow, _⟩ := run_append_own (P := Try.prog) (w := w) w.heap.size 68 68 85 i0 (.agg #[.int .i64 0, .bool false, .int .i64 0]) 3 24 Try.underlying68 hi0 hi1 hi2 hi3 (by decide) (by decide)
    (.slice none 0 0) 0 [] (World.ownsRow_nil _ _ _ _) ⟨k, 0, none⟩ 1 c0 [.int .i64 N, .bool false, .int .i64 1] rfl (fun j u hj => by
      rw [at_add, Nat.zero_add]
      match j, hj with
      | 0, hj => simp at hj; subst hj; exact h0
      | 1, hj => simp at hj; subst hj; exact h1
      | 2, hj => simp at hj; subst hj; exact h2) (fun u hu => by simp at hu; rcases hu with rfl | rfl | rfl <;> rfl) (by unfold maxLen; omega) (by omega) (Nat.le_refl _)
  simp only [Nat.zero_add, List.nil_append] at hown
  obtain ⟨g, c, rfl, hc, hBg, hlt, hcell⟩ := own_at hown (by omega)
  exact ⟨g, c, w', hap, hc, hBg, hlt, (Below.refl w.heap.size w).grown hgrow (Nat.le_refl _) (fun k hk => by cases hk), hcell 0 _ rfl, hcell 1 _ rfl, hcell 2 _ rfl⟩
end Go.Proofs.Ytcbdgbcphfimlaa
