/-
  Bag.in's closures: where a while begins among the times, and where it ends.
-/
import Derived.Test.YtncnoilldlnpoaaBgHas
import Derived.Test.YtncnoilldlnpoaaBgSea
import Derived.Deep.RegionHeld3
namespace Go.Proofs.Ytncnoilldlnpoaa
open Go.RowKit
set_option linter.unusedVariables false
set_option linter.unusedSimpArgs false
set_option maxRecDepth 100000

theorem cell_below {w w' : World} {a : Addr} {x : Value} (h : w.cell? a = some x) (hb : Below w.heap.size w w') : w'.cell? a = some x := by
  have hl : a.block < w.heap.size := by
    unfold World.cell? at h
    rcases Nat.lt_or_ge a.block w.heap.size with h1 | h1
    · exact h1
    · rw [Array.getElem?_eq_none_iff.2 h1] at h
      cases h
  exact (hb.cell hl).trans h
set_option maxHeartbeats 4000000 in
theorem ginA_any {W : World} {p q d g off n c i : Nat} {r0 r1 r2 : Value} {cs : Array Value} {a b x : Int} (hp : Fb W p 26 #[.pointer (some ⟨d, 0, none⟩)]) (hq : Fb W q 24 #[.int .i64 a, .int .i64 b]) (hd : Fb W d 48 #[r0, r1, r2, .slice (some ⟨g, off, none⟩) n c])
    (hg : Fb W g 3 cs) (hi : i < n) (hx : cs[off + i]? = some (.int .i64 x)) (hn : n ≤ 100000) :
    Calls Try.prog 24 #[.int .i64 i, .pointer (some ⟨p, 0, none⟩), .pointer (some ⟨q, 0, none⟩)] W fun e w' => e = .returned (.bool (decide (a ≤ x) || hasB a b x)) ∧ Below W.heap.size W w' := by
  have cH := fun W => whas_any a b x W
  unfold spv at cH
  have x0 := hp.cell 0
  have q0 := hq.cell 0
  have q1 := hq.cell 1
  have d3 := hd.cell 3
  have z1 : W.cell? ⟨g, off + i, none⟩ = some (.int .i64 x) := (hg.cell _).trans hx
  have hz0 : (0 : Int) ≤ (i : Int) := by omega
  have hz1 : (i : Int) < (n : Int) := by omega
  clear hp hq hd hg hx
  generalize hasB a b x = h at *
  by_cases hax : a ≤ x
  · rw [decide_eq_true hax, Bool.true_or]
    go_enter Try.func24, Try.ntmps24
    go_wp2
    go_quiet (fail)
    all_goals
      go_wp2
      go_ret
      exact ⟨rfl, by first | exact Below.refl _ _ | exact (Below.refl _ _).drew | exact below_drewP (Below.refl _ _) _⟩
  · rw [decide_eq_false hax, Bool.false_or]
    have d1 : decide (a ≤ x) = false := decide_eq_false hax
    have d2 : ¬ x ≥ a := hax
    have d9 : decide (x ≥ a) = false := decide_eq_false hax
    go_enter Try.func24, Try.ntmps24
    go_wp2
    go_region_held3 (fun w => w.cell? ⟨p, 0, none⟩ = some (.pointer (some ⟨d, 0, none⟩)) ∧ w.cell? ⟨d, 3, none⟩ = some (.slice (some ⟨g, off, none⟩) n c) ∧ w.cell? ⟨g, off + i, none⟩ = some (.int .i64 x) ∧ w.cell? ⟨q, 0, none⟩ = some (.int .i64 a) ∧ w.cell? ⟨q, 1, none⟩ = some (.int .i64 b))
      (first | exact ⟨x0, d3, z1, q0, q1⟩ | exact ⟨cell_below x0 hB, cell_below d3 hB, cell_below z1 hB, cell_below q0 hB, cell_below q1 hB⟩)
      (first
        | (go_at_call 25; (with_reducible refine (cH _).mono ?_); rintro e w1 ⟨rfl, hB0⟩; have hB := (Below.drew (Below.refl W.heap.size W)).trans hB0)
        | fail)
    all_goals
      go_wp2
      go_ret
      exact ⟨rfl, hB⟩
set_option maxHeartbeats 4000000 in
theorem ginB_any {W : World} {p q g off n c i : Nat} {cs : Array Value} {a b x : Int} (hp : Fb W p 46 #[.slice (some ⟨g, off, none⟩) n c]) (hq : Fb W q 24 #[.int .i64 a, .int .i64 b])
    (hg : Fb W g 3 cs) (hi : i < n) (hx : cs[off + i]? = some (.int .i64 x)) (hn : n ≤ 100000) :
    Calls Try.prog 26 #[.int .i64 i, .pointer (some ⟨q, 0, none⟩), .pointer (some ⟨p, 0, none⟩)] W fun e w' => e = .returned (.bool (!hasB a b x)) ∧ Below W.heap.size W w' := by
  have cH := fun W => whas_any a b x W
  unfold spv at cH
  have x0 := hp.cell 0
  have q0 := hq.cell 0
  have q1 := hq.cell 1
  have z1 : W.cell? ⟨g, off + i, none⟩ = some (.int .i64 x) := (hg.cell _).trans hx
  have hz0 : (0 : Int) ≤ (i : Int) := by omega
  have hz1 : (i : Int) < (n : Int) := by omega
  clear hp hq hg hx
  generalize hasB a b x = h at *
  go_enter Try.func26, Try.ntmps26
  go_wp2
  go_region_held3 (fun w => w.cell? ⟨p, 0, none⟩ = some (.slice (some ⟨g, off, none⟩) n c) ∧ w.cell? ⟨g, off + i, none⟩ = some (.int .i64 x) ∧ w.cell? ⟨q, 0, none⟩ = some (.int .i64 a) ∧ w.cell? ⟨q, 1, none⟩ = some (.int .i64 b))
    (first | exact ⟨x0, z1, q0, q1⟩ | exact ⟨cell_below x0 hB, cell_below z1 hB, cell_below q0 hB, cell_below q1 hB⟩)
    (first
      | (go_at_call 25; (with_reducible refine (cH _).mono ?_); rintro e w1 ⟨rfl, hB0⟩; have hB := (Below.drew (Below.refl W.heap.size W)).trans hB0)
      | fail)
  all_goals
    go_wp2
    go_ret
    exact ⟨rfl, hB⟩
end Go.Proofs.Ytncnoilldlnpoaa
