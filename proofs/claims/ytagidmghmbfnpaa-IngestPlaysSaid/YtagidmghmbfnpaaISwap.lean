/-
  THE HEAP's METHODS: Swap.
-/
import Derived.Test.YtagidmghmbfnpaaIWait
namespace Go.Proofs.Ytagidmghmbfnpaa
open Go.RowKit
set_option linter.unusedVariables false
set_option linter.unusedSimpArgs false
set_option maxRecDepth 100000

set_option maxHeartbeats 2000000 in
theorem iwswap_ne {B g n c : Nat} {l : List It} {w : World} (h : ItR B w (.slice (some ⟨g, 0, none⟩) n c) l) (hn : n ≤ 100000) (hl : l.length = n) (i j : Nat) (hi : i < n) (hj : j < n) (hij : i ≠ j) :
    Calls Try.prog 48 #[.slice (some ⟨g, 0, none⟩) n c, .int .i64 i, .int .i64 j] w fun e w' => e = .returned (.tuple #[]) ∧ ∃ q, w' = (st5 (st5 w g i (itAt l j)) g j (itAt l i)).drewN q := by
  obtain ⟨a0, a1, a2, a3, a4⟩ := h.at (itAt_lt (l := l) (i := i) (by omega))
  obtain ⟨b0, b1, b2, b3, b4⟩ := h.at (itAt_lt (l := l) (i := j) (by omega))
  have fr := fun k => h.free k
  have f0 := fr (i * 5)
  have f1 := fr (i * 5 + 1)
  have f2 := fr (i * 5 + 2)
  have f3 := fr (i * 5 + 3)
  have f4 := fr (i * 5 + 4)
  have k0 := fr (j * 5)
  have k1 := fr (j * 5 + 1)
  have k2 := fr (j * 5 + 2)
  have k3 := fr (j * 5 + 3)
  have k4 := fr (j * 5 + 4)
  have hg : g < w.heap.size := (World.ownsRow.lt h g rfl).2
  have i1 : (0 : Int) ≤ (i : Int) := by omega
  have i2 : (i : Int) < (n : Int) := by omega
  have j1 : (0 : Int) ≤ (j : Int) := by omega
  have j2 : (j : Int) < (n : Int) := by omega
  unfold st5
  generalize itAt l i = x at *
  generalize itAt l j = y at *
  obtain ⟨xt, xs, xa, xb, xc⟩ := x
  obtain ⟨yt, ys, ya, yb, yc⟩ := y
  dsimp only at *
  have n0 : ¬ i = j := hij
  have m0 : ¬ j = i := fun e => hij e.symm
  have n1 : ¬ i * 5 = j * 5 + 1 := by omega
  have m1 : ¬ i * 5 + 1 = j * 5 := by omega
  have p1 : ¬ j * 5 = i * 5 + 1 := by omega
  have q1 : ¬ j * 5 + 1 = i * 5 := by omega
  have n2 : ¬ i * 5 = j * 5 + 2 := by omega
  have m2 : ¬ i * 5 + 2 = j * 5 := by omega
  have p2 : ¬ j * 5 = i * 5 + 2 := by omega
  have q2 : ¬ j * 5 + 2 = i * 5 := by omega
  have n3 : ¬ i * 5 = j * 5 + 3 := by omega
  have m3 : ¬ i * 5 + 3 = j * 5 := by omega
  have p3 : ¬ j * 5 = i * 5 + 3 := by omega
  have q3 : ¬ j * 5 + 3 = i * 5 := by omega
  have n4 : ¬ i * 5 = j * 5 + 4 := by omega
  have m4 : ¬ i * 5 + 4 = j * 5 := by omega
  have p4 : ¬ j * 5 = i * 5 + 4 := by omega
  have q4 : ¬ j * 5 + 4 = i * 5 := by omega
  clear h hl hi hj fr hij
  go_enter Try.func48, Try.ntmps48
  go_wp2
  go_region
  all_goals
    go_wp2
    go_end0
    exact ⟨rfl, 1, rfl⟩
set_option maxHeartbeats 2000000 in
theorem iwswap_eq {B g n c : Nat} {l : List It} {w : World} (h : ItR B w (.slice (some ⟨g, 0, none⟩) n c) l) (hn : n ≤ 100000) (hl : l.length = n) (i : Nat) (hi : i < n) :
    Calls Try.prog 48 #[.slice (some ⟨g, 0, none⟩) n c, .int .i64 i, .int .i64 i] w fun e w' => e = .returned (.tuple #[]) ∧ ∃ q, w' = (st5 (st5 w g i (itAt l i)) g i (itAt l i)).drewN q := by
  obtain ⟨a0, a1, a2, a3, a4⟩ := h.at (itAt_lt (l := l) (i := i) (by omega))
  have fr := fun k => h.free k
  have f0 := fr (i * 5)
  have f1 := fr (i * 5 + 1)
  have f2 := fr (i * 5 + 2)
  have f3 := fr (i * 5 + 3)
  have f4 := fr (i * 5 + 4)
  have hg : g < w.heap.size := (World.ownsRow.lt h g rfl).2
  have i1 : (0 : Int) ≤ (i : Int) := by omega
  have i2 : (i : Int) < (n : Int) := by omega
  unfold st5
  generalize itAt l i = x at *
  obtain ⟨xt, xs, xa, xb, xc⟩ := x
  dsimp only at *
  clear h hl hi fr
  go_enter Try.func48, Try.ntmps48
  go_wp2
  go_region
  all_goals
    go_wp2
    go_end0
    exact ⟨rfl, 1, rfl⟩
theorem iwswap_any {B g n c : Nat} {l : List It} {w : World} (h : ItR B w (.slice (some ⟨g, 0, none⟩) n c) l) (hn : n ≤ 100000) (hl : l.length = n) (i j : Nat) (hi : i < n) (hj : j < n) :
    Calls Try.prog 48 #[.slice (some ⟨g, 0, none⟩) n c, .int .i64 i, .int .i64 j] w fun e w' => e = .returned (.tuple #[]) ∧ ∃ q, w' = (st5 (st5 w g i (itAt l j)) g j (itAt l i)).drewN q := by
  by_cases e : i = j
  · subst e; exact iwswap_eq h hn hl i hi
  · exact iwswap_ne h hn hl i j hi hj e
end Go.Proofs.Ytagidmghmbfnpaa
