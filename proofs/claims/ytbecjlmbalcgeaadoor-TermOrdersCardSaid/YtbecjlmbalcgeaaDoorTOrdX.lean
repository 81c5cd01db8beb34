/-
  FOR TermOrders: 'plain' and just the two blocks that it makes; the three boxes behind it.
-/
import Derived.Test.YtbecjlmbalcgeaaDoorTEqualB
import Derived.Test.YtbecjlmbalcgeaaDoorTOrdQ
import Derived.Deep.CutRange
namespace Go.Proofs.YtbecjlmbalcgeaaDoor
open Go.RowKit
set_option linter.unusedVariables false

set_option maxHeartbeats 2000000 in
theorem plainX_any (k : Int) (hk : -9223372036854775808 ≤ k ∧ k ≤ 9223372036854775807) (a b c : ByteArray) (w : World) : Calls Tryd.prog 6 #[F4 k a b c] w fun e w' => e = .returned (T4 (tmOf k a b c)) ∧ ∃ o1 o2, w' = (w.alloc o1).alloc o2 := by
  obtain ⟨r, hr⟩ : ∃ r, r = k % 4 := ⟨_, rfl⟩
  have h4 : r = 0 ∨ r = 1 ∨ r = 2 ∨ r = 3 := by omega
  have hw : wrap64 ((IntKind.u64.wrap k).tmod 4) = r := by
    rw [show IntKind.u64.wrap k = k % 18446744073709551616 from rfl, Int.tmod_eq_emod_of_nonneg (by omega)]
    have : k % 18446744073709551616 % 4 = r := by omega
    rw [this]
    exact IntWalk.wrap64_in r ⟨by omega, by omega⟩
  unfold tmOf
  rw [← hr]
  clear hr hk
  rcases h4 with rfl | rfl | rfl | rfl
  · rw [if_pos rfl]
    simp only [T4, Tm.kind, Tm.ta, Tm.tb, Tm.tc]
    go_enter Tryd.func6, Tryd.ntmps6
    go_wp2
    exact bodyPost_ret (v := F4 0 a mt mt) (by simp [results, Tryd.results6, go_sem]) rfl ⟨rfl, _, _, rfl⟩
  · rw [if_neg (by decide), if_pos rfl]
    simp only [T4, Tm.kind, Tm.ta, Tm.tb, Tm.tc]
    go_enter Tryd.func6, Tryd.ntmps6
    go_wp2
    exact bodyPost_ret (v := F4 1 a mt mt) (by simp [results, Tryd.results6, go_sem]) rfl ⟨rfl, _, _, rfl⟩
  · rw [if_neg (by decide), if_neg (by decide), if_pos rfl]
    simp only [T4, Tm.kind, Tm.ta, Tm.tb, Tm.tc]
    go_enter Tryd.func6, Tryd.ntmps6
    go_wp2
    exact bodyPost_ret (v := F4 2 a b c) (by simp [results, Tryd.results6, go_sem]) rfl ⟨rfl, _, _, rfl⟩
  · rw [if_neg (by decide), if_neg (by decide), if_neg (by decide)]
    simp only [T4, Tm.kind, Tm.ta, Tm.tb, Tm.tc]
    go_enter Tryd.func6, Tryd.ntmps6
    go_wp2
    exact bodyPost_ret (v := F4 3 mt mt mt) (by simp [results, Tryd.results6, go_sem]) rfl ⟨rfl, _, _, rfl⟩
theorem Tx3.alloc {w : World} {u v x : Array Value} {W : World} (h : Tx3 w u v x W) (o : Obj) : Tx3 w u v x (W.alloc o) := h.below ((Below.refl _ _).alloc (Nat.le_refl _) o)
theorem Tx3.setc {w : World} {u v x : Array Value} {W : World} (h : Tx3 w u v x W) (g i : Nat) (y : Value) (hg : w.heap.size + 1 + 1 + 1 ≤ g) : Tx3 w u v x (W.setCell ⟨g, i, none⟩ y) :=
  ⟨h.1.setCell (by dsimp only; omega) y, (Below.heap_setCell _ _ _ _ (by dsimp only; omega)).trans h.2.1, (Below.heap_setCell _ _ _ _ (by dsimp only; omega)).trans h.2.2.1, (Below.heap_setCell _ _ _ _ (by dsimp only; omega)).trans h.2.2.2⟩
/-- Three boxes, wherever. -/
def Ky (w : World) (g7 g8 g9 : Nat) (u v x : Array Value) (W : World) : Prop := Below w.heap.size w W ∧ Fb W g7 23 u ∧ Fb W g8 23 v ∧ Fb W g9 23 x
theorem Ky.drew {w : World} {g7 g8 g9 : Nat} {u v x : Array Value} {W : World} (h : Ky w g7 g8 g9 u v x W) : Ky w g7 g8 g9 u v x W.drew := ⟨Below.drew h.1, h.2⟩
theorem Ky.below {w : World} {g7 g8 g9 : Nat} {u v x : Array Value} {W W' : World} (h : Ky w g7 g8 g9 u v x W) (hb : Below W.heap.size W W') : Ky w g7 g8 g9 u v x W' := ⟨h.1.trans (hb.mono h.1.size), h.2.1.below hb, h.2.2.1.below hb, h.2.2.2.below hb⟩
theorem ky_of {w : World} {g7 g8 g9 : Nat} {u v x : Array Value} {W : World} {f : Nat} {args : Array Value} {y : Value} (h : Ky w g7 g8 g9 u v x W) (c : Calls Tryd.prog f args W fun e w' => e = .returned y ∧ Below W.heap.size W w') :
    Calls Tryd.prog f args W fun e w' => e = .returned y ∧ Ky w g7 g8 g9 u v x w' := c.mono fun _ _ ⟨a, b⟩ => ⟨a, h.below b⟩
theorem Ky.eight {w : World} {g7 g8 g9 : Nat} {k k' : Int} {a b c a' b' c' : ByteArray} {x : Array Value} {W : World} (h : Ky w g7 g8 g9 (R4 k a b c) (R4 k' a' b' c') x W) :
    W.cell? ⟨g7, 0, none⟩ = some (.int .i64 k) ∧ W.cell? ⟨g7, 1, none⟩ = some (.string a) ∧ W.cell? ⟨g7, 2, none⟩ = some (.string b) ∧ W.cell? ⟨g7, 3, none⟩ = some (.string c) ∧
    W.cell? ⟨g8, 0, none⟩ = some (.int .i64 k') ∧ W.cell? ⟨g8, 1, none⟩ = some (.string a') ∧ W.cell? ⟨g8, 2, none⟩ = some (.string b') ∧ W.cell? ⟨g8, 3, none⟩ = some (.string c') ∧ Ky w g7 g8 g9 (R4 k a b c) (R4 k' a' b' c') x W :=
  ⟨h.2.1.cell 0, h.2.1.cell 1, h.2.1.cell 2, h.2.1.cell 3, h.2.2.1.cell 0, h.2.2.1.cell 1, h.2.2.1.cell 2, h.2.2.1.cell 3, h⟩
theorem Ky.all {w : World} {g7 g8 g9 : Nat} {k k' k'' : Int} {a b c a' b' c' a'' b'' c'' : ByteArray} {W : World} (h : Ky w g7 g8 g9 (R4 k a b c) (R4 k' a' b' c') (R4 k'' a'' b'' c'') W) :
    W.cell? ⟨g7, 0, none⟩ = some (.int .i64 k) ∧ W.cell? ⟨g7, 1, none⟩ = some (.string a) ∧ W.cell? ⟨g7, 2, none⟩ = some (.string b) ∧ W.cell? ⟨g7, 3, none⟩ = some (.string c) ∧
    W.cell? ⟨g8, 0, none⟩ = some (.int .i64 k') ∧ W.cell? ⟨g8, 1, none⟩ = some (.string a') ∧ W.cell? ⟨g8, 2, none⟩ = some (.string b') ∧ W.cell? ⟨g8, 3, none⟩ = some (.string c') ∧
    W.cell? ⟨g9, 0, none⟩ = some (.int .i64 k'') ∧ W.cell? ⟨g9, 1, none⟩ = some (.string a'') ∧ W.cell? ⟨g9, 2, none⟩ = some (.string b'') ∧ W.cell? ⟨g9, 3, none⟩ = some (.string c'') ∧ Ky w g7 g8 g9 (R4 k a b c) (R4 k' a' b' c') (R4 k'' a'' b'' c'') W :=
  ⟨h.2.1.cell 0, h.2.1.cell 1, h.2.1.cell 2, h.2.1.cell 3, h.2.2.1.cell 0, h.2.2.1.cell 1, h.2.2.1.cell 2, h.2.2.1.cell 3, h.2.2.2.cell 0, h.2.2.2.cell 1, h.2.2.2.cell 2, h.2.2.2.cell 3, h⟩
/-- A box is stored into, cell by cell. -/
theorem Fb.store4 {W : World} {g : Nat} {cs : Array Value} (h : Fb W g 23 cs) (hz : cs.size = 4) (u v x y : Value) : Fb ((((W.setCell ⟨g, 0, none⟩ u).setCell ⟨g, 1, none⟩ v).setCell ⟨g, 2, none⟩ x).setCell ⟨g, 3, none⟩ y) g 23 #[u, v, x, y] := by
  have h1 := heap_setCell_same _ g 3 _ _ y (heap_setCell_same _ g 2 _ _ x (heap_setCell_same _ g 1 _ _ v (heap_setCell_same W g 0 cs 23 u h)))
  unfold Fb
  rw [h1]
  match cs, hz with
  | ⟨[a, b, c, d]⟩, _ => rfl
theorem Fb.setc {W : World} {g g' i : Nat} {t : TypeId} {cs : Array Value} (h : Fb W g t cs) (y : Value) (hne : g ≠ g') : Fb (W.setCell ⟨g', i, none⟩ y) g t cs := (Below.heap_setCell _ _ _ _ hne).trans h
end Go.Proofs.YtbecjlmbalcgeaaDoor
