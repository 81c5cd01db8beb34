/-
  BinarySearchFunc of a move, among none, and where it is alone.
-/
import Derived.Test.YtcbdgbcphfimlaaNfOrd
import Derived.Deep.RegionWith
import Derived.Shelf.Abstract
namespace Go.Proofs.Ytcbdgbcphfimlaa
open Go.RowKit
set_option linter.unusedVariables false
set_option linter.unusedSimpArgs false
set_option maxRecDepth 100000

set_option maxHeartbeats 4000000 in
theorem cmpI_eq (a : Int) (W : World) : Calls Try.prog 69 #[.int .i64 a, .int .i64 a] W fun e w' => e = .returned (.int .i64 0) ∧ w' = W := by
  go_enter Try.func69, Try.ntmps69
  go_wp2
  go_ret
  exact ⟨rfl, rfl⟩
set_option maxHeartbeats 4000000 in
theorem or00 {W : World} {g : Nat} (h0 : W.cell? ⟨g, 0, none⟩ = some (.int .i64 0)) (h1 : W.cell? ⟨g, 1, none⟩ = some (.int .i64 0)) : Calls Try.prog 70 #[.slice (some ⟨g, 0, none⟩) 2 2] W fun e w' => e = .returned (.int .i64 0) ∧ w' = W := by
  go_enter Try.func70, Try.ntmps70
  go_wp2
  go_loopg [8] 2 (fun g s8 wr => W = wr ∧ ((g = 2 ∧ s8 = .int .i64 0) ∨ (g = 1 ∧ s8 = .int .i64 1) ∨ (g = 0 ∧ s8 = .int .i64 2)))
  case atStart => exact ⟨rfl, .inl ⟨rfl, rfl⟩⟩
  case round =>
    obtain ⟨rfl, hr⟩ := hrel
    rcases hr with ⟨hg, rfl⟩ | ⟨hg, rfl⟩ | ⟨hg, rfl⟩
    · subst hg
      go_wp2
      go_roundg 1
      case measure => exact Nat.lt_succ_self _
      case rel => exact ⟨rfl, .inr (.inl ⟨rfl, rfl⟩)⟩
    · subst hg
      go_wp2
      go_roundg 0
      case measure => exact Nat.lt_succ_self _
      case rel => exact ⟨rfl, .inr (.inr ⟨rfl, rfl⟩)⟩
    · subst hg
      go_wp2
      go_ret
      exact ⟨rfl, rfl⟩
theorem order_eq (a : Int) (W : World) : Calls Try.prog 48 #[.agg #[.int .i64 a, .bool false], .agg #[.int .i64 a, .bool false]] W fun e w' => e = .returned (.int .i64 0) ∧ Below W.heap.size W w' := by
  refine (order_any a a W).mono fun e w' ⟨h1, h2⟩ => ⟨?_, h2⟩
  rw [h1]
  unfold cmp3
  rw [if_neg (by omega), if_neg (by omega)]
set_option maxHeartbeats 16000000 in
theorem before_eq (N t : Int) (W : World) : Calls Try.prog 55 #[.agg #[.int .i64 N, .bool false, .int .i64 t], .agg #[.int .i64 N, .bool false, .int .i64 t]] W fun e w' => e = .returned (.int .i64 0) ∧ Below W.heap.size W w' := by
  obtain ⟨W1, hW1⟩ : ∃ W1, W1 = (W.alloc (.cells #[.int .i64 N, .bool false, .int .i64 t] 85)).alloc (.cells #[.int .i64 N, .bool false, .int .i64 t] 85) := ⟨_, rfl⟩
  have hb : Below W.heap.size W W1 := by rw [hW1]; exact ((Below.refl _ _).alloc (Nat.le_refl _) _).alloc (by simp) _
  have hA : Fb W1 W.heap.size 85 #[.int .i64 N, .bool false, .int .i64 t] := by rw [hW1]; exact (Fb.new W _ _).alloc _
  have hC : Fb W1 (W.heap.size + 1) 85 #[.int .i64 N, .bool false, .int .i64 t] := by
    have := Fb.new (W.alloc (.cells #[.int .i64 N, .bool false, .int .i64 t] 85)) 85 #[.int .i64 N, .bool false, .int .i64 t]
    rw [World.size_alloc] at this
    rw [hW1]; exact this
  have HB := Lib.hid hb
  have HA := Lib.hid hA
  have HC := Lib.hid hC
  have a0 := hA.cell 0
  have a1 := hA.cell 1
  have a2 := hA.cell 2
  have c0 := hC.cell 0
  have c1 := hC.cell 1
  have c2 := hC.cell 2
  have cO := order_eq N W1.drew
  have cC := fun W => cmpI_eq t W
  clear hb hA hC
  go_enter Try.func55, Try.ntmps55
  go_wp2
  rw [← hW1]
  clear hW1
  go_region_held3 (fun w => w.cell? ⟨W.heap.size, 0, none⟩ = some (.int .i64 N) ∧ w.cell? ⟨W.heap.size, 1, none⟩ = some (.bool false) ∧ w.cell? ⟨W.heap.size, 2, none⟩ = some (.int .i64 t) ∧ w.cell? ⟨W.heap.size + 1, 0, none⟩ = some (.int .i64 N) ∧ w.cell? ⟨W.heap.size + 1, 1, none⟩ = some (.bool false) ∧ w.cell? ⟨W.heap.size + 1, 2, none⟩ = some (.int .i64 t))
    (first | exact ⟨a0, a1, a2, c0, c1, c2⟩ | exact ⟨cell_below a0 hB, cell_below a1 hB, cell_below a2 hB, cell_below c0 hB, cell_below c1 hB, cell_below c2 hB⟩ | exact ⟨cell_below a0 (hB.alloc hB.size _), cell_below a1 (hB.alloc hB.size _), cell_below a2 (hB.alloc hB.size _), cell_below c0 (hB.alloc hB.size _), cell_below c1 (hB.alloc hB.size _), cell_below c2 (hB.alloc hB.size _)⟩)
    (first
      | (go_at_call 70; (with_reducible refine (or00 ((Fb.new _ 3 #[.int .i64 0, .int .i64 0]).cell 0) ((Fb.new _ 3 #[.int .i64 0, .int .i64 0]).cell 1)).mono ?_); rintro e w2 ⟨rfl, rfl⟩)
      | (go_at_call 69; (with_reducible refine (cC _).mono ?_); rintro e w1 ⟨rfl, rfl⟩)
      | (go_at_call 48; (with_reducible refine (order_eq N _).mono ?_); rintro e w1 ⟨rfl, hB0⟩; have hB := (Below.drew (Below.refl W1.heap.size W1)).trans hB0)
      | fail)
  all_goals
    have HB5 := Lib.hid (HB.out.trans ((hB.alloc hB.size (.cells #[.int .i64 0, .int .i64 0] 3)).mono HB.out.size))
    clear hB
    go_wp2
    go_ret
    exact ⟨rfl, HB5.out⟩
end Go.Proofs.Ytcbdgbcphfimlaa
