/-
  fits, of a path of one part or a step.
-/
import Derived.Test.YtcbdgbcphfimlaaNfCh
namespace Go.Proofs.Ytcbdgbcphfimlaa
open Go.RowKit
set_option linter.unusedVariables false
set_option linter.unusedSimpArgs false
set_option maxRecDepth 100000

set_option maxHeartbeats 4000000 in
theorem fits0 (n : Int) (hn : 0 ≤ n) (W : World) : Calls Try.prog 61 #[.agg #[.int .i64 0, .int .i64 n, .slice none 0 0]] W fun e w' => e = .returned (.bool true) ∧ Below W.heap.size W w' := by
  obtain ⟨W2, hW2⟩ : ∃ W2, W2 = W.alloc (.cells #[.int .i64 0, .int .i64 n, .slice none 0 0] 28) := ⟨_, rfl⟩
  have hF : Fb W2 W.heap.size 28 #[.int .i64 0, .int .i64 n, .slice none 0 0] := by rw [hW2]; exact Fb.new W _ _
  have HB := Lib.hid (show Below W.heap.size W W2 from by rw [hW2]; exact (Below.refl _ _).alloc (Nat.le_refl _) _)
  have q0 := hF.cell 0
  have q1 := hF.cell 1
  have q2 := hF.cell 2
  have d1 : decide (0 ≤ n) = true := decide_eq_true hn
  have d2 : decide (n ≥ 0) = true := decide_eq_true hn
  clear hF
  go_enter Try.func61, Try.ntmps61
  go_wp2
  rw [← hW2]
  clear hW2
  go_wp2
  go_ret
  exact ⟨rfl, by first | exact HB.out | exact HB.out.drew | exact below_drewP HB.out _⟩
set_option maxHeartbeats 4000000 in
theorem fits1 (k n : Int) (hk : 2 ≤ k ∧ k ≤ 6) (b : Nat) (W : World) : Calls Try.prog 61 #[.agg #[.int .i64 k, .int .i64 n, .slice (some ⟨b, 0, none⟩) 1 1]] W fun e w' => e = .returned (.bool true) ∧ Below W.heap.size W w' := by
  obtain ⟨W2, hW2⟩ : ∃ W2, W2 = W.alloc (.cells #[.int .i64 k, .int .i64 n, .slice (some ⟨b, 0, none⟩) 1 1] 28) := ⟨_, rfl⟩
  have hF : Fb W2 W.heap.size 28 #[.int .i64 k, .int .i64 n, .slice (some ⟨b, 0, none⟩) 1 1] := by rw [hW2]; exact Fb.new W _ _
  have HB := Lib.hid (show Below W.heap.size W W2 from by rw [hW2]; exact (Below.refl _ _).alloc (Nat.le_refl _) _)
  have q0 := hF.cell 0
  have q1 := hF.cell 1
  have q2 := hF.cell 2
  clear hF
  have hk' : k = 2 ∨ k = 3 ∨ k = 4 ∨ k = 5 ∨ k = 6 := by omega
  clear hk
  rcases hk' with rfl | rfl | rfl | rfl | rfl
  all_goals
    go_enter Try.func61, Try.ntmps61
    go_wp2
    rw [← hW2]
    clear hW2
    go_wp2
    go_ret
    exact ⟨rfl, HB.out⟩
end Go.Proofs.Ytcbdgbcphfimlaa
