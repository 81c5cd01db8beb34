/-
  MERGED (a claim has at most 60 files): NfIns, NfBq.
-/
import Derived.Test.YtghlajfalgdkfaaZ03
import Derived.Test.YtghlajfalgdkfaaZ05
/-
  Insert of a move into none.
-/
namespace Go.Proofs.Ytghlajfalgdkfaa
open Go.RowKit
set_option linter.unusedVariables false
set_option linter.unusedSimpArgs false
set_option maxRecDepth 100000

/-- One move, where it lies. -/
structure Mv1 (W : World) (g c : Nat) (N : Int) : Prop where
  c1 : 1 ≤ c
  f : ∃ cs, Fb W g 84 cs
  n0 : W.cell? ⟨g, 0, none⟩ = some (.int .i64 N)
  n1 : W.cell? ⟨g, 1, none⟩ = some (.bool false)
  n2 : W.cell? ⟨g, 2, none⟩ = some (.int .i64 1)
def InsQ (W : World) (N : Int) (e : Ending) (w' : World) : Prop := ∃ g c, e = .returned (.slice (some ⟨g, 0, none⟩) 1 c) ∧ Mv1 w' g c N ∧ Below W.heap.size W w'
theorem new3 (w : World) (N : Int) (Z : Array Value) (c : Nat) (hc : 1 ≤ c) : Mv1 ((w.alloc (.cells (#[.int .i64 N, .bool false, .int .i64 1] ++ Z) 84)).drew) w.heap.size c N := by
  have hF := (Fb.new w 84 (#[.int .i64 N, .bool false, .int .i64 1] ++ Z)).drew
  refine ⟨hc, ⟨_, hF⟩, ?_, ?_, ?_⟩
  · rw [hF.cell 0]; first | rfl | simp [Array.getElem?_append]
  · rw [hF.cell 1]; first | rfl | simp [Array.getElem?_append]
  · rw [hF.cell 2]; first | rfl | simp [Array.getElem?_append]
set_option maxHeartbeats 8000000 in
theorem insert_nil {W : World} {k : Nat} {N : Int} (h0 : W.cell? ⟨k, 0, none⟩ = some (.int .i64 N)) (h1 : W.cell? ⟨k, 1, none⟩ = some (.bool false)) (h2 : W.cell? ⟨k, 2, none⟩ = some (.int .i64 1)) :
    Calls Try.prog 55 #[.slice none 0 0, .int .i64 0, .slice (some ⟨k, 0, none⟩) 1 1] W (InsQ W N) := by
  have hg := grownCap_ge W 1 0 84
  unfold grownCap at hg
  have HG := Lib.hid hg
  clear hg
  go_enter Try.func55, Try.ntmps55
  go_wp2
  go_ret
  refine ⟨_, _, rfl, new3 W N _ _ ?_, ?_⟩
  · exact HG.out
  · exact Below.drew ((Below.refl _ _).alloc (Nat.le_refl _) _)
end Go.Proofs.Ytghlajfalgdkfaa

/-
  BinarySearchFunc of a move, among none, and where it is alone.
-/
namespace Go.Proofs.Ytghlajfalgdkfaa
open Go.RowKit
set_option linter.unusedVariables false
set_option linter.unusedSimpArgs false
set_option maxRecDepth 100000

theorem cf_bef (args : Array Value) (w : World) : (callFunc 54 args).run Try.prog w = .ok (.enter 54 args) w := by
  first | rfl | kernel_rfl
set_option maxHeartbeats 8000000 in
theorem bin0 (N t : Int) (W : World) : Calls Try.prog 53 #[.slice none 0 0, .agg #[.int .i64 N, .bool false, .int .i64 t], .func (.func 54) #[] #[]] W fun e w' => e = .returned (.tuple #[.int .i64 0, .bool false]) ∧ Below W.heap.size W w' := by
  obtain ⟨W1, hW1⟩ : ∃ W1, W1 = W.alloc (.cells #[.int .i64 N, .bool false, .int .i64 t] 84) := ⟨_, rfl⟩
  have HB := Lib.hid (show Below W.heap.size W W1 from by rw [hW1]; exact (Below.refl _ _).alloc (Nat.le_refl _) _)
  go_enter Try.func53, Try.ntmps53
  go_wp2
  rw [← hW1]
  clear hW1
  go_loopg [9, 10] 0 (fun g s9 s10 wr => s9 = .int .i64 0 ∧ s10 = .int .i64 0 ∧ W1 = wr)
  case atStart => exact ⟨rfl, rfl, rfl⟩
  case round =>
    obtain ⟨rfl, rfl, rfl⟩ := hrel
    go_wp2
    go_quiet (fail)
    go_wp2
    go_ret2
    exact ⟨rfl, below_drewP HB.out _⟩
def BnRel (W W1 : World) (g : Nat) (s9 s10 : Value) (wr : World) : Prop := s9 = .int .i64 0 ∧ ((g = 1 ∧ s10 = .int .i64 1 ∧ W1 = wr) ∨ (g = 0 ∧ s10 = .int .i64 0 ∧ Below W1.heap.size W1 wr))
set_option maxHeartbeats 8000000 in
theorem bin1 {g c : Nat} {N : Int} {W : World} (h : Mv1 W g c N) : Calls Try.prog 53 #[.slice (some ⟨g, 0, none⟩) 1 c, .agg #[.int .i64 N, .bool false, .int .i64 1], .func (.func 54) #[] #[]] W fun e w' => e = .returned (.tuple #[.int .i64 0, .bool true]) ∧ Below W.heap.size W w' := by
  obtain ⟨W1, hW1⟩ : ∃ W1, W1 = W.alloc (.cells #[.int .i64 N, .bool false, .int .i64 1] 84) := ⟨_, rfl⟩
  have hb : Below W.heap.size W W1 := by rw [hW1]; exact (Below.refl _ _).alloc (Nat.le_refl _) _
  have hF : Fb W1 W.heap.size 84 #[.int .i64 N, .bool false, .int .i64 1] := by rw [hW1]; exact Fb.new W _ _
  have HB := Lib.hid hb
  have HF := Lib.hid hF
  have f0 := hF.cell 0
  have f1 := hF.cell 1
  have f2 := hF.cell 2
  have n0 := cell_below h.n0 hb
  have n1 := cell_below h.n1 hb
  have n2 := cell_below h.n2 hb
  have eg := cf_bef
  clear h hb hF
  go_enter Try.func53, Try.ntmps53
  go_wp2
  rw [← hW1]
  clear hW1
  go_loopg [9, 10] 1 (fun g s9 s10 wr => BnRel W W1 g s9 s10 wr)
  case atStart => exact ⟨rfl, .inl ⟨rfl, rfl, rfl⟩⟩
  case round =>
    obtain ⟨rfl, hr⟩ := hrel
    rcases hr with ⟨hg, rfl, rfl⟩ | ⟨hg, rfl, hb⟩
    · subst hg
      go_wp2
      go_region_held3 (fun w => w.cell? ⟨W.heap.size, 0, none⟩ = some (.int .i64 N) ∧ w.cell? ⟨W.heap.size, 1, none⟩ = some (.bool false) ∧ w.cell? ⟨W.heap.size, 2, none⟩ = some (.int .i64 1) ∧ w.cell? ⟨g, 0, none⟩ = some (.int .i64 N) ∧ w.cell? ⟨g, 1, none⟩ = some (.bool false) ∧ w.cell? ⟨g, 2, none⟩ = some (.int .i64 1))
        (first | exact ⟨f0, f1, f2, n0, n1, n2⟩ | exact ⟨cell_below f0 hB, cell_below f1 hB, cell_below f2 hB, cell_below n0 hB, cell_below n1 hB, cell_below n2 hB⟩)
        (first
          | (go_at_fn 54; (with_reducible refine (before_eq N 1 _).mono ?_); rintro e w5 ⟨rfl, hB0⟩; have hB := (Below.drew (Below.refl W1.heap.size W1)).trans hB0)
          | (go_at_call 54; (with_reducible refine (before_eq N 1 _).mono ?_); rintro e w5 ⟨rfl, hB0⟩; have hB := (Below.drew (Below.refl W1.heap.size W1)).trans hB0)
          | fail)
      all_goals
        have HB5 := Lib.hid hB
        clear hB
        go_wp2
        go_roundg 0
        case measure => exact Nat.lt_succ_self _
        case rel => exact ⟨rfl, .inr ⟨rfl, rfl, HB5.out⟩⟩
    · subst hg
      have r0 := cell_below f0 hb
      have r1 := cell_below f1 hb
      have r2 := cell_below f2 hb
      have m0 := cell_below n0 hb
      have m1 := cell_below n1 hb
      have m2 := cell_below n2 hb
      have HBB := Lib.hid hb
      clear f0 f1 f2 n0 n1 n2 hb
      go_wp2
      go_region_held3 (fun w => w.cell? ⟨W.heap.size, 0, none⟩ = some (.int .i64 N) ∧ w.cell? ⟨W.heap.size, 1, none⟩ = some (.bool false) ∧ w.cell? ⟨W.heap.size, 2, none⟩ = some (.int .i64 1) ∧ w.cell? ⟨g, 0, none⟩ = some (.int .i64 N) ∧ w.cell? ⟨g, 1, none⟩ = some (.bool false) ∧ w.cell? ⟨g, 2, none⟩ = some (.int .i64 1))
        (first | exact ⟨r0, r1, r2, m0, m1, m2⟩ | exact ⟨cell_below r0 hB, cell_below r1 hB, cell_below r2 hB, cell_below m0 hB, cell_below m1 hB, cell_below m2 hB⟩)
        (first
          | (go_at_fn 54; (with_reducible refine (before_eq N 1 _).mono ?_); rintro e w5 ⟨rfl, hB0⟩; have hB := (Below.drew (Below.refl wr.heap.size wr)).trans hB0)
          | (go_at_call 54; (with_reducible refine (before_eq N 1 _).mono ?_); rintro e w5 ⟨rfl, hB0⟩; have hB := (Below.drew (Below.refl wr.heap.size wr)).trans hB0)
          | fail)
      all_goals
        have HB5 := Lib.hid (HB.out.trans ((HBB.out.trans (hB.mono HBB.out.size)).mono HB.out.size))
        clear hB
        go_wp2
        go_ret2
        exact ⟨rfl, HB5.out⟩
end Go.Proofs.Ytghlajfalgdkfaa
