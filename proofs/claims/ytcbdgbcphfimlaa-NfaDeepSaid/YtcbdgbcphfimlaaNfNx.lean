/-
  Next: of a set of one state that has one move.
-/
import Derived.Test.YtcbdgbcphfimlaaNfMvL
import Derived.Test.YtcbdgbcphfimlaaNfApp
namespace Go.Proofs.Ytcbdgbcphfimlaa
open Go.RowKit
set_option linter.unusedVariables false
set_option linter.unusedSimpArgs false
set_option maxRecDepth 100000

/-- What is left of the range over the set, and whether the second state is reached. -/
def NxRel (W W1 : World) (gs br i : Nat) (r : Bool) (g : Nat) (s : Value) (wr : World) : Prop :=
  (g = 1 ∧ s = .int .i64 0 ∧ W1 = wr) ∨ (g = 0 ∧ s = .int .i64 1 ∧ Below W.heap.size W wr ∧ Fb wr br 4 #[.bool false, .bool r])
def NxIn (W V : World) (br : Nat) (g : Nat) (s : Value) (wr : World) : Prop :=
  (g = 1 ∧ s = .int .i64 0 ∧ V = wr) ∨ (g = 0 ∧ s = .int .i64 1 ∧ Below W.heap.size W wr ∧ Fb wr br 4 #[.bool false, .bool true])
def NxOut (W Z : World) (r : Bool) (g : Nat) (s12 s44 : Value) (wr : World) : Prop :=
  (g = 2 ∧ s12 = .slice none 0 0 ∧ s44 = .int .i64 0 ∧ Z = wr) ∨ (g = 1 ∧ s12 = .slice none 0 0 ∧ s44 = .int .i64 1 ∧ Z = wr) ∨
  (g = 0 ∧ s44 = .int .i64 2 ∧ Below W.heap.size W wr ∧ ((r = false ∧ s12 = .slice none 0 0) ∨ (r = true ∧ ∃ g c, s12 = .slice (some ⟨g, 0, none⟩) 1 c ∧ wr.cell? ⟨g, 0, none⟩ = some (.int .i64 1))))
theorem new_at (w : World) (X : Obj) (x : Value) (Z : Array Value) : (((w.alloc X).alloc (.cells (#[x] ++ Z) 3)).drew).cell? ⟨w.heap.size + 1, 0, none⟩ = some x := by
  have := (Fb.new (w.alloc X) 3 (#[x] ++ Z)).drew.cell 0
  rw [World.size_alloc] at this
  rw [this]
  first | rfl | simp [Array.getElem?_append] | (rw [Array.getElem?_append_left (by simp)]; rfl)
theorem mkB2 (w : World) : (Instr.makeSlice 82 (.int .i64 2) (.int .i64 2)).run Try.prog w = .ok (.slice (some ⟨w.heap.size, 0, none⟩) 2 2) (w.alloc (.cells #[.bool false, .bool false] 4)) := by
  first | kernel_rfl | rfl | simp [Instr.makeSlice]
set_option maxHeartbeats 16000000 in
theorem next_eq {d g i c gi ci gs cs : Nat} {N : Int} {W : World} (h : MvF d g i c gi ci N W) (hs : W.cell? ⟨gs, 0, none⟩ = some (.int .i64 (i : Int))) :
    Calls Try.prog 24 #[.pointer (some ⟨d, 0, none⟩), .slice (some ⟨gs, 0, none⟩) 1 cs, .agg #[.int .i64 N, .bool false]] W fun e w' => (∃ g c, e = .returned (.slice (some ⟨g, 0, none⟩) 1 c) ∧ w'.cell? ⟨g, 0, none⟩ = some (.int .i64 1)) ∧ Below W.heap.size W w' := by
  have hb1 : Below W.heap.size W (W.alloc (.cells #[.int .i64 N, .bool false] 44)) := (Below.refl _ _).alloc (Nat.le_refl _) _
  have a0 := (h.below hb1).a
  have hm := mkB2 (W.alloc (.cells #[.int .i64 N, .bool false] 44))
  rw [World.size_alloc] at hm
  obtain ⟨W1, hW1⟩ : ∃ W1, W1 = (W.alloc (.cells #[.int .i64 N, .bool false] 44)).alloc (.cells #[.bool false, .bool false] 4) := ⟨_, rfl⟩
  rw [← hW1] at hm
  have hbW1 : Below W.heap.size W W1 := by rw [hW1]; exact hb1.alloc hb1.size _
  have hQ1 : Fb W1 W.heap.size 44 #[.int .i64 N, .bool false] := by rw [hW1]; exact (Fb.new W 44 #[.int .i64 N, .bool false]).alloc _
  have hR1 : Fb W1 (W.heap.size + 1) 4 #[.bool false, .bool false] := by
    have := Fb.new (W.alloc (.cells #[.int .i64 N, .bool false] 44)) 4 #[.bool false, .bool false]
    rw [World.size_alloc] at this
    rw [hW1]; exact this
  have HM := Lib.hid (h.below hbW1)
  have HB := Lib.hid hbW1
  have HR := Lib.hid hR1
  have s0 := cell_below hs hbW1
  have q0 := hQ1.cell 0
  have q1 := hQ1.cell 1
  have cM := moves_eq (h.below hbW1)
  have z0 : (0 : Int) ≤ (i : Int) := by omega
  clear h hs hb1 hQ1 hR1 hbW1 hW1
  go_enter Try.func24, Try.ntmps24
  go_wp2
  go_loopg [23] 1 (fun g s wr => NxRel W W1 gs (W.heap.size + 1) i true g s wr)
  case atStart => exact .inl ⟨rfl, rfl, rfl⟩
  case round =>
    rcases hrel with ⟨hg, rfl, rfl⟩ | ⟨hg, rfl, hB, hF⟩
    · subst hg
      go_wp2_with (go_at_call 42; (with_reducible refine cM.mono ?_); rintro e w5 ⟨rfl, hb5⟩; have hm5 := HM.out.below hb5; have n0 := hm5.n0; have n1 := hm5.n1; have n2 := hm5.n2; have hr5 := HR.out.below hb5; have HR5 := Lib.hid hr5; have HB5 := Lib.hid (HB.out.trans (hb5.mono HB.out.size)); have f5 := (hr5.alloc (.cells #[.int .i64 N, .bool false, .int .i64 1] 85)).free 1; have e5 := (hr5.alloc (.cells #[.int .i64 N, .bool false, .int .i64 1] 85)).cell 1; clear hb5 hr5 hm5)
      go_loopg [32] 1 (fun g s wr => NxIn W w5 (W.heap.size + 1) g s wr)
      case atStart => exact .inl ⟨rfl, rfl, rfl⟩
      case round =>
        rcases hrel with ⟨hg, rfl, rfl⟩ | ⟨hg, rfl, hB, hF⟩
        · subst hg
          go_wp2
          go_roundg 0
          case measure => exact Nat.lt_succ_self _
          case rel => exact .inr ⟨rfl, rfl, (HB5.out.alloc HB5.out.size _).setCell (Nat.le_succ _) _, (HR5.out.alloc _).set 1 _⟩
        · subst hg
          have HQ := Lib.hid (And.intro hB hF)
          clear hB hF n0 n1 n2 f5 e5
          go_wp2
          go_roundg 0
          case measure => exact Nat.lt_succ_self _
          case rel => exact .inr ⟨rfl, rfl, HQ.out.1, HQ.out.2⟩
    · subst hg
      clear cM s0 q0 q1 hm
      have r0 := hF.cell 0
      have r1 := hF.cell 1
      have HB2 := Lib.hid hB
      clear hB hF
      go_wp2
      go_loopg [12, 44] 2 (fun g s12 s44 w => NxOut W wr true g s12 s44 w)
      case atStart => exact .inl ⟨rfl, rfl, rfl, rfl⟩
      case round =>
        rcases hrel with ⟨hg, rfl, rfl, rfl⟩ | ⟨hg, rfl, rfl, rfl⟩ | ⟨hg, rfl, hB, hr⟩
        · subst hg
          go_wp2
          go_roundg 1
          case measure => exact Nat.lt_succ_self _
          case rel => exact .inr (.inl ⟨rfl, rfl, rfl, rfl⟩)
        · subst hg
          go_wp2
          go_roundg 0
          case measure => exact Nat.lt_succ_self _
          case rel =>
            refine .inr (.inr ⟨rfl, rfl, Below.drew ((HB2.out.alloc HB2.out.size _).alloc (Nat.le_trans HB2.out.size (by simp)) _), .inr ⟨rfl, _, _, rfl, ?_⟩⟩)
            exact new_at wr _ _ _
        · subst hg
          rcases hr with ⟨e, _⟩ | ⟨_, g8, c8, rfl, hc⟩
          · cases e
          have HQ := Lib.hid (And.intro hB hc)
          clear hB hc r0 r1
          go_wp2
          go_ret
          exact ⟨⟨_, ⟨_, rfl⟩, HQ.out.2⟩, HQ.out.1⟩
end Go.Proofs.Ytcbdgbcphfimlaa
