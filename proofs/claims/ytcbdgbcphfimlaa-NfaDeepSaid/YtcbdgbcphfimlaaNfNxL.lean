/-
  Next: by a symbol that no move has.
-/
import Derived.Test.YtcbdgbcphfimlaaNfNx
namespace Go.Proofs.Ytcbdgbcphfimlaa
open Go.RowKit
set_option linter.unusedVariables false
set_option linter.unusedSimpArgs false
set_option maxRecDepth 100000

set_option maxHeartbeats 16000000 in
theorem next_lt {d g i c gi ci gs cs : Nat} {N t : Int} {W : World} (h : MvF d g i c gi ci N W) (ht : N < t) (hs : W.cell? ⟨gs, 0, none⟩ = some (.int .i64 (i : Int))) :
    Calls Try.prog 24 #[.pointer (some ⟨d, 0, none⟩), .slice (some ⟨gs, 0, none⟩) 1 cs, .agg #[.int .i64 t, .bool false]] W fun e w' => e = .returned (.slice none 0 0) ∧ Below W.heap.size W w' := by
  have hb1 : Below W.heap.size W (W.alloc (.cells #[.int .i64 t, .bool false] 44)) := (Below.refl _ _).alloc (Nat.le_refl _) _
  have a0 := (h.below hb1).a
  have hm := mkB2 (W.alloc (.cells #[.int .i64 t, .bool false] 44))
  rw [World.size_alloc] at hm
  obtain ⟨W1, hW1⟩ : ∃ W1, W1 = (W.alloc (.cells #[.int .i64 t, .bool false] 44)).alloc (.cells #[.bool false, .bool false] 4) := ⟨_, rfl⟩
  rw [← hW1] at hm
  have hbW1 : Below W.heap.size W W1 := by rw [hW1]; exact hb1.alloc hb1.size _
  have hQ1 : Fb W1 W.heap.size 44 #[.int .i64 t, .bool false] := by rw [hW1]; exact (Fb.new W 44 #[.int .i64 t, .bool false]).alloc _
  have hR1 : Fb W1 (W.heap.size + 1) 4 #[.bool false, .bool false] := by
    have := Fb.new (W.alloc (.cells #[.int .i64 t, .bool false] 44)) 4 #[.bool false, .bool false]
    rw [World.size_alloc] at this
    rw [hW1]; exact this
  have HM := Lib.hid (h.below hbW1)
  have HB := Lib.hid hbW1
  have HR := Lib.hid hR1
  have s0 := cell_below hs hbW1
  have q0 := hQ1.cell 0
  have q1 := hQ1.cell 1
  have cM := moves_lt (h.below hbW1) ht
  have z0 : (0 : Int) ≤ (i : Int) := by omega
  clear h hs ht hb1 hQ1 hR1 hbW1 hW1
  go_enter Try.func24, Try.ntmps24
  go_wp2
  go_loopg [23] 1 (fun g s wr => NxRel W W1 gs (W.heap.size + 1) i false g s wr)
  case atStart => exact .inl ⟨rfl, rfl, rfl⟩
  case round =>
    rcases hrel with ⟨hg, rfl, rfl⟩ | ⟨hg, rfl, hB, hF⟩
    · subst hg
      go_wp2_with (go_at_call 42; (with_reducible refine cM.mono ?_); rintro e w5 ⟨⟨A, c5, rfl⟩, hb5⟩; have HR5 := Lib.hid (HR.out.below hb5); have HB5 := Lib.hid (HB.out.trans (hb5.mono HB.out.size)); clear hb5)
      go_loopg [32] 0 (fun g s wr => s = .int .i64 0 ∧ w5 = wr)
      case atStart => exact ⟨rfl, rfl⟩
      case round =>
        obtain ⟨rfl, rfl⟩ := hrel
        go_wp2
        go_roundg 0
        case measure => exact Nat.lt_succ_self _
        case rel => exact .inr ⟨rfl, rfl, HB5.out, HR5.out⟩
    · subst hg
      clear cM s0 q0 q1 hm
      have r0 := hF.cell 0
      have r1 := hF.cell 1
      have HB2 := Lib.hid hB
      clear hB hF
      go_wp2
      go_loopg [12, 44] 2 (fun g s12 s44 w => NxOut W wr false g s12 s44 w)
      case atStart => exact .inl ⟨rfl, rfl, rfl, rfl⟩
      case round =>
        rcases hrel with ⟨hg, rfl, rfl, rfl⟩ | ⟨hg, rfl, rfl, rfl⟩ | ⟨hg, rfl, hB, hr⟩
        · subst hg
          go_wp2
          go_roundg 1
          case measure => exact Nat.lt_succ_self _
          case rel => exact .inr (.inl ⟨rfl, rfl, rfl, rfl⟩)
        · subst hg
          go_wp2
          go_roundg 0
          case measure => exact Nat.lt_succ_self _
          case rel => exact .inr (.inr ⟨rfl, rfl, HB2.out, .inl ⟨rfl, rfl⟩⟩)
        · subst hg
          rcases hr with ⟨_, rfl⟩ | ⟨e, _⟩
          · have HQ := Lib.hid hB
            clear hB r0 r1
            go_wp2
            go_ret
            exact ⟨rfl, HQ.out⟩
          · cases e
end Go.Proofs.Ytcbdgbcphfimlaa
