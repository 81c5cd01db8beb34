/-
  Less, the document's.
-/
import Derived.Test.YtoiigplflmejmaaSLess
namespace Go.Proofs.Ytoiigplflmejmaa
open Go.RowKit
set_option linter.unusedVariables false
set_option linter.unusedSimpArgs false
set_option maxRecDepth 100000

set_option maxHeartbeats 16000000 in
theorem kless_any (o a0 a1 a2 b0 b1 b2 : Int) (W : World) : Calls Try.prog 30 #[.int .i64 o, .agg #[.int .i64 a0, .int .i64 a1, .int .i64 a2], .agg #[.int .i64 b0, .int .i64 b1, .int .i64 b2]] W fun e w' => e = .returned (.bool (lsB o a0 a1 a2 b0 b1 b2)) ∧ Below W.heap.size W w' := by
  obtain ⟨r, hr⟩ : ∃ r, r = lsB o a0 a1 a2 b0 b1 b2 := ⟨_, rfl⟩
  rw [← hr]
  unfold lsB at hr
  obtain ⟨W2, hW2⟩ : ∃ W2, W2 = (W.alloc (.cells #[.int .i64 a0, .int .i64 a1, .int .i64 a2] 31)).alloc (.cells #[.int .i64 b0, .int .i64 b1, .int .i64 b2] 31) := ⟨_, rfl⟩
  have hF1 : Fb W2 W.heap.size 31 #[.int .i64 a0, .int .i64 a1, .int .i64 a2] := by rw [hW2]; exact (Fb.new _ _ _).alloc _
  have hF2 : Fb W2 (W.heap.size + 1) 31 #[.int .i64 b0, .int .i64 b1, .int .i64 b2] := by
    have := Fb.new (W.alloc (.cells #[.int .i64 a0, .int .i64 a1, .int .i64 a2] 31)) 31 #[.int .i64 b0, .int .i64 b1, .int .i64 b2]
    rw [World.size_alloc] at this
    rw [hW2]; exact this
  have HB := Lib.hid (show ∀ q, Below W.heap.size W (W2.drewN q) from fun q => below_drewP (by rw [hW2]; exact ((Below.refl _ _).alloc (Nat.le_refl _) _).alloc (by simp) _) q)
  have p0 := hF1.cell 0
  have p1 := hF1.cell 1
  have p2 := hF1.cell 2
  have q0 := hF2.cell 0
  have q1 := hF2.cell 1
  have q2 := hF2.cell 2
  clear hF1 hF2
  by_cases h1 : o = 1
  · subst h1
    have hr2 : r = lx a1 a2 a0 b1 b2 b0 := by rw [hr]; rw [if_pos rfl]
    unfold lx at hr2
    have HR := Lib.hid hr2
    clear hr hr2
    go_enter Try.func30, Try.ntmps30
    go_wp2
    rw [← hW2]
    clear hW2
    go_loopg [8] 3 (fun g s wr => LxRel a1 a2 a0 b1 b2 b0 W2 g s wr)
    case atStart => exact ⟨⟨0, rfl⟩, .inl ⟨rfl, rfl⟩⟩
    case round =>
      obtain ⟨⟨q, rfl⟩, hw⟩ := hrel
      rcases hw with ⟨hg, rfl⟩ | ⟨hg, rfl, e0⟩ | ⟨hg, rfl, e0, e1⟩ | ⟨hg, rfl, e0, e1, e2⟩
      · subst hg
        by_cases e : a1 = b1
        · subst e
          go_wp2
          go_quiet (fail)
          go_wp2
          go_roundg 2
          case measure => exact Nat.lt_succ_self _
          case rel => exact ⟨⟨_, by first | rfl | exact World.drewN_drewN _ _ _⟩, .inr (.inl ⟨rfl, rfl, rfl⟩)⟩
        · have hrr := HR.out
          rw [if_neg e] at hrr
          subst hrr
          have n1 : (a1 == b1) = false := by rw [beq_eq_false_iff_ne]; exact e
          go_wp2
          go_quiet (fail)
          go_wp2
          go_quiet (fail)
          go_wp2
          go_ret
          exact ⟨rfl, by first | exact HB.out _ | (rw [World.drewN_drewN]; exact HB.out _) | (rw [World.drewN_drewN, World.drewN_drewN]; exact HB.out _)⟩
      · subst hg
        have E0 := Lib.hid e0
        clear e0
        by_cases e : a2 = b2
        · subst e
          go_wp2
          go_quiet (fail)
          go_wp2
          go_roundg 1
          case measure => exact Nat.lt_succ_self _
          case rel => exact ⟨⟨_, by first | rfl | exact World.drewN_drewN _ _ _⟩, .inr (.inr (.inl ⟨rfl, rfl, E0.out, rfl⟩))⟩
        · have hrr := HR.out
          rw [if_pos E0.out, if_neg e] at hrr
          subst hrr
          have n1 : (a2 == b2) = false := by rw [beq_eq_false_iff_ne]; exact e
          go_wp2
          go_quiet (fail)
          go_wp2
          go_quiet (fail)
          go_wp2
          go_ret
          exact ⟨rfl, by first | exact HB.out _ | (rw [World.drewN_drewN]; exact HB.out _) | (rw [World.drewN_drewN, World.drewN_drewN]; exact HB.out _)⟩
      · subst hg
        have E0 := Lib.hid e0
        have E1 := Lib.hid e1
        clear e0 e1
        by_cases e : a0 = b0
        · subst e
          go_wp2
          go_quiet (fail)
          go_wp2
          go_roundg 0
          case measure => exact Nat.lt_succ_self _
          case rel => exact ⟨⟨_, by first | rfl | exact World.drewN_drewN _ _ _⟩, .inr (.inr (.inr ⟨rfl, rfl, E0.out, E1.out, rfl⟩))⟩
        · have hrr := HR.out
          rw [if_pos E0.out, if_pos E1.out, if_neg e] at hrr
          subst hrr
          have n1 : (a0 == b0) = false := by rw [beq_eq_false_iff_ne]; exact e
          go_wp2
          go_quiet (fail)
          go_wp2
          go_quiet (fail)
          go_wp2
          go_ret
          exact ⟨rfl, by first | exact HB.out _ | (rw [World.drewN_drewN]; exact HB.out _) | (rw [World.drewN_drewN, World.drewN_drewN]; exact HB.out _)⟩
      · subst hg
        have hrr := HR.out
        rw [if_pos e0, if_pos e1, if_pos e2] at hrr
        subst hrr
        clear e0 e1 e2
        go_wp2
        go_ret
        exact ⟨rfl, HB.out _⟩
  by_cases h2 : o = 2
  · subst h2
    have hr2 : r = lx a2 a0 a1 b2 b0 b1 := by rw [hr]; rw [if_neg (by decide), if_pos rfl]
    unfold lx at hr2
    have HR := Lib.hid hr2
    clear hr hr2
    go_enter Try.func30, Try.ntmps30
    go_wp2
    rw [← hW2]
    clear hW2
    go_loopg [8] 3 (fun g s wr => LxRel a2 a0 a1 b2 b0 b1 W2 g s wr)
    case atStart => exact ⟨⟨0, rfl⟩, .inl ⟨rfl, rfl⟩⟩
    case round =>
      obtain ⟨⟨q, rfl⟩, hw⟩ := hrel
      rcases hw with ⟨hg, rfl⟩ | ⟨hg, rfl, e0⟩ | ⟨hg, rfl, e0, e1⟩ | ⟨hg, rfl, e0, e1, e2⟩
      · subst hg
        by_cases e : a2 = b2
        · subst e
          go_wp2
          go_quiet (fail)
          go_wp2
          go_roundg 2
          case measure => exact Nat.lt_succ_self _
          case rel => exact ⟨⟨_, by first | rfl | exact World.drewN_drewN _ _ _⟩, .inr (.inl ⟨rfl, rfl, rfl⟩)⟩
        · have hrr := HR.out
          rw [if_neg e] at hrr
          subst hrr
          have n1 : (a2 == b2) = false := by rw [beq_eq_false_iff_ne]; exact e
          go_wp2
          go_quiet (fail)
          go_wp2
          go_quiet (fail)
          go_wp2
          go_ret
          exact ⟨rfl, by first | exact HB.out _ | (rw [World.drewN_drewN]; exact HB.out _) | (rw [World.drewN_drewN, World.drewN_drewN]; exact HB.out _)⟩
      · subst hg
        have E0 := Lib.hid e0
        clear e0
        by_cases e : a0 = b0
        · subst e
          go_wp2
          go_quiet (fail)
          go_wp2
          go_roundg 1
          case measure => exact Nat.lt_succ_self _
          case rel => exact ⟨⟨_, by first | rfl | exact World.drewN_drewN _ _ _⟩, .inr (.inr (.inl ⟨rfl, rfl, E0.out, rfl⟩))⟩
        · have hrr := HR.out
          rw [if_pos E0.out, if_neg e] at hrr
          subst hrr
          have n1 : (a0 == b0) = false := by rw [beq_eq_false_iff_ne]; exact e
          go_wp2
          go_quiet (fail)
          go_wp2
          go_quiet (fail)
          go_wp2
          go_ret
          exact ⟨rfl, by first | exact HB.out _ | (rw [World.drewN_drewN]; exact HB.out _) | (rw [World.drewN_drewN, World.drewN_drewN]; exact HB.out _)⟩
      · subst hg
        have E0 := Lib.hid e0
        have E1 := Lib.hid e1
        clear e0 e1
        by_cases e : a1 = b1
        · subst e
          go_wp2
          go_quiet (fail)
          go_wp2
          go_roundg 0
          case measure => exact Nat.lt_succ_self _
          case rel => exact ⟨⟨_, by first | rfl | exact World.drewN_drewN _ _ _⟩, .inr (.inr (.inr ⟨rfl, rfl, E0.out, E1.out, rfl⟩))⟩
        · have hrr := HR.out
          rw [if_pos E0.out, if_pos E1.out, if_neg e] at hrr
          subst hrr
          have n1 : (a1 == b1) = false := by rw [beq_eq_false_iff_ne]; exact e
          go_wp2
          go_quiet (fail)
          go_wp2
          go_quiet (fail)
          go_wp2
          go_ret
          exact ⟨rfl, by first | exact HB.out _ | (rw [World.drewN_drewN]; exact HB.out _) | (rw [World.drewN_drewN, World.drewN_drewN]; exact HB.out _)⟩
      · subst hg
        have hrr := HR.out
        rw [if_pos e0, if_pos e1, if_pos e2] at hrr
        subst hrr
        clear e0 e1 e2
        go_wp2
        go_ret
        exact ⟨rfl, HB.out _⟩
  by_cases hz : True
  · have n1 : (o == 1) = false := by rw [beq_eq_false_iff_ne]; exact h1
    have n2 : (o == 2) = false := by rw [beq_eq_false_iff_ne]; exact h2
    have hr2 : r = lx a0 a1 a2 b0 b1 b2 := by rw [hr]; rw [if_neg h1, if_neg h2]
    unfold lx at hr2
    have HR := Lib.hid hr2
    clear hr hr2
    go_enter Try.func30, Try.ntmps30
    go_wp2
    rw [← hW2]
    clear hW2
    go_loopg [8] 3 (fun g s wr => LxRel a0 a1 a2 b0 b1 b2 W2 g s wr)
    case atStart => exact ⟨⟨0, rfl⟩, .inl ⟨rfl, rfl⟩⟩
    case round =>
      obtain ⟨⟨q, rfl⟩, hw⟩ := hrel
      rcases hw with ⟨hg, rfl⟩ | ⟨hg, rfl, e0⟩ | ⟨hg, rfl, e0, e1⟩ | ⟨hg, rfl, e0, e1, e2⟩
      · subst hg
        by_cases e : a0 = b0
        · subst e
          go_wp2
          go_quiet (fail)
          go_wp2
          go_roundg 2
          case measure => exact Nat.lt_succ_self _
          case rel => exact ⟨⟨_, by first | rfl | exact World.drewN_drewN _ _ _⟩, .inr (.inl ⟨rfl, rfl, rfl⟩)⟩
        · have hrr := HR.out
          rw [if_neg e] at hrr
          subst hrr
          have n1 : (a0 == b0) = false := by rw [beq_eq_false_iff_ne]; exact e
          go_wp2
          go_quiet (fail)
          go_wp2
          go_quiet (fail)
          go_wp2
          go_ret
          exact ⟨rfl, by first | exact HB.out _ | (rw [World.drewN_drewN]; exact HB.out _) | (rw [World.drewN_drewN, World.drewN_drewN]; exact HB.out _)⟩
      · subst hg
        have E0 := Lib.hid e0
        clear e0
        by_cases e : a1 = b1
        · subst e
          go_wp2
          go_quiet (fail)
          go_wp2
          go_roundg 1
          case measure => exact Nat.lt_succ_self _
          case rel => exact ⟨⟨_, by first | rfl | exact World.drewN_drewN _ _ _⟩, .inr (.inr (.inl ⟨rfl, rfl, E0.out, rfl⟩))⟩
        · have hrr := HR.out
          rw [if_pos E0.out, if_neg e] at hrr
          subst hrr
          have n1 : (a1 == b1) = false := by rw [beq_eq_false_iff_ne]; exact e
          go_wp2
          go_quiet (fail)
          go_wp2
          go_quiet (fail)
          go_wp2
          go_ret
          exact ⟨rfl, by first | exact HB.out _ | (rw [World.drewN_drewN]; exact HB.out _) | (rw [World.drewN_drewN, World.drewN_drewN]; exact HB.out _)⟩
      · subst hg
        have E0 := Lib.hid e0
        have E1 := Lib.hid e1
        clear e0 e1
        by_cases e : a2 = b2
        · subst e
          go_wp2
          go_quiet (fail)
          go_wp2
          go_roundg 0
          case measure => exact Nat.lt_succ_self _
          case rel => exact ⟨⟨_, by first | rfl | exact World.drewN_drewN _ _ _⟩, .inr (.inr (.inr ⟨rfl, rfl, E0.out, E1.out, rfl⟩))⟩
        · have hrr := HR.out
          rw [if_pos E0.out, if_pos E1.out, if_neg e] at hrr
          subst hrr
          have n1 : (a2 == b2) = false := by rw [beq_eq_false_iff_ne]; exact e
          go_wp2
          go_quiet (fail)
          go_wp2
          go_quiet (fail)
          go_wp2
          go_ret
          exact ⟨rfl, by first | exact HB.out _ | (rw [World.drewN_drewN]; exact HB.out _) | (rw [World.drewN_drewN, World.drewN_drewN]; exact HB.out _)⟩
      · subst hg
        have hrr := HR.out
        rw [if_pos e0, if_pos e1, if_pos e2] at hrr
        subst hrr
        clear e0 e1 e2
        go_wp2
        go_ret
        exact ⟨rfl, HB.out _⟩
  · exact absurd trivial hz
end Go.Proofs.Ytoiigplflmejmaa
