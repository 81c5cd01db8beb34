/-
  Less, the program's.
-/
import Derived.Test.YtoiigplflmejmaaSBase
namespace Go.Proofs.Ytoiigplflmejmaa
open Go.RowKit
set_option linter.unusedVariables false
set_option linter.unusedSimpArgs false
set_option maxRecDepth 100000

/-- One behind the other. -/
def lx (a0 a1 a2 b0 b1 b2 : Int) : Bool := if a0 = b0 then (if a1 = b1 then (if a2 = b2 then false else decide (a2 < b2)) else decide (a1 < b1)) else decide (a0 < b0)
/-- In an order. -/
def lsB (o a0 a1 a2 b0 b1 b2 : Int) : Bool := if o = 1 then lx a1 a2 a0 b1 b2 b0 else if o = 2 then lx a2 a0 a1 b2 b0 b1 else lx a0 a1 a2 b0 b1 b2
def LxRel (x0 x1 x2 y0 y1 y2 : Int) (W2 : World) (g : Nat) (s : Value) (wr : World) : Prop :=
  (∃ q, wr = W2.drewN q) ∧ ((g = 3 ∧ s = .int .i64 0) ∨ (g = 2 ∧ s = .int .i64 1 ∧ x0 = y0) ∨ (g = 1 ∧ s = .int .i64 2 ∧ x0 = y0 ∧ x1 = y1) ∨ (g = 0 ∧ s = .int .i64 3 ∧ x0 = y0 ∧ x1 = y1 ∧ x2 = y2))
set_option maxHeartbeats 16000000 in
theorem sless_any (o a0 a1 a2 b0 b1 b2 : Int) (W : World) : Calls Try.prog 45 #[.int .i64 o, .agg #[.int .i64 a0, .int .i64 a1, .int .i64 a2], .agg #[.int .i64 b0, .int .i64 b1, .int .i64 b2]] W fun e w' => e = .returned (.bool (lsB o a0 a1 a2 b0 b1 b2)) ∧ Below W.heap.size W w' := by
  obtain ⟨r, hr⟩ : ∃ r, r = lsB o a0 a1 a2 b0 b1 b2 := ⟨_, rfl⟩
  rw [← hr]
  unfold lsB at hr
  obtain ⟨W2, hW2⟩ : ∃ W2, W2 = (W.alloc (.cells #[.int .i64 a0, .int .i64 a1, .int .i64 a2] 37)).alloc (.cells #[.int .i64 b0, .int .i64 b1, .int .i64 b2] 37) := ⟨_, rfl⟩
  have hF1 : Fb W2 W.heap.size 37 #[.int .i64 a0, .int .i64 a1, .int .i64 a2] := by rw [hW2]; exact (Fb.new _ _ _).alloc _
  have hF2 : Fb W2 (W.heap.size + 1) 37 #[.int .i64 b0, .int .i64 b1, .int .i64 b2] := by
    have := Fb.new (W.alloc (.cells #[.int .i64 a0, .int .i64 a1, .int .i64 a2] 37)) 37 #[.int .i64 b0, .int .i64 b1, .int .i64 b2]
    rw [World.size_alloc] at this
    rw [hW2]; exact this
  have HB := Lib.hid (show ∀ q, Below W.heap.size W (W2.drewN q) from fun q => below_drewP (by rw [hW2]; exact ((Below.refl _ _).alloc (Nat.le_refl _) _).alloc (by simp) _) q)
  have p0 := hF1.cell 0
  have p1 := hF1.cell 1
  have p2 := hF1.cell 2
  have q0 := hF2.cell 0
  have q1 := hF2.cell 1
  have q2 := hF2.cell 2
  clear hF1 hF2
  by_cases h0 : o < 0
  · have d0 : decide (o < 0) = true := decide_eq_true h0
    have hr2 : r = lx a0 a1 a2 b0 b1 b2 := by rw [hr]; rw [if_neg (by omega), if_neg (by omega)]
    unfold lx at hr2
    have HR := Lib.hid hr2
    clear hr hr2
    go_enter Try.func45, Try.ntmps45
    go_wp2
    rw [← hW2]
    clear hW2
    go_loopg [15] 3 (fun g s wr => LxRel a0 a1 a2 b0 b1 b2 W2 g s wr)
    case atStart => exact ⟨⟨0, rfl⟩, .inl ⟨rfl, rfl⟩⟩
    case round =>
      obtain ⟨⟨q, rfl⟩, hw⟩ := hrel
      rcases hw with ⟨hg, rfl⟩ | ⟨hg, rfl, e0⟩ | ⟨hg, rfl, e0, e1⟩ | ⟨hg, rfl, e0, e1, e2⟩
      · subst hg
        by_cases e : a0 = b0
        · subst e
          go_wp2
          go_quiet (fail)
          go_wp2
          go_roundg 2
          case measure => exact Nat.lt_succ_self _
          case rel => exact ⟨⟨_, by first | rfl | exact World.drewN_drewN _ _ _⟩, .inr (.inl ⟨rfl, rfl, rfl⟩)⟩
        · have hrr := HR.out
          rw [if_neg e] at hrr
          subst hrr
          have n1 : (a0 == b0) = false := by rw [beq_eq_false_iff_ne]; exact e
          go_wp2
          go_quiet (fail)
          go_wp2
          go_quiet (fail)
          go_wp2
          go_ret
          exact ⟨rfl, by first | exact HB.out _ | (rw [World.drewN_drewN]; exact HB.out _) | (rw [World.drewN_drewN, World.drewN_drewN]; exact HB.out _)⟩
      · subst hg
        have E0 := Lib.hid e0
        clear e0
        by_cases e : a1 = b1
        · subst e
          go_wp2
          go_quiet (fail)
          go_wp2
          go_roundg 1
          case measure => exact Nat.lt_succ_self _
          case rel => exact ⟨⟨_, by first | rfl | exact World.drewN_drewN _ _ _⟩, .inr (.inr (.inl ⟨rfl, rfl, E0.out, rfl⟩))⟩
        · have hrr := HR.out
          rw [if_pos E0.out, if_neg e] at hrr
          subst hrr
          have n1 : (a1 == b1) = false := by rw [beq_eq_false_iff_ne]; exact e
          go_wp2
          go_quiet (fail)
          go_wp2
          go_quiet (fail)
          go_wp2
          go_ret
          exact ⟨rfl, by first | exact HB.out _ | (rw [World.drewN_drewN]; exact HB.out _) | (rw [World.drewN_drewN, World.drewN_drewN]; exact HB.out _)⟩
      · subst hg
        have E0 := Lib.hid e0
        have E1 := Lib.hid e1
        clear e0 e1
        by_cases e : a2 = b2
        · subst e
          go_wp2
          go_quiet (fail)
          go_wp2
          go_roundg 0
          case measure => exact Nat.lt_succ_self _
          case rel => exact ⟨⟨_, by first | rfl | exact World.drewN_drewN _ _ _⟩, .inr (.inr (.inr ⟨rfl, rfl, E0.out, E1.out, rfl⟩))⟩
        · have hrr := HR.out
          rw [if_pos E0.out, if_pos E1.out, if_neg e] at hrr
          subst hrr
          have n1 : (a2 == b2) = false := by rw [beq_eq_false_iff_ne]; exact e
          go_wp2
          go_quiet (fail)
          go_wp2
          go_quiet (fail)
          go_wp2
          go_ret
          exact ⟨rfl, by first | exact HB.out _ | (rw [World.drewN_drewN]; exact HB.out _) | (rw [World.drewN_drewN, World.drewN_drewN]; exact HB.out _)⟩
      · subst hg
        have hrr := HR.out
        rw [if_pos e0, if_pos e1, if_pos e2] at hrr
        subst hrr
        clear e0 e1 e2
        go_wp2
        go_ret
        exact ⟨rfl, HB.out _⟩
  by_cases h3 : 3 ≤ o
  · have d0 : decide (o < 0) = false := decide_eq_false h0
    have d3 : decide (3 ≤ o) = true := decide_eq_true h3
    have hr2 : r = lx a0 a1 a2 b0 b1 b2 := by rw [hr]; rw [if_neg (by omega), if_neg (by omega)]
    unfold lx at hr2
    have HR := Lib.hid hr2
    clear hr hr2
    go_enter Try.func45, Try.ntmps45
    go_wp2
    rw [← hW2]
    clear hW2
    go_loopg [15] 3 (fun g s wr => LxRel a0 a1 a2 b0 b1 b2 W2 g s wr)
    case atStart => exact ⟨⟨0, rfl⟩, .inl ⟨rfl, rfl⟩⟩
    case round =>
      obtain ⟨⟨q, rfl⟩, hw⟩ := hrel
      rcases hw with ⟨hg, rfl⟩ | ⟨hg, rfl, e0⟩ | ⟨hg, rfl, e0, e1⟩ | ⟨hg, rfl, e0, e1, e2⟩
      · subst hg
        by_cases e : a0 = b0
        · subst e
          go_wp2
          go_quiet (fail)
          go_wp2
          go_roundg 2
          case measure => exact Nat.lt_succ_self _
          case rel => exact ⟨⟨_, by first | rfl | exact World.drewN_drewN _ _ _⟩, .inr (.inl ⟨rfl, rfl, rfl⟩)⟩
        · have hrr := HR.out
          rw [if_neg e] at hrr
          subst hrr
          have n1 : (a0 == b0) = false := by rw [beq_eq_false_iff_ne]; exact e
          go_wp2
          go_quiet (fail)
          go_wp2
          go_quiet (fail)
          go_wp2
          go_ret
          exact ⟨rfl, by first | exact HB.out _ | (rw [World.drewN_drewN]; exact HB.out _) | (rw [World.drewN_drewN, World.drewN_drewN]; exact HB.out _)⟩
      · subst hg
        have E0 := Lib.hid e0
        clear e0
        by_cases e : a1 = b1
        · subst e
          go_wp2
          go_quiet (fail)
          go_wp2
          go_roundg 1
          case measure => exact Nat.lt_succ_self _
          case rel => exact ⟨⟨_, by first | rfl | exact World.drewN_drewN _ _ _⟩, .inr (.inr (.inl ⟨rfl, rfl, E0.out, rfl⟩))⟩
        · have hrr := HR.out
          rw [if_pos E0.out, if_neg e] at hrr
          subst hrr
          have n1 : (a1 == b1) = false := by rw [beq_eq_false_iff_ne]; exact e
          go_wp2
          go_quiet (fail)
          go_wp2
          go_quiet (fail)
          go_wp2
          go_ret
          exact ⟨rfl, by first | exact HB.out _ | (rw [World.drewN_drewN]; exact HB.out _) | (rw [World.drewN_drewN, World.drewN_drewN]; exact HB.out _)⟩
      · subst hg
        have E0 := Lib.hid e0
        have E1 := Lib.hid e1
        clear e0 e1
        by_cases e : a2 = b2
        · subst e
          go_wp2
          go_quiet (fail)
          go_wp2
          go_roundg 0
          case measure => exact Nat.lt_succ_self _
          case rel => exact ⟨⟨_, by first | rfl | exact World.drewN_drewN _ _ _⟩, .inr (.inr (.inr ⟨rfl, rfl, E0.out, E1.out, rfl⟩))⟩
        · have hrr := HR.out
          rw [if_pos E0.out, if_pos E1.out, if_neg e] at hrr
          subst hrr
          have n1 : (a2 == b2) = false := by rw [beq_eq_false_iff_ne]; exact e
          go_wp2
          go_quiet (fail)
          go_wp2
          go_quiet (fail)
          go_wp2
          go_ret
          exact ⟨rfl, by first | exact HB.out _ | (rw [World.drewN_drewN]; exact HB.out _) | (rw [World.drewN_drewN, World.drewN_drewN]; exact HB.out _)⟩
      · subst hg
        have hrr := HR.out
        rw [if_pos e0, if_pos e1, if_pos e2] at hrr
        subst hrr
        clear e0 e1 e2
        go_wp2
        go_ret
        exact ⟨rfl, HB.out _⟩
  by_cases h1 : o = 1
  · subst h1
    have hr2 : r = lx a1 a2 a0 b1 b2 b0 := by rw [hr]; rw [if_pos rfl]
    unfold lx at hr2
    have HR := Lib.hid hr2
    clear hr hr2
    go_enter Try.func45, Try.ntmps45
    go_wp2
    rw [← hW2]
    clear hW2
    go_loopg [15] 3 (fun g s wr => LxRel a1 a2 a0 b1 b2 b0 W2 g s wr)
    case atStart => exact ⟨⟨0, rfl⟩, .inl ⟨rfl, rfl⟩⟩
    case round =>
      obtain ⟨⟨q, rfl⟩, hw⟩ := hrel
      rcases hw with ⟨hg, rfl⟩ | ⟨hg, rfl, e0⟩ | ⟨hg, rfl, e0, e1⟩ | ⟨hg, rfl, e0, e1, e2⟩
      · subst hg
        by_cases e : a1 = b1
        · subst e
          go_wp2
          go_quiet (fail)
          go_wp2
          go_roundg 2
          case measure => exact Nat.lt_succ_self _
          case rel => exact ⟨⟨_, by first | rfl | exact World.drewN_drewN _ _ _⟩, .inr (.inl ⟨rfl, rfl, rfl⟩)⟩
        · have hrr := HR.out
          rw [if_neg e] at hrr
          subst hrr
          have n1 : (a1 == b1) = false := by rw [beq_eq_false_iff_ne]; exact e
          go_wp2
          go_quiet (fail)
          go_wp2
          go_quiet (fail)
          go_wp2
          go_ret
          exact ⟨rfl, by first | exact HB.out _ | (rw [World.drewN_drewN]; exact HB.out _) | (rw [World.drewN_drewN, World.drewN_drewN]; exact HB.out _)⟩
      · subst hg
        have E0 := Lib.hid e0
        clear e0
        by_cases e : a2 = b2
        · subst e
          go_wp2
          go_quiet (fail)
          go_wp2
          go_roundg 1
          case measure => exact Nat.lt_succ_self _
          case rel => exact ⟨⟨_, by first | rfl | exact World.drewN_drewN _ _ _⟩, .inr (.inr (.inl ⟨rfl, rfl, E0.out, rfl⟩))⟩
        · have hrr := HR.out
          rw [if_pos E0.out, if_neg e] at hrr
          subst hrr
          have n1 : (a2 == b2) = false := by rw [beq_eq_false_iff_ne]; exact e
          go_wp2
          go_quiet (fail)
          go_wp2
          go_quiet (fail)
          go_wp2
          go_ret
          exact ⟨rfl, by first | exact HB.out _ | (rw [World.drewN_drewN]; exact HB.out _) | (rw [World.drewN_drewN, World.drewN_drewN]; exact HB.out _)⟩
      · subst hg
        have E0 := Lib.hid e0
        have E1 := Lib.hid e1
        clear e0 e1
        by_cases e : a0 = b0
        · subst e
          go_wp2
          go_quiet (fail)
          go_wp2
          go_roundg 0
          case measure => exact Nat.lt_succ_self _
          case rel => exact ⟨⟨_, by first | rfl | exact World.drewN_drewN _ _ _⟩, .inr (.inr (.inr ⟨rfl, rfl, E0.out, E1.out, rfl⟩))⟩
        · have hrr := HR.out
          rw [if_pos E0.out, if_pos E1.out, if_neg e] at hrr
          subst hrr
          have n1 : (a0 == b0) = false := by rw [beq_eq_false_iff_ne]; exact e
          go_wp2
          go_quiet (fail)
          go_wp2
          go_quiet (fail)
          go_wp2
          go_ret
          exact ⟨rfl, by first | exact HB.out _ | (rw [World.drewN_drewN]; exact HB.out _) | (rw [World.drewN_drewN, World.drewN_drewN]; exact HB.out _)⟩
      · subst hg
        have hrr := HR.out
        rw [if_pos e0, if_pos e1, if_pos e2] at hrr
        subst hrr
        clear e0 e1 e2
        go_wp2
        go_ret
        exact ⟨rfl, HB.out _⟩
  by_cases h2 : o = 2
  · subst h2
    have hr2 : r = lx a2 a0 a1 b2 b0 b1 := by rw [hr]; rw [if_neg (by decide), if_pos rfl]
    unfold lx at hr2
    have HR := Lib.hid hr2
    clear hr hr2
    go_enter Try.func45, Try.ntmps45
    go_wp2
    rw [← hW2]
    clear hW2
    go_loopg [15] 3 (fun g s wr => LxRel a2 a0 a1 b2 b0 b1 W2 g s wr)
    case atStart => exact ⟨⟨0, rfl⟩, .inl ⟨rfl, rfl⟩⟩
    case round =>
      obtain ⟨⟨q, rfl⟩, hw⟩ := hrel
      rcases hw with ⟨hg, rfl⟩ | ⟨hg, rfl, e0⟩ | ⟨hg, rfl, e0, e1⟩ | ⟨hg, rfl, e0, e1, e2⟩
      · subst hg
        by_cases e : a2 = b2
        · subst e
          go_wp2
          go_quiet (fail)
          go_wp2
          go_roundg 2
          case measure => exact Nat.lt_succ_self _
          case rel => exact ⟨⟨_, by first | rfl | exact World.drewN_drewN _ _ _⟩, .inr (.inl ⟨rfl, rfl, rfl⟩)⟩
        · have hrr := HR.out
          rw [if_neg e] at hrr
          subst hrr
          have n1 : (a2 == b2) = false := by rw [beq_eq_false_iff_ne]; exact e
          go_wp2
          go_quiet (fail)
          go_wp2
          go_quiet (fail)
          go_wp2
          go_ret
          exact ⟨rfl, by first | exact HB.out _ | (rw [World.drewN_drewN]; exact HB.out _) | (rw [World.drewN_drewN, World.drewN_drewN]; exact HB.out _)⟩
      · subst hg
        have E0 := Lib.hid e0
        clear e0
        by_cases e : a0 = b0
        · subst e
          go_wp2
          go_quiet (fail)
          go_wp2
          go_roundg 1
          case measure => exact Nat.lt_succ_self _
          case rel => exact ⟨⟨_, by first | rfl | exact World.drewN_drewN _ _ _⟩, .inr (.inr (.inl ⟨rfl, rfl, E0.out, rfl⟩))⟩
        · have hrr := HR.out
          rw [if_pos E0.out, if_neg e] at hrr
          subst hrr
          have n1 : (a0 == b0) = false := by rw [beq_eq_false_iff_ne]; exact e
          go_wp2
          go_quiet (fail)
          go_wp2
          go_quiet (fail)
          go_wp2
          go_ret
          exact ⟨rfl, by first | exact HB.out _ | (rw [World.drewN_drewN]; exact HB.out _) | (rw [World.drewN_drewN, World.drewN_drewN]; exact HB.out _)⟩
      · subst hg
        have E0 := Lib.hid e0
        have E1 := Lib.hid e1
        clear e0 e1
        by_cases e : a1 = b1
        · subst e
          go_wp2
          go_quiet (fail)
          go_wp2
          go_roundg 0
          case measure => exact Nat.lt_succ_self _
          case rel => exact ⟨⟨_, by first | rfl | exact World.drewN_drewN _ _ _⟩, .inr (.inr (.inr ⟨rfl, rfl, E0.out, E1.out, rfl⟩))⟩
        · have hrr := HR.out
          rw [if_pos E0.out, if_pos E1.out, if_neg e] at hrr
          subst hrr
          have n1 : (a1 == b1) = false := by rw [beq_eq_false_iff_ne]; exact e
          go_wp2
          go_quiet (fail)
          go_wp2
          go_quiet (fail)
          go_wp2
          go_ret
          exact ⟨rfl, by first | exact HB.out _ | (rw [World.drewN_drewN]; exact HB.out _) | (rw [World.drewN_drewN, World.drewN_drewN]; exact HB.out _)⟩
      · subst hg
        have hrr := HR.out
        rw [if_pos e0, if_pos e1, if_pos e2] at hrr
        subst hrr
        clear e0 e1 e2
        go_wp2
        go_ret
        exact ⟨rfl, HB.out _⟩
  obtain rfl : o = 0 := by omega
  have hr2 : r = lx a0 a1 a2 b0 b1 b2 := by rw [hr]; rw [if_neg (by decide), if_neg (by decide)]
  unfold lx at hr2
  have HR := Lib.hid hr2
  clear hr hr2
  go_enter Try.func45, Try.ntmps45
  go_wp2
  rw [← hW2]
  clear hW2
  go_loopg [15] 3 (fun g s wr => LxRel a0 a1 a2 b0 b1 b2 W2 g s wr)
  case atStart => exact ⟨⟨0, rfl⟩, .inl ⟨rfl, rfl⟩⟩
  case round =>
    obtain ⟨⟨q, rfl⟩, hw⟩ := hrel
    rcases hw with ⟨hg, rfl⟩ | ⟨hg, rfl, e0⟩ | ⟨hg, rfl, e0, e1⟩ | ⟨hg, rfl, e0, e1, e2⟩
    · subst hg
      by_cases e : a0 = b0
      · subst e
        go_wp2
        go_quiet (fail)
        go_wp2
        go_roundg 2
        case measure => exact Nat.lt_succ_self _
        case rel => exact ⟨⟨_, by first | rfl | exact World.drewN_drewN _ _ _⟩, .inr (.inl ⟨rfl, rfl, rfl⟩)⟩
      · have hrr := HR.out
        rw [if_neg e] at hrr
        subst hrr
        have n1 : (a0 == b0) = false := by rw [beq_eq_false_iff_ne]; exact e
        go_wp2
        go_quiet (fail)
        go_wp2
        go_quiet (fail)
        go_wp2
        go_ret
        exact ⟨rfl, by first | exact HB.out _ | (rw [World.drewN_drewN]; exact HB.out _) | (rw [World.drewN_drewN, World.drewN_drewN]; exact HB.out _)⟩
    · subst hg
      have E0 := Lib.hid e0
      clear e0
      by_cases e : a1 = b1
      · subst e
        go_wp2
        go_quiet (fail)
        go_wp2
        go_roundg 1
        case measure => exact Nat.lt_succ_self _
        case rel => exact ⟨⟨_, by first | rfl | exact World.drewN_drewN _ _ _⟩, .inr (.inr (.inl ⟨rfl, rfl, E0.out, rfl⟩))⟩
      · have hrr := HR.out
        rw [if_pos E0.out, if_neg e] at hrr
        subst hrr
        have n1 : (a1 == b1) = false := by rw [beq_eq_false_iff_ne]; exact e
        go_wp2
        go_quiet (fail)
        go_wp2
        go_quiet (fail)
        go_wp2
        go_ret
        exact ⟨rfl, by first | exact HB.out _ | (rw [World.drewN_drewN]; exact HB.out _) | (rw [World.drewN_drewN, World.drewN_drewN]; exact HB.out _)⟩
    · subst hg
      have E0 := Lib.hid e0
      have E1 := Lib.hid e1
      clear e0 e1
      by_cases e : a2 = b2
      · subst e
        go_wp2
        go_quiet (fail)
        go_wp2
        go_roundg 0
        case measure => exact Nat.lt_succ_self _
        case rel => exact ⟨⟨_, by first | rfl | exact World.drewN_drewN _ _ _⟩, .inr (.inr (.inr ⟨rfl, rfl, E0.out, E1.out, rfl⟩))⟩
      · have hrr := HR.out
        rw [if_pos E0.out, if_pos E1.out, if_neg e] at hrr
        subst hrr
        have n1 : (a2 == b2) = false := by rw [beq_eq_false_iff_ne]; exact e
        go_wp2
        go_quiet (fail)
        go_wp2
        go_quiet (fail)
        go_wp2
        go_ret
        exact ⟨rfl, by first | exact HB.out _ | (rw [World.drewN_drewN]; exact HB.out _) | (rw [World.drewN_drewN, World.drewN_drewN]; exact HB.out _)⟩
    · subst hg
      have hrr := HR.out
      rw [if_pos e0, if_pos e1, if_pos e2] at hrr
      subst hrr
      clear e0 e1 e2
      go_wp2
      go_ret
      exact ⟨rfl, HB.out _⟩
end Go.Proofs.Ytoiigplflmejmaa
