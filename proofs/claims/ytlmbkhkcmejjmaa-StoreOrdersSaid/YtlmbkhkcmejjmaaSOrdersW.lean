/-
  StoreOrders: the walk. (Out of sorders.py.)
-/
import Derived.Test.YtlmbkhkcmejjmaaSPut
import Derived.Test.YtlmbkhkcmejjmaaSLesk
import Derived.Test.YtlmbkhkcmejjmaaSFits
import Derived.Deep.CutBlock
namespace Go.Proofs.Ytlmbkhkcmejjmaa
open Go.RowKit
set_option linter.unusedVariables false
set_option linter.unusedSimpArgs false
set_option maxRecDepth 100000

theorem pick_swap {a b : Nat × TypeId × Array Value} {l : List (Nat × TypeId × Array Value)} : ∀ p ∈ a :: b :: l, p ∈ b :: a :: l := fun p hp => by
  simp only [List.mem_cons] at hp ⊢
  rcases hp with h | h | h
  · exact .inr (.inl h)
  · exact .inl h
  · exact .inr (.inr h)
abbrev k3 (a b c : Int) : Array Value := #[.int .i64 a, .int .i64 b, .int .i64 c]
def FlRel (w : World) (LL : List (Nat × TypeId × Array Value)) (p0 p1 p2 a0 a1 a2 : Int) (g : Nat) (s9 s19 : Value) (wr : World) : Prop :=
  Hs w LL wr ∧ ((g = 3 ∧ s19 = .int .i64 0 ∧ s9 = .bool true) ∨ (g = 2 ∧ s19 = .int .i64 1 ∧ s9 = .bool (true && fit1 p0 a0)) ∨ (g = 1 ∧ s19 = .int .i64 2 ∧ s9 = .bool (fit1 p0 a0 && fit1 p1 a1)) ∨ (g = 0 ∧ s19 = .int .i64 3 ∧ s9 = .bool (fit3 p0 p1 p2 a0 a1 a2)))
set_option maxHeartbeats 64000000 in
theorem sorders_walk (p0 p1 p2 a0 a1 a2 b0 b1 b2 n : Int) (w : World) : Calls Try.prog 3 #[.agg #[.int .i64 p0, .int .i64 p1, .int .i64 p2], .agg #[.int .i64 a0, .int .i64 a1, .int .i64 a2, .int .i64 b0, .int .i64 b1, .int .i64 b2], .int .i64 n] w fun e w' => e = .returned (.bool true) ∧ Below w.heap.size w w' := by
  have cA := fun {l W} (hR : Hs w l W) => upH hR (sawake_ok W)
  have h0 := hs2 w 22 23 #[.int .i64 p0, .int .i64 p1, .int .i64 p2] #[.int .i64 a0, .int .i64 a1, .int .i64 a2, .int .i64 b0, .int .i64 b1, .int .i64 b2]
  go_enter Try.func3, Try.ntmps3
  go_upto_region 3 with (go_at_call 4; (with_reducible refine (cA h0).mono ?_); rintro e w1 ⟨rfl, hR1⟩)
  clear h0 cA
  have HR1 := Lib.hid hR1
  clear hR1
  go_cut [7, 8] from 15 (fun s7 s8 wx => ∃ g7 g8 : Nat, s7 = .pointer (some ⟨g7, 0, none⟩) ∧ s8 = .pointer (some ⟨g8, 0, none⟩) ∧ Hs w [(g7, 22, k3 a0 a1 a2), (g8, 22, k3 b0 b1 b2), (w.heap.size + 1, 23, #[.int .i64 a0, .int .i64 a1, .int .i64 a2, .int .i64 b0, .int .i64 b1, .int .i64 b2]), (w.heap.size, 22, #[.int .i64 p0, .int .i64 p1, .int .i64 p2])] wx)
  case first =>
    have HK := Lib.hid (fun (W : World) (hb : Below w1.heap.size w1 W) => (⟨(HR1.out.2 _ (.head _)).below hb |>.cell 0, (HR1.out.2 _ (.head _)).below hb |>.cell 1, (HR1.out.2 _ (.head _)).below hb |>.cell 2, (HR1.out.2 _ (.head _)).below hb |>.cell 3, (HR1.out.2 _ (.head _)).below hb |>.cell 4, (HR1.out.2 _ (.head _)).below hb |>.cell 5⟩ : W.cell? ⟨w.heap.size + 1, 0, none⟩ = some (.int .i64 a0) ∧ W.cell? ⟨w.heap.size + 1, 1, none⟩ = some (.int .i64 a1) ∧ W.cell? ⟨w.heap.size + 1, 2, none⟩ = some (.int .i64 a2) ∧ W.cell? ⟨w.heap.size + 1, 3, none⟩ = some (.int .i64 b0) ∧ W.cell? ⟨w.heap.size + 1, 4, none⟩ = some (.int .i64 b1) ∧ W.cell? ⟨w.heap.size + 1, 5, none⟩ = some (.int .i64 b2)))
    obtain ⟨k0, k1, k2, k3', k4, k5⟩ := HK.out w1 (Below.refl _ _)
    go_region_held3 (fun W => W.cell? ⟨w.heap.size + 1, 0, none⟩ = some (.int .i64 a0) ∧ W.cell? ⟨w.heap.size + 1, 1, none⟩ = some (.int .i64 a1) ∧ W.cell? ⟨w.heap.size + 1, 2, none⟩ = some (.int .i64 a2) ∧ W.cell? ⟨w.heap.size + 1, 3, none⟩ = some (.int .i64 b0) ∧ W.cell? ⟨w.heap.size + 1, 4, none⟩ = some (.int .i64 b1) ∧ W.cell? ⟨w.heap.size + 1, 5, none⟩ = some (.int .i64 b2))
      (first | (refine HK.out _ ?_; repeat (first | assumption | exact Below.refl _ _ | refine Below.drew ?_ | refine Below.setCell ?_ (by simp) _ | refine Below.alloc ?_ (by first | exact Nat.le_refl _ | simp) _)))
      (fail)
    all_goals (go_wp2_with fail; go_meet)
    all_goals (first | exact ⟨_, _, rfl, rfl, two_new HR1.out 22 (k3 a0 a1 a2) (k3 b0 b1 b2)⟩ | exact ⟨_, _, rfl, rfl, (two_new HR1.out 22 (k3 b0 b1 b2) (k3 a0 a1 a2)).pick pick_swap⟩)
  case rest =>
    obtain ⟨g7, g8, rfl, rfl, hR2⟩ := hcut
    have HR2 := Lib.hid hR2
    clear hR2 HR1
    go_wp2
    go_loopg [9, 19] 3 (fun g s9 s19 wr => FlRel w [(g7, 22, k3 a0 a1 a2), (g8, 22, k3 b0 b1 b2), (w.heap.size + 1, 23, #[.int .i64 a0, .int .i64 a1, .int .i64 a2, .int .i64 b0, .int .i64 b1, .int .i64 b2]), (w.heap.size, 22, #[.int .i64 p0, .int .i64 p1, .int .i64 p2])] p0 p1 p2 a0 a1 a2 g s9 s19 wr)
    case atStart => exact ⟨HR2.out, .inl ⟨rfl, rfl, rfl⟩⟩
    case round =>
      clear HR2
      obtain ⟨hR, hw⟩ := hrel
      have HR := Lib.hid hR
      obtain ⟨x0, x1, x2⟩ := hR.c3 (.head _)
      obtain ⟨y0, y1, y2⟩ := hR.c3 (.tail _ (.tail _ (.tail _ (.head _))))
      rcases hw with ⟨hg, rfl, rfl⟩ | ⟨hg, rfl, rfl⟩ | ⟨hg, rfl, rfl⟩ | ⟨hg, rfl, rfl⟩
      · subst hg
        have hnx : ∀ f : Bool, f = true → (true && fit1 p0 a0) = (f && fit1 p0 a0) := fun f hf => by rw [hf]
        obtain ⟨f, hf⟩ : ∃ f, f = true := ⟨_, rfl⟩
        have hE := hnx f hf
        subst hf
        clear hnx
        by_cases h : p0 < 0
        · have E := Lib.hid (show (true && fit1 p0 a0) = true from by rw [hE, fit1_lt h]; rfl)
          have d1 : decide (p0 < 0) = true := decide_eq_true h
          clear hE
          clear hR
          go_wp2
          go_quiet (fail)
          go_wp2
          go_roundg 2
          case measure => exact Nat.lt_succ_self _
          case rel => exact ⟨HR.out.drewN _, .inr (.inl ⟨rfl, rfl, by rw [E.out]⟩)⟩
        by_cases e : p0 = a0
        · subst e
          have E := Lib.hid (show (true && fit1 p0 p0) = true from by rw [hE, fit1_eq]; rfl)
          have d1 : decide (p0 < 0) = false := decide_eq_false h
          clear hE
          clear hR
          go_wp2
          go_quiet (fail)
          go_wp2
          go_roundg 2
          case measure => exact Nat.lt_succ_self _
          case rel => exact ⟨HR.out.drewN _, .inr (.inl ⟨rfl, rfl, by rw [E.out]⟩)⟩
        have E := Lib.hid (show (true && fit1 p0 a0) = false from by rw [hE, fit1_no h e]; rfl)
        have d1 : decide (p0 < 0) = false := decide_eq_false h
        have n2 : (p0 == a0) = false := by rw [beq_eq_false_iff_ne]; exact e
        clear hE
        clear hR
        go_wp2
        go_quiet (fail)
        go_wp2
        go_roundg 2
        case measure => exact Nat.lt_succ_self _
        case rel => exact ⟨HR.out.drewN _, .inr (.inl ⟨rfl, rfl, by rw [E.out]⟩)⟩
      · subst hg
        have hnx : ∀ f : Bool, f = (true && fit1 p0 a0) → (fit1 p0 a0 && fit1 p1 a1) = (f && fit1 p1 a1) := fun f hf => by rw [hf]; simp
        obtain ⟨f, hf⟩ : ∃ f, f = (true && fit1 p0 a0) := ⟨_, rfl⟩
        have hE := hnx f hf
        rw [← hf]
        clear hnx
        cases f with
        | false =>
          have E := Lib.hid (show (fit1 p0 a0 && fit1 p1 a1) = false from by rw [hE]; rfl)
          clear hE hf
          clear hR
          go_wp2
          go_quiet (fail)
          go_wp2
          go_roundg 1
          case measure => exact Nat.lt_succ_self _
          case rel => exact ⟨HR.out.drewN _, .inr (.inr (.inl ⟨rfl, rfl, by rw [E.out]⟩))⟩
        | true =>
          clear hf
          by_cases h : p1 < 0
          · have E := Lib.hid (show (fit1 p0 a0 && fit1 p1 a1) = true from by rw [hE, fit1_lt h]; rfl)
            have d1 : decide (p1 < 0) = true := decide_eq_true h
            clear hE
            clear hR
            go_wp2
            go_quiet (fail)
            go_wp2
            go_roundg 1
            case measure => exact Nat.lt_succ_self _
            case rel => exact ⟨HR.out.drewN _, .inr (.inr (.inl ⟨rfl, rfl, by rw [E.out]⟩))⟩
          by_cases e : p1 = a1
          · subst e
            have E := Lib.hid (show (fit1 p0 a0 && fit1 p1 p1) = true from by rw [hE, fit1_eq]; rfl)
            have d1 : decide (p1 < 0) = false := decide_eq_false h
            clear hE
            clear hR
            go_wp2
            go_quiet (fail)
            go_wp2
            go_roundg 1
            case measure => exact Nat.lt_succ_self _
            case rel => exact ⟨HR.out.drewN _, .inr (.inr (.inl ⟨rfl, rfl, by rw [E.out]⟩))⟩
          have E := Lib.hid (show (fit1 p0 a0 && fit1 p1 a1) = false from by rw [hE, fit1_no h e]; rfl)
          have d1 : decide (p1 < 0) = false := decide_eq_false h
          have n2 : (p1 == a1) = false := by rw [beq_eq_false_iff_ne]; exact e
          clear hE
          clear hR
          go_wp2
          go_quiet (fail)
          go_wp2
          go_roundg 1
          case measure => exact Nat.lt_succ_self _
          case rel => exact ⟨HR.out.drewN _, .inr (.inr (.inl ⟨rfl, rfl, by rw [E.out]⟩))⟩
      · subst hg
        have hnx : ∀ f : Bool, f = (fit1 p0 a0 && fit1 p1 a1) → (fit3 p0 p1 p2 a0 a1 a2) = (f && fit1 p2 a2) := fun f hf => by rw [hf]; unfold fit3; simp
        obtain ⟨f, hf⟩ : ∃ f, f = (fit1 p0 a0 && fit1 p1 a1) := ⟨_, rfl⟩
        have hE := hnx f hf
        rw [← hf]
        clear hnx
        cases f with
        | false =>
          have E := Lib.hid (show (fit3 p0 p1 p2 a0 a1 a2) = false from by rw [hE]; rfl)
          clear hE hf
          clear hR
          go_wp2
          go_quiet (fail)
          go_wp2
          go_roundg 0
          case measure => exact Nat.lt_succ_self _
          case rel => exact ⟨HR.out.drewN _, .inr (.inr (.inr ⟨rfl, rfl, by rw [E.out]⟩))⟩
        | true =>
          clear hf
          by_cases h : p2 < 0
          · have E := Lib.hid (show (fit3 p0 p1 p2 a0 a1 a2) = true from by rw [hE, fit1_lt h]; rfl)
            have d1 : decide (p2 < 0) = true := decide_eq_true h
            clear hE
            clear hR
            go_wp2
            go_quiet (fail)
            go_wp2
            go_roundg 0
            case measure => exact Nat.lt_succ_self _
            case rel => exact ⟨HR.out.drewN _, .inr (.inr (.inr ⟨rfl, rfl, by rw [E.out]⟩))⟩
          by_cases e : p2 = a2
          · subst e
            have E := Lib.hid (show (fit3 p0 p1 p2 a0 a1 p2) = true from by rw [hE, fit1_eq]; rfl)
            have d1 : decide (p2 < 0) = false := decide_eq_false h
            clear hE
            clear hR
            go_wp2
            go_quiet (fail)
            go_wp2
            go_roundg 0
            case measure => exact Nat.lt_succ_self _
            case rel => exact ⟨HR.out.drewN _, .inr (.inr (.inr ⟨rfl, rfl, by rw [E.out]⟩))⟩
          have E := Lib.hid (show (fit3 p0 p1 p2 a0 a1 a2) = false from by rw [hE, fit1_no h e]; rfl)
          have d1 : decide (p2 < 0) = false := decide_eq_false h
          have n2 : (p2 == a2) = false := by rw [beq_eq_false_iff_ne]; exact e
          clear hE
          clear hR
          go_wp2
          go_quiet (fail)
          go_wp2
          go_roundg 0
          case measure => exact Nat.lt_succ_self _
          case rel => exact ⟨HR.out.drewN _, .inr (.inr (.inr ⟨rfl, rfl, by rw [E.out]⟩))⟩
      · subst hg
        have cO := fun {l W} (hR : Hs w l W) => upH hR (sorder_any p0 p1 p2 W)
        have cK := fun {l W} (hR : Hs w l W) => upH hR (korder_any p0 p1 p2 W)
        have cL := fun {l W} (hR : Hs w l W) => upH hR (sless_any n a0 a1 a2 b0 b1 b2 W)
        have cM := fun {l W} (hR : Hs w l W) => upH hR (kless_any n a0 a1 a2 b0 b1 b2 W)
        have cN := fun {l W} (hR : Hs w l W) => upH hR (sless_any n b0 b1 b2 a0 a1 a2 W)
        have cP := fun {l W} (hR : Hs w l W) => upH hR (kless_any n b0 b1 b2 a0 a1 a2 W)
        have cF := fun {l W} (hR : Hs w l W) => upH hR (sfits_any p0 p1 p2 a0 a1 a2 W)
        generalize ordP p0 p1 p2 = N at *
        generalize lsB n a0 a1 a2 b0 b1 b2 = L1 at *
        generalize lsB n b0 b1 b2 a0 a1 a2 = L2 at *
        generalize fit3 p0 p1 p2 a0 a1 a2 = F at *
        clear hR x0 x1 x2 y0 y1 y2
        go_upto_region 10 with fail
        go_cut [11, 12] from 39 (fun s11 s12 wx => ∃ g11 g12 : Nat, s11 = .pointer (some ⟨g11, 0, none⟩) ∧ s12 = .pointer (some ⟨g12, 0, none⟩) ∧ Hs w [(g11, 25, k3 a0 a1 a2), (g12, 25, k3 b0 b1 b2), (g7, 22, k3 a0 a1 a2), (g8, 22, k3 b0 b1 b2), (w.heap.size + 1, 23, #[.int .i64 a0, .int .i64 a1, .int .i64 a2, .int .i64 b0, .int .i64 b1, .int .i64 b2]), (w.heap.size, 22, #[.int .i64 p0, .int .i64 p1, .int .i64 p2])] wx)
        case first =>
          have HK := Lib.hid (fun (W : World) (hb : Below wr.heap.size wr W) => And.intro ((HR.out.below hb).c3 (.head _)) ((HR.out.below hb).c3 (.tail _ (.head _))))
          obtain ⟨⟨k0, k1, k2⟩, k3', k4, k5⟩ := HK.out wr (Below.refl _ _)
          go_region_held3 (fun W => (W.cell? ⟨g7, 0, none⟩ = some (.int .i64 a0) ∧ W.cell? ⟨g7, 1, none⟩ = some (.int .i64 a1) ∧ W.cell? ⟨g7, 2, none⟩ = some (.int .i64 a2)) ∧ W.cell? ⟨g8, 0, none⟩ = some (.int .i64 b0) ∧ W.cell? ⟨g8, 1, none⟩ = some (.int .i64 b1) ∧ W.cell? ⟨g8, 2, none⟩ = some (.int .i64 b2))
            (first | (refine HK.out _ ?_; repeat (first | assumption | exact Below.refl _ _ | refine Below.drew ?_ | refine Below.setCell ?_ (by simp) _ | refine Below.alloc ?_ (by first | exact Nat.le_refl _ | simp) _)))
            (fail)
          all_goals (go_wp2_with fail; go_meet)
          all_goals (first | exact ⟨_, _, rfl, rfl, two_new HR.out 25 (k3 a0 a1 a2) (k3 b0 b1 b2)⟩ | exact ⟨_, _, rfl, rfl, (two_new HR.out 25 (k3 b0 b1 b2) (k3 a0 a1 a2)).pick pick_swap⟩)
        case rest =>
          obtain ⟨g11, g12, rfl, rfl, hR3⟩ := hcut
          have HK := Lib.hid (fun (W : World) (hR : Hs w [(g11, 25, k3 a0 a1 a2), (g12, 25, k3 b0 b1 b2), (g7, 22, k3 a0 a1 a2), (g8, 22, k3 b0 b1 b2), (w.heap.size + 1, 23, #[.int .i64 a0, .int .i64 a1, .int .i64 a2, .int .i64 b0, .int .i64 b1, .int .i64 b2]), (w.heap.size, 22, #[.int .i64 p0, .int .i64 p1, .int .i64 p2])] W) => And.intro (hR.c3 (.head _)) (And.intro (hR.c3 (.tail _ (.head _))) (And.intro (hR.c3 (.tail _ (.tail _ (.head _)))) (And.intro (hR.c3 (.tail _ (.tail _ (.tail _ (.head _))))) (hR.c3 (.tail _ (.tail _ (.tail _ (.tail _ (.tail _ (.head _)))))))))))
          obtain ⟨⟨x0, x1, x2⟩, ⟨y0, y1, y2⟩, ⟨u0', u1', u2'⟩, ⟨v0, v1, v2⟩, ⟨z0, z1, z2⟩⟩ := HK.out wc hR3
          have hR4 := hR3.drew
          clear HR
          go_wp2
          go_region_held3 (fun W => (W.cell? ⟨g11, 0, none⟩ = some (.int .i64 a0) ∧ W.cell? ⟨g11, 1, none⟩ = some (.int .i64 a1) ∧ W.cell? ⟨g11, 2, none⟩ = some (.int .i64 a2)) ∧ (W.cell? ⟨g12, 0, none⟩ = some (.int .i64 b0) ∧ W.cell? ⟨g12, 1, none⟩ = some (.int .i64 b1) ∧ W.cell? ⟨g12, 2, none⟩ = some (.int .i64 b2)) ∧ (W.cell? ⟨g7, 0, none⟩ = some (.int .i64 a0) ∧ W.cell? ⟨g7, 1, none⟩ = some (.int .i64 a1) ∧ W.cell? ⟨g7, 2, none⟩ = some (.int .i64 a2)) ∧ (W.cell? ⟨g8, 0, none⟩ = some (.int .i64 b0) ∧ W.cell? ⟨g8, 1, none⟩ = some (.int .i64 b1) ∧ W.cell? ⟨g8, 2, none⟩ = some (.int .i64 b2)) ∧ (W.cell? ⟨w.heap.size, 0, none⟩ = some (.int .i64 p0) ∧ W.cell? ⟨w.heap.size, 1, none⟩ = some (.int .i64 p1) ∧ W.cell? ⟨w.heap.size, 2, none⟩ = some (.int .i64 p2)))
            (first | exact ⟨⟨x0, x1, x2⟩, ⟨y0, y1, y2⟩, ⟨u0', u1', u2'⟩, ⟨v0, v1, v2⟩, ⟨z0, z1, z2⟩⟩ | exact HK.out _ (by assumption) | exact HK.out _ (Hs.drew (by assumption)))
            (first
              | (go_at_call 5; (with_reducible refine (cO (by assumption)).mono ?_); rintro e w4 ⟨rfl, hH4⟩)
              | (go_at_call 6; (with_reducible refine (cK (by assumption)).mono ?_); rintro e w5 ⟨rfl, hH5⟩)
              | (go_at_call 7; (with_reducible refine (cL (by assumption)).mono ?_); rintro e w6 ⟨rfl, hH6⟩)
              | (go_at_call 8; (with_reducible refine (cM (by assumption)).mono ?_); rintro e w7 ⟨rfl, hH7⟩)
              | (go_at_call 7; (with_reducible refine (cN (by assumption)).mono ?_); rintro e w8 ⟨rfl, hH8⟩)
              | (go_at_call 8; (with_reducible refine (cP (by assumption)).mono ?_); rintro e w9 ⟨rfl, hH9⟩)
              | (go_at_call 9; (with_reducible refine (cF (by assumption)).mono ?_); rintro e w10 ⟨rfl, hH10⟩)
              | fail)
          all_goals
            (try go_wp2)
            go_ret
            exact ⟨rfl, hH10.1⟩
end Go.Proofs.Ytlmbkhkcmejjmaa
