/-
  WindowNeeds's walk.
-/
import Derived.Test.YtpmimmbheieobaaWAw
namespace Go.Proofs.Ytpmimmbheieobaa
open Go.RowKit
set_option linter.unusedVariables false
set_option linter.unusedSimpArgs false
set_option maxRecDepth 100000

set_option maxHeartbeats 1000000 in
theorem needs_up (x0 x1 x2 m0 m1 n : Int) (hn0 : 0 ≤ n) (hn1 : n ≤ 65535) (hc : ¬ cl m1 < cl m0) (w : World) : Calls Try.prog 9 #[a3 x0 x1 x2, .agg #[.int .i64 m0, .int .i64 m1], .int .u16 n] w fun e w' => e = .returned (.bool true) ∧ Below w.heap.size w w' := by
  have cA := fun {l W} (hR : Hs w l W) => upH hR (wawake_ok W)
  have cS := fun {l W} (hR : Hs w l W) => upH hR (wshape_any x0 x1 x2 W)
  have cH0 := fun {l W} (hR : Hs w l W) => upH hR (wheld_any m0 W)
  have cH1 := fun {l W} (hR : Hs w l W) => upH hR (wheld_any m1 W)
  have h := shOf_ok x0 x1 x2
  generalize shOf x0 x1 x2 = s at *
  have g0 := cl_cl m0
  have g1 := cl_cl m1
  generalize cl m0 = T0 at *
  generalize cl m1 = T1 at *
  have cN0 := fun {l W} (hR : Hs w l W) => upH hR (wneeded_any h T0 W)
  have cN1 := fun {l W} (hR : Hs w l W) => upH hR (wneeded_any h T1 W)
  have cF0 := fun {l W} (hR : Hs w l W) => upH hR (wfirst_any h T0 W)
  have cF1 := fun {l W} (hR : Hs w l W) => upH hR (wfirst_any h T1 W)
  have f1 : s.fst T0 ≤ s.fst T1 := Sh.fst_mono h (by omega)
  have f2 := Sh.at_mono h f1
  have hw : s.at n + s.w ≤ 2305843009213693952 := by
    have := h.w1
    have := h.b1
    have h3 : n * s.sl ≤ 65535 * 1099511627776 := Int.mul_le_mul hn1 h.s1 (by have := h.s0; omega) (by omega)
    unfold Sh.at; omega
  have cW := fun {l W} (hR : Hs w l W) => upH hR (wwindow_ok h hn0 hw W)
  have f3 : ¬ s.at n + s.w ≤ T0 → s.at (s.fst T0) ≤ s.at n := fun hx => by
    have := mt (Sh.lt_fst h hn0 T0).1 (by rw [g0]; exact hx)
    exact Sh.at_mono h (by omega)
  have n1 : ¬ s.fst T1 < s.fst T0 := by omega
  have n2 : ¬ s.at (s.fst T1) < s.at (s.fst T0) := by omega
  have ew : wrap64 n = n := wrap64_fit (by omega) (by omega)
  clear h hw f1 f2 g0 g1
  generalize s.at (s.fst T0) = na at *
  generalize s.at (s.fst T1) = nb at *
  generalize s.fst T0 = fa at *
  generalize s.fst T1 = fb at *
  generalize s.at n = o at *
  generalize hcl : o + s.w = cc at *
  clear hcl
  have d1 : decide (fb < fa) = false := decide_eq_false n1
  have d2 : decide (nb < na) = false := decide_eq_false n2
  obtain ⟨A, S, B⟩ := s
  go_enter Try.func9, Try.ntmps9
  go_wp2_with (first
    | (go_at_call 10; (with_reducible refine (cA (by first | assumption | exact Hs.drewN (by assumption) _ | exact hs1 _ _ _ | exact hs2 _ _ _ _ _ | exact Hs.drew (by assumption) | exact Hs.add (by assumption) _ _ | exact Hs.drew (Hs.add (by assumption) _ _) | exact Hs.drew (hs1 _ _ _) | exact Hs.drew (hs2 _ _ _ _ _) | exact Hs.alloc (by assumption) _)).mono ?_); rintro e w1 ⟨rfl, hR1⟩; obtain ⟨c0, c1, c2⟩ := hR1.c3 (.tail _ (.head _)))
    | (go_at_call 11; (with_reducible refine (cS (by first | assumption | exact Hs.drewN (by assumption) _ | exact hs1 _ _ _ | exact hs2 _ _ _ _ _ | exact Hs.drew (by assumption) | exact Hs.add (by assumption) _ _ | exact Hs.drew (Hs.add (by assumption) _ _) | exact Hs.drew (hs1 _ _ _) | exact Hs.drew (hs2 _ _ _ _ _) | exact Hs.alloc (by assumption) _)).mono ?_); rintro e w2 ⟨rfl, hR2⟩; have hR3 := hR2.add 25 (shc ⟨A, S, B⟩)))
  go_region_held3 (fun w4 => w4.cell? ⟨w.heap.size + 1, 0, none⟩ = some (.int .i64 m0) ∧ w4.cell? ⟨w.heap.size + 1, 1, none⟩ = some (.int .i64 m1))
    (first | exact Hs.c2 (by first | assumption | exact Hs.drewN (by assumption) _ | exact hs1 _ _ _ | exact hs2 _ _ _ _ _ | exact Hs.drew (by assumption) | exact Hs.add (by assumption) _ _ | exact Hs.drew (Hs.add (by assumption) _ _) | exact Hs.drew (hs1 _ _ _) | exact Hs.drew (hs2 _ _ _ _ _) | exact Hs.alloc (by assumption) _) (.tail _ (.head _)))
    (first
      | (go_at_call 12; (with_reducible refine (cH0 (by first | assumption | exact Hs.drewN (by assumption) _ | exact hs1 _ _ _ | exact hs2 _ _ _ _ _ | exact Hs.drew (by assumption) | exact Hs.add (by assumption) _ _ | exact Hs.drew (Hs.add (by assumption) _ _) | exact Hs.drew (hs1 _ _ _) | exact Hs.drew (hs2 _ _ _ _ _) | exact Hs.alloc (by assumption) _)).mono ?_); rintro e w' ⟨rfl, hR4⟩)
      | (go_at_call 12; (with_reducible refine (cH1 (by first | assumption | exact Hs.drewN (by assumption) _ | exact hs1 _ _ _ | exact hs2 _ _ _ _ _ | exact Hs.drew (by assumption) | exact Hs.add (by assumption) _ _ | exact Hs.drew (Hs.add (by assumption) _ _) | exact Hs.drew (hs1 _ _ _) | exact Hs.drew (hs2 _ _ _ _ _) | exact Hs.alloc (by assumption) _)).mono ?_); rintro e w' ⟨rfl, hR4⟩)
      | fail)
  all_goals
    go_wp2
    first
      | (go_region_held3 (fun w4 => w4.cell? ⟨w2.heap.size, 0, none⟩ = some (.int .i64 A) ∧ w4.cell? ⟨w2.heap.size, 1, none⟩ = some (.int .i64 S) ∧ w4.cell? ⟨w2.heap.size, 2, none⟩ = some (.int .i64 B))
      (first | exact Hs.c3 (by first | assumption | exact Hs.drewN (by assumption) _ | exact hs1 _ _ _ | exact hs2 _ _ _ _ _ | exact Hs.drew (by assumption) | exact Hs.add (by assumption) _ _ | exact Hs.drew (Hs.add (by assumption) _ _) | exact Hs.drew (hs1 _ _ _) | exact Hs.drew (hs2 _ _ _ _ _) | exact Hs.alloc (by assumption) _) (.head _))
      (first
        | (go_at_call 14; (with_reducible refine (cN0 (by first | assumption | exact Hs.drewN (by assumption) _ | exact hs1 _ _ _ | exact hs2 _ _ _ _ _ | exact Hs.drew (by assumption) | exact Hs.add (by assumption) _ _ | exact Hs.drew (Hs.add (by assumption) _ _) | exact Hs.drew (hs1 _ _ _) | exact Hs.drew (hs2 _ _ _ _ _) | exact Hs.alloc (by assumption) _)).mono ?_); rintro e w' ⟨rfl, hR5⟩; obtain ⟨c0, c1, c2⟩ := hR5.c3 (.head _))
        | (go_at_call 14; (with_reducible refine (cN1 (by first | assumption | exact Hs.drewN (by assumption) _ | exact hs1 _ _ _ | exact hs2 _ _ _ _ _ | exact Hs.drew (by assumption) | exact Hs.add (by assumption) _ _ | exact Hs.drew (Hs.add (by assumption) _ _) | exact Hs.drew (hs1 _ _ _) | exact Hs.drew (hs2 _ _ _ _ _) | exact Hs.alloc (by assumption) _)).mono ?_); rintro e w' ⟨rfl, hR5⟩; obtain ⟨c0, c1, c2⟩ := hR5.c3 (.head _))
        | (go_at_call 13; (with_reducible refine (cF0 (by first | assumption | exact Hs.drewN (by assumption) _ | exact hs1 _ _ _ | exact hs2 _ _ _ _ _ | exact Hs.drew (by assumption) | exact Hs.add (by assumption) _ _ | exact Hs.drew (Hs.add (by assumption) _ _) | exact Hs.drew (hs1 _ _ _) | exact Hs.drew (hs2 _ _ _ _ _) | exact Hs.alloc (by assumption) _)).mono ?_); rintro e w' ⟨rfl, hR5⟩; obtain ⟨c0, c1, c2⟩ := hR5.c3 (.head _))
        | (go_at_call 13; (with_reducible refine (cF1 (by first | assumption | exact Hs.drewN (by assumption) _ | exact hs1 _ _ _ | exact hs2 _ _ _ _ _ | exact Hs.drew (by assumption) | exact Hs.add (by assumption) _ _ | exact Hs.drew (Hs.add (by assumption) _ _) | exact Hs.drew (hs1 _ _ _) | exact Hs.drew (hs2 _ _ _ _ _) | exact Hs.alloc (by assumption) _)).mono ?_); rintro e w' ⟨rfl, hR5⟩; obtain ⟨c0, c1, c2⟩ := hR5.c3 (.head _))
        | fail))
      | fail
  all_goals
    by_cases hle : cc ≤ T0
    · have d3 : decide (cc ≤ T0) = true := decide_eq_true hle
      go_wp2_with (go_at_call 17; (with_reducible refine (cW (by first | assumption | exact Hs.drewN (by assumption) _ | exact hs1 _ _ _ | exact hs2 _ _ _ _ _ | exact Hs.drew (by assumption) | exact Hs.add (by assumption) _ _ | exact Hs.drew (Hs.add (by assumption) _ _) | exact Hs.drew (hs1 _ _ _) | exact Hs.drew (hs2 _ _ _ _ _) | exact Hs.alloc (by assumption) _)).mono ?_); rintro e w8 ⟨rfl, hR8⟩; have hR9 := hR8.add 34 #[.int .i64 o, .int .i64 cc])
      go_quiet (fail)
      all_goals
        (try go_wp2)
        go_ret
        exact ⟨rfl, (hR9.drewN _).b⟩
    · have n3 := f3 (by omega)
      have d3 : decide (cc ≤ T0) = false := decide_eq_false hle
      go_wp2_with (go_at_call 17; (with_reducible refine (cW (by first | assumption | exact Hs.drewN (by assumption) _ | exact hs1 _ _ _ | exact hs2 _ _ _ _ _ | exact Hs.drew (by assumption) | exact Hs.add (by assumption) _ _ | exact Hs.drew (Hs.add (by assumption) _ _) | exact Hs.drew (hs1 _ _ _) | exact Hs.drew (hs2 _ _ _ _ _) | exact Hs.alloc (by assumption) _)).mono ?_); rintro e w8 ⟨rfl, hR8⟩; have hR9 := hR8.add 34 #[.int .i64 o, .int .i64 cc])
      first
        | (go_region_held3 (fun w4 => w4.cell? ⟨w8.heap.size, 0, none⟩ = some (.int .i64 o) ∧ w4.cell? ⟨w8.heap.size, 1, none⟩ = some (.int .i64 cc) ∧ w4.cell? ⟨w2.heap.size, 0, none⟩ = some (.int .i64 A) ∧ w4.cell? ⟨w2.heap.size, 1, none⟩ = some (.int .i64 S) ∧ w4.cell? ⟨w2.heap.size, 2, none⟩ = some (.int .i64 B))
        (first | exact ⟨(Hs.c2 (by first | assumption | exact Hs.drewN (by assumption) _ | exact hs1 _ _ _ | exact hs2 _ _ _ _ _ | exact Hs.drew (by assumption) | exact Hs.add (by assumption) _ _ | exact Hs.drew (Hs.add (by assumption) _ _) | exact Hs.drew (hs1 _ _ _) | exact Hs.drew (hs2 _ _ _ _ _) | exact Hs.alloc (by assumption) _) (.head _)).1, (Hs.c2 (by first | assumption | exact Hs.drewN (by assumption) _ | exact hs1 _ _ _ | exact hs2 _ _ _ _ _ | exact Hs.drew (by assumption) | exact Hs.add (by assumption) _ _ | exact Hs.drew (Hs.add (by assumption) _ _) | exact Hs.drew (hs1 _ _ _) | exact Hs.drew (hs2 _ _ _ _ _) | exact Hs.alloc (by assumption) _) (.head _)).2, Hs.c3 (by first | assumption | exact Hs.drewN (by assumption) _ | exact hs1 _ _ _ | exact hs2 _ _ _ _ _ | exact Hs.drew (by assumption) | exact Hs.add (by assumption) _ _ | exact Hs.drew (Hs.add (by assumption) _ _) | exact Hs.drew (hs1 _ _ _) | exact Hs.drew (hs2 _ _ _ _ _) | exact Hs.alloc (by assumption) _) (.tail _ (.head _))⟩)
        (first
          | (go_at_call 14; (with_reducible refine (cN0 (by first | assumption | exact Hs.drewN (by assumption) _ | exact hs1 _ _ _ | exact hs2 _ _ _ _ _ | exact Hs.drew (by assumption) | exact Hs.add (by assumption) _ _ | exact Hs.drew (Hs.add (by assumption) _ _) | exact Hs.drew (hs1 _ _ _) | exact Hs.drew (hs2 _ _ _ _ _) | exact Hs.alloc (by assumption) _)).mono ?_); rintro e w' ⟨rfl, hR5⟩)
          | fail))
        | fail
      all_goals
        (try go_wp2)
        go_ret
        exact ⟨rfl, Hs.b (by first | assumption | exact Hs.drewN (by assumption) _ | exact hs1 _ _ _ | exact hs2 _ _ _ _ _ | exact Hs.drew (by assumption) | exact Hs.add (by assumption) _ _ | exact Hs.drew (Hs.add (by assumption) _ _) | exact Hs.drew (hs1 _ _ _) | exact Hs.drew (hs2 _ _ _ _ _) | exact Hs.alloc (by assumption) _)⟩
set_option maxHeartbeats 1000000 in
theorem needs_down (x0 x1 x2 m0 m1 n : Int) (hn0 : 0 ≤ n) (hn1 : n ≤ 65535) (hc : cl m1 < cl m0) (w : World) : Calls Try.prog 9 #[a3 x0 x1 x2, .agg #[.int .i64 m0, .int .i64 m1], .int .u16 n] w fun e w' => e = .returned (.bool true) ∧ Below w.heap.size w w' := by
  have cA := fun {l W} (hR : Hs w l W) => upH hR (wawake_ok W)
  have cS := fun {l W} (hR : Hs w l W) => upH hR (wshape_any x0 x1 x2 W)
  have cH0 := fun {l W} (hR : Hs w l W) => upH hR (wheld_any m0 W)
  have cH1 := fun {l W} (hR : Hs w l W) => upH hR (wheld_any m1 W)
  have h := shOf_ok x0 x1 x2
  generalize shOf x0 x1 x2 = s at *
  have g0 := cl_cl m0
  have g1 := cl_cl m1
  generalize cl m0 = T0 at *
  generalize cl m1 = T1 at *
  have cN0 := fun {l W} (hR : Hs w l W) => upH hR (wneeded_any h T1 W)
  have cN1 := fun {l W} (hR : Hs w l W) => upH hR (wneeded_any h T0 W)
  have cF0 := fun {l W} (hR : Hs w l W) => upH hR (wfirst_any h T1 W)
  have cF1 := fun {l W} (hR : Hs w l W) => upH hR (wfirst_any h T0 W)
  have f1 : s.fst T1 ≤ s.fst T0 := Sh.fst_mono h (by omega)
  have f2 := Sh.at_mono h f1
  have hw : s.at n + s.w ≤ 2305843009213693952 := by
    have := h.w1
    have := h.b1
    have h3 : n * s.sl ≤ 65535 * 1099511627776 := Int.mul_le_mul hn1 h.s1 (by have := h.s0; omega) (by omega)
    unfold Sh.at; omega
  have cW := fun {l W} (hR : Hs w l W) => upH hR (wwindow_ok h hn0 hw W)
  have f3 : ¬ s.at n + s.w ≤ T1 → s.at (s.fst T1) ≤ s.at n := fun hx => by
    have := mt (Sh.lt_fst h hn0 T1).1 (by rw [g1]; exact hx)
    exact Sh.at_mono h (by omega)
  have n1 : ¬ s.fst T0 < s.fst T1 := by omega
  have n2 : ¬ s.at (s.fst T0) < s.at (s.fst T1) := by omega
  have ew : wrap64 n = n := wrap64_fit (by omega) (by omega)
  clear h hw f1 f2 g0 g1
  generalize s.at (s.fst T1) = na at *
  generalize s.at (s.fst T0) = nb at *
  generalize s.fst T1 = fa at *
  generalize s.fst T0 = fb at *
  generalize s.at n = o at *
  generalize hcl : o + s.w = cc at *
  clear hcl
  have d1 : decide (fb < fa) = false := decide_eq_false n1
  have d2 : decide (nb < na) = false := decide_eq_false n2
  obtain ⟨A, S, B⟩ := s
  go_enter Try.func9, Try.ntmps9
  go_wp2_with (first
    | (go_at_call 10; (with_reducible refine (cA (by first | assumption | exact Hs.drewN (by assumption) _ | exact hs1 _ _ _ | exact hs2 _ _ _ _ _ | exact Hs.drew (by assumption) | exact Hs.add (by assumption) _ _ | exact Hs.drew (Hs.add (by assumption) _ _) | exact Hs.drew (hs1 _ _ _) | exact Hs.drew (hs2 _ _ _ _ _) | exact Hs.alloc (by assumption) _)).mono ?_); rintro e w1 ⟨rfl, hR1⟩; obtain ⟨c0, c1, c2⟩ := hR1.c3 (.tail _ (.head _)))
    | (go_at_call 11; (with_reducible refine (cS (by first | assumption | exact Hs.drewN (by assumption) _ | exact hs1 _ _ _ | exact hs2 _ _ _ _ _ | exact Hs.drew (by assumption) | exact Hs.add (by assumption) _ _ | exact Hs.drew (Hs.add (by assumption) _ _) | exact Hs.drew (hs1 _ _ _) | exact Hs.drew (hs2 _ _ _ _ _) | exact Hs.alloc (by assumption) _)).mono ?_); rintro e w2 ⟨rfl, hR2⟩; have hR3 := hR2.add 25 (shc ⟨A, S, B⟩)))
  go_region_held3 (fun w4 => w4.cell? ⟨w.heap.size + 1, 0, none⟩ = some (.int .i64 m0) ∧ w4.cell? ⟨w.heap.size + 1, 1, none⟩ = some (.int .i64 m1))
    (first | exact Hs.c2 (by first | assumption | exact Hs.drewN (by assumption) _ | exact hs1 _ _ _ | exact hs2 _ _ _ _ _ | exact Hs.drew (by assumption) | exact Hs.add (by assumption) _ _ | exact Hs.drew (Hs.add (by assumption) _ _) | exact Hs.drew (hs1 _ _ _) | exact Hs.drew (hs2 _ _ _ _ _) | exact Hs.alloc (by assumption) _) (.tail _ (.head _)))
    (first
      | (go_at_call 12; (with_reducible refine (cH0 (by first | assumption | exact Hs.drewN (by assumption) _ | exact hs1 _ _ _ | exact hs2 _ _ _ _ _ | exact Hs.drew (by assumption) | exact Hs.add (by assumption) _ _ | exact Hs.drew (Hs.add (by assumption) _ _) | exact Hs.drew (hs1 _ _ _) | exact Hs.drew (hs2 _ _ _ _ _) | exact Hs.alloc (by assumption) _)).mono ?_); rintro e w' ⟨rfl, hR4⟩)
      | (go_at_call 12; (with_reducible refine (cH1 (by first | assumption | exact Hs.drewN (by assumption) _ | exact hs1 _ _ _ | exact hs2 _ _ _ _ _ | exact Hs.drew (by assumption) | exact Hs.add (by assumption) _ _ | exact Hs.drew (Hs.add (by assumption) _ _) | exact Hs.drew (hs1 _ _ _) | exact Hs.drew (hs2 _ _ _ _ _) | exact Hs.alloc (by assumption) _)).mono ?_); rintro e w' ⟨rfl, hR4⟩)
      | fail)
  all_goals
    go_wp2
    first
      | (go_region_held3 (fun w4 => w4.cell? ⟨w2.heap.size, 0, none⟩ = some (.int .i64 A) ∧ w4.cell? ⟨w2.heap.size, 1, none⟩ = some (.int .i64 S) ∧ w4.cell? ⟨w2.heap.size, 2, none⟩ = some (.int .i64 B))
      (first | exact Hs.c3 (by first | assumption | exact Hs.drewN (by assumption) _ | exact hs1 _ _ _ | exact hs2 _ _ _ _ _ | exact Hs.drew (by assumption) | exact Hs.add (by assumption) _ _ | exact Hs.drew (Hs.add (by assumption) _ _) | exact Hs.drew (hs1 _ _ _) | exact Hs.drew (hs2 _ _ _ _ _) | exact Hs.alloc (by assumption) _) (.head _))
      (first
        | (go_at_call 14; (with_reducible refine (cN0 (by first | assumption | exact Hs.drewN (by assumption) _ | exact hs1 _ _ _ | exact hs2 _ _ _ _ _ | exact Hs.drew (by assumption) | exact Hs.add (by assumption) _ _ | exact Hs.drew (Hs.add (by assumption) _ _) | exact Hs.drew (hs1 _ _ _) | exact Hs.drew (hs2 _ _ _ _ _) | exact Hs.alloc (by assumption) _)).mono ?_); rintro e w' ⟨rfl, hR5⟩; obtain ⟨c0, c1, c2⟩ := hR5.c3 (.head _))
        | (go_at_call 14; (with_reducible refine (cN1 (by first | assumption | exact Hs.drewN (by assumption) _ | exact hs1 _ _ _ | exact hs2 _ _ _ _ _ | exact Hs.drew (by assumption) | exact Hs.add (by assumption) _ _ | exact Hs.drew (Hs.add (by assumption) _ _) | exact Hs.drew (hs1 _ _ _) | exact Hs.drew (hs2 _ _ _ _ _) | exact Hs.alloc (by assumption) _)).mono ?_); rintro e w' ⟨rfl, hR5⟩; obtain ⟨c0, c1, c2⟩ := hR5.c3 (.head _))
        | (go_at_call 13; (with_reducible refine (cF0 (by first | assumption | exact Hs.drewN (by assumption) _ | exact hs1 _ _ _ | exact hs2 _ _ _ _ _ | exact Hs.drew (by assumption) | exact Hs.add (by assumption) _ _ | exact Hs.drew (Hs.add (by assumption) _ _) | exact Hs.drew (hs1 _ _ _) | exact Hs.drew (hs2 _ _ _ _ _) | exact Hs.alloc (by assumption) _)).mono ?_); rintro e w' ⟨rfl, hR5⟩; obtain ⟨c0, c1, c2⟩ := hR5.c3 (.head _))
        | (go_at_call 13; (with_reducible refine (cF1 (by first | assumption | exact Hs.drewN (by assumption) _ | exact hs1 _ _ _ | exact hs2 _ _ _ _ _ | exact Hs.drew (by assumption) | exact Hs.add (by assumption) _ _ | exact Hs.drew (Hs.add (by assumption) _ _) | exact Hs.drew (hs1 _ _ _) | exact Hs.drew (hs2 _ _ _ _ _) | exact Hs.alloc (by assumption) _)).mono ?_); rintro e w' ⟨rfl, hR5⟩; obtain ⟨c0, c1, c2⟩ := hR5.c3 (.head _))
        | fail))
      | fail
  all_goals
    by_cases hle : cc ≤ T1
    · have d3 : decide (cc ≤ T1) = true := decide_eq_true hle
      go_wp2_with (go_at_call 17; (with_reducible refine (cW (by first | assumption | exact Hs.drewN (by assumption) _ | exact hs1 _ _ _ | exact hs2 _ _ _ _ _ | exact Hs.drew (by assumption) | exact Hs.add (by assumption) _ _ | exact Hs.drew (Hs.add (by assumption) _ _) | exact Hs.drew (hs1 _ _ _) | exact Hs.drew (hs2 _ _ _ _ _) | exact Hs.alloc (by assumption) _)).mono ?_); rintro e w8 ⟨rfl, hR8⟩; have hR9 := hR8.add 34 #[.int .i64 o, .int .i64 cc])
      go_quiet (fail)
      all_goals
        (try go_wp2)
        go_ret
        exact ⟨rfl, (hR9.drewN _).b⟩
    · have n3 := f3 (by omega)
      have d3 : decide (cc ≤ T1) = false := decide_eq_false hle
      go_wp2_with (go_at_call 17; (with_reducible refine (cW (by first | assumption | exact Hs.drewN (by assumption) _ | exact hs1 _ _ _ | exact hs2 _ _ _ _ _ | exact Hs.drew (by assumption) | exact Hs.add (by assumption) _ _ | exact Hs.drew (Hs.add (by assumption) _ _) | exact Hs.drew (hs1 _ _ _) | exact Hs.drew (hs2 _ _ _ _ _) | exact Hs.alloc (by assumption) _)).mono ?_); rintro e w8 ⟨rfl, hR8⟩; have hR9 := hR8.add 34 #[.int .i64 o, .int .i64 cc])
      first
        | (go_region_held3 (fun w4 => w4.cell? ⟨w8.heap.size, 0, none⟩ = some (.int .i64 o) ∧ w4.cell? ⟨w8.heap.size, 1, none⟩ = some (.int .i64 cc) ∧ w4.cell? ⟨w2.heap.size, 0, none⟩ = some (.int .i64 A) ∧ w4.cell? ⟨w2.heap.size, 1, none⟩ = some (.int .i64 S) ∧ w4.cell? ⟨w2.heap.size, 2, none⟩ = some (.int .i64 B))
        (first | exact ⟨(Hs.c2 (by first | assumption | exact Hs.drewN (by assumption) _ | exact hs1 _ _ _ | exact hs2 _ _ _ _ _ | exact Hs.drew (by assumption) | exact Hs.add (by assumption) _ _ | exact Hs.drew (Hs.add (by assumption) _ _) | exact Hs.drew (hs1 _ _ _) | exact Hs.drew (hs2 _ _ _ _ _) | exact Hs.alloc (by assumption) _) (.head _)).1, (Hs.c2 (by first | assumption | exact Hs.drewN (by assumption) _ | exact hs1 _ _ _ | exact hs2 _ _ _ _ _ | exact Hs.drew (by assumption) | exact Hs.add (by assumption) _ _ | exact Hs.drew (Hs.add (by assumption) _ _) | exact Hs.drew (hs1 _ _ _) | exact Hs.drew (hs2 _ _ _ _ _) | exact Hs.alloc (by assumption) _) (.head _)).2, Hs.c3 (by first | assumption | exact Hs.drewN (by assumption) _ | exact hs1 _ _ _ | exact hs2 _ _ _ _ _ | exact Hs.drew (by assumption) | exact Hs.add (by assumption) _ _ | exact Hs.drew (Hs.add (by assumption) _ _) | exact Hs.drew (hs1 _ _ _) | exact Hs.drew (hs2 _ _ _ _ _) | exact Hs.alloc (by assumption) _) (.tail _ (.head _))⟩)
        (first
          | (go_at_call 14; (with_reducible refine (cN0 (by first | assumption | exact Hs.drewN (by assumption) _ | exact hs1 _ _ _ | exact hs2 _ _ _ _ _ | exact Hs.drew (by assumption) | exact Hs.add (by assumption) _ _ | exact Hs.drew (Hs.add (by assumption) _ _) | exact Hs.drew (hs1 _ _ _) | exact Hs.drew (hs2 _ _ _ _ _) | exact Hs.alloc (by assumption) _)).mono ?_); rintro e w' ⟨rfl, hR5⟩)
          | fail))
        | fail
      all_goals
        (try go_wp2)
        go_ret
        exact ⟨rfl, Hs.b (by first | assumption | exact Hs.drewN (by assumption) _ | exact hs1 _ _ _ | exact hs2 _ _ _ _ _ | exact Hs.drew (by assumption) | exact Hs.add (by assumption) _ _ | exact Hs.drew (Hs.add (by assumption) _ _) | exact Hs.drew (hs1 _ _ _) | exact Hs.drew (hs2 _ _ _ _ _) | exact Hs.alloc (by assumption) _)⟩
theorem needs_law (r : Int × Int × Int) {P : Prop} (_ : P) (m : Int × Int) {Q : Prop} (_ : Q) (n : Int) (h0 : 0 ≤ n) (h1 : n ≤ 65535) (w : World) : Calls Try.prog 9 #[.agg #[.int .i64 r.1, .int .i64 r.2.1, .int .i64 r.2.2], .agg #[.int .i64 m.1, .int .i64 m.2], .int .u16 n] w fun e w' => e = .returned (.bool true) ∧ Below w.heap.size w w' := by
  by_cases hc : cl m.2 < cl m.1
  · exact needs_down r.1 r.2.1 r.2.2 m.1 m.2 n h0 h1 hc w
  · exact needs_up r.1 r.2.1 r.2.2 m.1 m.2 n h0 h1 hc w
end Go.Proofs.Ytpmimmbheieobaa
