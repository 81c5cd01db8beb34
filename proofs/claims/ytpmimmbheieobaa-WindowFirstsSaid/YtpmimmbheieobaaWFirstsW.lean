/-
  WindowFirsts's walk.
-/
import Derived.Test.YtpmimmbheieobaaWAw
namespace Go.Proofs.Ytpmimmbheieobaa
open Go.RowKit
set_option linter.unusedVariables false
set_option linter.unusedSimpArgs false
set_option maxRecDepth 100000

theorem firsts_walk (x0 x1 x2 : Int) (t : Int) (w : World) : Calls Try.prog 3 #[a3 x0 x1 x2, .int .i64 t] w fun e w' => e = .returned (.bool true) ∧ Below w.heap.size w w' := by
  have cA := fun {W} (hR : Rcv w (c3v x0 x1 x2) 22 W) => upR hR (wawake_ok W)
  have cS := fun {W} (hR : Rcv w (c3v x0 x1 x2) 22 W) => upR hR (wshape_any x0 x1 x2 W)
  have h := shOf_ok x0 x1 x2
  generalize shOf x0 x1 x2 = s at *
  have cF := fun {w2 W : World} (hR : Rcv w2 (shc s) 25 W) => upR hR (wfirst_any h t W)
  have cG := fun {w2 W : World} (hR : Rcv w2 (shc s) 25 W) => upR hR (wfirst_any h (cl t) W)
  rw [Sh.fst_cl] at cG
  have cH := fun {w2 W : World} (hR : Rcv w2 (shc s) 25 W) => upR hR (wheld_any t W)
  have cN := fun {w2 W : World} (hR : Rcv w2 (shc s) 25 W) => upR hR (wneeded_any h t W)
  have k0 := s.fst_nn t
  have k1 : s.at (s.fst t) ≤ 2305844108725321728 := Sh.at_high h (t := cl t - s.w) (by have := cl_high t; have := h.w0; omega)
  have k2 := Sh.mul_bounds h k0 k1
  have k3 := Sh.at_low h k0
  have k4 : cl t - s.w < s.at (s.fst t) := Sh.at_op h _
  have k5 : 0 < s.fst t → s.at (s.fst t) - s.sl ≤ cl t - s.w := fun hp => Sh.at_prev h _ hp
  have k6 : s.b + s.fst t * s.sl = s.at (s.fst t) := rfl
  have b1 := h.w0
  have b2 := h.w1
  have b3 := h.s0
  have b4 := h.s1
  generalize s.at (s.fst t) = o at *
  generalize s.fst t = i at *
  generalize cl t = T at *
  obtain ⟨A, S, B⟩ := s
  simp only at *
  obtain ⟨p, hp⟩ : ∃ p, p = i * S := ⟨_, rfl⟩
  obtain ⟨q, hq⟩ : ∃ q, q = o + A := ⟨_, rfl⟩
  obtain ⟨r, hr⟩ : ∃ r, r = o - S := ⟨_, rfl⟩
  obtain ⟨u, hu⟩ : ∃ u, u = r + A := ⟨_, rfl⟩
  rw [← hp] at k2 k6
  have e1 : wrap64 (i * S) = p := by rw [← hp]; exact wrap64_fit (by omega) (by omega)
  have e2 : wrap64 (B + p) = o := by rw [k6]; exact wrap64_fit (by omega) (by omega)
  have e3 : wrap64 (o + A) = q := by rw [← hq]; exact wrap64_fit (by omega) (by omega)
  have e4 : wrap64 (o - S) = r := by rw [← hr]; exact wrap64_fit (by omega) (by omega)
  have e5 : wrap64 (r + A) = u := by rw [← hu]; exact wrap64_fit (by omega) (by omega)
  have n1 : ¬ i < 0 := by omega
  have n2 : ¬ q ≤ T := by omega
  have n3 : 0 < i → ¬ T < u := fun h => by have := k5 h; omega
  clear hp hq hr hu
  clear h k0 k1 k2 k3 k4 k5 k6 b1 b2 b3 b4
  by_cases hi : 0 < i
  · have n4 := n3 hi
    clear n3
    go_enter Try.func3, Try.ntmps3
    go_wp2_with (first
      | (go_at_call 10; (with_reducible refine (cA (by first | assumption | exact rcv0 _ _ _ | exact Rcv.alloc (by assumption) _ | exact Rcv.drew (by assumption) | exact Rcv.drew (rcv0 _ _ _) | exact (rcv0 _ _ _).alloc _ | exact Rcv.drew ((rcv0 _ _ _).alloc _) | exact Rcv.drew (Rcv.alloc (by assumption) _))).mono ?_); rintro e w1 ⟨rfl, hR, c0, c1, c2⟩)
      | (go_at_call 11; (with_reducible refine (cS (by first | assumption | exact rcv0 _ _ _ | exact Rcv.alloc (by assumption) _ | exact Rcv.drew (by assumption) | exact Rcv.drew (rcv0 _ _ _) | exact (rcv0 _ _ _).alloc _ | exact Rcv.drew ((rcv0 _ _ _).alloc _) | exact Rcv.drew (Rcv.alloc (by assumption) _))).mono ?_); rintro e w2 ⟨rfl, hR2, c0, c1, c2⟩)
      | (go_at_call 12; (with_reducible refine (cH (by first | assumption | exact rcv0 _ _ _ | exact Rcv.alloc (by assumption) _ | exact Rcv.drew (by assumption) | exact Rcv.drew (rcv0 _ _ _) | exact (rcv0 _ _ _).alloc _ | exact Rcv.drew ((rcv0 _ _ _).alloc _) | exact Rcv.drew (Rcv.alloc (by assumption) _))).mono ?_); rintro e w3 ⟨rfl, hR3, c0, c1, c2⟩)
      | (go_at_call 13; (with_reducible refine (cF (by first | assumption | exact rcv0 _ _ _ | exact Rcv.alloc (by assumption) _ | exact Rcv.drew (by assumption) | exact Rcv.drew (rcv0 _ _ _) | exact (rcv0 _ _ _).alloc _ | exact Rcv.drew ((rcv0 _ _ _).alloc _) | exact Rcv.drew (Rcv.alloc (by assumption) _))).mono ?_); rintro e w4 ⟨rfl, hR4, c0, c1, c2⟩)
      | (go_at_call 14; (with_reducible refine (cN (by first | assumption | exact rcv0 _ _ _ | exact Rcv.alloc (by assumption) _ | exact Rcv.drew (by assumption) | exact Rcv.drew (rcv0 _ _ _) | exact (rcv0 _ _ _).alloc _ | exact Rcv.drew ((rcv0 _ _ _).alloc _) | exact Rcv.drew (Rcv.alloc (by assumption) _))).mono ?_); rintro e w5 ⟨rfl, hR5, c0, c1, c2⟩)
      | (go_at_call 13; (with_reducible refine (cG (by first | assumption | exact rcv0 _ _ _ | exact Rcv.alloc (by assumption) _ | exact Rcv.drew (by assumption) | exact Rcv.drew (rcv0 _ _ _) | exact (rcv0 _ _ _).alloc _ | exact Rcv.drew ((rcv0 _ _ _).alloc _) | exact Rcv.drew (Rcv.alloc (by assumption) _))).mono ?_); rintro e w6 ⟨rfl, hR6, c0, c1, c2⟩))
    go_ret
    exact ⟨rfl, fin2 hR2.b hR6⟩
  · clear n3
    go_enter Try.func3, Try.ntmps3
    go_wp2_with (first
      | (go_at_call 10; (with_reducible refine (cA (by first | assumption | exact rcv0 _ _ _ | exact Rcv.alloc (by assumption) _ | exact Rcv.drew (by assumption) | exact Rcv.drew (rcv0 _ _ _) | exact (rcv0 _ _ _).alloc _ | exact Rcv.drew ((rcv0 _ _ _).alloc _) | exact Rcv.drew (Rcv.alloc (by assumption) _))).mono ?_); rintro e w1 ⟨rfl, hR, c0, c1, c2⟩)
      | (go_at_call 11; (with_reducible refine (cS (by first | assumption | exact rcv0 _ _ _ | exact Rcv.alloc (by assumption) _ | exact Rcv.drew (by assumption) | exact Rcv.drew (rcv0 _ _ _) | exact (rcv0 _ _ _).alloc _ | exact Rcv.drew ((rcv0 _ _ _).alloc _) | exact Rcv.drew (Rcv.alloc (by assumption) _))).mono ?_); rintro e w2 ⟨rfl, hR2, c0, c1, c2⟩)
      | (go_at_call 12; (with_reducible refine (cH (by first | assumption | exact rcv0 _ _ _ | exact Rcv.alloc (by assumption) _ | exact Rcv.drew (by assumption) | exact Rcv.drew (rcv0 _ _ _) | exact (rcv0 _ _ _).alloc _ | exact Rcv.drew ((rcv0 _ _ _).alloc _) | exact Rcv.drew (Rcv.alloc (by assumption) _))).mono ?_); rintro e w3 ⟨rfl, hR3, c0, c1, c2⟩)
      | (go_at_call 13; (with_reducible refine (cF (by first | assumption | exact rcv0 _ _ _ | exact Rcv.alloc (by assumption) _ | exact Rcv.drew (by assumption) | exact Rcv.drew (rcv0 _ _ _) | exact (rcv0 _ _ _).alloc _ | exact Rcv.drew ((rcv0 _ _ _).alloc _) | exact Rcv.drew (Rcv.alloc (by assumption) _))).mono ?_); rintro e w4 ⟨rfl, hR4, c0, c1, c2⟩)
      | (go_at_call 14; (with_reducible refine (cN (by first | assumption | exact rcv0 _ _ _ | exact Rcv.alloc (by assumption) _ | exact Rcv.drew (by assumption) | exact Rcv.drew (rcv0 _ _ _) | exact (rcv0 _ _ _).alloc _ | exact Rcv.drew ((rcv0 _ _ _).alloc _) | exact Rcv.drew (Rcv.alloc (by assumption) _))).mono ?_); rintro e w5 ⟨rfl, hR5, c0, c1, c2⟩)
      | (go_at_call 13; (with_reducible refine (cG (by first | assumption | exact rcv0 _ _ _ | exact Rcv.alloc (by assumption) _ | exact Rcv.drew (by assumption) | exact Rcv.drew (rcv0 _ _ _) | exact (rcv0 _ _ _).alloc _ | exact Rcv.drew ((rcv0 _ _ _).alloc _) | exact Rcv.drew (Rcv.alloc (by assumption) _))).mono ?_); rintro e w6 ⟨rfl, hR6, c0, c1, c2⟩))
    go_ret
    exact ⟨rfl, fin2 hR2.b hR6⟩
theorem firsts_law (r : Int × Int × Int) {P : Prop} (_ : P) (t : Int) {P0 P1 : Prop} (_ : P0) (_ : P1) (w : World) : Calls Try.prog 3 #[.agg #[.int .i64 r.1, .int .i64 r.2.1, .int .i64 r.2.2], .int .i64 t] w fun e w' => e = .returned (.bool true) ∧ Below w.heap.size w w' := firsts_walk r.1 r.2.1 r.2.2 t w
end Go.Proofs.Ytpmimmbheieobaa
