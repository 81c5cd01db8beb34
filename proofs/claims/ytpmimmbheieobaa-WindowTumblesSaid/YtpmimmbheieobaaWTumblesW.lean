/-
  WindowTumbles's walk.
-/
import Derived.Test.YtpmimmbheieobaaWAw
namespace Go.Proofs.Ytpmimmbheieobaa
open Go.RowKit
set_option linter.unusedVariables false
set_option linter.unusedSimpArgs false
set_option maxRecDepth 100000

theorem tumbles_far (x0 x1 x2 t : Int) (ht : t < -1152921504606846976 ∨ 1152921504606846976 < t) (w : World) : Calls Try.prog 7 #[a3 x0 x1 x2, .int .i64 t] w fun e w' => e = .returned (.bool true) ∧ Below w.heap.size w w' := by
  have cA := fun {l W} (hR : Hs w l W) => upH hR (wawake_ok W)
  by_cases h1 : 1152921504606846976 < t
  · go_enter Try.func7, Try.ntmps7
    go_wp2_with (go_at_call 10; (with_reducible refine (cA (by first | assumption | exact Hs.drewN (by assumption) _ | exact hs1 _ _ _ | exact hs2 _ _ _ _ _ | exact Hs.drew (by assumption) | exact Hs.add (by assumption) _ _ | exact Hs.drew (Hs.add (by assumption) _ _) | exact Hs.drew (hs1 _ _ _) | exact Hs.drew (hs2 _ _ _ _ _) | exact Hs.alloc (by assumption) _)).mono ?_); rintro e w1 ⟨rfl, hR1⟩)
    go_ret
    exact ⟨rfl, Hs.b (by first | assumption | exact Hs.drewN (by assumption) _ | exact hs1 _ _ _ | exact hs2 _ _ _ _ _ | exact Hs.drew (by assumption) | exact Hs.add (by assumption) _ _ | exact Hs.drew (Hs.add (by assumption) _ _) | exact Hs.drew (hs1 _ _ _) | exact Hs.drew (hs2 _ _ _ _ _) | exact Hs.alloc (by assumption) _)⟩
  · have h2 : t < -1152921504606846976 := by omega
    go_enter Try.func7, Try.ntmps7
    go_wp2_with (go_at_call 10; (with_reducible refine (cA (by first | assumption | exact Hs.drewN (by assumption) _ | exact hs1 _ _ _ | exact hs2 _ _ _ _ _ | exact Hs.drew (by assumption) | exact Hs.add (by assumption) _ _ | exact Hs.drew (Hs.add (by assumption) _ _) | exact Hs.drew (hs1 _ _ _) | exact Hs.drew (hs2 _ _ _ _ _) | exact Hs.alloc (by assumption) _)).mono ?_); rintro e w1 ⟨rfl, hR1⟩)
    go_ret
    exact ⟨rfl, Hs.b (by first | assumption | exact Hs.drewN (by assumption) _ | exact hs1 _ _ _ | exact hs2 _ _ _ _ _ | exact Hs.drew (by assumption) | exact Hs.add (by assumption) _ _ | exact Hs.drew (Hs.add (by assumption) _ _) | exact Hs.drew (hs1 _ _ _) | exact Hs.drew (hs2 _ _ _ _ _) | exact Hs.alloc (by assumption) _)⟩
theorem sh_same {A B : Int} (h : (⟨A, A, B⟩ : Sh).ok) {t : Int} (hc : cl t = t) (hb : B ≤ t) : (⟨A, A, B⟩ : Sh).fst t = (t - B) / A ∧ (⟨A, A, B⟩ : Sh).mny t = 1 := by
  have a0 : 1 ≤ A := h.w0
  have h0 : 0 ≤ (t - B) / A := Int.ediv_nonneg (by omega) (by omega)
  have e : (t - A - B) / A = (t - B) / A - 1 := by
    rw [show t - A - B = t - B + A * (-1) by omega, Int.add_mul_ediv_left _ _ (by omega)]; omega
  have f : (⟨A, A, B⟩ : Sh).fst t = (t - B) / A := by
    unfold Sh.fst Sh.op
    rw [hc]
    simp only
    rw [e]; omega
  refine ⟨f, ?_⟩
  unfold Sh.mny
  rw [f, hc]
  unfold Sh.op
  simp only
  omega
theorem sh_none {A B : Int} (h : (⟨A, A, B⟩ : Sh).ok) {t : Int} (hc : cl t = t) (hb : t < B) : (⟨A, A, B⟩ : Sh).fst t = 0 ∧ (⟨A, A, B⟩ : Sh).mny t = (0 : Nat) := by
  have a0 : 1 ≤ A := h.w0
  have h1 : (⟨A, A, B⟩ : Sh).op t = 0 := by
    unfold Sh.op
    simp only
    have := Int.ediv_neg_of_neg_of_pos (show t - B < 0 by omega) (show 0 < A by omega)
    omega
  have h2 := Sh.fst_le h t
  have h3 := (⟨A, A, B⟩ : Sh).fst_nn t
  rw [hc, h1] at h2
  unfold Sh.mny
  rw [hc, h1]
  constructor <;> omega
set_option maxHeartbeats 1000000 in
theorem tumbles_none (x0 x1 x2 t : Int) (h1 : ¬ t < -1152921504606846976) (h2 : ¬ 1152921504606846976 < t) (hb : t < (shOf x0 x1 x2).b) (w : World) : Calls Try.prog 7 #[a3 x0 x1 x2, .int .i64 t] w fun e w' => e = .returned (.bool true) ∧ Below w.heap.size w w' := by
  have cA := fun {l W} (hR : Hs w l W) => upH hR (wawake_ok W)
  have cS := fun {l W} (hR : Hs w l W) => upH hR (wshape_any x0 x1 x2 W)
  have h := shOf_ok x0 x1 x2
  generalize shOf x0 x1 x2 = s at *
  obtain ⟨A, S, B⟩ := s
  have h' : (⟨A, A, B⟩ : Sh).ok := ⟨h.w0, h.w1, h.w0, h.w1, h.b0, h.b1⟩
  have hc : cl t = t := cl_same (by omega) (by omega)
  simp only at hb
  obtain ⟨hf, hm⟩ := sh_none h' hc hb
  have cT := fun W => wat_ok h' t (by omega) (by omega) 0 hm (by omega) W
  have cM := fun {l W} (hR : Hs w l W) => upH hR (wmany_any h' t W)
  have cF := fun {l W} (hR : Hs w l W) => upH hR (wfirst_any h' t W)
  rw [hf] at cT
  simp only [hm, hf] at cM cF
  clear h h' hc hf hm
  go_enter Try.func7, Try.ntmps7
  go_wp2_with (first
    | (go_at_call 10; (with_reducible refine (cA (by first | assumption | exact Hs.drewN (by assumption) _ | exact hs1 _ _ _ | exact hs2 _ _ _ _ _ | exact Hs.drew (by assumption) | exact Hs.add (by assumption) _ _ | exact Hs.drew (Hs.add (by assumption) _ _) | exact Hs.drew (hs1 _ _ _) | exact Hs.drew (hs2 _ _ _ _ _) | exact Hs.alloc (by assumption) _)).mono ?_); rintro e w1 ⟨rfl, hR1⟩; obtain ⟨c0, c1, c2⟩ := hR1.c3 (.head _))
    | (go_at_call 11; (with_reducible refine (cS (by first | assumption | exact Hs.drewN (by assumption) _ | exact hs1 _ _ _ | exact hs2 _ _ _ _ _ | exact Hs.drew (by assumption) | exact Hs.add (by assumption) _ _ | exact Hs.drew (Hs.add (by assumption) _ _) | exact Hs.drew (hs1 _ _ _) | exact Hs.drew (hs2 _ _ _ _ _) | exact Hs.alloc (by assumption) _)).mono ?_); rintro e w2 ⟨rfl, hR2⟩; have hR3 := hR2.add 25 #[.int .i64 A, .int .i64 A, .int .i64 B])
    | (go_at_call 15; (with_reducible refine (cT _).mono ?_); rintro e w4 ⟨g, rfl, hN, hB⟩; have hR4 := hR3.below hB; clear hB; obtain ⟨d0, d1, d2⟩ := hR4.c3 (.head _))
    | (go_at_call 16; (with_reducible refine (cM hR4).mono ?_); rintro e w5 ⟨rfl, hR5⟩; obtain ⟨e0, e1, e2⟩ := hR5.c3 (.head _))
    | (go_at_call 13; (with_reducible refine (cF hR5).mono ?_); rintro e w6 ⟨rfl, hR6⟩))
  go_ret
  exact ⟨rfl, hR6.b⟩
set_option maxHeartbeats 4000000 in
theorem tumbles_one (x0 x1 x2 t : Int) (h1 : ¬ t < -1152921504606846976) (h2 : ¬ 1152921504606846976 < t) (hb : ¬ t < (shOf x0 x1 x2).b) (w : World) : Calls Try.prog 7 #[a3 x0 x1 x2, .int .i64 t] w fun e w' => e = .returned (.bool true) ∧ Below w.heap.size w w' := by
  have cA := fun {l W} (hR : Hs w l W) => upH hR (wawake_ok W)
  have cS := fun {l W} (hR : Hs w l W) => upH hR (wshape_any x0 x1 x2 W)
  have h := shOf_ok x0 x1 x2
  generalize shOf x0 x1 x2 = s at *
  obtain ⟨A, S, B⟩ := s
  have h' : (⟨A, A, B⟩ : Sh).ok := ⟨h.w0, h.w1, h.w0, h.w1, h.b0, h.b1⟩
  have hc : cl t = t := cl_same (by omega) (by omega)
  simp only at hb
  obtain ⟨hf, hm⟩ := sh_same h' hc (by omega)
  have cT := fun W => wat_ok h' t (by omega) (by omega) 1 (by rw [hm]; rfl) (by omega) W
  have cM := fun {l W} (hR : Hs w l W) => upH hR (wmany_any h' t W)
  have cF := fun {l W} (hR : Hs w l W) => upH hR (wfirst_any h' t W)
  have cB := fun {l W} (hR : Hs w l W) => upH hR (wtumbling_any ⟨A, A, B⟩ W)
  rw [hf] at cT
  simp only [hm, hf] at cM cF
  rw [show (((⟨A, A, B⟩ : Sh).w == (⟨A, A, B⟩ : Sh).sl) = true) by simp] at cB
  have a0 : 1 ≤ A := h.w0
  have b1 : B ≤ 1099511627776 := h.b1
  have b0 : -1099511627776 ≤ B := h.b0
  have q0 : 0 ≤ (t - B) / A := Int.ediv_nonneg (by omega) (by omega)
  have q1 : (t - B) / A ≤ t - B := Int.ediv_le_self _ (by omega)
  have n0 : ¬ A = 0 := by omega
  have e2 : (t - B).tdiv A = (t - B) / A := Int.tdiv_eq_ediv_of_nonneg (by omega)
  obtain ⟨d, hd⟩ : ∃ d, d = t - B := ⟨_, rfl⟩
  obtain ⟨q, hq⟩ : ∃ q, q = d / A := ⟨_, rfl⟩
  rw [← hd] at e2 cT cF q0 q1
  rw [← hq] at e2 cT cF q0 q1
  have v1 : wrap64 (t - B) = d := by rw [← hd]; exact wrap64_fit (by omega) (by omega)
  have v2 : IntKind.i64.wrap (t - B) = d := by rw [← hd]; exact wrap_fit (by omega) (by omega)
  have v3 : wrap64 (d.tdiv A) = q := by rw [e2]; exact wrap64_fit (by omega) (by omega)
  have v4 : IntKind.i64.wrap (d.tdiv A) = q := by rw [e2]; exact wrap_fit (by omega) (by omega)
  clear h h' hc hf hm e2 hd hq a0 b0 b1 q0 q1
  go_enter Try.func7, Try.ntmps7
  go_wp2_with (first
    | (go_at_call 10; (with_reducible refine (cA (by first | assumption | exact Hs.drewN (by assumption) _ | exact hs1 _ _ _ | exact hs2 _ _ _ _ _ | exact Hs.drew (by assumption) | exact Hs.add (by assumption) _ _ | exact Hs.drew (Hs.add (by assumption) _ _) | exact Hs.drew (hs1 _ _ _) | exact Hs.drew (hs2 _ _ _ _ _) | exact Hs.alloc (by assumption) _)).mono ?_); rintro e w1 ⟨rfl, hR1⟩; obtain ⟨c0, c1, c2⟩ := hR1.c3 (.head _))
    | (go_at_call 11; (with_reducible refine (cS (by first | assumption | exact Hs.drewN (by assumption) _ | exact hs1 _ _ _ | exact hs2 _ _ _ _ _ | exact Hs.drew (by assumption) | exact Hs.add (by assumption) _ _ | exact Hs.drew (Hs.add (by assumption) _ _) | exact Hs.drew (hs1 _ _ _) | exact Hs.drew (hs2 _ _ _ _ _) | exact Hs.alloc (by assumption) _)).mono ?_); rintro e w2 ⟨rfl, hR2⟩; have hR3 := hR2.add 25 #[.int .i64 A, .int .i64 A, .int .i64 B])
    | (go_at_call 15; (with_reducible refine (cT _).mono ?_); rintro e w4 ⟨g, rfl, hN, hB⟩; have hR4 := (hR3.below hB).cons hN.fb1; clear hB hN; obtain ⟨d0, d1, d2⟩ := hR4.c3 (.tail _ (.head _)); have d3 := hR4.c1 (.head _)))
  first
    | (go_region_held3 (fun w9 => w9.cell? ⟨g, 0, none⟩ = some (.int .i64 q) ∧ w9.cell? ⟨w2.heap.size, 0, none⟩ = some (.int .i64 A) ∧ w9.cell? ⟨w2.heap.size, 1, none⟩ = some (.int .i64 A) ∧ w9.cell? ⟨w2.heap.size, 2, none⟩ = some (.int .i64 B))
        (first | exact ⟨Hs.c1 (by first | assumption | exact Hs.drewN (by assumption) _ | exact hs1 _ _ _ | exact hs2 _ _ _ _ _ | exact Hs.drew (by assumption) | exact Hs.add (by assumption) _ _ | exact Hs.drew (Hs.add (by assumption) _ _) | exact Hs.drew (hs1 _ _ _) | exact Hs.drew (hs2 _ _ _ _ _) | exact Hs.alloc (by assumption) _) (.head _), Hs.c3 (by first | assumption | exact Hs.drewN (by assumption) _ | exact hs1 _ _ _ | exact hs2 _ _ _ _ _ | exact Hs.drew (by assumption) | exact Hs.add (by assumption) _ _ | exact Hs.drew (Hs.add (by assumption) _ _) | exact Hs.drew (hs1 _ _ _) | exact Hs.drew (hs2 _ _ _ _ _) | exact Hs.alloc (by assumption) _) (.tail _ (.head _))⟩)
        (first
          | (go_at_call 21; (with_reducible refine (cB (by first | assumption | exact Hs.drewN (by assumption) _ | exact hs1 _ _ _ | exact hs2 _ _ _ _ _ | exact Hs.drew (by assumption) | exact Hs.add (by assumption) _ _ | exact Hs.drew (Hs.add (by assumption) _ _) | exact Hs.drew (hs1 _ _ _) | exact Hs.drew (hs2 _ _ _ _ _) | exact Hs.alloc (by assumption) _)).mono ?_); rintro e w' ⟨rfl, hR5⟩)
          | (go_at_call 16; (with_reducible refine (cM (by first | assumption | exact Hs.drewN (by assumption) _ | exact hs1 _ _ _ | exact hs2 _ _ _ _ _ | exact Hs.drew (by assumption) | exact Hs.add (by assumption) _ _ | exact Hs.drew (Hs.add (by assumption) _ _) | exact Hs.drew (hs1 _ _ _) | exact Hs.drew (hs2 _ _ _ _ _) | exact Hs.alloc (by assumption) _)).mono ?_); rintro e w' ⟨rfl, hR5⟩)
          | (go_at_call 13; (with_reducible refine (cF (by first | assumption | exact Hs.drewN (by assumption) _ | exact hs1 _ _ _ | exact hs2 _ _ _ _ _ | exact Hs.drew (by assumption) | exact Hs.add (by assumption) _ _ | exact Hs.drew (Hs.add (by assumption) _ _) | exact Hs.drew (hs1 _ _ _) | exact Hs.drew (hs2 _ _ _ _ _) | exact Hs.alloc (by assumption) _)).mono ?_); rintro e w' ⟨rfl, hR5⟩)
          | fail))
    | fail
  all_goals
    (try go_wp2)
    go_ret
    exact ⟨rfl, Hs.b (by first | assumption | exact Hs.drewN (by assumption) _ | exact hs1 _ _ _ | exact hs2 _ _ _ _ _ | exact Hs.drew (by assumption) | exact Hs.add (by assumption) _ _ | exact Hs.drew (Hs.add (by assumption) _ _) | exact Hs.drew (hs1 _ _ _) | exact Hs.drew (hs2 _ _ _ _ _) | exact Hs.alloc (by assumption) _)⟩
theorem tumbles_law (r : Int × Int × Int) {P : Prop} (_ : P) (t : Int) {P0 P1 : Prop} (_ : P0) (_ : P1) (w : World) : Calls Try.prog 7 #[.agg #[.int .i64 r.1, .int .i64 r.2.1, .int .i64 r.2.2], .int .i64 t] w fun e w' => e = .returned (.bool true) ∧ Below w.heap.size w w' := by
  by_cases h : t < -1152921504606846976 ∨ 1152921504606846976 < t
  · exact tumbles_far _ _ _ t h w
  · by_cases hb : t < (shOf r.1 r.2.1 r.2.2).b
    · exact tumbles_none _ _ _ t (by omega) (by omega) hb w
    · exact tumbles_one _ _ _ t (by omega) (by omega) hb w
end Go.Proofs.Ytpmimmbheieobaa
