/-
  WindowShifts's walk.
-/
import Derived.Test.YtpmimmbheieobaaWAw
namespace Go.Proofs.Ytpmimmbheieobaa
open Go.RowKit
set_option linter.unusedVariables false
set_option linter.unusedSimpArgs false
set_option maxRecDepth 100000

set_option maxHeartbeats 1000000 in
theorem shifts_walk (x0 x1 x2 n : Int) (hn0 : 0 ≤ n) (hn1 : n ≤ 4294967295) (w : World) : Calls Try.prog 6 #[a3 x0 x1 x2, .int .u32 n] w fun e w' => e = .returned (.bool true) ∧ Below w.heap.size w w' := by
  have cA := fun {l W} (hR : Hs w l W) => upH hR (wawake_ok W)
  have cS := fun {l W} (hR : Hs w l W) => upH hR (wshape_any x0 x1 x2 W)
  have h := shOf_ok x0 x1 x2
  generalize shOf x0 x1 x2 = s at *
  obtain ⟨A, S, B⟩ := s
  have k0 := h.s0
  have k1 := h.s1
  have k2 := h.b0
  have k3 := h.b1
  simp only at k0 k1 k2 k3
  obtain ⟨C, hC⟩ : ∃ C, C = B + S := ⟨_, rfl⟩
  have e1 : wrap64 (B + S) = C := by rw [← hC]; exact wrap64_fit (by omega) (by omega)
  have e2 : wrap64 n = n := wrap64_fit (by omega) (by omega)
  have e3 : wrap64 (n + 1) = n + 1 := wrap64_fit (by omega) (by omega)
  by_cases hC1 : 1099511627776 < C
  · clear h k0 k1 k2 k3 hC hn0 hn1
    go_enter Try.func6, Try.ntmps6
    go_wp2_with (first
      | (go_at_call 10; (with_reducible refine (cA (by first | assumption | exact Hs.drewN (by assumption) _ | exact hs1 _ _ _ | exact hs2 _ _ _ _ _ | exact Hs.drew (by assumption) | exact Hs.add (by assumption) _ _ | exact Hs.drew (Hs.add (by assumption) _ _) | exact Hs.drew (hs1 _ _ _) | exact Hs.drew (hs2 _ _ _ _ _) | exact Hs.alloc (by assumption) _)).mono ?_); rintro e w1 ⟨rfl, hR1⟩; obtain ⟨c0, c1, c2⟩ := hR1.c3 (.head _))
      | (go_at_call 11; (with_reducible refine (cS (by first | assumption | exact Hs.drewN (by assumption) _ | exact hs1 _ _ _ | exact hs2 _ _ _ _ _ | exact Hs.drew (by assumption) | exact Hs.add (by assumption) _ _ | exact Hs.drew (Hs.add (by assumption) _ _) | exact Hs.drew (hs1 _ _ _) | exact Hs.drew (hs2 _ _ _ _ _) | exact Hs.alloc (by assumption) _)).mono ?_); rintro e w2 ⟨rfl, hR2⟩))
    go_ret
    exact ⟨rfl, Hs.b (hR2.add _ _)⟩
  · have h' : (⟨A, S, C⟩ : Sh).ok := ⟨h.w0, h.w1, h.s0, h.s1, by show _ ≤ C; omega, by show C ≤ _; omega⟩
    have hat : (⟨A, S, C⟩ : Sh).at n = (⟨A, S, B⟩ : Sh).at (n + 1) := by
      show C + n * S = B + (n + 1) * S
      rw [Int.add_mul, hC]; omega
    obtain ⟨o, q, k, cW, cV⟩ : ∃ o q k, (∀ W, Calls Try.prog 17 #[shv ⟨A, S, C⟩, .int .i64 n] W fun e w' => e = .returned (.tuple #[spv o q, .int .i64 k]) ∧ Below W.heap.size W w') ∧ (∀ W, Calls Try.prog 17 #[shv ⟨A, S, B⟩, .int .i64 (n + 1)] W fun e w' => e = .returned (.tuple #[spv o q, .int .i64 k]) ∧ Below W.heap.size W w') := by
      by_cases hw : (⟨A, S, B⟩ : Sh).at (n + 1) + A ≤ 2305843009213693952
      · have c1 := fun W => wwindow_ok h' hn0 (by rw [hat]; exact hw) W
        rw [hat] at c1
        exact ⟨_, _, 0, c1, fun W => wwindow_ok h (by omega) hw W⟩
      · exact ⟨0, 0, 2, fun W => wwindow_no h' (.inr (by rw [hat]; show _ < _ + A; omega)) W, fun W => wwindow_no h (.inr (by show _ < _ + A; omega)) W⟩
    have cW := fun {l W} (hR : Hs w l W) => upH hR (cW W)
    have cV := fun {l W} (hR : Hs w l W) => upH hR (cV W)
    clear h h' hat k0 k1 k2 k3 hC hn0 hn1
    go_enter Try.func6, Try.ntmps6
    go_wp2_with (first
      | (go_at_call 10; (with_reducible refine (cA (by first | assumption | exact Hs.drewN (by assumption) _ | exact hs1 _ _ _ | exact hs2 _ _ _ _ _ | exact Hs.drew (by assumption) | exact Hs.add (by assumption) _ _ | exact Hs.drew (Hs.add (by assumption) _ _) | exact Hs.drew (hs1 _ _ _) | exact Hs.drew (hs2 _ _ _ _ _) | exact Hs.alloc (by assumption) _)).mono ?_); rintro e w1 ⟨rfl, hR1⟩; obtain ⟨c0, c1, c2⟩ := hR1.c3 (.head _))
      | (go_at_call 11; (with_reducible refine (cS (by first | assumption | exact Hs.drewN (by assumption) _ | exact hs1 _ _ _ | exact hs2 _ _ _ _ _ | exact Hs.drew (by assumption) | exact Hs.add (by assumption) _ _ | exact Hs.drew (Hs.add (by assumption) _ _) | exact Hs.drew (hs1 _ _ _) | exact Hs.drew (hs2 _ _ _ _ _) | exact Hs.alloc (by assumption) _)).mono ?_); rintro e w2 ⟨rfl, hR2⟩)
      | (go_at_call 17; (with_reducible refine (cW (((hR2.add 25 #[.int .i64 A, .int .i64 S, .int .i64 B]).add 25 #[.int .i64 A, .int .i64 S, .int .i64 C]))).mono ?_); rintro e w3 ⟨rfl, hR3⟩; have hR5 := hR3.add 34 #[.int .i64 o, .int .i64 q]; obtain ⟨d0, d1, d2⟩ := hR5.c3 (.tail _ (.tail _ (.head _))))
      | (go_at_call 17; (with_reducible refine (cV hR5).mono ?_); rintro e w4 ⟨rfl, hR4⟩; obtain ⟨y0, y1⟩ := (hR4.add 34 #[.int .i64 o, .int .i64 q]).c2 (.tail _ (.head _))))
    go_ret
    exact ⟨rfl, ((hR4.add 34 #[.int .i64 o, .int .i64 q])).b⟩
theorem shifts_law (r : Int × Int × Int) {P : Prop} (_ : P) (n : Int) (h0 : 0 ≤ n) (h1 : n ≤ 4294967295) (w : World) : Calls Try.prog 6 #[.agg #[.int .i64 r.1, .int .i64 r.2.1, .int .i64 r.2.2], .int .u32 n] w fun e w' => e = .returned (.bool true) ∧ Below w.heap.size w w' := shifts_walk r.1 r.2.1 r.2.2 n h0 h1 w
end Go.Proofs.Ytpmimmbheieobaa
