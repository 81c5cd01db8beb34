/-
  WindowAts's walk.
-/
import Derived.Test.YtpmimmbheieobaaWAw
namespace Go.Proofs.Ytpmimmbheieobaa
open Go.RowKit
set_option linter.unusedVariables false
set_option linter.unusedSimpArgs false
set_option maxRecDepth 100000

theorem Hs.tail {w W : World} {p : Nat × TypeId × Array Value} {l : List (Nat × TypeId × Array Value)} (h : Hs w (p :: l) W) : Hs w l W := ⟨h.1, fun q hq => h.2 q (.tail _ hq)⟩
theorem ats_far (x0 x1 x2 t : Int) (ht : t < -1152921504606846976 ∨ 1152921504606846976 < t) (w : World) : Calls Try.prog 4 #[a3 x0 x1 x2, .int .i64 t] w fun e w' => e = .returned (.bool true) ∧ Below w.heap.size w w' := by
  have cA := fun {l W} (hR : Hs w l W) => upH hR (wawake_ok W)
  have cS := fun {l W} (hR : Hs w l W) => upH hR (wshape_any x0 x1 x2 W)
  have h := shOf_ok x0 x1 x2
  generalize shOf x0 x1 x2 = s at *
  have cT := fun {l W} (hR : Hs w l W) => upH hR (wat_range s t ht W)
  have cM := fun {l W} (hR : Hs w l W) => upH hR (wmany_any h t W)
  have hm := Sh.mny_nn h t
  clear h
  generalize s.mny t = m at *
  obtain ⟨A, S, B⟩ := s
  by_cases h1 : t < -1152921504606846976
  · clear ht
    go_enter Try.func4, Try.ntmps4
    go_wp2_with (first
      | (go_at_call 10; (with_reducible refine (cA (by first | assumption | exact Hs.drewN (by assumption) _ | exact hs1 _ _ _ | exact hs2 _ _ _ _ _ | exact Hs.drew (by assumption) | exact Hs.add (by assumption) _ _ | exact Hs.drew (Hs.add (by assumption) _ _) | exact Hs.drew (hs1 _ _ _) | exact Hs.drew (hs2 _ _ _ _ _) | exact Hs.alloc (by assumption) _)).mono ?_); rintro e w1 ⟨rfl, hR1⟩; obtain ⟨c0, c1, c2⟩ := hR1.c3 (.head _))
      | (go_at_call 11; (with_reducible refine (cS (by first | assumption | exact Hs.drewN (by assumption) _ | exact hs1 _ _ _ | exact hs2 _ _ _ _ _ | exact Hs.drew (by assumption) | exact Hs.add (by assumption) _ _ | exact Hs.drew (Hs.add (by assumption) _ _) | exact Hs.drew (hs1 _ _ _) | exact Hs.drew (hs2 _ _ _ _ _) | exact Hs.alloc (by assumption) _)).mono ?_); rintro e w2 ⟨rfl, hR2⟩; have hR3 := hR2.add 25 (shc ⟨A, S, B⟩))
      | (go_at_call 15; (with_reducible refine (cT hR3).mono ?_); rintro e w4 ⟨rfl, hR4⟩; obtain ⟨d0, d1, d2⟩ := hR4.c3 (.head _))
      | (go_at_call 16; (with_reducible refine (cM hR4).mono ?_); rintro e w5 ⟨rfl, hR5⟩))
    go_ret
    exact ⟨ret_bool (by simp <;> omega), hR5.b⟩
  · have h2 : 1152921504606846976 < t := by omega
    clear ht
    go_enter Try.func4, Try.ntmps4
    go_wp2_with (first
      | (go_at_call 10; (with_reducible refine (cA (by first | assumption | exact Hs.drewN (by assumption) _ | exact hs1 _ _ _ | exact hs2 _ _ _ _ _ | exact Hs.drew (by assumption) | exact Hs.add (by assumption) _ _ | exact Hs.drew (Hs.add (by assumption) _ _) | exact Hs.drew (hs1 _ _ _) | exact Hs.drew (hs2 _ _ _ _ _) | exact Hs.alloc (by assumption) _)).mono ?_); rintro e w1 ⟨rfl, hR1⟩; obtain ⟨c0, c1, c2⟩ := hR1.c3 (.head _))
      | (go_at_call 11; (with_reducible refine (cS (by first | assumption | exact Hs.drewN (by assumption) _ | exact hs1 _ _ _ | exact hs2 _ _ _ _ _ | exact Hs.drew (by assumption) | exact Hs.add (by assumption) _ _ | exact Hs.drew (Hs.add (by assumption) _ _) | exact Hs.drew (hs1 _ _ _) | exact Hs.drew (hs2 _ _ _ _ _) | exact Hs.alloc (by assumption) _)).mono ?_); rintro e w2 ⟨rfl, hR2⟩; have hR3 := hR2.add 25 (shc ⟨A, S, B⟩))
      | (go_at_call 15; (with_reducible refine (cT hR3).mono ?_); rintro e w4 ⟨rfl, hR4⟩; obtain ⟨d0, d1, d2⟩ := hR4.c3 (.head _))
      | (go_at_call 16; (with_reducible refine (cM hR4).mono ?_); rintro e w5 ⟨rfl, hR5⟩))
    go_ret
    exact ⟨ret_bool (by simp <;> omega), hR5.b⟩
/-- What the statement reckons of a time. -/
structure Rk (A S B t m f o : Int) : Prop where
  e1 : ∃ p, wrap64 (f * S) = p ∧ wrap64 (B + p) = o
  e2 : o ≤ t → ∃ d q, wrap64 (t - o) = d ∧ wrap64 (d.tdiv S) = q ∧ wrap64 (q + 1) = m
  e3 : ¬ o ≤ t → m = 0
  n0 : ¬ S = 0
theorem rk_any {s : Sh} (h : s.ok) {t : Int} (h1 : ¬ t < -1152921504606846976) (h2 : ¬ 1152921504606846976 < t) : Rk s.w s.sl s.b t (s.mny t) (s.fst t) (s.at (s.fst t)) := by
  have hc : cl t = t := cl_same (by omega) (by omega)
  have k0 := s.fst_nn t
  have k1 : s.at (s.fst t) ≤ 2305844108725321728 := Sh.at_high h (t := cl t - s.w) (by have := cl_high t; have := h.w0; omega)
  have k2 := Sh.mul_bounds h k0 k1
  have k3 := Sh.at_low h k0
  have s0 := h.s0
  have hm := Sh.mny_count h hc
  refine ⟨⟨_, wrap64_fit (by omega) (by omega), ?_⟩, fun hle => ⟨t - s.at (s.fst t), (t - s.at (s.fst t)) / s.sl, wrap64_fit (by omega) (by omega), ?_, ?_⟩, fun hle => by rw [hm, if_neg hle], by omega⟩
  · unfold Sh.at at k1 k3 ⊢
    exact wrap64_fit (by omega) (by omega)
  · rw [Int.tdiv_eq_ediv_of_nonneg (by omega)]
    have q0 : 0 ≤ (t - s.at (s.fst t)) / s.sl := Int.ediv_nonneg (by omega) (by omega)
    have q1 : (t - s.at (s.fst t)) / s.sl ≤ t - s.at (s.fst t) := Int.ediv_le_self _ (by omega)
    exact wrap64_fit (by omega) (by omega)
  · have q0 : 0 ≤ (t - s.at (s.fst t)) / s.sl := Int.ediv_nonneg (by omega) (by omega)
    have q1 : (t - s.at (s.fst t)) / s.sl ≤ t - s.at (s.fst t) := Int.ediv_le_self _ (by omega)
    rw [hm, if_pos hle]
    exact wrap64_fit (by omega) (by omega)
set_option maxHeartbeats 1000000 in
theorem ats_many (x0 x1 x2 t : Int) (h1 : ¬ t < -1152921504606846976) (h2 : ¬ 1152921504606846976 < t) (hm : 64 < (shOf x0 x1 x2).mny t) (w : World) : Calls Try.prog 4 #[a3 x0 x1 x2, .int .i64 t] w fun e w' => e = .returned (.bool true) ∧ Below w.heap.size w w' := by
  have cA := fun {l W} (hR : Hs w l W) => upH hR (wawake_ok W)
  have cS := fun {l W} (hR : Hs w l W) => upH hR (wshape_any x0 x1 x2 W)
  have h := shOf_ok x0 x1 x2
  generalize shOf x0 x1 x2 = s at *
  have cT := fun {l W} (hR : Hs w l W) => upH hR (wat_many h t (by omega) (by omega) hm W)
  have cM := fun {l W} (hR : Hs w l W) => upH hR (wmany_any h t W)
  have cF := fun {l W} (hR : Hs w l W) => upH hR (wfirst_any h t W)
  have hk := rk_any h h1 h2
  clear h
  generalize s.at (s.fst t) = o at *
  generalize s.fst t = f at *
  generalize s.mny t = m at *
  obtain ⟨A, S, B⟩ := s
  obtain ⟨⟨p, e1, e2⟩, e3, e4, n0⟩ := hk
  simp only at e1 e2 e3 n0
  have hle : o ≤ t := by
    by_cases hx : o ≤ t
    · exact hx
    · have := e4 hx; omega
  obtain ⟨d, q, e5, e6, e7⟩ := e3 hle
  clear e3 e4
  go_enter Try.func4, Try.ntmps4
  go_wp2_with (first
    | (go_at_call 10; (with_reducible refine (cA (by first | assumption | exact Hs.drewN (by assumption) _ | exact hs1 _ _ _ | exact hs2 _ _ _ _ _ | exact Hs.drew (by assumption) | exact Hs.add (by assumption) _ _ | exact Hs.drew (Hs.add (by assumption) _ _) | exact Hs.drew (hs1 _ _ _) | exact Hs.drew (hs2 _ _ _ _ _) | exact Hs.alloc (by assumption) _)).mono ?_); rintro e w1 ⟨rfl, hR1⟩; obtain ⟨c0, c1, c2⟩ := hR1.c3 (.head _))
    | (go_at_call 11; (with_reducible refine (cS (by first | assumption | exact Hs.drewN (by assumption) _ | exact hs1 _ _ _ | exact hs2 _ _ _ _ _ | exact Hs.drew (by assumption) | exact Hs.add (by assumption) _ _ | exact Hs.drew (Hs.add (by assumption) _ _) | exact Hs.drew (hs1 _ _ _) | exact Hs.drew (hs2 _ _ _ _ _) | exact Hs.alloc (by assumption) _)).mono ?_); rintro e w2 ⟨rfl, hR2⟩; have hR3 := hR2.add 25 (shc ⟨A, S, B⟩))
    | (go_at_call 15; (with_reducible refine (cT hR3).mono ?_); rintro e w4 ⟨rfl, hR4⟩; obtain ⟨d0, d1, d2⟩ := hR4.c3 (.head _))
    | (go_at_call 16; (with_reducible refine (cM hR4).mono ?_); rintro e w5 ⟨rfl, hR5⟩; obtain ⟨b0, b1, b2⟩ := hR5.c3 (.head _))
    | (go_at_call 13; (with_reducible refine (cF hR5).mono ?_); rintro e w6 ⟨rfl, hR6⟩; obtain ⟨a0, a1, a2⟩ := hR6.c3 (.head _)))
  go_ret
  exact ⟨rfl, hR6.b⟩
/-- A round of the statement's loop. -/
structure Al (w : World) (l : List (Nat × TypeId × Array Value)) (g n : Nat) (f : Int) (W : World) : Prop where
  h : Hs w l W
  r : NumR 0 g n n f W
section
variable {w W W' : World} {l : List (Nat × TypeId × Array Value)} {g n : Nat} {f : Int}
theorem Al.below (h : Al w l g n f W) (hb : Below W.heap.size W W') : Al w l g n f W' := ⟨h.h.below hb, h.r.below hb⟩
theorem Al.drew (h : Al w l g n f W) : Al w l g n f W.drew := h.below (Below.refl _ _).drew
theorem Al.add (h : Al w l g n f W) (t : TypeId) (cs : Array Value) : Al w ((W.heap.size, t, cs) :: l) g n f (W.alloc (.cells cs t)) := ⟨h.h.add t cs, h.r.below (bl1 W _)⟩
theorem Al.tail {p : Nat × TypeId × Array Value} (h : Al w (p :: l) g n f W) : Al w l g n f W := ⟨h.h.tail, h.r⟩
theorem upL {F : FuncId} {args : Array Value} {r : Ending} (hR : Al w l g n f W) (h : Calls Try.prog F args W fun e w' => e = r ∧ Below W.heap.size W w') : Calls Try.prog F args W fun e w' => e = r ∧ Al w l g n f w' :=
  h.mono fun e w' ⟨h1, h2⟩ => ⟨h1, hR.below h2⟩
end
def AlRel (w : World) (l : List (Nat × TypeId × Array Value)) (g n : Nat) (f : Int) (gk : Nat) (s88 : Value) (wr : World) : Prop := ∃ k : Nat, k + gk = n ∧ s88 = .int .i64 k ∧ Al w l g n f wr
set_option maxHeartbeats 4000000 in
theorem ats_loop (x0 x1 x2 t : Int) (h1 : ¬ t < -1152921504606846976) (h2 : ¬ 1152921504606846976 < t) (n : Nat) (hmn : (shOf x0 x1 x2).mny t = n) (hn : n ≤ 64) (hle0 : (shOf x0 x1 x2).at ((shOf x0 x1 x2).fst t) ≤ t) (w : World) : Calls Try.prog 4 #[a3 x0 x1 x2, .int .i64 t] w fun e w' => e = .returned (.bool true) ∧ Below w.heap.size w w' := by
  have cA := fun {l W} (hR : Hs w l W) => upH hR (wawake_ok W)
  have cS := fun {l W} (hR : Hs w l W) => upH hR (wshape_any x0 x1 x2 W)
  have h := shOf_ok x0 x1 x2
  generalize shOf x0 x1 x2 = s at *
  have hc : cl t = t := cl_same (by omega) (by omega)
  have cT := fun W => wat_ok h t (by omega) (by omega) n hmn hn W
  have cM := fun {l g n f W} (hR : Al w l g n f W) => upL hR (wmany_any h t W)
  have cF := fun {l g n f W} (hR : Al w l g n f W) => upL hR (wfirst_any h t W)
  have cN := fun {l g n f W} (hR : Al w l g n f W) => upL hR (wneeded_any h t W)
  have hk := rk_any h h1 h2
  have hI : ∀ k : Nat, k < n → s.at (s.fst t + k) ≤ t ∧ s.at (s.fst t) ≤ s.at (s.fst t + k) ∧ t < s.at (s.fst t + k) + s.w := fun k hkn => by
    have a := s.fst_nn t
    refine ⟨?_, Sh.at_mono h (by omega), ?_⟩
    · refine (Sh.lt_op h (by omega) t).1 ?_
      unfold Sh.mny at hmn
      rw [hc] at hmn
      omega
    · have b := Sh.at_op h (cl t - s.w)
      rw [hc] at b
      have c := Sh.at_mono h (i := s.fst t) (j := s.fst t + k) (by omega)
      unfold Sh.fst at c ⊢
      rw [hc] at c ⊢
      omega
  have cW := fun (k : Nat) (hkn : k < n) {l g n f W} (hR : Al w l g n f W) => upL hR (wwindow_ok h (i := s.fst t + k) (by have := s.fst_nn t; omega) (by have := (hI k hkn).1; have := h.w1; omega) W)
  have cH := fun (k : Nat) (hkn : k < n) {l g n f W} (hR : Al w l g n f W) => upL hR (whas_any (s.at (s.fst t + k)) (s.at (s.fst t + k) + s.w) t W)
  rw [hc] at cH
  have f0 := s.fst_nn t
  have f1 := Sh.fst_high h t
  have hmw := h.w1
  rw [hmn] at hk
  simp only [hmn] at cM
  clear h hc hmn
  generalize s.at (s.fst t) = o at *
  have HI := Lib.hid hI
  have HW := Lib.hid @cW
  have HH := Lib.hid @cH
  have HF0 := Lib.hid f0
  have HF1 := Lib.hid f1
  have HN := Lib.hid hn
  have hm64 : ¬ (64 : Int) < n := by omega
  clear hI cW cH f0 f1 hmw hn
  obtain ⟨A, S, B⟩ := s
  generalize hfd : (⟨A, S, B⟩ : Sh).fst t = f at *
  clear hfd
  obtain ⟨⟨p, e1, e2⟩, e3, e4, n0⟩ := hk
  simp only at e1 e2 e3 n0
  by_cases hle : o ≤ t
  · obtain ⟨d, q, e5, e6, e7⟩ := e3 hle
    clear e3 e4
    go_enter Try.func4, Try.ntmps4
    go_wp2_with (first
      | (go_at_call 10; (with_reducible refine (cA (by first | assumption | exact Hs.drewN (by assumption) _ | exact hs1 _ _ _ | exact hs2 _ _ _ _ _ | exact Hs.drew (by assumption) | exact Hs.add (by assumption) _ _ | exact Hs.drew (Hs.add (by assumption) _ _) | exact Hs.drew (hs1 _ _ _) | exact Hs.drew (hs2 _ _ _ _ _) | exact Hs.alloc (by assumption) _)).mono ?_); rintro e w1 ⟨rfl, hR1⟩; obtain ⟨c0, c1, c2⟩ := hR1.c3 (.head _))
      | (go_at_call 11; (with_reducible refine (cS (by first | assumption | exact Hs.drewN (by assumption) _ | exact hs1 _ _ _ | exact hs2 _ _ _ _ _ | exact Hs.drew (by assumption) | exact Hs.add (by assumption) _ _ | exact Hs.drew (Hs.add (by assumption) _ _) | exact Hs.drew (hs1 _ _ _) | exact Hs.drew (hs2 _ _ _ _ _) | exact Hs.alloc (by assumption) _)).mono ?_); rintro e w2 ⟨rfl, hR2⟩; have hR3 := hR2.add 25 (shc ⟨A, S, B⟩))
      | (go_at_call 15; (with_reducible refine (cT _).mono ?_); rintro e w4 ⟨g, rfl, hN, hB⟩; have hR4 : Al w _ g n f w4 := ⟨hR3.below hB, hN.wide (Nat.zero_le _)⟩; clear hB hN hR3; obtain ⟨d0, d1, d2⟩ := hR4.h.c3 (.head _))
      | (go_at_call 16; (with_reducible refine (cM hR4).mono ?_); rintro e w5 ⟨rfl, hR5⟩; obtain ⟨b0, b1, b2⟩ := hR5.h.c3 (.head _))
      | (go_at_call 13; (with_reducible refine (cF hR5).mono ?_); rintro e w6 ⟨rfl, hR6⟩; obtain ⟨a0, a1, a2⟩ := hR6.h.c3 (.head _)))
    clear cA cS cT cM cF hR4 hR5 c0 c1 c2 d0 d1 d2 b0 b1 b2 a0 a1 a2 hR2 hR1
    simp only [e1, e2, e5, e6, e7]
    go_loopg [88] n (fun gk s88 wr => AlRel w [(w2.heap.size, 25, shc ⟨A, S, B⟩), (w.heap.size, 22, c3v x0 x1 x2)] g n f gk s88 wr)
    case atStart => exact ⟨0, by omega, rfl, hR6⟩
    case round =>
      obtain ⟨k, hkn, rfl, hA⟩ := hrel
      by_cases hlt : k < n
      · have t1 : (k : Int) < n := by omega
        obtain ⟨i1, i2, i3⟩ := HI.out k hlt
        have cW := HW.out k hlt hA
        have cH := fun {l g n f W} (hR : Al w l g n f W) => HH.out k hlt hR
        have y := hA.r.cell hlt
        obtain ⟨a0, a1, a2⟩ := hA.h.c3 (.head _)
        have r1 : IntKind.i64.wrap (f + k) = f + k := wrap_fit (by have := HF0.out; omega) (by have := HF1.out; have := HN.out; omega)
        generalize (⟨A, S, B⟩ : Sh).at (f + k) = oo at *
        have r2 : decide (oo ≤ t) = true := decide_eq_true i1
        have r3 : decide (t < oo + A) = true := decide_eq_true i3
        have r4 : decide (oo + A ≤ t) = false := decide_eq_false (by omega)
        have r5 : decide (oo < o) = false := decide_eq_false (by omega)
        have r6 : ¬ oo + A ≤ t := by omega
        have r7 : ¬ oo < o := by omega
        have R8 := Lib.hid (show IntKind.i64.wrap ((k : Int) + 1) = (k : Int) + 1 from wrap_fit (by omega) (by have := HN.out; omega))
        rw [r2, r3] at cH
        have HL := Lib.hid hlt
        have HKN := Lib.hid hkn
        clear hlt hkn hA HI HW HH i1 i2 i3 hR6
        go_wp2_with (go_at_call 17; (with_reducible refine cW.mono ?_); rintro e w7 ⟨rfl, hA7⟩; have hA8 := hA7.add 34 #[.int .i64 oo, .int .i64 (oo + A)]; clear hA7)
        first
          | (go_region_held3 (fun w9 => w9.cell? ⟨w7.heap.size, 0, none⟩ = some (.int .i64 oo) ∧ w9.cell? ⟨w7.heap.size, 1, none⟩ = some (.int .i64 (oo + A)) ∧ w9.cell? ⟨w2.heap.size, 0, none⟩ = some (.int .i64 A) ∧ w9.cell? ⟨w2.heap.size, 1, none⟩ = some (.int .i64 S) ∧ w9.cell? ⟨w2.heap.size, 2, none⟩ = some (.int .i64 B))
              (first | exact ⟨(Hs.c2 (Al.h (by first | assumption | exact Al.drew (by assumption))) (.head _)).1, (Hs.c2 (Al.h (by first | assumption | exact Al.drew (by assumption))) (.head _)).2, Hs.c3 (Al.h (by first | assumption | exact Al.drew (by assumption))) (.tail _ (.head _))⟩)
              (first
                | (go_at_call 18; (with_reducible refine (cH (by first | assumption | exact Al.drew (by assumption))).mono ?_); rintro e w' ⟨rfl, hA9⟩)
                | (go_at_call 14; (with_reducible refine (cN (by first | assumption | exact Al.drew (by assumption))).mono ?_); rintro e w' ⟨rfl, hA9⟩)
                | fail))
          | fail
        all_goals
          (try go_wp2)
          go_roundg (gk - 1)
          case measure => have := HKN.out; have := HL.out; omega
          case rel => exact ⟨k + 1, by have := HKN.out; have := HL.out; omega, by rfl, Al.tail (by first | assumption | exact Al.drew (by assumption))⟩
      · have t1 : ¬ (k : Int) < n := by omega
        clear hlt hkn HI HW HH hR6
        go_wp2
        go_ret
        exact ⟨rfl, hA.h.b⟩
  · exact absurd hle0 hle
set_option maxHeartbeats 1000000 in
theorem ats_none (x0 x1 x2 t : Int) (h1 : ¬ t < -1152921504606846976) (h2 : ¬ 1152921504606846976 < t) (hle0 : ¬ (shOf x0 x1 x2).at ((shOf x0 x1 x2).fst t) ≤ t) (w : World) : Calls Try.prog 4 #[a3 x0 x1 x2, .int .i64 t] w fun e w' => e = .returned (.bool true) ∧ Below w.heap.size w w' := by
  have cA := fun {l W} (hR : Hs w l W) => upH hR (wawake_ok W)
  have cS := fun {l W} (hR : Hs w l W) => upH hR (wshape_any x0 x1 x2 W)
  have h := shOf_ok x0 x1 x2
  generalize shOf x0 x1 x2 = s at *
  have hk := rk_any h h1 h2
  have hm : s.mny t = (0 : Nat) := hk.e3 hle0
  have cT := fun W => wat_ok h t (by omega) (by omega) 0 hm (by omega) W
  have cM := fun {l W} (hR : Hs w l W) => upH hR (wmany_any h t W)
  have cF := fun {l W} (hR : Hs w l W) => upH hR (wfirst_any h t W)
  simp only [hm] at cM
  clear h
  rw [hm] at hk
  clear hm
  generalize s.at (s.fst t) = o at *
  generalize s.fst t = f at *
  obtain ⟨A, S, B⟩ := s
  obtain ⟨⟨p, e1, e2⟩, e3, e4, n0⟩ := hk
  simp only at e1 e2 e3 n0
  clear e3 e4
  go_enter Try.func4, Try.ntmps4
  go_wp2_with (first
    | (go_at_call 10; (with_reducible refine (cA (by first | assumption | exact Hs.drewN (by assumption) _ | exact hs1 _ _ _ | exact hs2 _ _ _ _ _ | exact Hs.drew (by assumption) | exact Hs.add (by assumption) _ _ | exact Hs.drew (Hs.add (by assumption) _ _) | exact Hs.drew (hs1 _ _ _) | exact Hs.drew (hs2 _ _ _ _ _) | exact Hs.alloc (by assumption) _)).mono ?_); rintro e w1 ⟨rfl, hR1⟩; obtain ⟨c0, c1, c2⟩ := hR1.c3 (.head _))
    | (go_at_call 11; (with_reducible refine (cS (by first | assumption | exact Hs.drewN (by assumption) _ | exact hs1 _ _ _ | exact hs2 _ _ _ _ _ | exact Hs.drew (by assumption) | exact Hs.add (by assumption) _ _ | exact Hs.drew (Hs.add (by assumption) _ _) | exact Hs.drew (hs1 _ _ _) | exact Hs.drew (hs2 _ _ _ _ _) | exact Hs.alloc (by assumption) _)).mono ?_); rintro e w2 ⟨rfl, hR2⟩; have hR3 := hR2.add 25 (shc ⟨A, S, B⟩))
    | (go_at_call 15; (with_reducible refine (cT _).mono ?_); rintro e w4 ⟨g, rfl, hN, hB⟩; have hR4 := hR3.below hB; clear hB; obtain ⟨d0, d1, d2⟩ := hR4.c3 (.head _))
    | (go_at_call 16; (with_reducible refine (cM hR4).mono ?_); rintro e w5 ⟨rfl, hR5⟩; obtain ⟨b0, b1, b2⟩ := hR5.c3 (.head _))
    | (go_at_call 13; (with_reducible refine (cF hR5).mono ?_); rintro e w6 ⟨rfl, hR6⟩; obtain ⟨a0, a1, a2⟩ := hR6.c3 (.head _)))
  go_loopg [88] 1 (fun gk s88 wr => s88 = .int .i64 0 ∧ w6 = wr)
  case atStart => exact ⟨rfl, rfl⟩
  case round =>
    obtain ⟨rfl, rfl⟩ := hrel
    go_wp2
    go_ret
    exact ⟨rfl, hR6.b⟩
theorem ats_law (r : Int × Int × Int) {P : Prop} (_ : P) (t : Int) {P0 P1 : Prop} (_ : P0) (_ : P1) (w : World) : Calls Try.prog 4 #[.agg #[.int .i64 r.1, .int .i64 r.2.1, .int .i64 r.2.2], .int .i64 t] w fun e w' => e = .returned (.bool true) ∧ Below w.heap.size w w' := by
  by_cases h : t < -1152921504606846976 ∨ 1152921504606846976 < t
  · exact ats_far _ _ _ t h w
  · by_cases hb : 64 < (shOf r.1 r.2.1 r.2.2).mny t
    · exact ats_many _ _ _ t (by omega) (by omega) hb w
    · have h0 := Sh.mny_nn (shOf_ok r.1 r.2.1 r.2.2) t
      by_cases hle : (shOf r.1 r.2.1 r.2.2).at ((shOf r.1 r.2.1 r.2.2).fst t) ≤ t
      · exact ats_loop _ _ _ t (by omega) (by omega) ((shOf r.1 r.2.1 r.2.2).mny t).toNat (by omega) (by omega) hle w
      · exact ats_none _ _ _ t (by omega) (by omega) hle w
end Go.Proofs.Ytpmimmbheieobaa
