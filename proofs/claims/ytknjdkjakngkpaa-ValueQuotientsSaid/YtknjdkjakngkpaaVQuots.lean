/-
  ValueQuotients, WHATEVER THE TWO INTEGERS: any quotient, towards 0 or downwards, times b, and what is left, is a; by 0 it is told, and where there is none: the law returns true, and its arguments read as before.
-/
import Derived.Test.YtknjdkjakngkpaaVSmall
import Derived.Test.YtknjdkjakngkpaaRows
import Derived.ProofKit
import Derived.OpenShut
namespace Go.Proofs.Ytknjdkjakngkpaa
open Go.ChangeShapes Go.WideShapes Go.ChangeAt Go.RowKit
set_option linter.unusedVariables false

theorem left_is (a b : Int) (hb : b ≠ 0) : (a + -(a.tdiv b * b)).natAbs < b.natAbs ∧ (a + -(a.tdiv b * b) ≠ 0 → decide (a + -(a.tdiv b * b) < 0) = decide (a < 0)) := by
  have h1 := Int.tmod_add_mul_tdiv a b
  rw [Int.mul_comm b] at h1
  have e : a + -(a.tdiv b * b) = a.tmod b := by omega
  rw [e]
  refine ⟨by rw [Int.natAbs_tmod]; exact Nat.mod_lt _ (by omega), fun h => ?_⟩
  rw [decide_eq_decide]
  by_cases h0 : 0 ≤ a
  · have := Int.tmod_nonneg b h0; omega
  · have h2 := Int.neg_tmod a b
    have h3 := Int.tmod_nonneg b (a := -a) (by omega)
    omega
theorem down_is (a b : Int) (hb : b ≠ 0) : (a + -(flr a b * b)).natAbs < b.natAbs ∧ (a + -(flr a b * b) ≠ 0 → decide (a + -(flr a b * b) < 0) = decide (b < 0)) := by
  have h1 := Int.tmod_add_mul_tdiv a b
  rw [Int.mul_comm b] at h1
  have h4 : (a.tmod b).natAbs < b.natAbs := by rw [Int.natAbs_tmod]; exact Nat.mod_lt _ (by omega)
  have hs : a.tmod b ≠ 0 → (a.tmod b < 0 ↔ a < 0) := by
    intro h
    by_cases h0 : 0 ≤ a
    · have := Int.tmod_nonneg b h0; omega
    · have h2 := Int.neg_tmod a b
      have h3 := Int.tmod_nonneg b (a := -a) (by omega)
      omega
  unfold flr
  by_cases hc : a.tmod b ≠ 0 ∧ (decide (a < 0) != decide (b < 0)) = true
  · rw [if_pos hc]
    have e : a + -((a.tdiv b - 1) * b) = a.tmod b + b := by rw [Int.sub_mul, Int.one_mul]; omega
    rw [e]
    have h5 := hs hc.1
    have h6 : ¬ (a < 0 ↔ b < 0) := by have := hc.2; simpa using this
    refine ⟨by omega, fun h => ?_⟩
    rw [decide_eq_decide]
    omega
  · rw [if_neg hc]
    have e : a + -(a.tdiv b * b) = a.tmod b := by omega
    rw [e]
    refine ⟨h4, fun h => ?_⟩
    have h5 := hs h
    have h6 : (a < 0 ↔ b < 0) := by
      have : ¬ (decide (a < 0) != decide (b < 0)) = true := fun k => hc ⟨h, k⟩
      simpa using this
    rw [decide_eq_decide]
    omega
/-- A call over numbers, and from where on it stands. -/
def Two (w W : World) (w' : World) : Prop := Below w.heap.size w w' ∧ Below W.heap.size W w'
theorem bg2 {w : World} {f : FuncId} {args : Array Value} {z : Int} {W : World} (hW : Below w.heap.size w W) (h : Calls Try.prog f args W (BgPost W z)) : Calls Try.prog f args W (BgP (Two w W) z) :=
  bg_open (fun _ hb => ⟨hW.trans (hb.mono hW.size), hb⟩) h
theorem chain {A B C : World} (h : Below A.heap.size A B) (k : Below B.heap.size B C) : Below A.heap.size A C := h.trans (k.mono h.size)
theorem BigV.parts {w : World} {z : Int} {A : Option Addr} {c : Nat} (h : BigV w (bigv z A c) z) : ((digs z.natAbs).length ≤ c ∧ c ≤ maxLen) ∧ DAt w A (digs z.natAbs) := by
  obtain ⟨A', c', e, h1, h2⟩ := h
  injection e with e
  have e2 := congrArg (fun x => x[1]?) e
  simp at e2
  obtain ⟨rfl, rfl⟩ := e2
  exact ⟨h1, h2⟩
theorem prod_len {q b : Int} (hq : fit q) (hb : fit b) : (digs (q * b).natAbs).length ≤ 1000 ∧ (q * b).natAbs ≤ 10000000000000000000000000000000000000000 := by
  have h1 : q.natAbs ≤ 9223372036854775808 := by unfold fit at hq; omega
  have h2 : b.natAbs ≤ 9223372036854775808 := by unfold fit at hb; omega
  have h3 : (q * b).natAbs ≤ 10000000000000000000000000000000000000000 := by rw [Int.natAbs_mul]; exact Nat.le_trans (Nat.mul_le_mul h1 h2) (by decide)
  exact ⟨len_two (by omega), h3⟩
set_option maxHeartbeats 16000000 in
set_option maxRecDepth 100000 in
theorem quots_main (a : Int) (ha : fit a) (b : Int) (hb : fit b) (h0 : b ≠ 0) (h1 : ¬ (a = -9223372036854775808 ∧ b = -1)) (w : World) :
    Calls Try.prog 6 #[.int .i64 a, .int .i64 b] w fun e w' => e = .returned (.bool true) ∧ Below w.heap.size w w' := by
  have cD : ∀ W, Calls Try.prog 27 #[.int .i64 a, .int .i64 b] W fun e w' => e = .returned (two (a.tdiv b) 0) ∧ W = w' := div_yes a b ha h0 h1
  have cF : ∀ W, Calls Try.prog 28 #[.int .i64 a, .int .i64 b] W fun e w' => e = .returned (two (flr a b) 0) ∧ W = w' := floor_yes a b ha hb h0 h1
  have hq := tdiv_fit a b ha h1
  have hr := flr_fit a b ha hb h0 h1
  have hL := left_is a b h0
  have hD := down_is a b h0
  have hg0 : (b == 0) = false := by simpa using h0
  have hg1 : (a == -9223372036854775808) = false ∨ ((a == -9223372036854775808) = true ∧ (b == -1) = false) := by
    by_cases h : a = -9223372036854775808
    · exact .inr ⟨by simpa using h, by have : b ≠ -1 := fun e => h1 ⟨h, e⟩
                                       simpa using this⟩
    · exact .inl (by simpa using h)
  obtain ⟨q, hqd⟩ : ∃ q, q = a.tdiv b := ⟨_, rfl⟩
  obtain ⟨r, hrd⟩ : ∃ r, r = flr a b := ⟨_, rfl⟩
  rw [← hqd] at cD hq hL
  rw [← hrd] at cF hr hD
  obtain ⟨hqb, hqb2⟩ := prod_len hq hb
  obtain ⟨hrb, hrb2⟩ := prod_len hr hb
  have lA : (digs a.natAbs).length ≤ 1000 := len_two (by unfold fit at ha; omega)
  have lB : (digs b.natAbs).length ≤ 1000 := len_two (by unfold fit at hb; omega)
  have lQ : (digs q.natAbs).length ≤ 1000 := len_two (by unfold fit at hq; omega)
  have lR : (digs r.natAbs).length ≤ 1000 := len_two (by unfold fit at hr; omega)
  have lQB : (digs (-(q * b)).natAbs).length ≤ 1000 := by rw [Int.natAbs_neg]; exact hqb
  have lRB : (digs (-(r * b)).natAbs).length ≤ 1000 := by rw [Int.natAbs_neg]; exact hrb
  have lL : (digs (a + -(q * b)).natAbs).length ≤ 1000 := len_two (by unfold fit at ha; omega)
  have lD : (digs (a + -(r * b)).natAbs).length ≤ 1000 := len_two (by unfold fit at ha; omega)
  have ha' := Lib.hid ha
  have hb' := Lib.hid hb
  have hq' := Lib.hid hq
  have hr' := Lib.hid hr
  have hL' := Lib.hid hL
  have hD' := Lib.hid hD
  have l1 := Lib.hid lA
  have l2 := Lib.hid lB
  have l3 := Lib.hid lQ
  have l4 := Lib.hid lR
  have l5 := Lib.hid hqb
  have l6 := Lib.hid hrb
  have l7 := Lib.hid lQB
  have l8 := Lib.hid lRB
  have l9 := Lib.hid lL
  have l10 := Lib.hid lD
  have cOf : ∀ (z : Int), fit z → ∀ W, Below w.heap.size w W → Calls Try.prog 16 #[.int .i64 z] W (BgP (Two w W) z) := fun z hz W hW => bg2 hW (of_big z hz W)
  have hmf : ∀ (fn : Fn) (fst cap : Array Value) (W : World), (Instr.makeFunc fn fst cap).run Try.prog W = .ok (.func fn fst cap) W := fun _ _ _ _ => rfl
  have hb0 : Below w.heap.size w w := Below.refl _ _
  clear ha hb h1 hq hr hL hD hqd hrd hqb hrb hqb2 hrb2 lA lB lQ lR lQB lRB lL lD
  rcases hg1 with hg1 | ⟨hg1, hg2⟩
  all_goals
    go_enter Try.func6, Try.ntmps6
    go_wp2_with (first
      | (go_at_call 11; (with_reducible refine (vawake_at (w := w) _ hb0).mono ?_); rintro e w0 ⟨rfl, hbb⟩)
      | (go_at_call 27; (with_reducible refine (cD _).mono ?_); rintro e w' ⟨rfl, rfl⟩)
      | (go_at_call 28; (with_reducible refine (cF _).mono ?_); rintro e w' ⟨rfl, rfl⟩)
      | (go_at_call 16; (with_reducible refine (cOf a ha'.out _ hbb).mono ?_); rintro e w1 ⟨A1, k1, rfl, hv1, hb1, hc1⟩)
      | (go_at_call 16; (with_reducible refine (cOf q hq'.out _ hb1).mono ?_); rintro e w2 ⟨A2, k2, rfl, hv2, hb2, hc2⟩)
      | (go_at_call 16; (with_reducible refine (cOf b hb'.out _ hb2).mono ?_); rintro e w3 ⟨A3, k3, rfl, hv3, hb3, hc3⟩)
      | (go_at_call 23; (with_reducible refine (bg2 hb3 (mul_big q b l3.out l2.out _ _ _ (hv2.below hc3) hv3)).mono ?_); rintro e w4 ⟨A4, k4, rfl, hv4, hb4, hc4⟩)
      | (go_at_call 22; (with_reducible refine (bg2 hb4 (neg_big (q * b) l5.out _ _ hv4)).mono ?_); rintro e w5 ⟨A5, k5, rfl, hv5, hb5, hc5⟩)
      | (go_at_call 21; (with_reducible refine (bg2 hb5 (add_big a (-(q * b)) l1.out l7.out _ _ _ ((((hv1.below hc2).below hc3).below hc4).below hc5) hv5)).mono ?_)))
    rintro e w6 ⟨A6, k6, rfl, hv6, hb6, hc6⟩
    obtain ⟨L, hLd⟩ : ∃ L, L = a + -(q * b) := ⟨_, rfl⟩
    rw [← hLd] at hv6 hL' l9 ⊢
    clear hLd
    have H6 := fun o => hb6.alloc hb6.size o
    clear hv1 hv2 hv3 hv4 hv5 hb1 hb2 hb3 hb4 hb5 hc1 hc2 hc3 hc4 hc5 hc6 hbb
    go_wp2_with (first
      | (go_at_call 16; (with_reducible refine (cOf a ha'.out _ (H6 _)).mono ?_); rintro e w7 ⟨A7, k7, rfl, hv7, hb7, hc7⟩)
      | (go_at_call 16; (with_reducible refine (cOf r hr'.out _ hb7).mono ?_); rintro e w8 ⟨A8, k8, rfl, hv8, hb8, hc8⟩)
      | (go_at_call 16; (with_reducible refine (cOf b hb'.out _ hb8).mono ?_); rintro e w9 ⟨A9, k9, rfl, hv9, hb9, hc9⟩)
      | (go_at_call 23; (with_reducible refine (bg2 hb9 (mul_big r b l4.out l2.out _ _ _ (hv8.below hc9) hv9)).mono ?_); rintro e w10 ⟨A10, k10, rfl, hv10, hb10, hc10⟩)
      | (go_at_call 22; (with_reducible refine (bg2 hb10 (neg_big (r * b) l6.out _ _ hv10)).mono ?_); rintro e w11 ⟨A11, k11, rfl, hv11, hb11, hc11⟩)
      | (go_at_call 21; (with_reducible refine (bg2 hb11 (add_big a (-(r * b)) l1.out l8.out _ _ _ ((((hv7.below hc8).below hc9).below hc10).below hc11) hv11)).mono ?_)))
    rintro e w12 ⟨A12, k12, rfl, hv12, hb12, hc12⟩
    obtain ⟨D, hDd⟩ : ∃ D, D = a + -(r * b) := ⟨_, rfl⟩
    rw [← hDd] at hv12 hD' l10 ⊢
    clear hDd
    have H12 := fun o => hb12.alloc hb12.size o
    have hc612 := chain (chain (chain (chain (chain hc7 hc8) hc9) hc10) hc11) hc12
    clear hv7 hv8 hv9 hv10 hv11 hb7 hb8 hb9 hb10 hb11 hc7 hc8 hc9 hc10 hc11 hc12 H6
    go_wp2_with (go_at_call 16; (with_reducible refine (cOf b hb'.out _ (H12 _)).mono ?_))
    rintro e w13 ⟨A13, k13, rfl, hv13, hb13, hc13⟩
    have u9 : Bk w13 w6.heap.size 32 #[.bool (decide (L < 0)), .slice A6 (digs L.natAbs).length k6] := (((Bk.new w6 32 #[.bool (decide (L < 0)), .slice A6 (digs L.natAbs).length k6]).below hc612 (by simp)).alloc (.cells #[.bool (decide (D < 0)), .slice A12 (digs D.natAbs).length k12] 32)).below hc13 (by have := hc612.size; simp at this ⊢; omega)
    have u10 : Bk w13 w12.heap.size 32 #[.bool (decide (D < 0)), .slice A12 (digs D.natAbs).length k12] := (Bk.new w12 32 _).below hc13 (by simp)
    have v6 := (((hv6.below ((Below.refl _ _).alloc (Nat.le_refl _) _)).below hc612).below ((Below.refl _ _).alloc (Nat.le_refl _) _)).below hc13
    have v12 := (hv12.below ((Below.refl _ _).alloc (Nat.le_refl _) _)).below hc13
    have x9 := u9.alloc (.cells #[.bool false, .slice A13 (digs b.natAbs).length k13] 32)
    have x10 := u10.alloc (.cells #[.bool false, .slice A13 (digs b.natAbs).length k13] 32)
    have x11 := Bk.new w13 32 #[.bool false, .slice A13 (digs b.natAbs).length k13]
    have hbx : Below w13.heap.size w13 (w13.alloc (.cells #[.bool false, .slice A13 (digs b.natAbs).length k13] 32)) := (Below.refl _ _).alloc (Nat.le_refl _) _
    have hbx2 := hb13.alloc hb13.size (.cells #[.bool false, .slice A13 (digs b.natAbs).length k13] 32)
    have y6 := v6.below hbx
    have y12 := v12.below hbx
    have y13 := hv13.below hbx
    have cS1 := small_yes L b l9.out l2.out hL'.out.1 A6 A13 k6 k13 w13.heap.size _ y6.parts.1 y13.parts.1 y6.parts.2 y13.parts.2 x11
    have q1 := u9.cell 0
    have q2 := u9.cell 1
    have q3 := u10.cell 0
    have q4 := u10.cell 1
    have q5 := u9.lt
    have q6 := u10.lt
    simp at q1 q2 q3 q4
    have Y12 := Lib.hid y12
    have Y13 := Lib.hid y13
    have X9 := Lib.hid x9
    have X10 := Lib.hid x10
    have X11 := Lib.hid x11
    have BX := Lib.hid hbx2
    clear u9 u10 v6 v12 x9 x10 x11 hbx hbx2 y6 y12 y13 hv6 hv12 hv13 hc13 hc612 H12 hb13
    go_wp2_with (go_at_call 29; (with_reducible refine cS1.mono ?_))
    rintro e w16 ⟨rfl, hb16⟩
    have z9 := X9.out.below hb16 X9.out.lt
    have z10 := X10.out.below hb16 X10.out.lt
    have z11 := X11.out.below hb16 X11.out.lt
    have y12 := Y12.out.below hb16
    have y13 := Y13.out.below hb16
    have cS2 := small_yes D b l10.out l2.out hD'.out.1 A12 A13 k12 k13 w13.heap.size w16 y12.parts.1 y13.parts.1 y12.parts.2 y13.parts.2 z11
    have B16 := Lib.hid (BX.out.trans (hb16.mono BX.out.size))
    have p3 := z10.cell 0
    have p4 := z10.cell 1
    simp at p3 p4
    have Z9 := Lib.hid z9
    have Z10 := Lib.hid z10
    clear q1 q2 q3 q4 q5 q6 z9 z10 z11 y12 y13 hb16 cS1
    go_wp2_with (go_at_call 29; (with_reducible refine cS2.mono ?_))
    rintro e w17 ⟨rfl, hb17⟩
    have z9 := Z9.out.below hb17 Z9.out.lt
    have z10 := Z10.out.below hb17 Z10.out.lt
    have B17 := Lib.hid (B16.out.trans (hb17.mono B16.out.size))
    have o1 := z9.cell 0
    have o2 := z9.cell 1
    have o3 := z10.cell 0
    have o4 := z10.cell 1
    simp at o1 o2 o3 o4
    have e1 : L ≠ 0 → (decide (L < 0) == decide (a < 0)) = true := fun h => by simpa using hL'.out.2 h
    have e2 : D ≠ 0 → (decide (D < 0) == decide (b < 0)) = true := fun h => by simpa using hD'.out.2 h
    have e3 : L = 0 → (((digs L.natAbs).length : Int) == 0) = true := fun h => by rw [h, show (0 : Int).natAbs = 0 from rfl, digs_zero]; rfl
    have e4 : D = 0 → (((digs D.natAbs).length : Int) == 0) = true := fun h => by rw [h, show (0 : Int).natAbs = 0 from rfl, digs_zero]; rfl
    have e5 : L ≠ 0 → (((digs L.natAbs).length : Int) == 0) = false := fun h => by
      rw [beq_eq_false_iff_ne]
      intro k
      have := digs_nil.1 (List.length_eq_zero_iff.1 (show (digs L.natAbs).length = 0 by omega))
      omega
    have e6 : D ≠ 0 → (((digs D.natAbs).length : Int) == 0) = false := fun h => by
      rw [beq_eq_false_iff_ne]
      intro k
      have := digs_nil.1 (List.length_eq_zero_iff.1 (show (digs D.natAbs).length = 0 by omega))
      omega
    obtain ⟨nL, hnL⟩ : ∃ n, n = (digs L.natAbs).length := ⟨_, rfl⟩
    obtain ⟨nD, hnD⟩ : ∃ n, n = (digs D.natAbs).length := ⟨_, rfl⟩
    rw [← hnL] at o2 e3 e5
    rw [← hnD] at o4 e4 e6
    obtain ⟨sL, hsL⟩ : ∃ n, n = decide (L < 0) := ⟨_, rfl⟩
    obtain ⟨sD, hsD⟩ : ∃ n, n = decide (D < 0) := ⟨_, rfl⟩
    rw [← hsL] at o1 e1
    rw [← hsD] at o3 e2
    have hcase : (((nL : Int) == 0) = true ∨ (((nL : Int) == 0) = false ∧ (sL == decide (a < 0)) = true)) ∧ (((nD : Int) == 0) = true ∨ (((nD : Int) == 0) = false ∧ (sD == decide (b < 0)) = true)) := by
      constructor
      · by_cases h : L = 0
        · exact .inl (e3 h)
        · exact .inr ⟨e5 h, e1 h⟩
      · by_cases h : D = 0
        · exact .inl (e4 h)
        · exact .inr ⟨e6 h, e2 h⟩
    clear e1 e2 e3 e4 e5 e6 z9 z10 hb17 cS2 p3 p4 hnL hnD hsL hsD
    obtain ⟨h1, h2⟩ := hcase
    rcases h1 with h1 | ⟨h1, h3⟩ <;> rcases h2 with h2 | ⟨h2, h4⟩
    all_goals
      go_wp2
      go_ret
      exact ⟨rfl, B17.out⟩
set_option maxHeartbeats 4000000 in
set_option maxRecDepth 100000 in
theorem quots_walk (a : Int) (ha : fit a) (b : Int) (hb : fit b) (w : World) :
    Calls Try.prog 6 #[.int .i64 a, .int .i64 b] w fun e w' => e = .returned (.bool true) ∧ Below w.heap.size w w' := by
  have hb0 : Below w.heap.size w w := Below.refl _ _
  by_cases h0 : b = 0
  · subst h0
    clear ha hb
    go_enter Try.func6, Try.ntmps6
    go_wp2_with (first
      | (go_at_call 11; (with_reducible refine (vawake_at (w := w) _ hb0).mono ?_); rintro e w0 ⟨rfl, hbb⟩)
      | (go_at_call 27; (with_reducible refine (div_zero _ _).mono ?_); rintro e w' ⟨rfl, rfl⟩)
      | (go_at_call 28; (with_reducible refine (floor_zero _ _).mono ?_); rintro e w' ⟨rfl, rfl⟩))
    go_ret
    exact ⟨rfl, hbb⟩
  by_cases h1 : a = -9223372036854775808 ∧ b = -1
  · obtain ⟨rfl, rfl⟩ := h1
    clear ha hb h0
    go_enter Try.func6, Try.ntmps6
    go_wp2_with (first
      | (go_at_call 11; (with_reducible refine (vawake_at (w := w) _ hb0).mono ?_); rintro e w0 ⟨rfl, hbb⟩)
      | (go_at_call 27; (with_reducible refine (div_over _).mono ?_); rintro e w' ⟨rfl, rfl⟩)
      | (go_at_call 28; (with_reducible refine (floor_over _).mono ?_); rintro e w' ⟨rfl, rfl⟩))
    go_ret
    exact ⟨rfl, hbb⟩
  · exact quots_main a ha b hb h0 h1 w

namespace ValueQuotientsF
theorem own : ownKnob Try.prog.godebug = none := by kernel_rfl

set_option maxRecDepth 100000 in
theorem lifted (os : Os) (started : os.Started) (H : Type) (enc : TypeId × Value → H) :
    ReturnsInHanded {} Try.checked os 6 .any (Rows.valueQuotientsSpec.pre6 enc Try.prog Try.f6 Rows.valueQuotientsRow.domain false) (Rows.valueQuotientsSpec.post enc Try.prog Try.f6 false true false false) := by
  refine returnsInHanded_of_change (C := Try.checked) own started (by kernel_rfl) Try.func6
    (ChangeSpec.witness6 (enc := enc) (C := Try.checked) false ⟨#[], #[.int .i64 0, .int .i64 0], []⟩ 8 (by kernel_rfl) (by kernel_rfl) (by kernel_rfl) (by kernel_rfl)) ?_
  intro W base args ds gs before hval0 hW hcnd _
  have hval : ∀ (j : Nat) t v, Try.f6.params[j]? = some t → args[j]? = some v → Value.okWide Try.prog W .any base t v := hval0
  have hW' := hW
  obtain ⟨p, q, hA0, hV, rfl, hfz, hnd⟩ := hW
  have hA : DataW.TrodAll enc Try.prog W 0 (fun _ => true) true Try.f6.params.toList args.toList ds p := hA0
  rw [Try.params6] at hA hval
  obtain ⟨v0, vs0, d0, ds0, p0, q0, hargs, rfl, rfl, h0, r0⟩ := trodAll_cons hA
  obtain ⟨v1, vs1, d1, ds1, p1, q1, rfl, rfl, rfl, h1, r1⟩ := trodAll_cons r0
  obtain ⟨rfl, rfl, rfl⟩ := trodAll_nil r1
  obtain rfl : args = #[v0, v1] := by cases args; simp_all
  obtain ⟨rfl, rfl⟩ := trodVars_none hV
  obtain ⟨x0, rfl, rfl, rfl, w0⟩ := open_int Try.underlying2 (hval 0 2 v0 rfl rfl) h0
  have bd0 := bounds_i64 w0
  obtain ⟨x1, rfl, rfl, rfl, w1⟩ := open_int Try.underlying2 (hval 1 2 v1 rfl rfl) h1
  have bd1 := bounds_i64 w1
  clear hA0 hval0
  simp only [List.append_nil] at hW'
  refine (quots_walk x0 bd0 x1 bd1 W).mono fun e W' ⟨he, hb⟩ => ?_
  subst he
  exact ⟨_, rfl, _, _, _, [], [], [], hW', trodAll_mk1 (shut_bool Try.underlying4 _), trodAll_cons_mk (shut_int Try.underlying2 w0) (trodAll_cons_mk (shut_int Try.underlying2 w1) (trodAll_mk0)), rfl, hb.frame _, fun h => by cases h⟩
end ValueQuotientsF
theorem valueQuotients_holds : Rows.ValueQuotientsSaid :=
  OpenClaim.holds_of_wide 6 Try.f6 rfl rfl rfl rfl rfl rfl rfl ⟨rfl, rfl, rfl, rfl, rfl⟩ rfl rfl rfl rfl rfl (by kernel_rfl) Try.func6 (by kernel_rfl)
    (of_decide_eq_true (by kernel_rfl)) (by unfold Func.isWrapper; first | (rw [if_pos (by decide +kernel)]; kernel_rfl) | (rw [if_neg (by decide +kernel)]; exact ⟨rfl, rfl⟩))
    (fun os started H enc _ => ValueQuotientsF.lifted os started H enc)

end Go.Proofs.Ytknjdkjakngkpaa
