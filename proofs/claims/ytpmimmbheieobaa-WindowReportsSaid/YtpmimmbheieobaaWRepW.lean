/-
  WindowReports's walk.
-/
import Derived.Test.YtpmimmbheieobaaWRep
import Derived.Deep.CutBlock
namespace Go.Proofs.Ytpmimmbheieobaa
open Go.RowKit
set_option linter.unusedVariables false
set_option linter.unusedSimpArgs false
set_option maxRecDepth 100000

/-- The statement's variables that its yield writes: ok, next, n. -/
structure JY (w : World) (gok gnx gn : Nat) (l0 : List (Nat × TypeId × Array Value)) (x n : Int) (W : World) : Prop where
  h : Hs w l0 W
  ok : Fb W gok 4 #[.bool true]
  nx : Fb W gnx 3 #[.int .i64 x]
  n : Fb W gn 3 #[.int .i64 n]
/-- They lie apart. -/
structure Dj (w : World) (gok gnx gn : Nat) (l0 : List (Nat × TypeId × Array Value)) : Prop where
  d1 : gok ≠ gnx
  d2 : gok ≠ gn
  d3 : gnx ≠ gn
  b1 : w.heap.size ≤ gok
  b2 : w.heap.size ≤ gnx
  b3 : w.heap.size ≤ gn
  l : ∀ p ∈ l0, p.1 ≠ gok ∧ p.1 ≠ gnx ∧ p.1 ≠ gn
section
variable {w W W' : World} {gok gnx gn : Nat} {l0 : List (Nat × TypeId × Array Value)} {x n : Int}
theorem JY.below (h : JY w gok gnx gn l0 x n W) (hb : Below W.heap.size W W') : JY w gok gnx gn l0 x n W' := ⟨h.h.below hb, h.ok.below hb, h.nx.below hb, h.n.below hb⟩
theorem JY.put0 (h : JY w gok gnx gn l0 x n W) (d : Dj w gok gnx gn l0) : JY w gok gnx gn l0 x n (W.setCell ⟨gok, 0, none⟩ (.bool true)) :=
  ⟨⟨h.h.1.setCell d.b1 _, fun p hp => (h.h.2 p hp).far 0 _ (d.l p hp).1⟩, h.ok.set 0 _, h.nx.far 0 _ d.d1.symm, h.n.far 0 _ d.d2.symm⟩
theorem JY.put1 (h : JY w gok gnx gn l0 x n W) (d : Dj w gok gnx gn l0) (y : Int) : JY w gok gnx gn l0 y n (W.setCell ⟨gnx, 0, none⟩ (.int .i64 y)) :=
  ⟨⟨h.h.1.setCell d.b2 _, fun p hp => (h.h.2 p hp).far 0 _ (d.l p hp).2.1⟩, h.ok.far 0 _ d.d1, h.nx.set 0 _, h.n.far 0 _ d.d3.symm⟩
theorem JY.put2 (h : JY w gok gnx gn l0 x n W) (d : Dj w gok gnx gn l0) (y : Int) : JY w gok gnx gn l0 x y (W.setCell ⟨gn, 0, none⟩ (.int .i64 y)) :=
  ⟨⟨h.h.1.setCell d.b3 _, fun p hp => (h.h.2 p hp).far 0 _ (d.l p hp).2.2⟩, h.ok.far 0 _ d.d2, h.nx.far 0 _ d.d3, h.n.set 0 _⟩
theorem JY.c (h : JY w gok gnx gn l0 x n W) : W.cell? ⟨gok, 0, none⟩ = some (.bool true) ∧ W.cell? ⟨gnx, 0, none⟩ = some (.int .i64 x) ∧ W.cell? ⟨gn, 0, none⟩ = some (.int .i64 n) ∧ W.frozen? ⟨gok, 0, none⟩ = false ∧ W.frozen? ⟨gnx, 0, none⟩ = false ∧ W.frozen? ⟨gn, 0, none⟩ = false := ⟨h.ok.cell 0, h.nx.cell 0, h.n.cell 0, h.ok.free 0, h.nx.free 0, h.n.free 0⟩
end
/-- What the yield reads. -/
abbrev ryl (s : Sh) (g gs gfr gto gm : Nat) (a b T0 T1 m : Int) : List (Nat × TypeId × Array Value) := [(gs, 25, shc s), (gfr, 3, #[.int .i64 T0]), (gto, 3, #[.int .i64 T1]), (gm, 5, #[.int .u8 m]), (g, 25, shc s), (g + 1, 3, #[.int .i64 a]), (g + 2, 3, #[.int .i64 b])]
/-- It goes on: the next one's number is i. -/
def RJ (w : World) (gok gnx gn : Nat) (l0 : List (Nat × TypeId × Array Value)) (st m i : Int) (W : World) : Prop := JY w gok gnx gn l0 i (i - st) W ∧ (i = st ∨ i - st < m)
/-- It has said no more. -/
def RQ (w : World) (gok gnx gn : Nat) (l0 : List (Nat × TypeId × Array Value)) (st m : Int) (W : World) : Prop := ∃ x, JY w gok gnx gn l0 x (max m 1) W
set_option maxHeartbeats 4000000 in
theorem ryield_any {s : Sh} (h : s.ok) {w : World} {g gs gok gnx gn gfr gto gm : Nat} {a b T0 T1 m : Int} (hT1 : cl T1 = T1) (m0 : 0 ≤ m) (m1 : m ≤ 255) (hd : Dj w gok gnx gn (ryl s g gs gfr gto gm a b T0 T1 m)) {i : Int} (hi : s.fst T0 ≤ i) (hb : i < s.fst T1) (hT0 : cl T0 = T0) {W : World} (hJ : RJ w gok gnx gn (ryl s g gs gfr gto gm a b T0 T1 m) (s.fst T0) m i W) :
    Calls Try.prog 20 #[.int .i64 i, .pointer (some ⟨gs, 0, none⟩), .pointer (some ⟨gok, 0, none⟩), .pointer (some ⟨gnx, 0, none⟩), .pointer (some ⟨gfr, 0, none⟩), .pointer (some ⟨gto, 0, none⟩), .pointer (some ⟨gn, 0, none⟩), .pointer (some ⟨gm, 0, none⟩)] W
      (YPost (RJ w gok gnx gn (ryl s g gs gfr gto gm a b T0 T1 m) (s.fst T0) m) (RQ w gok gnx gn (ryl s g gs gfr gto gm a b T0 T1 m) (s.fst T0) m) i) := by
  obtain ⟨hY, hm⟩ := hJ
  have i0 : 0 ≤ i := by have := s.fst_nn T0; omega
  have k1 : s.at i + s.w ≤ T1 := by have := (Sh.lt_fst h i0 T1).1 hb; omega
  have k2 : ¬ s.at i + s.w ≤ T0 := fun hx => by have := (Sh.lt_fst h i0 T0).2 (by omega); omega
  have k3 := cl_high T1
  have cW := (wwindow_ok h i0 (by omega) W).mono (R' := fun e w' => e = .returned (.tuple #[spv (s.at i) (s.at i + s.w), .int .i64 0]) ∧ JY w gok gnx gn (ryl s g gs gfr gto gm a b T0 T1 m) i (i - s.fst T0) w') fun e w' ⟨x, y⟩ => ⟨x, hY.below y⟩
  have ih := Sh.fst_high h T1
  have f0 := s.fst_nn T0
  generalize s.at i = o at *
  generalize hst : s.fst T0 = st at *
  clear hst
  obtain ⟨A, S, B⟩ := s
  simp only at k1 k2 cW
  generalize o + A = cc at *
  have r1 : decide (T0 < cc) = true := decide_eq_true (by omega)
  have r2 : decide (cc ≤ T1) = true := decide_eq_true k1
  obtain ⟨x, hx⟩ : ∃ x, x = i + 1 := ⟨_, rfl⟩
  obtain ⟨y, hy⟩ : ∃ y, y = i - st := ⟨_, rfl⟩
  obtain ⟨z, hz⟩ : ∃ z, z = y + 1 := ⟨_, rfl⟩
  have v1 : wrap64 (i + 1) = x := by rw [hx]; exact wrap64_fit (by omega) (by omega)
  have v2 : wrap64 (y + 1) = z := by rw [hz]; exact wrap64_fit (by omega) (by omega)
  have v3 : wrap64 m = m := wrap64_fit (by omega) (by omega)
  rw [← hy] at cW hY hm
  have a3 := hY.h.c3 (.head _)
  obtain ⟨s0, s1, s2⟩ := a3
  have HX := Lib.hid hx
  have HY := Lib.hid hy
  have HZ := Lib.hid hz
  have HM := Lib.hid hm
  have HD := Lib.hid hd
  have HI := Lib.hid (show 0 ≤ m ∧ st ≤ i from ⟨m0, hi⟩)
  clear h hx hy hz hm hY hb hi hT0 hT1 k1 k2 k3 ih f0 hd m0 m1 i0
  go_enter Try.func20, Try.ntmps20
  go_wp2_with (go_at_call 17; (with_reducible refine cW.mono ?_); rintro e w7 ⟨rfl, hj7⟩; have hj1 := hj7.below (bl1 w7 (.cells #[.int .i64 o, .int .i64 cc] 34)); have hj2 := hj1.put0 HD.out; have hj3 := hj2.put1 HD.out x; have hj4 := hj3.put2 HD.out z; obtain ⟨p0, p1, p2, p3, p4, p5⟩ := hj1.c; obtain ⟨q0, q1, q2, q3, q4, q5⟩ := hj2.c; obtain ⟨t0, t1, t2, t3, t4, t5⟩ := hj3.c; obtain ⟨u0, u1, u2, u3, u4, u5⟩ := hj4.c; have n0 := hj1.h.c1 (.tail _ (.head _)); have n1 := hj1.h.c1 (.tail _ (.tail _ (.head _))); have n2 := hj4.h.c1 (.tail _ (.tail _ (.tail _ (.head _)))); have HJ := Lib.hid hj4; clear hj7 hj1 hj2 hj3 hj4)
  go_ret
  have hx := HX.out
  have hy := HY.out
  have hz := HZ.out
  have hm := HM.out
  have hi := HI.out
  by_cases hc : z < m
  · refine .inl ⟨ret_bool (decide_eq_true hc), ?_, .inr (by omega)⟩
    have e1 : x = i + 1 := hx
    rw [← e1, show x - st = z by omega]
    exact HJ.out
  · refine .inr ⟨ret_bool (decide_eq_false hc), x, ?_⟩
    rw [show max m 1 = z by omega]
    exact HJ.out
theorem wheld_eq (t : Int) (w : World) : Calls Try.prog 12 #[.int .i64 t] w fun e w' => e = .returned (.int .i64 (cl t)) ∧ w = w' := by
  rcases Int.lt_or_le 2305843009213693952 t with h1 | h1
  · go_enter Try.func12, Try.ntmps12
    go_wp2
    all_goals
      go_ret
      exact ⟨ret_int (by unfold cl; omega), rfl⟩
  · have n1 : ¬ 2305843009213693952 < t := by omega
    rcases Int.lt_or_le t (-2305843009213693952) with h2 | h2
    · go_enter Try.func12, Try.ntmps12
      go_wp2
      all_goals
        go_ret
        exact ⟨ret_int (by unfold cl; omega), rfl⟩
    · have n2 : ¬ t < -2305843009213693952 := by omega
      go_enter Try.func12, Try.ntmps12
      go_wp2
      all_goals
        go_ret
        exact ⟨ret_int (by unfold cl; omega), rfl⟩
theorem hs3 (w : World) (t u v : TypeId) (cs ds es : Array Value) : Hs w [(w.heap.size + 1 + 1, v, es), (w.heap.size + 1, u, ds), (w.heap.size, t, cs)] (((w.alloc (.cells cs t)).alloc (.cells ds u)).alloc (.cells es v)) := by simpa using (hs2 w t u cs ds).add v es
theorem Hs.pick {w W : World} {l l' : List (Nat × TypeId × Array Value)} (h : Hs w l W) (hs : ∀ p ∈ l', p ∈ l) : Hs w l' W := ⟨h.1, fun p hp => h.2 p (hs p hp)⟩
theorem two_new {w W : World} {l : List (Nat × TypeId × Array Value)} (h : Hs w l W) (t : TypeId) (a b : Array Value) : Hs w ((W.heap.size, t, a) :: (W.heap.size + 1, t, b) :: l) (((W.alloc (.cells a t)).alloc (.cells b t)).drew) := by
  have h2 := (((h.add t a).add t b)).drew
  simp only [World.size_alloc] at h2
  refine h2.pick fun p hp => ?_
  simp only [List.mem_cons] at hp ⊢
  rcases hp with h | h | h
  · exact .inr (.inl h)
  · exact .inl h
  · exact .inr (.inr h)
theorem rj_below {w : World} {gok gnx gn : Nat} {l0 : List (Nat × TypeId × Array Value)} {st m i : Int} {W W' : World} (h : RJ w gok gnx gn l0 st m i W) (hb : Below W.heap.size W W') : RJ w gok gnx gn l0 st m i W' := ⟨h.1.below hb, h.2⟩
/-- The walk through the windows, in the statement. -/
theorem rwalk_any {s : Sh} (h : s.ok) {w : World} {g gs gok gnx gn gfr gto gm : Nat} {a b T0 T1 m : Int} (hT0 : cl T0 = T0) (hT1 : cl T1 = T1) (f0 : s.fst T0 = s.fst a) (f1 : s.fst T1 = s.fst b) (m0 : 0 ≤ m) (m1 : m ≤ 255) (hd : Dj w gok gnx gn (ryl s g gs gfr gto gm a b T0 T1 m)) {W : World} (h0 : JY w gok gnx gn (ryl s g gs gfr gto gm a b T0 T1 m) (s.fst T0) 0 W) :
    Calls Try.prog 27 #[.func (.func 20) #[] #[.pointer (some ⟨gs, 0, none⟩), .pointer (some ⟨gok, 0, none⟩), .pointer (some ⟨gnx, 0, none⟩), .pointer (some ⟨gfr, 0, none⟩), .pointer (some ⟨gto, 0, none⟩), .pointer (some ⟨gn, 0, none⟩), .pointer (some ⟨gm, 0, none⟩)], .pointer (some ⟨g, 0, none⟩), .pointer (some ⟨g + 2, 0, none⟩), .pointer (some ⟨g + 1, 0, none⟩)] W
      fun e w' => e = .returned (.tuple #[]) ∧ ((∃ x n, JY w gok gnx gn (ryl s g gs gfr gto gm a b T0 T1 m) x n w' ∧ n < max m 1 ∧ s.fst T1 ≤ x ∧ 0 ≤ x ∧ x ≤ 2305845208236949505) ∨ ∃ x, JY w gok gnx gn (ryl s g gs gfr gto gm a b T0 T1 m) x (max m 1) w') := by
  refine (rep_r h a b g gs gok gnx gfr gto gn gm (RJ w gok gnx gn (ryl s g gs gfr gto gm a b T0 T1 m) (s.fst T0) m) (RQ w gok gnx gn (ryl s g gs gfr gto gm a b T0 T1 m) (s.fst T0) m) (fun i W W' hj hb => rj_below hj hb) (fun i W hj => ⟨hj.1.h.2 _ (.tail _ (.tail _ (.tail _ (.tail _ (.head _))))), hj.1.h.2 _ (.tail _ (.tail _ (.tail _ (.tail _ (.tail _ (.head _)))))), hj.1.h.2 _ (.tail _ (.tail _ (.tail _ (.tail _ (.tail _ (.tail _ (.head _)))))))⟩) (fun i W hi hb hj => ryield_any h hT1 m0 m1 hd (by rw [f0]; exact hi) (by rw [f1]; exact hb) hT0 hj) W (by rw [← f0]; exact ⟨by rw [Int.sub_self]; exact h0, .inl rfl⟩)).mono fun e w' ⟨h1, h2⟩ => ⟨h1, ?_⟩
  rcases h2 with h2 | h2
  · refine .inl ⟨_, _, h2.1, ?_, ?_, ?_, ?_⟩
    · have := h2.2; omega
    · rw [f1]; omega
    · have := s.fst_nn a; omega
    · have := Sh.fst_high h a; have := Sh.fst_high h b; omega
  · exact .inr h2
theorem ryl_hs {w W : World} {l : List (Nat × TypeId × Array Value)} {s : Sh} {g gs gfr gto gm : Nat} {a b T0 T1 m : Int} (h : Hs w l W) (h1 : (gs, 25, shc s) ∈ l) (h2 : (gfr, 3, #[.int .i64 T0]) ∈ l) (h3 : (gto, 3, #[.int .i64 T1]) ∈ l) (h4 : (gm, 5, #[.int .u8 m]) ∈ l) (hb : Rb g s a b W) : Hs w (ryl s g gs gfr gto gm a b T0 T1 m) W := ⟨h.1, fun p hp => by
  simp only [ryl, List.mem_cons, List.not_mem_nil, or_false] at hp
  rcases hp with rfl | rfl | rfl | rfl | rfl | rfl | rfl
  · exact h.2 _ h1
  · exact h.2 _ h2
  · exact h.2 _ h3
  · exact h.2 _ h4
  · exact hb.s
  · exact hb.a
  · exact hb.b⟩
theorem ryl_dj {w : World} {s : Sh} {n g gs gfr gto gm : Nat} {a b T0 T1 m : Int} (h0 : w.heap.size ≤ n) (h1 : gs < n) (h2 : gfr < n) (h3 : gto < n) (h4 : gm < n) (h5 : n + 2 < g) : Dj w (n + 1 + 1) n (n + 1) (ryl s g gs gfr gto gm a b T0 T1 m) :=
  ⟨by omega, by omega, by omega, by omega, by omega, by omega, fun p hp => by
    simp only [ryl, List.mem_cons, List.not_mem_nil, or_false] at hp
    rcases hp with rfl | rfl | rfl | rfl | rfl | rfl | rfl <;> (dsimp only; omega)⟩
theorem three_new {w W : World} {l : List (Nat × TypeId × Array Value)} (h : Hs w l W) (t u v : TypeId) (a b c : Array Value) : Hs w ((W.heap.size + 1 + 1, v, c) :: (W.heap.size + 1, u, b) :: (W.heap.size, t, a) :: l) (((W.alloc (.cells a t)).alloc (.cells b u)).alloc (.cells c v)) := by
  have h2 := (((h.add t a).add u b)).add v c
  simp only [World.size_alloc] at h2
  exact h2
theorem pick1 {a b c d e f : Nat × TypeId × Array Value} : ∀ p ∈ [a, b, c, d, e], p ∈ [a, b, c, d, e, f] := fun p hp => by
  simp only [List.mem_cons, List.not_mem_nil, or_false] at hp ⊢
  rcases hp with h | h | h | h | h <;> simp [h]
theorem pick2 {a b c d e f : Nat × TypeId × Array Value} : ∀ p ∈ [a, b, c, d, e], p ∈ [b, a, c, d, e, f] := fun p hp => by
  simp only [List.mem_cons, List.not_mem_nil, or_false] at hp ⊢
  rcases hp with h | h | h | h | h <;> simp [h]
set_option maxHeartbeats 4000000 in
theorem reports_walk (x0 x1 x2 y0 y1 m : Int) (m0 : 0 ≤ m) (m1 : m ≤ 255) (w : World) : Calls Try.prog 5 #[a3 x0 x1 x2, .agg #[.int .i64 y0, .int .i64 y1], .int .u8 m] w fun e w' => e = .returned (.bool true) ∧ Below w.heap.size w w' := by
  have cA := fun {l W} (hR : Hs w l W) => upH hR (wawake_ok W)
  have cS := fun {l W} (hR : Hs w l W) => upH hR (wshape_any x0 x1 x2 W)
  have h := shOf_ok x0 x1 x2
  generalize shOf x0 x1 x2 = s at *
  have cH0 := wheld_eq y0
  have cH1 := wheld_eq y1
  have h3 := hs3 w 22 38 5 (c3v x0 x1 x2) #[.int .i64 y0, .int .i64 y1] #[.int .u8 m]
  have hT0 := cl_cl y0
  have hT1 := cl_cl y1
  have f0 := Sh.fst_cl s y0
  have f1 := Sh.fst_cl s y1
  generalize cl y0 = T0 at *
  generalize cl y1 = T1 at *
  obtain ⟨A, S, B⟩ := s
  go_enter Try.func5, Try.ntmps5
  go_upto_region 4 with (first
    | (go_at_call 10; (with_reducible refine (cA h3).mono ?_); rintro e w1 ⟨rfl, hR1⟩; obtain ⟨c0, c1, c2⟩ := hR1.c3 (.tail _ (.tail _ (.head _))))
    | (go_at_call 11; (with_reducible refine (cS hR1).mono ?_); rintro e w2 ⟨rfl, hR2⟩; have hR3 := hR2.add 25 (shc ⟨A, S, B⟩); obtain ⟨d0, d1⟩ := hR3.c2 (.tail _ (.tail _ (.head _)))))
  go_cut [8, 9] from 10 (fun s8 s9 wx => ∃ g8 g9 : Nat, s8 = .pointer (some ⟨g8, 0, none⟩) ∧ s9 = .pointer (some ⟨g9, 0, none⟩) ∧ Hs w [(g8, 3, #[.int .i64 T0]), (g9, 3, #[.int .i64 T1]), (w2.heap.size, 25, shc ⟨A, S, B⟩), (w.heap.size + 1 + 1, 5, #[.int .u8 m]), (w.heap.size + 1, 38, #[.int .i64 y0, .int .i64 y1])] wx)
  case first =>
    clear c0 c1 c2 hR1 hR2 d0 d1
    obtain ⟨w9, hw9⟩ : ∃ w9, w9 = w2.alloc (.cells (shc ⟨A, S, B⟩) 25) := ⟨_, rfl⟩
    rw [← hw9] at hR3 ⊢
    clear hw9
    have HK := Lib.hid (fun (W : World) (hb : Below w9.heap.size w9 W) => (hR3.below hb).c2 (.tail _ (.tail _ (.head _))))
    have HR := Lib.hid hR3
    clear hR3
    go_region_held3 (fun w4 => w4.cell? ⟨w.heap.size + 1, 0, none⟩ = some (.int .i64 y0) ∧ w4.cell? ⟨w.heap.size + 1, 1, none⟩ = some (.int .i64 y1))
      (first | (refine HK.out _ ?_; repeat (first | assumption | exact Below.refl _ _ | refine Below.drew ?_ | refine Below.setCell ?_ (by simp) _ | refine Below.alloc ?_ (by first | exact Nat.le_refl _ | simp) _)))
      (first
        | (go_at_call 12; (with_reducible refine (cH0 _).mono ?_); rintro e w4 ⟨rfl, rfl⟩)
        | (go_at_call 12; (with_reducible refine (cH1 _).mono ?_); rintro e w4 ⟨rfl, rfl⟩)
        | fail)
    all_goals (go_wp2_with fail; go_meet)
    all_goals (first | exact ⟨_, _, rfl, rfl, (two_new HR.out 3 #[.int .i64 T0] #[.int .i64 T1]).pick pick1⟩ | exact ⟨_, _, rfl, rfl, (two_new HR.out 3 #[.int .i64 T1] #[.int .i64 T0]).pick pick2⟩)
  case rest =>
    obtain ⟨g8, g9, rfl, rfl, hR4⟩ := hcut
    have cF := fun {l W} (hR : Hs w l W) => upH hR (wfirst_any h T0 W)
    have cR := fun W => (wreports_any ⟨A, S, B⟩ y0 y1 W).mono (R' := fun e w' => ∃ g, e = .returned (repv g) ∧ W.heap.size ≤ g ∧ Below W.heap.size W w' ∧ Rb g ⟨A, S, B⟩ y0 y1 w') fun e w' ⟨p, q, r⟩ => ⟨_, p, Nat.le_refl _, q, r⟩
    have F0 := Lib.hid f0
    have F1 := Lib.hid f1
    have HT0 := Lib.hid hT0
    have HT1 := Lib.hid hT1
    have HM := Lib.hid (show 0 ≤ m ∧ m ≤ 255 from ⟨m0, m1⟩)
    have k0 := (⟨A, S, B⟩ : Sh).fst_nn T0
    have HO := Lib.hid h
    clear f0 f1 hT0 hT1 h m0 m1 cH0 cH1 cA cS h3 hR3 hR2 hR1 c0 c1 c2 d0 d1
    obtain ⟨c0, c1, c2⟩ := hR4.c3 (.tail _ (.tail _ (.head _)))
    have c3 := hR4.c1 (.head _)
    generalize hst : (⟨A, S, B⟩ : Sh).fst T0 = st at *
    have HST := Lib.hid hst
    clear hst
    go_wp2_with (first
      | (go_at_call 13; (with_reducible refine (cF hR4).mono ?_); rintro e w5 ⟨rfl, hR5⟩; have hR6 := three_new hR5 3 3 4 #[.int .i64 st] #[.int .i64 0] #[.bool true]; clear c0 c1 c2 c3; obtain ⟨a0, a1, a2⟩ := hR6.c3 (.tail _ (.tail _ (.tail _ (.tail _ (.tail _ (.head _)))))); obtain ⟨a3, a4⟩ := hR6.c2 (.tail _ (.tail _ (.tail _ (.tail _ (.tail _ (.tail _ (.tail _ (.head _)))))))))
      | (go_at_call 19; (with_reducible refine (cR _).mono ?_); rintro e w7 ⟨g, rfl, hg, hB7, hRb⟩; have HB7 := Lib.hid hB7; have HG := Lib.hid hg; have HRB := Lib.hid hRb; clear hg hB7 hRb)
      | fail)
    have l8 := hR5.lt (.head _)
    have l9 := hR5.lt (.tail _ (.head _))
    have l2 := hR5.lt (.tail _ (.tail _ (.head _)))
    have lm := hR5.lt (.tail _ (.tail _ (.tail _ (.head _))))
    simp only at l8 l9 l2 lm
    have hD := ryl_dj (s := ⟨A, S, B⟩) (w := w) (n := w5.heap.size) (g := g) (gs := w2.heap.size) (gfr := g8) (gto := g9) (gm := w.heap.size + 1 + 1) (a := y0) (b := y1) (T0 := T0) (T1 := T1) (m := m) hR5.b.size l2 l8 l9 lm (by have := HG.out; simp only [World.size_alloc] at this; omega)
    have h7 := hR6.below HB7.out
    have hY0 : JY w (w5.heap.size + 1 + 1) w5.heap.size (w5.heap.size + 1) (ryl ⟨A, S, B⟩ g w2.heap.size g8 g9 (w.heap.size + 1 + 1) y0 y1 T0 T1 m) ((⟨A, S, B⟩ : Sh).fst T0) 0 w7 :=
      ⟨ryl_hs h7 (.tail _ (.tail _ (.tail _ (.tail _ (.tail _ (.head _)))))) (.tail _ (.tail _ (.tail _ (.head _)))) (.tail _ (.tail _ (.tail _ (.tail _ (.head _))))) (.tail _ (.tail _ (.tail _ (.tail _ (.tail _ (.tail _ (.head _))))))) HRB.out, h7.2 _ (.head _), by rw [HST.out]; exact h7.2 _ (.tail _ (.tail _ (.head _))), h7.2 _ (.tail _ (.head _))⟩
    have cY := rwalk_any HO.out HT0.out HT1.out (HST.out.trans F0.out) F1.out HM.out.1 HM.out.2 hD hY0
    clear hD hY0 h7 l8 l9 l2 lm hR6 hR5 hR4 HB7 HRB HG HST cF cR a0 a1 a2 a3 a4 k0
    refine cY.mono ?_
    rintro e w8 ⟨rfl, hP | hP⟩
    · obtain ⟨x, n, hj, hn, hx, hx0, hx1⟩ := hP
      obtain ⟨p0, p1, p2, -, -, -⟩ := hj.c
      obtain ⟨s0, s1, s2⟩ := hj.h.c3 (.head _)
      have t1 := hj.h.c1 (.tail _ (.tail _ (.head _)))
      have t2 := hj.h.c1 (.tail _ (.tail _ (.tail _ (.head _))))
      have v3 : wrap64 m = m := wrap64_fit (by have := HM.out; omega) (by have := HM.out; omega)
      have hmc : (m < 1 ∧ ¬ 1 < n ∧ ¬ n = 1) ∨ (¬ m < 1 ∧ ¬ m < n ∧ ¬ n = m) := by omega
      by_cases hw : (⟨A, S, B⟩ : Sh).at x + A ≤ 2305843009213693952
      · have cW := upH hj.h (wwindow_ok HO.out hx0 hw w8)
        have h1 : T1 < (⟨A, S, B⟩ : Sh).at x + A := by
          have := mt (Sh.lt_fst HO.out hx0 T1).2 (by omega)
          rw [HT1.out] at this
          simp only at this
          omega
        generalize (⟨A, S, B⟩ : Sh).at x + A = cc at *
        generalize (⟨A, S, B⟩ : Sh).at x = oo at *
        clear hj hx hx0 hx1 hw hn F0 F1 HT0 HT1 HM HO
        rcases hmc with ⟨n1, n2, n3⟩ | ⟨n1, n2, n3⟩ <;>
        go_wp2_with (go_at_call 17; (with_reducible refine cW.mono ?_); rintro e w9 ⟨rfl, hR9⟩; have hR10 := hR9.add 34 #[.int .i64 oo, .int .i64 cc]; have t3 := hR10.c1 (.tail _ (.tail _ (.tail _ (.head _)))))
        all_goals
          go_ret
          exact ⟨rfl, hR10.b⟩
      · have cW := upH hj.h (wwindow_no HO.out (i := x) (.inr (by simp only; omega)) w8)
        clear hj hx hx0 hx1 hw hn F0 F1 HT0 HT1 HM HO
        rcases hmc with ⟨n1, n2, n3⟩ | ⟨n1, n2, n3⟩ <;>
        go_wp2_with (go_at_call 17; (with_reducible refine cW.mono ?_); rintro e w9 ⟨rfl, hR9⟩; have hR10 := hR9.add 34 #[.int .i64 0, .int .i64 0]; have t3 := hR10.c1 (.tail _ (.tail _ (.tail _ (.head _)))))
        all_goals
          go_ret
          exact ⟨rfl, hR10.b⟩
    · obtain ⟨x, hj⟩ := hP
      obtain ⟨p0, p1, p2, -, -, -⟩ := hj.c
      have t2 := hj.h.c1 (.tail _ (.tail _ (.tail _ (.head _))))
      have v3 : wrap64 m = m := wrap64_fit (by have := HM.out; omega) (by have := HM.out; omega)
      have HJ := Lib.hid hj.h.b
      have hmc : (m < 1 ∧ max m 1 = 1) ∨ (¬ m < 1 ∧ max m 1 = m) := by omega
      clear hj F0 F1 HT0 HT1 HM HO
      rcases hmc with ⟨n1, n2⟩ | ⟨n1, n2⟩
      · rw [n2] at p2
        clear n2
        go_wp2
        all_goals
          go_ret
          exact ⟨rfl, HJ.out⟩
      · rw [n2] at p2
        clear n2
        go_wp2
        all_goals
          go_ret
          exact ⟨rfl, HJ.out⟩
theorem reports_law (r : Int × Int × Int) {P : Prop} (_ : P) (y : Int × Int) {Q : Prop} (_ : Q) (m : Int) (h0 : 0 ≤ m) (h1 : m ≤ 255) (w : World) : Calls Try.prog 5 #[.agg #[.int .i64 r.1, .int .i64 r.2.1, .int .i64 r.2.2], .agg #[.int .i64 y.1, .int .i64 y.2], .int .u8 m] w fun e w' => e = .returned (.bool true) ∧ Below w.heap.size w w' := reports_walk r.1 r.2.1 r.2.2 y.1 y.2 m h0 h1 w
end Go.Proofs.Ytpmimmbheieobaa
