/-
  IngestPlays: the walk. (Out of jplays.py.)
-/
import Derived.Test.YtagidmghmbfnpaaJLaw
import Derived.Test.YtagidmghmbfnpaaJPushA
import Derived.Test.YtagidmghmbfnpaaIAwake
import Derived.Deep.LoopGhost
namespace Go.Proofs.Ytagidmghmbfnpaa
open Go.RowKit
set_option linter.unusedVariables false
set_option linter.unusedSimpArgs false
set_option maxRecDepth 100000

def PlRel (w1 : World) (d b7 n g : Nat) (s68 : Value) (wr : World) : Prop := ∃ (i : Nat) (s : Bs) (v : Value) (l : List It) (m : Mb) (vw vs vh : Value), i + g = n ∧ s68 = .int .i64 i ∧ PlS w1 d b7 s v l m vw vs vh wr ∧ PlQ i s l m
theorem fb_cellsA {w : World} {b : Nat} {k t a c e : Value} (h : Fb w b 35 #[k, t, a, c, e]) : w.cell? ⟨b, 0, none⟩ = some k ∧ w.cell? ⟨b, 1, none⟩ = some t ∧ w.cell? ⟨b, 2, none⟩ = some a ∧ w.cell? ⟨b, 3, none⟩ = some c ∧ w.cell? ⟨b, 4, none⟩ = some e := ⟨h.cell 0, h.cell 1, h.cell 2, h.cell 3, h.cell 4⟩
theorem fb_cellsJ {w : World} {b : Nat} {q0 q1 q2 q3 q4 q5 q6 q7 : Value} (h : Fb w b 32 #[q0, q1, q2, q3, q4, q5, q6, q7]) : (w.cell? ⟨b, 0, none⟩ = some q0 ∧ w.cell? ⟨b, 1, none⟩ = some q1 ∧ w.cell? ⟨b, 2, none⟩ = some q2 ∧ w.cell? ⟨b, 3, none⟩ = some q3 ∧ w.cell? ⟨b, 4, none⟩ = some q4 ∧ w.cell? ⟨b, 5, none⟩ = some q5 ∧ w.cell? ⟨b, 6, none⟩ = some q6 ∧ w.cell? ⟨b, 7, none⟩ = some q7) ∧ (w.frozen? ⟨b, 0, none⟩ = false ∧ w.frozen? ⟨b, 1, none⟩ = false ∧ w.frozen? ⟨b, 2, none⟩ = false ∧ w.frozen? ⟨b, 3, none⟩ = false ∧ w.frozen? ⟨b, 4, none⟩ = false ∧ w.frozen? ⟨b, 5, none⟩ = false ∧ w.frozen? ⟨b, 6, none⟩ = false ∧ w.frozen? ⟨b, 7, none⟩ = false) ∧ b < w.heap.size := ⟨⟨h.cell 0, h.cell 1, h.cell 2, h.cell 3, h.cell 4, h.cell 5, h.cell 6, h.cell 7⟩, ⟨h.free 0, h.free 1, h.free 2, h.free 3, h.free 4, h.free 5, h.free 6, h.free 7⟩, h.lt⟩
theorem fbA_st8 {w : World} {b b7 : Nat} {cs : Array Value} (h : Fb w b 35 cs) (hne : b ≠ b7) (x0 x1 x2 x3 x4 x5 x6 x7 : Value) : Fb (st8 w b7 x0 x1 x2 x3 x4 x5 x6 x7) b 35 cs := (st8_far _ _ _ _ _ _ _ _ _ _ hne).trans h
/-! ### The walk -/
set_option maxHeartbeats 64000000 in
theorem iplays_walk (x0 x1 : Int) (hx0 : i64b x0) (hx1 : i64b x1) (l : List Ax) (hl : ∀ a ∈ l, a.ok) (A : Option Addr) (cap : Nat) (hc : l.length ≤ cap) (hm : cap ≤ maxLen) (w : World) (hs : SlAt w A 5 (l.map Ax.cells)) :
    Calls Try.prog 3 #[.agg #[.int .i64 x0, .int .i64 x1], .slice A l.length cap] w fun e w' => e = .returned (.bool true) ∧ Below w.heap.size w w' := by
  have cA : ∀ {W : World}, Below w.heap.size w W → Calls Try.prog 4 #[] W fun e w' => e = .returned (.bool true) ∧ Below w.heap.size w w' ∧ Below W.heap.size W w' := fun {W} hb => (iawake_ok W).mono fun _ _ ⟨x, y⟩ => ⟨x, hb.trans (y.mono hb.size), y⟩
  have hB0 : Below w.heap.size w (w.alloc (.cells #[.int .i64 x0, .int .i64 x1] 22)) := (Below.refl _ _).alloc (Nat.le_refl _) _
  have hX0 : Fb (w.alloc (.cells #[.int .i64 x0, .int .i64 x1] 22)) w.heap.size 22 #[.int .i64 x0, .int .i64 x1] := Fb.new _ _ _
  by_cases hz : 60 < l.length
  · have hzI : (60 : Int) < (l.length : Int) := by omega
    clear hz hl hc hm hs hx0 hx1
    go_enter Try.func3, Try.ntmps3
    go_wp2_with (first
      | (go_at_call 4; (with_reducible refine (cA hB0).mono ?_); rintro e w1 ⟨rfl, hB1, _⟩)
      | (go_at_call 4; (with_reducible refine (cA hB1).mono ?_); rintro e w2 ⟨rfl, hB2, _⟩))
    go_ret
    exact ⟨rfl, by assumption⟩
  have hzI : ¬ (60 : Int) < (l.length : Int) := by omega
  by_cases hbad : x0 < 0 ∨ 1152921504606846976 < x0 ∨ x1 < 1 ∨ 1000 < x1
  · have cN := fun W => inew_bad x0 x1 hbad W
    have hw : x0 < 0 ∨ (¬ x0 < 0 ∧ 1152921504606846976 < x0) ∨ (¬ x0 < 0 ∧ ¬ 1152921504606846976 < x0 ∧ x1 < 1) ∨ (¬ x0 < 0 ∧ ¬ 1152921504606846976 < x0 ∧ ¬ x1 < 1 ∧ 1000 < x1) := by omega
    clear hz hl hc hm hs hx0 hx1 hbad
    rcases hw with h0 | ⟨h0, h1⟩ | ⟨h0, h1, h2⟩ | ⟨h0, h1, h2, h3⟩
    · go_enter Try.func3, Try.ntmps3
      go_wp2_with (first
        | (go_at_call 4; (with_reducible refine (cA hB0).mono ?_); rintro e w1 ⟨rfl, hB1, hb1⟩; have p0 := (hX0.below hb1).cell 0; have p1 := (hX0.below hb1).cell 1)
        | (go_at_call 5; (with_reducible refine (cN _).mono ?_); rintro e w2 ⟨rfl, rfl⟩))
      go_ret
      exact ⟨rfl, by assumption⟩
    · go_enter Try.func3, Try.ntmps3
      go_wp2_with (first
        | (go_at_call 4; (with_reducible refine (cA hB0).mono ?_); rintro e w1 ⟨rfl, hB1, hb1⟩; have p0 := (hX0.below hb1).cell 0; have p1 := (hX0.below hb1).cell 1)
        | (go_at_call 5; (with_reducible refine (cN _).mono ?_); rintro e w2 ⟨rfl, rfl⟩))
      go_ret
      exact ⟨rfl, by assumption⟩
    · go_enter Try.func3, Try.ntmps3
      go_wp2_with (first
        | (go_at_call 4; (with_reducible refine (cA hB0).mono ?_); rintro e w1 ⟨rfl, hB1, hb1⟩; have p0 := (hX0.below hb1).cell 0; have p1 := (hX0.below hb1).cell 1)
        | (go_at_call 5; (with_reducible refine (cN _).mono ?_); rintro e w2 ⟨rfl, rfl⟩))
      go_ret
      exact ⟨rfl, by assumption⟩
    · go_enter Try.func3, Try.ntmps3
      go_wp2_with (first
        | (go_at_call 4; (with_reducible refine (cA hB0).mono ?_); rintro e w1 ⟨rfl, hB1, hb1⟩; have p0 := (hX0.below hb1).cell 0; have p1 := (hX0.below hb1).cell 1)
        | (go_at_call 5; (with_reducible refine (cN _).mono ?_); rintro e w2 ⟨rfl, rfl⟩))
      go_ret
      exact ⟨rfl, by assumption⟩
  obtain ⟨g0, g1, g2, g3⟩ : ¬ x0 < 0 ∧ ¬ 1152921504606846976 < x0 ∧ ¬ x1 < 1 ∧ ¬ 1000 < x1 := by omega
  obtain ⟨n, hn⟩ : ∃ n, n = l.length := ⟨_, rfl⟩
  have hn60 : n ≤ 60 := by omega
  have hel : ∀ i, i < n → ∃ r : Ax, r.ok ∧ ∀ {W : World}, Below w.heap.size w W → ∃ g o, A = some ⟨g, o, none⟩ ∧ W.cell? ⟨g, o + i * 5, none⟩ = some (.int .u8 r.k) ∧ W.cell? ⟨g, o + i * 5 + 1, none⟩ = some (.int .i64 r.t) ∧ W.cell? ⟨g, o + i * 5 + 2, none⟩ = some (.int .i64 r.a) ∧ W.cell? ⟨g, o + i * 5 + 3, none⟩ = some (.int .i64 r.b) ∧ W.cell? ⟨g, o + i * 5 + 4, none⟩ = some (.int .i64 r.c) := fun i hi => by
    obtain ⟨r, hr⟩ : ∃ r, l[i]? = some r := ⟨_, List.getElem?_eq_getElem (by omega)⟩
    exact ⟨r, hl r (List.mem_of_getElem? hr), fun {W} hb => sl_at5 (hs.below hb) hr⟩
  have cN := fun W => inew_ok x0 x1 (by omega) (by omega) (by omega) (by omega) W
  have HQ0 := Lib.hid (plq_first x0 x1 (by omega) (by omega))
  rw [← hn] at hzI ⊢
  have HEL := Lib.hid hel
  have HN := Lib.hid hn60
  clear hz hl hc hm hs hel hn60 hn hbad hx0 hx1
  go_enter Try.func3, Try.ntmps3
  go_wp2_with (first
    | (go_at_call 4; (with_reducible refine (cA hB0).mono ?_); rintro e w1 ⟨rfl, hB1, hb1⟩; have p0 := (hX0.below hb1).cell 0; have p1 := (hX0.below hb1).cell 1; have HX1 := Lib.hid (hX0.below hb1))
    | (go_at_call 5; (with_reducible refine (cN _).mono ?_); rintro e w2 ⟨d, rfl, hD2, hb2⟩; have p3 := (HX1.out.below hb2).cell 0; have p4 := (HX1.out.below hb2).cell 1))
  have HB1 := Lib.hid hB1
  have hr2 : Rn w1 d (Bs.first x0 x1) (.slice none 0 0) [] w2 := rn_new hD2 hb2
  have HST := Lib.hid (show PlRel w1 d w2.heap.size n n (.int .i64 0) (w2.alloc (.cells #[.int .i64 x0, .int .i64 x1, .slice none 0 0, .slice none 0 0, .slice none 0 0, .int .i64 0, .int .i64 0, .bool false] 32)) from ⟨0, Bs.first x0 x1, .slice none 0 0, [], ⟨x0, x1, [], [], [], 0, 0, false⟩, .slice none 0 0, .slice none 0 0, .slice none 0 0, by omega, rfl, ⟨hr2.below ((Below.refl _ _).alloc (Nat.le_refl _) _), Fb.new _ _ _, ⟨World.ownsRow_nil _ _ _ _, World.ownsRow_nil _ _ _ _, World.ownsRow_nil _ _ _ _⟩, hb2.size⟩, HQ0.out⟩)
  obtain ⟨b7, hb7⟩ : ∃ b7, b7 = w2.heap.size := ⟨_, rfl⟩
  rw [← hb7] at HST ⊢
  clear hB0 hB1 hD2 hb2 cA cN hr2 p0 p1 p3 p4 hb1 HX1 hX0 HQ0 g0 g1 g2 g3
  go_loopg [68] n (fun g s68 wr => PlRel w1 d b7 n g s68 wr)
  case atStart => exact HST.out
  case round =>
    clear HST
    obtain ⟨i, s, v, ll, m, vw, vs, vh, hig, rfl, hS, hQ⟩ := hrel
    have hi9 : (i : Int) ≤ 60 := by have := HN.out; omega
    cases gk with
    | zero =>
      obtain rfl : i = n := by omega
      have hin : ¬ (i : Int) < (i : Int) := by omega
      have HWR := Lib.hid hS.rn.b
      clear hS hig hQ hb7
      go_wp2
      go_ret
      exact ⟨rfl, HB1.out.trans (HWR.out.mono HB1.out.size)⟩
    | succ g =>
      have hin : (i : Int) < (n : Int) := by omega
      have hiz : (0 : Int) ≤ (i : Int) := by omega
      obtain ⟨⟨k, t, ka, kb, kc⟩, ⟨⟨k0, k1⟩, ht, hka, hkb, hkc⟩, hcell⟩ := HEL.out i (by omega)
      obtain ⟨gg, og, rfl, c0, c1, c2, c3, c4⟩ := hcell (HB1.out.trans (hS.rn.b.mono HB1.out.size))
      have HI := Lib.hid (show i + 1 + g = n from by omega)
      have HI9 := Lib.hid (show i + 1 ≤ 100 from by have := HN.out; omega)
      dsimp only at *
      have hX := hS.below ((Below.refl _ _).alloc (Nat.le_refl _) (.cells #[.int .u8 k, .int .i64 t, .int .i64 ka, .int .i64 kb, .int .i64 kc] 35))
      have HA := Lib.hid (Fb.new wr 35 #[.int .u8 k, .int .i64 t, .int .i64 ka, .int .i64 kb, .int .i64 kc])
      have HBW := Lib.hid (show w1.heap.size ≤ (wr.alloc (.cells #[.int .u8 k, .int .i64 t, .int .i64 ka, .int .i64 kb, .int .i64 kc] 35)).heap.size from hX.rn.b.size)
      have hlt7 := hS.box.lt
      have hn7 : ¬ wr.heap.size = b7 := by omega
      have hn7' : ¬ b7 = wr.heap.size := by omega
      obtain ⟨AwX, cwX, hvw, _⟩ := row_shape hS.mm.rw
      obtain ⟨AsX, csX, hvs, _⟩ := row_shape hS.mm.rs
      obtain ⟨AhX, chX, hvh, _⟩ := row_shape hS.mm.rh
      subst hvw hvs hvh
      obtain ⟨⟨z0, z1, z2, z3, z4, z5, z6, z7⟩, _, _⟩ := fb_cellsJ hX.box
      have HQ := Lib.hid hQ
      have HX := Lib.hid hX
      have hll : ll.length ≤ 4000 := by rw [hQ.pm.length_eq]; have := hQ.zw; have := HI9.out; omega
      have HLL := Lib.hid hll
      obtain ⟨mm, hkm⟩ : ∃ m, k % 8 = m := ⟨_, rfl⟩
      have m0 : 0 ≤ mm := by omega
      have m1 : mm ≤ 7 := by omega
      clear hS hQ hX hcell hll hb7 hig
      have hway : mm = 0 ∨ mm = 1 ∨ mm = 2 ∨ mm = 3 ∨ mm = 4 ∨ mm = 5 ∨ mm = 6 ∨ mm = 7 := by omega
      clear m0 m1
      rcases hway with rfl | rfl | rfl | rfl | rfl | rfl | rfl | rfl
      · have cJ := jpush_any HX.out.mm (HQ.out.mok (by have := HI9.out; omega)) ⟨⟨HQ.out.n0, by have := HQ.out.n1; have := HI9.out; omega⟩, HQ.out.t0, by have := HQ.out.t1; have := HI9.out; omega⟩ HBW.out t ka kb kc
        obtain ⟨r, hr⟩ : ∃ r, r = m.push t ka kb kc := ⟨_, rfl⟩
        have hcode := (HQ.out.push t ka kb kc (List.Perm.refl _)).1
        have cP := fun {v m vw vs vh W} (h : PlS w1 d b7 s v ll m vw vs vh W) => h.ipush HLL.out (HQ.out.sok (by have := HI9.out; omega)) t ka kb kc
        rw [← hr] at cJ hcode
        obtain ⟨m', c⟩ := r
        unfold JPost Mb.cells at cJ
        dsimp only at cJ hcode
        have hQ2 : ∀ l' : List It, l'.Perm (if c = 0 then ll ++ [⟨t, s.next, ka, kb, kc⟩] else ll) → PlQ (i + 1) (s.push ll.length t).1 l' m' := fun l' hp => by
          rw [hcode] at hp
          have := (HQ.out.push t ka kb kc hp).2
          rw [← hr] at this
          exact this
        have HQ2 := Lib.hid hQ2
        rw [← hcode] at cP
        clear hr hQ2 hcode
        go_wp2_with (first
          | (go_at_call 6; (with_reducible refine cJ.mono ?_); rintro e w3 ⟨yw, ys, yh, rfl, hb3, hm3⟩; obtain ⟨A1, a1, rfl, _⟩ := row_shape hm3.rw; obtain ⟨A2, a2, rfl, _⟩ := row_shape hm3.rs; obtain ⟨A3, a3, rfl, _⟩ := row_shape hm3.rh; have hX3 := HX.out.below hb3; obtain ⟨⟨y0, y1, y2, y3, y4, y5, y6, y7⟩, ⟨f0, f1, f2, f3, f4, f5, f6, f7⟩, hl3⟩ := fb_cellsJ hX3.box; have hA3 := HA.out.below hb3; obtain ⟨v0, v1, v2, v3, v4⟩ := fb_cellsA hA3; have hX4 := hX3.put hm3; have cP4 := cP hX4; unfold st8 at cP4; clear hX3 hX4 hA3 hm3 hb3)
          | (go_at_call 7; (with_reducible refine cP4.mono ?_); rintro e w5 ⟨rfl, v', l', hS5, hp5⟩; obtain ⟨⟨x0, x1, x2, x3, x4, x5, x6, x7⟩, _, _⟩ := fb_cellsJ hS5.box; have HQ5 := Lib.hid (HQ2.out _ hp5); have cI5 := hS5.is HI9.out HQ5.out; unfold Mb.cells at cI5; clear hS5 hp5)
          | (go_at_call 14; (with_reducible refine cI5.mono ?_); rintro e w6 ⟨rfl, hS6⟩; have HS6 := Lib.hid hS6; clear hS6))
        go_roundg g
        case measure => exact Nat.lt_succ_self g
        case rel => exact ⟨i + 1, _, _, _, _, _, _, _, HI.out, by go_num, HS6.out, HQ5.out⟩
      · have cJ := jpush_any HX.out.mm (HQ.out.mok (by have := HI9.out; omega)) ⟨⟨HQ.out.n0, by have := HQ.out.n1; have := HI9.out; omega⟩, HQ.out.t0, by have := HQ.out.t1; have := HI9.out; omega⟩ HBW.out t ka kb kc
        obtain ⟨r, hr⟩ : ∃ r, r = m.push t ka kb kc := ⟨_, rfl⟩
        have hcode := (HQ.out.push t ka kb kc (List.Perm.refl _)).1
        have cP := fun {v m vw vs vh W} (h : PlS w1 d b7 s v ll m vw vs vh W) => h.ipush HLL.out (HQ.out.sok (by have := HI9.out; omega)) t ka kb kc
        rw [← hr] at cJ hcode
        obtain ⟨m', c⟩ := r
        unfold JPost Mb.cells at cJ
        dsimp only at cJ hcode
        have hQ2 : ∀ l' : List It, l'.Perm (if c = 0 then ll ++ [⟨t, s.next, ka, kb, kc⟩] else ll) → PlQ (i + 1) (s.push ll.length t).1 l' m' := fun l' hp => by
          rw [hcode] at hp
          have := (HQ.out.push t ka kb kc hp).2
          rw [← hr] at this
          exact this
        have HQ2 := Lib.hid hQ2
        rw [← hcode] at cP
        clear hr hQ2 hcode
        go_wp2_with (first
          | (go_at_call 6; (with_reducible refine cJ.mono ?_); rintro e w3 ⟨yw, ys, yh, rfl, hb3, hm3⟩; obtain ⟨A1, a1, rfl, _⟩ := row_shape hm3.rw; obtain ⟨A2, a2, rfl, _⟩ := row_shape hm3.rs; obtain ⟨A3, a3, rfl, _⟩ := row_shape hm3.rh; have hX3 := HX.out.below hb3; obtain ⟨⟨y0, y1, y2, y3, y4, y5, y6, y7⟩, ⟨f0, f1, f2, f3, f4, f5, f6, f7⟩, hl3⟩ := fb_cellsJ hX3.box; have hA3 := HA.out.below hb3; obtain ⟨v0, v1, v2, v3, v4⟩ := fb_cellsA hA3; have hX4 := hX3.put hm3; have cP4 := cP hX4; unfold st8 at cP4; clear hX3 hX4 hA3 hm3 hb3)
          | (go_at_call 7; (with_reducible refine cP4.mono ?_); rintro e w5 ⟨rfl, v', l', hS5, hp5⟩; obtain ⟨⟨x0, x1, x2, x3, x4, x5, x6, x7⟩, _, _⟩ := fb_cellsJ hS5.box; have HQ5 := Lib.hid (HQ2.out _ hp5); have cI5 := hS5.is HI9.out HQ5.out; unfold Mb.cells at cI5; clear hS5 hp5)
          | (go_at_call 14; (with_reducible refine cI5.mono ?_); rintro e w6 ⟨rfl, hS6⟩; have HS6 := Lib.hid hS6; clear hS6))
        go_roundg g
        case measure => exact Nat.lt_succ_self g
        case rel => exact ⟨i + 1, _, _, _, _, _, _, _, HI.out, by go_num, HS6.out, HQ5.out⟩
      · have cJ := jpush_any HX.out.mm (HQ.out.mok (by have := HI9.out; omega)) ⟨⟨HQ.out.n0, by have := HQ.out.n1; have := HI9.out; omega⟩, HQ.out.t0, by have := HQ.out.t1; have := HI9.out; omega⟩ HBW.out t ka kb kc
        obtain ⟨r, hr⟩ : ∃ r, r = m.push t ka kb kc := ⟨_, rfl⟩
        have hcode := (HQ.out.push t ka kb kc (List.Perm.refl _)).1
        have cP := fun {v m vw vs vh W} (h : PlS w1 d b7 s v ll m vw vs vh W) => h.ipush HLL.out (HQ.out.sok (by have := HI9.out; omega)) t ka kb kc
        rw [← hr] at cJ hcode
        obtain ⟨m', c⟩ := r
        unfold JPost Mb.cells at cJ
        dsimp only at cJ hcode
        have hQ2 : ∀ l' : List It, l'.Perm (if c = 0 then ll ++ [⟨t, s.next, ka, kb, kc⟩] else ll) → PlQ (i + 1) (s.push ll.length t).1 l' m' := fun l' hp => by
          rw [hcode] at hp
          have := (HQ.out.push t ka kb kc hp).2
          rw [← hr] at this
          exact this
        have HQ2 := Lib.hid hQ2
        rw [← hcode] at cP
        clear hr hQ2 hcode
        go_wp2_with (first
          | (go_at_call 6; (with_reducible refine cJ.mono ?_); rintro e w3 ⟨yw, ys, yh, rfl, hb3, hm3⟩; obtain ⟨A1, a1, rfl, _⟩ := row_shape hm3.rw; obtain ⟨A2, a2, rfl, _⟩ := row_shape hm3.rs; obtain ⟨A3, a3, rfl, _⟩ := row_shape hm3.rh; have hX3 := HX.out.below hb3; obtain ⟨⟨y0, y1, y2, y3, y4, y5, y6, y7⟩, ⟨f0, f1, f2, f3, f4, f5, f6, f7⟩, hl3⟩ := fb_cellsJ hX3.box; have hA3 := HA.out.below hb3; obtain ⟨v0, v1, v2, v3, v4⟩ := fb_cellsA hA3; have hX4 := hX3.put hm3; have cP4 := cP hX4; unfold st8 at cP4; clear hX3 hX4 hA3 hm3 hb3)
          | (go_at_call 7; (with_reducible refine cP4.mono ?_); rintro e w5 ⟨rfl, v', l', hS5, hp5⟩; obtain ⟨⟨x0, x1, x2, x3, x4, x5, x6, x7⟩, _, _⟩ := fb_cellsJ hS5.box; have HQ5 := Lib.hid (HQ2.out _ hp5); have cI5 := hS5.is HI9.out HQ5.out; unfold Mb.cells at cI5; clear hS5 hp5)
          | (go_at_call 14; (with_reducible refine cI5.mono ?_); rintro e w6 ⟨rfl, hS6⟩; have HS6 := Lib.hid hS6; clear hS6))
        go_roundg g
        case measure => exact Nat.lt_succ_self g
        case rel => exact ⟨i + 1, _, _, _, _, _, _, _, HI.out, by go_num, HS6.out, HQ5.out⟩
      · have cJ := jpush_any HX.out.mm (HQ.out.mok (by have := HI9.out; omega)) ⟨⟨HQ.out.n0, by have := HQ.out.n1; have := HI9.out; omega⟩, HQ.out.t0, by have := HQ.out.t1; have := HI9.out; omega⟩ HBW.out t ka kb kc
        obtain ⟨r, hr⟩ : ∃ r, r = m.push t ka kb kc := ⟨_, rfl⟩
        have hcode := (HQ.out.push t ka kb kc (List.Perm.refl _)).1
        have cP := fun {v m vw vs vh W} (h : PlS w1 d b7 s v ll m vw vs vh W) => h.ipush HLL.out (HQ.out.sok (by have := HI9.out; omega)) t ka kb kc
        rw [← hr] at cJ hcode
        obtain ⟨m', c⟩ := r
        unfold JPost Mb.cells at cJ
        dsimp only at cJ hcode
        have hQ2 : ∀ l' : List It, l'.Perm (if c = 0 then ll ++ [⟨t, s.next, ka, kb, kc⟩] else ll) → PlQ (i + 1) (s.push ll.length t).1 l' m' := fun l' hp => by
          rw [hcode] at hp
          have := (HQ.out.push t ka kb kc hp).2
          rw [← hr] at this
          exact this
        have HQ2 := Lib.hid hQ2
        rw [← hcode] at cP
        clear hr hQ2 hcode
        go_wp2_with (first
          | (go_at_call 6; (with_reducible refine cJ.mono ?_); rintro e w3 ⟨yw, ys, yh, rfl, hb3, hm3⟩; obtain ⟨A1, a1, rfl, _⟩ := row_shape hm3.rw; obtain ⟨A2, a2, rfl, _⟩ := row_shape hm3.rs; obtain ⟨A3, a3, rfl, _⟩ := row_shape hm3.rh; have hX3 := HX.out.below hb3; obtain ⟨⟨y0, y1, y2, y3, y4, y5, y6, y7⟩, ⟨f0, f1, f2, f3, f4, f5, f6, f7⟩, hl3⟩ := fb_cellsJ hX3.box; have hA3 := HA.out.below hb3; obtain ⟨v0, v1, v2, v3, v4⟩ := fb_cellsA hA3; have hX4 := hX3.put hm3; have cP4 := cP hX4; unfold st8 at cP4; clear hX3 hX4 hA3 hm3 hb3)
          | (go_at_call 7; (with_reducible refine cP4.mono ?_); rintro e w5 ⟨rfl, v', l', hS5, hp5⟩; obtain ⟨⟨x0, x1, x2, x3, x4, x5, x6, x7⟩, _, _⟩ := fb_cellsJ hS5.box; have HQ5 := Lib.hid (HQ2.out _ hp5); have cI5 := hS5.is HI9.out HQ5.out; unfold Mb.cells at cI5; clear hS5 hp5)
          | (go_at_call 14; (with_reducible refine cI5.mono ?_); rintro e w6 ⟨rfl, hS6⟩; have HS6 := Lib.hid hS6; clear hS6))
        go_roundg g
        case measure => exact Nat.lt_succ_self g
        case rel => exact ⟨i + 1, _, _, _, _, _, _, _, HI.out, by go_num, HS6.out, HQ5.out⟩
      · have cJ := jtick_any HX.out.mm (HQ.out.mok (by have := HI9.out; omega)) HBW.out t
        obtain ⟨r, hr⟩ : ∃ r, r = m.tick t := ⟨_, rfl⟩
        obtain ⟨hcode, hQ2⟩ := HQ.out.tick t
        have cP := fun {v m vw vs vh W} (h : PlS w1 d b7 s v ll m vw vs vh W) => h.itick t
        rw [← hr] at cJ hcode hQ2
        obtain ⟨m', c⟩ := r
        clear hr
        unfold JPost Mb.cells at cJ
        dsimp only at cJ hcode hQ2
        have HQ2 := Lib.hid hQ2
        rw [← hcode] at cP
        clear hQ2 hcode
        go_wp2_with (first
          | (go_at_call 8; (with_reducible refine cJ.mono ?_); rintro e w3 ⟨yw, ys, yh, rfl, hb3, hm3⟩; obtain ⟨A1, a1, rfl, _⟩ := row_shape hm3.rw; obtain ⟨A2, a2, rfl, _⟩ := row_shape hm3.rs; obtain ⟨A3, a3, rfl, _⟩ := row_shape hm3.rh; have hX3 := HX.out.below hb3; obtain ⟨⟨y0, y1, y2, y3, y4, y5, y6, y7⟩, ⟨f0, f1, f2, f3, f4, f5, f6, f7⟩, hl3⟩ := fb_cellsJ hX3.box; have hA3 := HA.out.below hb3; obtain ⟨v0, v1, v2, v3, v4⟩ := fb_cellsA hA3; have hX4 := hX3.put hm3; have cP4 := cP hX4; unfold st8 at cP4; clear hX3 hX4 hA3 hm3 hb3)
          | (go_at_call 9; (with_reducible refine cP4.mono ?_); rintro e w5 ⟨rfl, hS5⟩; obtain ⟨⟨x0, x1, x2, x3, x4, x5, x6, x7⟩, _, _⟩ := fb_cellsJ hS5.box; have cI5 := hS5.is HI9.out HQ2.out; unfold Mb.cells at cI5; clear hS5)
          | (go_at_call 14; (with_reducible refine cI5.mono ?_); rintro e w6 ⟨rfl, hS6⟩; have HS6 := Lib.hid hS6; clear hS6))
        go_roundg g
        case measure => exact Nat.lt_succ_self g
        case rel => exact ⟨i + 1, _, _, _, _, _, _, _, HI.out, by go_num, HS6.out, HQ2.out⟩
      · have cJ := jtake_any HX.out.mm (HQ.out.mok (by have := HI9.out; omega)) HBW.out false
        have HWT := Lib.hid (show ∀ x ∈ ll, x.t ≤ 1152921504606846976 from fun x hx => HQ.out.wt x (HQ.out.pm.mem_iff.1 hx))
        obtain ⟨r, hr⟩ : ∃ r, r = m.take false := ⟨_, rfl⟩
        rw [← hr] at cJ
        obtain ⟨m', lo⟩ := r
        have HR := Lib.hid hr
        clear hr
        unfold JTPost Mb.cells at cJ
        dsimp only at cJ
        go_wp2_with (first
          | (go_at_call 10; (with_reducible refine cJ.mono ?_); rintro e w3 ⟨yw, ys, yh, yo, rfl, hb3, hm3, ho3⟩; obtain ⟨A1, a1, rfl, _⟩ := row_shape hm3.rw; obtain ⟨A2, a2, rfl, _⟩ := row_shape hm3.rs; obtain ⟨A3, a3, rfl, _⟩ := row_shape hm3.rh; obtain ⟨A4, a4, rfl, _⟩ := row_shape ho3; have hba := (Below.refl w3.heap.size w3).alloc (Nat.le_refl _) (.cells (m'.cells (.slice A1 m'.wait.length a1) (.slice A2 m'.seen.length a2) (.slice A3 m'.shown.length a3)) 32); have hX4 := (HX.out.below hb3).below hba; have hm4 := hm3.below hba; have hr4 := row_below ho3 hba; have c4x := hX4.itake HLL.out (HQ.out.sok (by have := HI9.out; omega)) hm4 hr4 (Fb.new w3 32 _); unfold Mb.cells at c4x; clear hX4 hm4 hr4 hm3 ho3 hb3 hba)
          | (go_at_call 12; (with_reducible refine c4x.mono ?_); rintro e w5 ⟨u, out, v', rest, rfl, hT5, hpm, hord, hlo, hhi⟩; obtain ⟨A5, a5, rfl⟩ := hT5.row.shape; have hq := HQ.out.take hpm hord hlo hhi; rw [← HR.out] at hq; dsimp only at hq; have HQ2 := Lib.hid hq.2; have hle : out.length ≤ 5000 := (by have h1 := hpm.length_eq; have h2 := HLL.out; (try rw [List.length_append] at h1); omega); have c5x := hT5.same hq.1 hle; clear hT5 hq hpm hord hle)
          | (go_at_call 11; (with_reducible refine c5x.mono ?_); rintro e w6 ⟨rfl, hT6⟩; obtain ⟨⟨q0, q1, q2, q3, q4, q5, q6, q7⟩, _, _⟩ := fb_cellsJ hT6.bx; obtain ⟨_, ⟨f0, f1, f2, f3, f4, f5, f6, f7⟩, hl6⟩ := fb_cellsJ hT6.p.box; obtain ⟨⟨y0, y1, y2, y3, y4, y5, y6, y7⟩, _, _⟩ := fb_cellsJ hT6.p.box; have cI7 := hT6.put.is HI9.out HQ2.out; unfold Mb.cells st8 at cI7; clear hT6)
          | (go_at_call 14; (with_reducible refine cI7.mono ?_); rintro e w8 ⟨rfl, hS8⟩; have HS8 := Lib.hid hS8; clear hS8))
        go_roundg g
        case measure => exact Nat.lt_succ_self g
        case rel => exact ⟨i + 1, _, _, _, _, _, _, _, HI.out, by go_num, HS8.out, HQ2.out⟩
      · have cJ := jtake_any HX.out.mm (HQ.out.mok (by have := HI9.out; omega)) HBW.out false
        have HWT := Lib.hid (show ∀ x ∈ ll, x.t ≤ 1152921504606846976 from fun x hx => HQ.out.wt x (HQ.out.pm.mem_iff.1 hx))
        obtain ⟨r, hr⟩ : ∃ r, r = m.take false := ⟨_, rfl⟩
        rw [← hr] at cJ
        obtain ⟨m', lo⟩ := r
        have HR := Lib.hid hr
        clear hr
        unfold JTPost Mb.cells at cJ
        dsimp only at cJ
        go_wp2_with (first
          | (go_at_call 10; (with_reducible refine cJ.mono ?_); rintro e w3 ⟨yw, ys, yh, yo, rfl, hb3, hm3, ho3⟩; obtain ⟨A1, a1, rfl, _⟩ := row_shape hm3.rw; obtain ⟨A2, a2, rfl, _⟩ := row_shape hm3.rs; obtain ⟨A3, a3, rfl, _⟩ := row_shape hm3.rh; obtain ⟨A4, a4, rfl, _⟩ := row_shape ho3; have hba := (Below.refl w3.heap.size w3).alloc (Nat.le_refl _) (.cells (m'.cells (.slice A1 m'.wait.length a1) (.slice A2 m'.seen.length a2) (.slice A3 m'.shown.length a3)) 32); have hX4 := (HX.out.below hb3).below hba; have hm4 := hm3.below hba; have hr4 := row_below ho3 hba; have c4x := hX4.itake HLL.out (HQ.out.sok (by have := HI9.out; omega)) hm4 hr4 (Fb.new w3 32 _); unfold Mb.cells at c4x; clear hX4 hm4 hr4 hm3 ho3 hb3 hba)
          | (go_at_call 12; (with_reducible refine c4x.mono ?_); rintro e w5 ⟨u, out, v', rest, rfl, hT5, hpm, hord, hlo, hhi⟩; obtain ⟨A5, a5, rfl⟩ := hT5.row.shape; have hq := HQ.out.take hpm hord hlo hhi; rw [← HR.out] at hq; dsimp only at hq; have HQ2 := Lib.hid hq.2; have hle : out.length ≤ 5000 := (by have h1 := hpm.length_eq; have h2 := HLL.out; (try rw [List.length_append] at h1); omega); have c5x := hT5.same hq.1 hle; clear hT5 hq hpm hord hle)
          | (go_at_call 11; (with_reducible refine c5x.mono ?_); rintro e w6 ⟨rfl, hT6⟩; obtain ⟨⟨q0, q1, q2, q3, q4, q5, q6, q7⟩, _, _⟩ := fb_cellsJ hT6.bx; obtain ⟨_, ⟨f0, f1, f2, f3, f4, f5, f6, f7⟩, hl6⟩ := fb_cellsJ hT6.p.box; obtain ⟨⟨y0, y1, y2, y3, y4, y5, y6, y7⟩, _, _⟩ := fb_cellsJ hT6.p.box; have cI7 := hT6.put.is HI9.out HQ2.out; unfold Mb.cells st8 at cI7; clear hT6)
          | (go_at_call 14; (with_reducible refine cI7.mono ?_); rintro e w8 ⟨rfl, hS8⟩; have HS8 := Lib.hid hS8; clear hS8))
        go_roundg g
        case measure => exact Nat.lt_succ_self g
        case rel => exact ⟨i + 1, _, _, _, _, _, _, _, HI.out, by go_num, HS8.out, HQ2.out⟩
      · have cJ := jtake_any HX.out.mm (HQ.out.mok (by have := HI9.out; omega)) HBW.out true
        have HWT := Lib.hid (show ∀ x ∈ ll, x.t ≤ 1152921504606846976 from fun x hx => HQ.out.wt x (HQ.out.pm.mem_iff.1 hx))
        obtain ⟨r, hr⟩ : ∃ r, r = m.take true := ⟨_, rfl⟩
        rw [← hr] at cJ
        obtain ⟨m', lo⟩ := r
        have HR := Lib.hid hr
        clear hr
        unfold JTPost Mb.cells at cJ
        dsimp only at cJ
        go_wp2_with (first
          | (go_at_call 10; (with_reducible refine cJ.mono ?_); rintro e w3 ⟨yw, ys, yh, yo, rfl, hb3, hm3, ho3⟩; obtain ⟨A1, a1, rfl, _⟩ := row_shape hm3.rw; obtain ⟨A2, a2, rfl, _⟩ := row_shape hm3.rs; obtain ⟨A3, a3, rfl, _⟩ := row_shape hm3.rh; obtain ⟨A4, a4, rfl, _⟩ := row_shape ho3; have hba := (Below.refl w3.heap.size w3).alloc (Nat.le_refl _) (.cells (m'.cells (.slice A1 m'.wait.length a1) (.slice A2 m'.seen.length a2) (.slice A3 m'.shown.length a3)) 32); have hX4 := (HX.out.below hb3).below hba; have hm4 := hm3.below hba; have hr4 := row_below ho3 hba; have c4x := hX4.iflush HLL.out HWT.out hm4 hr4 (Fb.new w3 32 _); unfold Mb.cells at c4x; clear hX4 hm4 hr4 hm3 ho3 hb3 hba)
          | (go_at_call 13; (with_reducible refine c4x.mono ?_); rintro e w5 ⟨u, out, v', rfl, hT5, hpm, hord⟩; obtain ⟨A5, a5, rfl⟩ := hT5.row.shape; have hq := HQ.out.flush hpm hord; rw [← HR.out] at hq; dsimp only at hq; have HQ2 := Lib.hid hq.2; have hle : out.length ≤ 5000 := (by have h1 := hpm.length_eq; have h2 := HLL.out; (try rw [List.length_append] at h1); omega); have c5x := hT5.same hq.1 hle; clear hT5 hq hpm hord hle)
          | (go_at_call 11; (with_reducible refine c5x.mono ?_); rintro e w6 ⟨rfl, hT6⟩; obtain ⟨⟨q0, q1, q2, q3, q4, q5, q6, q7⟩, _, _⟩ := fb_cellsJ hT6.bx; obtain ⟨_, ⟨f0, f1, f2, f3, f4, f5, f6, f7⟩, hl6⟩ := fb_cellsJ hT6.p.box; obtain ⟨⟨y0, y1, y2, y3, y4, y5, y6, y7⟩, _, _⟩ := fb_cellsJ hT6.p.box; have cI7 := hT6.put.is HI9.out HQ2.out; unfold Mb.cells st8 at cI7; clear hT6)
          | (go_at_call 14; (with_reducible refine cI7.mono ?_); rintro e w8 ⟨rfl, hS8⟩; have HS8 := Lib.hid hS8; clear hS8))
        go_roundg g
        case measure => exact Nat.lt_succ_self g
        case rel => exact ⟨i + 1, _, _, _, _, _, _, _, HI.out, by go_num, HS8.out, HQ2.out⟩
end Go.Proofs.Ytagidmghmbfnpaa
