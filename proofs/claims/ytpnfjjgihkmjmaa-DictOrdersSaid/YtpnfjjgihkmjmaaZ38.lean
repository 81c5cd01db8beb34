/-
  MERGED (a claim has at most 60 files): EOrdersW.
-/
import Derived.Test.YtpnfjjgihkmjmaaZ35
import Derived.Test.YtpnfjjgihkmjmaaZ36
import Derived.Test.YtpnfjjgihkmjmaaZ30
import Derived.Test.YtpnfjjgihkmjmaaZ37
import Derived.Deep.RegionHeld3
import Derived.IntWalk
/-
  DictOrders's walk. (Out of eorders.py.)
-/
namespace Go.Proofs.Ytpnfjjgihkmjmaa
open Go.RowKit
set_option linter.unusedVariables false
set_option linter.unusedSimpArgs false
set_option maxRecDepth 100000

structure Uk (W0 : World) (d m g9 : Nat) (v : Value) (L : List Tm) (u : Value) (W : World) : Prop where
  b : Below W0.heap.size W0 W
  dc : Dc W0.heap.size d m 20 v L W
  dl : DtL W0.heap.size W u L
  x9 : Fb W g9 30 #[.int .i64 20, u]
  n9 : W0.heap.size ≤ g9
  gd : Gok L
section
variable {W0 : World} {d m g9 : Nat} {v : Value} {L : List Tm} {u : Value}
theorem Uk.below {W W' : World} (h : Uk W0 d m g9 v L u W) (hb : Below W.heap.size W W') : Uk W0 d m g9 v L u W' := ⟨h.b.trans (hb.mono h.b.size), h.dc.below hb, h.dl.below hb, h.x9.below hb, h.n9, h.gd⟩
theorem Uk.cells {W : World} (h : Uk W0 d m g9 v L u W) : W.cell? ⟨g9, 0, none⟩ = some (.int .i64 20) ∧ W.cell? ⟨g9, 1, none⟩ = some u := ⟨h.x9.cell 0, h.x9.cell 1⟩
structure Uw (W0 : World) (d m g9 : Nat) (v : Value) (L : List Tm) (u : Value) (g : Nat) (k : Int) (a b c : ByteArray) (W : World) : Prop where
  uk : Uk W0 d m g9 v L u W
  box : Fb W g 32 #[.int .i64 k, .string a, .string b, .string c]
variable {g : Nat} {k : Int} {a b c : ByteArray}
theorem Uw.below {W W' : World} (h : Uw W0 d m g9 v L u g k a b c W) (hb : Below W.heap.size W W') : Uw W0 d m g9 v L u g k a b c W' := ⟨h.uk.below hb, h.box.below hb⟩
theorem Uw.mk' {W : World} (h : Uk W0 d m g9 v L u W) (k : Int) (a b c : ByteArray) : Uw W0 d m g9 v L u W.heap.size k a b c (W.alloc (.cells #[.int .i64 k, .string a, .string b, .string c] 32)) := ⟨h.below ((Below.refl _ _).alloc (Nat.le_refl _) _), Fb.new _ _ _⟩
theorem Uw.cells {W : World} (h : Uw W0 d m g9 v L u g k a b c W) : W.cell? ⟨g, 0, none⟩ = some (.int .i64 k) ∧ W.cell? ⟨g, 1, none⟩ = some (.string a) ∧ W.cell? ⟨g, 2, none⟩ = some (.string b) ∧ W.cell? ⟨g, 3, none⟩ = some (.string c) := ⟨h.box.cell 0, h.box.cell 1, h.box.cell 2, h.box.cell 3⟩
structure Ux (W0 : World) (d m g9 : Nat) (v : Value) (L : List Tm) (u : Value) (L' : List Tm) (g : Nat) (k : Int) (a b c : ByteArray) (W : World) : Prop where
  bw : Below W0.heap.size W0 W
  dc : Dc W0.heap.size d m 20 v L' W
  dl : DtL W0.heap.size W u L
  x9 : Fb W g9 30 #[.int .i64 20, u]
  box : Fb W g 32 #[.int .i64 k, .string a, .string b, .string c]
  n9 : W0.heap.size ≤ g9
variable {L' : List Tm} {u' : Value}
theorem Uw.turn {W W' : World} {v' : Value} (h : Uw W0 d m g9 v L u g k a b c W) (hd : Dc W0.heap.size d m 20 v' L' W') (ht : Tn d m v v' W W') : Ux W0 d m g9 v' L u L' g k a b c W' :=
  ⟨ht.below h.uk.dc h.uk.b, hd, ht.row h.uk.dc h.uk.dl t_ne_dict t_ne_term, ht.fb h.uk.dc h.uk.x9 d_ne_dict d_ne_term, ht.fb h.uk.dc h.box t_ne_dict t_ne_term, h.uk.n9⟩
theorem Ux.below {W W' : World} (h : Ux W0 d m g9 v L u L' g k a b c W) (hb : Below W.heap.size W W') : Ux W0 d m g9 v L u L' g k a b c W' := ⟨h.bw.trans (hb.mono h.bw.size), h.dc.below hb, h.dl.below hb, h.x9.below hb, h.box.below hb, h.n9⟩
theorem Ux.cells {W : World} (h : Ux W0 d m g9 v L u L' g k a b c W) : W.cell? ⟨g9, 0, none⟩ = some (.int .i64 20) ∧ W.cell? ⟨g9, 1, none⟩ = some u ∧ W.cell? ⟨g, 0, none⟩ = some (.int .i64 k) ∧ W.cell? ⟨g, 1, none⟩ = some (.string a) ∧ W.cell? ⟨g, 2, none⟩ = some (.string b) ∧ W.cell? ⟨g, 3, none⟩ = some (.string c) := ⟨h.x9.cell 0, h.x9.cell 1, h.box.cell 0, h.box.cell 1, h.box.cell 2, h.box.cell 3⟩
theorem Ux.free {W : World} (h : Ux W0 d m g9 v L u L' g k a b c W) : W.frozen? ⟨g9, 0, none⟩ = false ∧ W.frozen? ⟨g9, 1, none⟩ = false ∧ g9 < W.heap.size := ⟨d_free h.x9 0, d_free h.x9 1, h.x9.lt⟩
theorem Ux.fin {W : World} (h : Ux W0 d m g9 v L u L' g k a b c W) (hl : DtL W0.heap.size W u' L') (hg : Gok L') : Uk W0 d m g9 v L' u' ((W.setCell ⟨g9, 0, none⟩ (.int .i64 20)).setCell ⟨g9, 1, none⟩ u') := by
  have h5 : Fb (W.setCell ⟨g9, 0, none⟩ (.int .i64 20)) g9 30 #[.int .i64 20, u] := heap_setCell_same W g9 0 _ _ _ h.x9
  have h6 : Fb ((W.setCell ⟨g9, 0, none⟩ (.int .i64 20)).setCell ⟨g9, 1, none⟩ u') g9 30 #[.int .i64 20, u'] := heap_setCell_same _ g9 1 _ _ _ h5
  exact ⟨Below.setCell (Below.setCell h.bw h.n9 _) h.n9 _, (h.dc.setD h.x9 _ _).setD h5 _ _, (hl.setc h.x9 _).setc h5 _, h6, h.n9, hg⟩
theorem Uk.drew {W : World} (h : Uk W0 d m g9 v L u W) : Uk W0 d m g9 v L u W.drew := ⟨Below.drew h.b, h.dc.drew, h.dl, h.x9, h.n9, h.gd⟩
end
def Ui (W0 : World) (d m g9 : Nat) (ts : List Tm) (n : Nat) (g : Nat) (s30 : Value) (wr : World) : Prop :=
  ∃ (i : Nat) (v u : Value), i + g = n ∧ s30 = .int .i64 i ∧ Uk W0 d m g9 v (dicts 20 ts i) u wr
set_option maxHeartbeats 64000000 in
theorem dorders_walk (l : List Dw) (hl : ∀ t ∈ l, t.ok) (A : Option Addr) (cap : Nat) (hc : l.length ≤ cap) (hm : cap ≤ maxLen) (a : Int) (a0 : -9223372036854775808 ≤ a) (a1 : a ≤ 9223372036854775807) (b : Int) (b0 : -9223372036854775808 ≤ b) (b1 : b ≤ 9223372036854775807) (w : World) (hs : SlAt w A 4 (l.map Dw.cells)) :
    Calls Try.prog 4 #[.slice A l.length cap, .int .i64 a, .int .i64 b] w fun e w' => e = .returned (.bool true) ∧ Below w.heap.size w w' := by
  have cA : ∀ {W : World}, Below w.heap.size w W → Calls Try.prog 8 #[] W fun e w' => e = .returned (.bool true) ∧ Below w.heap.size w w' := fun {W} hb => (dawake_ok W).mono fun _ _ ⟨x, y⟩ => ⟨x, hb.trans (y.mono hb.size)⟩
  have hB0 : Below w.heap.size w w := Below.refl _ _
  by_cases hz : 20 < l.length
  · have hzI : (20 : Int) < (l.length : Int) := by omega
    clear hz hl hc hm hs a0 a1 b0 b1
    go_enter Try.func4, Try.ntmps4
    go_wp2_with (first
      | (go_at_call 8; (with_reducible refine (cA hB0).mono ?_); rintro e w1 ⟨rfl, hB1⟩)
      | (go_at_call 8; (with_reducible refine (cA hB1).mono ?_); rintro e w2 ⟨rfl, hB2⟩))
    go_ret
    exact ⟨rfl, by assumption⟩
  have hzI : ¬ (20 : Int) < (l.length : Int) := by omega
  obtain ⟨ts, hts⟩ : ∃ ts, ts = plL l := ⟨_, rfl⟩
  obtain ⟨n, hn⟩ : ∃ n, n = l.length := ⟨_, rfl⟩
  have hn40 : n ≤ 20 := by omega
  have hel : ∀ i, i < n → ∃ k a b c, (-9223372036854775808 ≤ k ∧ k ≤ 9223372036854775807) ∧ ts[i]? = some (pl3 k a b c) ∧ (shortD a b c = true → (pl3 k a b c).few) ∧ ∀ {W : World}, Below w.heap.size w W → ∃ g o, A = some ⟨g, o, none⟩ ∧ W.cell? ⟨g, o + i * 4, none⟩ = some (.int .i64 k) ∧ W.cell? ⟨g, o + i * 4 + 1, none⟩ = some (.string a) ∧ W.cell? ⟨g, o + i * 4 + 2, none⟩ = some (.string b) ∧ W.cell? ⟨g, o + i * 4 + 3, none⟩ = some (.string c) := fun i hi => by
    obtain ⟨r, hr⟩ : ∃ r, l[i]? = some r := ⟨_, List.getElem?_eq_getElem (by omega)⟩
    exact ⟨r.k, r.a, r.b, r.c, (hl r (List.mem_of_getElem? hr)).1, by rw [hts]; exact plL_at hr, short_few, fun {W} hb => sl_at4 (hs.below hb) hr⟩
  have cN := fun W => dnew_ok 20 (by decide) (by decide) W
  rw [← hn] at hzI ⊢
  have HEL := Lib.hid hel
  have HN := Lib.hid hn40
  have HAB := Lib.hid (And.intro (And.intro a0 a1) (And.intro b0 b1))
  clear hz hl hc hm hs hel hn40 hts hn a0 a1 b0 b1
  go_enter Try.func4, Try.ntmps4
  go_wp2_with (first
    | (go_at_call 8; (with_reducible refine (cA hB0).mono ?_); rintro e w1 ⟨rfl, hB1⟩)
    | (go_at_call 9; (with_reducible refine (cN _).mono ?_); rintro e w2 ⟨d, m, rfl, hD2, hb2⟩))
  have HB1 := Lib.hid hB1
  have hT2 : Uk w1 d m w2.heap.size (.slice none 0 0) (dicts 20 ts 0) (.slice none 0 0) (w2.alloc (.cells #[.int .i64 20, .slice none 0 0] 30)) :=
    ⟨hb2.alloc hb2.size _, hD2.alloc _, dtL_nil _ _, Fb.new _ _ _, hb2.size, fun t h => absurd h (List.not_mem_nil)⟩
  have HST := Lib.hid hT2
  clear hB0 hB1 hD2 hb2 cA cN hT2
  go_loopg [30] n (fun g s30 wr => Ui w1 d m w2.heap.size ts n g s30 wr)
  case atStart => exact ⟨0, _, _, by omega, rfl, HST.out⟩
  case round =>
    clear HST
    obtain ⟨i, v5, u5, hig, rfl, hK5⟩ := hrel
    cases gk with
    | zero =>
      obtain rfl : i = n := by omega
      have hin : ¬ (i : Int) < (i : Int) := by omega
      have hlen : (dicts 20 ts i).length ≤ 20 := Nat.le_trans (dicts_len 20 ts i) HN.out
      obtain ⟨A5, c5, rfl⟩ := hK5.dl.shape
      generalize dicts 20 ts i = D at *
      have hmf : ∀ (fn : Fn) (fst cap : Array Value) (W : World), (Instr.makeFunc fn fst cap).run Try.prog W = .ok (.func fn fst cap) W := fun _ _ _ _ => rfl
      have cC : ∀ {W : World} (x : Int), Below wr.heap.size wr W → Calls Try.prog 28 #[.int .i64 x, .pointer (some ⟨w2.heap.size, 0, none⟩)] W fun e w' => e = .returned (.bool (hasB D x)) ∧ w' = W := fun {W} x hb => dcl_any (hK5.x9.below hb) x
      have cCa : ∀ {W : World}, Below wr.heap.size wr W → Calls Try.prog 28 #[.int .i64 a, .pointer (some ⟨w2.heap.size, 0, none⟩)] W fun e w' => e = .returned (.bool (hasB D a)) ∧ w' = W := fun {W} hb => cC a hb
      have cCb : ∀ {W : World}, Below wr.heap.size wr W → Calls Try.prog 28 #[.int .i64 b, .pointer (some ⟨w2.heap.size, 0, none⟩)] W fun e w' => e = .returned (.bool (hasB D b)) ∧ w' = W := fun {W} hb => cC b hb
      have cI : ∀ {W : World}, Below wr.heap.size wr W → Calls Try.prog 27 #[.pointer (some ⟨d, 0, none⟩), .agg #[.int .i64 20, .slice A5 D.length c5]] W fun e w' => e = .returned (.bool true) ∧ Below wr.heap.size wr w' := fun {W} hb => (dis_any (hK5.below hb).dc (hK5.below hb).dl (fun t ht => (hK5.gd t ht).1) (fun t ht => (hK5.gd t ht).2) (by omega) 20).mono fun _ _ ⟨x, y⟩ => ⟨x, hb.trans (y.mono hb.size)⟩
      have KB : ∀ W, Below wr.heap.size wr W → W.cell? ⟨w2.heap.size, 0, none⟩ = some (.int .i64 20) ∧ W.cell? ⟨w2.heap.size, 1, none⟩ = some (.slice A5 D.length c5) := fun W hb => (hK5.below hb).cells
      have hbr : Below wr.heap.size wr wr := Below.refl _ _
      obtain ⟨p0, p1⟩ := KB wr hbr
      have HEND : ∀ {W : World}, Below wr.heap.size wr W → Below w.heap.size w W := fun {W} hb => HB1.out.trans ((hK5.below hb).b.mono HB1.out.size)
      have HK5 := Lib.hid hK5
      have HLEN := Lib.hid hlen
      cases hA : hasB D a with
      | true =>
        cases hB : hasB D b with
        | true => 
          obtain ⟨ha0, ha1⟩ := hasB_iff.1 hA
          obtain ⟨hb0, hb1⟩ := hasB_iff.1 hB
          obtain ⟨ia, rfl⟩ : ∃ ia : Nat, a = ia := ⟨a.toNat, by omega⟩
          obtain ⟨ib, rfl⟩ : ∃ ib : Nat, b = ib := ⟨b.toNat, by omega⟩
          obtain ⟨s, hs⟩ : ∃ s, D[ia]? = some s := ⟨_, List.getElem?_eq_getElem (by omega)⟩
          obtain ⟨t, ht⟩ : ∃ t, D[ib]? = some t := ⟨_, List.getElem?_eq_getElem (by omega)⟩
          obtain ⟨gb, cb, ev, hgb, q0, q1, q2, q3⟩ := dtL_at HK5.out.dl hs
          obtain ⟨gb2, cb2, ev2, hgb2, r0, r1, r2, r3⟩ := dtL_at HK5.out.dl ht
          injection ev with ev3 ev4 ev5
          subst ev3
          injection ev2 with ev6 ev7 ev8
          injection ev6 with ev6
          injection ev6 with ev6
          subst ev6
          clear ev4 ev5 ev7 ev8 hgb2
          have cO1 : ∀ {W : World}, Below wr.heap.size wr W → Calls Try.prog 30 #[.pointer (some ⟨d, 0, none⟩), .int .i64 ia, .int .i64 ib] W fun e w' => e = .returned (.int .i64 (ordB s t)) ∧ Below wr.heap.size wr w' := fun {W} hb => (dorder_both (HK5.out.below hb).dc (by have := HLEN.out; omega) hs ht).mono fun _ _ ⟨x, y⟩ => ⟨x, hb.trans (y.mono hb.size)⟩
          have cO2 : ∀ {W : World}, Below wr.heap.size wr W → Calls Try.prog 30 #[.pointer (some ⟨d, 0, none⟩), .int .i64 ib, .int .i64 ia] W fun e w' => e = .returned (.int .i64 (ordB t s)) ∧ Below wr.heap.size wr w' := fun {W} hb => (dorder_both (HK5.out.below hb).dc (by have := HLEN.out; omega) ht hs).mono fun _ _ ⟨x, y⟩ => ⟨x, hb.trans (y.mono hb.size)⟩
          have cL1 : ∀ {W : World}, Below wr.heap.size wr W → Calls Try.prog 29 #[F4 s.kind s.ta s.tb s.tc, F4 t.kind t.ta t.tb t.tc] W fun e w' => e = .returned (.bool (lessM s t)) ∧ Below wr.heap.size wr w' := fun {W} hb => (rless_any s.kind s.ta s.tb s.tc t.kind t.ta t.tb t.tc W).mono fun _ _ ⟨x, y⟩ => ⟨x, hb.trans (y.mono hb.size)⟩
          have cL2 : ∀ {W : World}, Below wr.heap.size wr W → Calls Try.prog 29 #[F4 t.kind t.ta t.tb t.tc, F4 s.kind s.ta s.tb s.tc] W fun e w' => e = .returned (.bool (lessM t s)) ∧ Below wr.heap.size wr w' := fun {W} hb => (rless_any t.kind t.ta t.tb t.tc s.kind s.ta s.tb s.tc W).mono fun _ _ ⟨x, y⟩ => ⟨x, hb.trans (y.mono hb.size)⟩
          have K : ∀ W, Below wr.heap.size wr W → W.cell? ⟨w2.heap.size, 1, none⟩ = some (.slice (some ⟨gb, 0, none⟩) D.length c5) ∧ W.cell? ⟨gb, ia * 4, none⟩ = some (.int .i64 s.kind) ∧ W.cell? ⟨gb, ia * 4 + 1, none⟩ = some (.string s.ta) ∧ W.cell? ⟨gb, ia * 4 + 2, none⟩ = some (.string s.tb) ∧ W.cell? ⟨gb, ia * 4 + 3, none⟩ = some (.string s.tc) ∧ W.cell? ⟨gb, ib * 4, none⟩ = some (.int .i64 t.kind) ∧ W.cell? ⟨gb, ib * 4 + 1, none⟩ = some (.string t.ta) ∧ W.cell? ⟨gb, ib * 4 + 2, none⟩ = some (.string t.tb) ∧ W.cell? ⟨gb, ib * 4 + 3, none⟩ = some (.string t.tc) := fun W hb =>
            ⟨(KB W hb).2, (hb.cell (p := ⟨gb, ia * 4, none⟩) hgb).trans q0, (hb.cell (p := ⟨gb, ia * 4 + 1, none⟩) hgb).trans q1, (hb.cell (p := ⟨gb, ia * 4 + 2, none⟩) hgb).trans q2, (hb.cell (p := ⟨gb, ia * 4 + 3, none⟩) hgb).trans q3, (hb.cell (p := ⟨gb, ib * 4, none⟩) hgb).trans r0, (hb.cell (p := ⟨gb, ib * 4 + 1, none⟩) hgb).trans r1, (hb.cell (p := ⟨gb, ib * 4 + 2, none⟩) hgb).trans r2, (hb.cell (p := ⟨gb, ib * 4 + 3, none⟩) hgb).trans r3⟩
          have hanti := ordB_anti s t
          have hways := want_ord s t
          generalize ordB s t = o1 at cO1 hanti hways
          generalize ordB t s = o2 at cO2 hanti
          generalize lessM s t = l1 at cL1 hways
          generalize lessM t s = l2 at cL2 hways
          generalize s.kind = sk at *
          generalize s.ta = sa at *
          generalize s.tb = sb at *
          generalize s.tc = sc at *
          generalize t.kind = tk at *
          generalize t.ta = ta at *
          generalize t.tb = tb at *
          generalize t.tc = tc at *
          rw [hA] at cCa
          rw [hB] at cCb
          clear hig hK5 cC hlen hA hB hs ht q0 q1 q2 q3 r0 r1 r2 r3 hgb
          rcases hways with ⟨rfl, rfl⟩ | ⟨rfl, rfl, rfl⟩ | ⟨rfl, rfl, rfl⟩
          · obtain rfl : o2 = 1 := by omega
            clear hanti
            go_wp2_with (first
              | (go_at_call 28; (with_reducible refine (cCa (by first | assumption | exact Below.drew (by assumption))).mono ?_); rintro e wx ⟨rfl, rfl⟩)
              | (go_at_call 28; (with_reducible refine (cCb (by first | assumption | exact Below.drew (by assumption))).mono ?_); rintro e wx ⟨rfl, rfl⟩)
              | (go_at_call 30; (with_reducible refine (cO1 (by first | assumption | exact Below.drew (by assumption))).mono ?_); rintro e wp ⟨rfl, hBp⟩)
              | (go_at_call 30; (with_reducible refine (cO2 (by first | assumption | exact Below.drew (by assumption))).mono ?_); rintro e wq ⟨rfl, hBq⟩; obtain ⟨s0, s1⟩ := KB _ hBq)
              | (go_at_call 27; (with_reducible refine (cI (by first | assumption | exact Below.drew (by assumption))).mono ?_); rintro e wz ⟨rfl, hBz⟩))
            first
              | (go_region_held3 (fun W => W.cell? ⟨w2.heap.size, 1, none⟩ = some (.slice (some ⟨gb, 0, none⟩) D.length c5) ∧ W.cell? ⟨gb, ia * 4, none⟩ = some (.int .i64 sk) ∧ W.cell? ⟨gb, ia * 4 + 1, none⟩ = some (.string sa) ∧ W.cell? ⟨gb, ia * 4 + 2, none⟩ = some (.string sb) ∧ W.cell? ⟨gb, ia * 4 + 3, none⟩ = some (.string sc) ∧ W.cell? ⟨gb, ib * 4, none⟩ = some (.int .i64 tk) ∧ W.cell? ⟨gb, ib * 4 + 1, none⟩ = some (.string ta) ∧ W.cell? ⟨gb, ib * 4 + 2, none⟩ = some (.string tb) ∧ W.cell? ⟨gb, ib * 4 + 3, none⟩ = some (.string tc))
                  (first | exact K _ (by assumption) | exact K _ (Below.drew (by assumption)))
                  (first
                    | (go_at_call 29; (with_reducible refine (cL1 (by first | assumption | exact Below.drew (by assumption))).mono ?_); rintro e wa ⟨rfl, hBa⟩)
                    | (go_at_call 29; (with_reducible refine (cL2 (by first | assumption | exact Below.drew (by assumption))).mono ?_); rintro e wb ⟨rfl, hBb⟩)))
              | fail
            all_goals
              go_wp2_with (first
                | (go_at_call 28; (with_reducible refine (cCa (by first | assumption | exact Below.drew (by assumption))).mono ?_); rintro e wx ⟨rfl, rfl⟩)
                | (go_at_call 28; (with_reducible refine (cCb (by first | assumption | exact Below.drew (by assumption))).mono ?_); rintro e wx ⟨rfl, rfl⟩)
                | (go_at_call 30; (with_reducible refine (cO1 (by first | assumption | exact Below.drew (by assumption))).mono ?_); rintro e wp ⟨rfl, hBp⟩)
                | (go_at_call 30; (with_reducible refine (cO2 (by first | assumption | exact Below.drew (by assumption))).mono ?_); rintro e wq ⟨rfl, hBq⟩; obtain ⟨s0, s1⟩ := KB _ hBq)
                | (go_at_call 27; (with_reducible refine (cI (by first | assumption | exact Below.drew (by assumption))).mono ?_); rintro e wz ⟨rfl, hBz⟩))
              (try rw [Exit.noGoto_ret])
              go_ret
              exact ⟨rfl, HEND (by first | assumption | exact Below.drew (by assumption))⟩
          · obtain rfl : o2 = -1 := by omega
            clear hanti
            go_wp2_with (first
              | (go_at_call 28; (with_reducible refine (cCa (by first | assumption | exact Below.drew (by assumption))).mono ?_); rintro e wx ⟨rfl, rfl⟩)
              | (go_at_call 28; (with_reducible refine (cCb (by first | assumption | exact Below.drew (by assumption))).mono ?_); rintro e wx ⟨rfl, rfl⟩)
              | (go_at_call 30; (with_reducible refine (cO1 (by first | assumption | exact Below.drew (by assumption))).mono ?_); rintro e wp ⟨rfl, hBp⟩)
              | (go_at_call 30; (with_reducible refine (cO2 (by first | assumption | exact Below.drew (by assumption))).mono ?_); rintro e wq ⟨rfl, hBq⟩; obtain ⟨s0, s1⟩ := KB _ hBq)
              | (go_at_call 27; (with_reducible refine (cI (by first | assumption | exact Below.drew (by assumption))).mono ?_); rintro e wz ⟨rfl, hBz⟩))
            first
              | (go_region_held3 (fun W => W.cell? ⟨w2.heap.size, 1, none⟩ = some (.slice (some ⟨gb, 0, none⟩) D.length c5) ∧ W.cell? ⟨gb, ia * 4, none⟩ = some (.int .i64 sk) ∧ W.cell? ⟨gb, ia * 4 + 1, none⟩ = some (.string sa) ∧ W.cell? ⟨gb, ia * 4 + 2, none⟩ = some (.string sb) ∧ W.cell? ⟨gb, ia * 4 + 3, none⟩ = some (.string sc) ∧ W.cell? ⟨gb, ib * 4, none⟩ = some (.int .i64 tk) ∧ W.cell? ⟨gb, ib * 4 + 1, none⟩ = some (.string ta) ∧ W.cell? ⟨gb, ib * 4 + 2, none⟩ = some (.string tb) ∧ W.cell? ⟨gb, ib * 4 + 3, none⟩ = some (.string tc))
                  (first | exact K _ (by assumption) | exact K _ (Below.drew (by assumption)))
                  (first
                    | (go_at_call 29; (with_reducible refine (cL1 (by first | assumption | exact Below.drew (by assumption))).mono ?_); rintro e wa ⟨rfl, hBa⟩)
                    | (go_at_call 29; (with_reducible refine (cL2 (by first | assumption | exact Below.drew (by assumption))).mono ?_); rintro e wb ⟨rfl, hBb⟩)))
              | fail
            all_goals
              (try go_wp2)
              first
                | (go_region_held3 (fun W => W.cell? ⟨w2.heap.size, 1, none⟩ = some (.slice (some ⟨gb, 0, none⟩) D.length c5) ∧ W.cell? ⟨gb, ia * 4, none⟩ = some (.int .i64 sk) ∧ W.cell? ⟨gb, ia * 4 + 1, none⟩ = some (.string sa) ∧ W.cell? ⟨gb, ia * 4 + 2, none⟩ = some (.string sb) ∧ W.cell? ⟨gb, ia * 4 + 3, none⟩ = some (.string sc) ∧ W.cell? ⟨gb, ib * 4, none⟩ = some (.int .i64 tk) ∧ W.cell? ⟨gb, ib * 4 + 1, none⟩ = some (.string ta) ∧ W.cell? ⟨gb, ib * 4 + 2, none⟩ = some (.string tb) ∧ W.cell? ⟨gb, ib * 4 + 3, none⟩ = some (.string tc))
                    (first | exact K _ (by assumption) | exact K _ (Below.drew (by assumption)))
                    (first
                      | (go_at_call 29; (with_reducible refine (cL1 (by first | assumption | exact Below.drew (by assumption))).mono ?_); rintro e wa ⟨rfl, hBa⟩)
                      | (go_at_call 29; (with_reducible refine (cL2 (by first | assumption | exact Below.drew (by assumption))).mono ?_); rintro e wb ⟨rfl, hBb⟩)))
                | fail
              all_goals
                go_wp2_with (first
                  | (go_at_call 28; (with_reducible refine (cCa (by first | assumption | exact Below.drew (by assumption))).mono ?_); rintro e wx ⟨rfl, rfl⟩)
                  | (go_at_call 28; (with_reducible refine (cCb (by first | assumption | exact Below.drew (by assumption))).mono ?_); rintro e wx ⟨rfl, rfl⟩)
                  | (go_at_call 30; (with_reducible refine (cO1 (by first | assumption | exact Below.drew (by assumption))).mono ?_); rintro e wp ⟨rfl, hBp⟩)
                  | (go_at_call 30; (with_reducible refine (cO2 (by first | assumption | exact Below.drew (by assumption))).mono ?_); rintro e wq ⟨rfl, hBq⟩; obtain ⟨s0, s1⟩ := KB _ hBq)
                  | (go_at_call 27; (with_reducible refine (cI (by first | assumption | exact Below.drew (by assumption))).mono ?_); rintro e wz ⟨rfl, hBz⟩))
                (try rw [Exit.noGoto_ret])
                go_ret
                exact ⟨rfl, HEND (by first | assumption | exact Below.drew (by assumption))⟩
          · obtain rfl : o2 = 0 := by omega
            clear hanti
            go_wp2_with (first
              | (go_at_call 28; (with_reducible refine (cCa (by first | assumption | exact Below.drew (by assumption))).mono ?_); rintro e wx ⟨rfl, rfl⟩)
              | (go_at_call 28; (with_reducible refine (cCb (by first | assumption | exact Below.drew (by assumption))).mono ?_); rintro e wx ⟨rfl, rfl⟩)
              | (go_at_call 30; (with_reducible refine (cO1 (by first | assumption | exact Below.drew (by assumption))).mono ?_); rintro e wp ⟨rfl, hBp⟩)
              | (go_at_call 30; (with_reducible refine (cO2 (by first | assumption | exact Below.drew (by assumption))).mono ?_); rintro e wq ⟨rfl, hBq⟩; obtain ⟨s0, s1⟩ := KB _ hBq)
              | (go_at_call 27; (with_reducible refine (cI (by first | assumption | exact Below.drew (by assumption))).mono ?_); rintro e wz ⟨rfl, hBz⟩))
            first
              | (go_region_held3 (fun W => W.cell? ⟨w2.heap.size, 1, none⟩ = some (.slice (some ⟨gb, 0, none⟩) D.length c5) ∧ W.cell? ⟨gb, ia * 4, none⟩ = some (.int .i64 sk) ∧ W.cell? ⟨gb, ia * 4 + 1, none⟩ = some (.string sa) ∧ W.cell? ⟨gb, ia * 4 + 2, none⟩ = some (.string sb) ∧ W.cell? ⟨gb, ia * 4 + 3, none⟩ = some (.string sc) ∧ W.cell? ⟨gb, ib * 4, none⟩ = some (.int .i64 tk) ∧ W.cell? ⟨gb, ib * 4 + 1, none⟩ = some (.string ta) ∧ W.cell? ⟨gb, ib * 4 + 2, none⟩ = some (.string tb) ∧ W.cell? ⟨gb, ib * 4 + 3, none⟩ = some (.string tc))
                  (first | exact K _ (by assumption) | exact K _ (Below.drew (by assumption)))
                  (first
                    | (go_at_call 29; (with_reducible refine (cL1 (by first | assumption | exact Below.drew (by assumption))).mono ?_); rintro e wa ⟨rfl, hBa⟩)
                    | (go_at_call 29; (with_reducible refine (cL2 (by first | assumption | exact Below.drew (by assumption))).mono ?_); rintro e wb ⟨rfl, hBb⟩)))
              | fail
            all_goals
              (try go_wp2)
              first
                | (go_region_held3 (fun W => W.cell? ⟨w2.heap.size, 1, none⟩ = some (.slice (some ⟨gb, 0, none⟩) D.length c5) ∧ W.cell? ⟨gb, ia * 4, none⟩ = some (.int .i64 sk) ∧ W.cell? ⟨gb, ia * 4 + 1, none⟩ = some (.string sa) ∧ W.cell? ⟨gb, ia * 4 + 2, none⟩ = some (.string sb) ∧ W.cell? ⟨gb, ia * 4 + 3, none⟩ = some (.string sc) ∧ W.cell? ⟨gb, ib * 4, none⟩ = some (.int .i64 tk) ∧ W.cell? ⟨gb, ib * 4 + 1, none⟩ = some (.string ta) ∧ W.cell? ⟨gb, ib * 4 + 2, none⟩ = some (.string tb) ∧ W.cell? ⟨gb, ib * 4 + 3, none⟩ = some (.string tc))
                    (first | exact K _ (by assumption) | exact K _ (Below.drew (by assumption)))
                    (first
                      | (go_at_call 29; (with_reducible refine (cL1 (by first | assumption | exact Below.drew (by assumption))).mono ?_); rintro e wa ⟨rfl, hBa⟩)
                      | (go_at_call 29; (with_reducible refine (cL2 (by first | assumption | exact Below.drew (by assumption))).mono ?_); rintro e wb ⟨rfl, hBb⟩)))
                | fail
              all_goals
                go_wp2_with (first
                  | (go_at_call 28; (with_reducible refine (cCa (by first | assumption | exact Below.drew (by assumption))).mono ?_); rintro e wx ⟨rfl, rfl⟩)
                  | (go_at_call 28; (with_reducible refine (cCb (by first | assumption | exact Below.drew (by assumption))).mono ?_); rintro e wx ⟨rfl, rfl⟩)
                  | (go_at_call 30; (with_reducible refine (cO1 (by first | assumption | exact Below.drew (by assumption))).mono ?_); rintro e wp ⟨rfl, hBp⟩)
                  | (go_at_call 30; (with_reducible refine (cO2 (by first | assumption | exact Below.drew (by assumption))).mono ?_); rintro e wq ⟨rfl, hBq⟩; obtain ⟨s0, s1⟩ := KB _ hBq)
                  | (go_at_call 27; (with_reducible refine (cI (by first | assumption | exact Below.drew (by assumption))).mono ?_); rintro e wz ⟨rfl, hBz⟩))
                (try rw [Exit.noGoto_ret])
                go_ret
                exact ⟨rfl, HEND (by first | assumption | exact Below.drew (by assumption))⟩
        | false =>
          have cO1 : ∀ {W : World}, Below wr.heap.size wr W → Calls Try.prog 30 #[.pointer (some ⟨d, 0, none⟩), .int .i64 a, .int .i64 b] W fun e w' => e = .returned (.int .i64 (-1)) ∧ Below wr.heap.size wr w' := fun {W} hb => (dorder_l (HK5.out.below hb).dc (by have := HLEN.out; omega) a b hA hB).mono fun _ _ ⟨x, y⟩ => ⟨x, hb.trans (y.mono hb.size)⟩
          have cO2 : ∀ {W : World}, Below wr.heap.size wr W → Calls Try.prog 30 #[.pointer (some ⟨d, 0, none⟩), .int .i64 b, .int .i64 a] W fun e w' => e = .returned (.int .i64 1) ∧ Below wr.heap.size wr w' := fun {W} hb => (dorder_r (HK5.out.below hb).dc (by have := HLEN.out; omega) b a hB hA).mono fun _ _ ⟨x, y⟩ => ⟨x, hb.trans (y.mono hb.size)⟩
          rw [hA] at cCa
          rw [hB] at cCb
          clear hig hK5 cC hlen hA hB
          go_wp2_with (first
            | (go_at_call 28; (with_reducible refine (cCa (by first | assumption | exact Below.drew (by assumption))).mono ?_); rintro e wx ⟨rfl, rfl⟩)
            | (go_at_call 28; (with_reducible refine (cCb (by first | assumption | exact Below.drew (by assumption))).mono ?_); rintro e wx ⟨rfl, rfl⟩)
            | (go_at_call 30; (with_reducible refine (cO1 (by first | assumption | exact Below.drew (by assumption))).mono ?_); rintro e wp ⟨rfl, hBp⟩)
            | (go_at_call 30; (with_reducible refine (cO2 (by first | assumption | exact Below.drew (by assumption))).mono ?_); rintro e wq ⟨rfl, hBq⟩; obtain ⟨s0, s1⟩ := KB _ hBq)
            | (go_at_call 27; (with_reducible refine (cI (by first | assumption | exact Below.drew (by assumption))).mono ?_); rintro e wz ⟨rfl, hBz⟩))
          (try rw [Exit.noGoto_ret])
          go_ret
          exact ⟨rfl, HEND (by first | assumption | exact Below.drew (by assumption))⟩
      | false =>
        cases hB : hasB D b with
        | true =>
          have cO1 : ∀ {W : World}, Below wr.heap.size wr W → Calls Try.prog 30 #[.pointer (some ⟨d, 0, none⟩), .int .i64 a, .int .i64 b] W fun e w' => e = .returned (.int .i64 1) ∧ Below wr.heap.size wr w' := fun {W} hb => (dorder_r (HK5.out.below hb).dc (by have := HLEN.out; omega) a b hA hB).mono fun _ _ ⟨x, y⟩ => ⟨x, hb.trans (y.mono hb.size)⟩
          have cO2 : ∀ {W : World}, Below wr.heap.size wr W → Calls Try.prog 30 #[.pointer (some ⟨d, 0, none⟩), .int .i64 b, .int .i64 a] W fun e w' => e = .returned (.int .i64 (-1)) ∧ Below wr.heap.size wr w' := fun {W} hb => (dorder_l (HK5.out.below hb).dc (by have := HLEN.out; omega) b a hB hA).mono fun _ _ ⟨x, y⟩ => ⟨x, hb.trans (y.mono hb.size)⟩
          rw [hA] at cCa
          rw [hB] at cCb
          clear hig hK5 cC hlen hA hB
          go_wp2_with (first
            | (go_at_call 28; (with_reducible refine (cCa (by first | assumption | exact Below.drew (by assumption))).mono ?_); rintro e wx ⟨rfl, rfl⟩)
            | (go_at_call 28; (with_reducible refine (cCb (by first | assumption | exact Below.drew (by assumption))).mono ?_); rintro e wx ⟨rfl, rfl⟩)
            | (go_at_call 30; (with_reducible refine (cO1 (by first | assumption | exact Below.drew (by assumption))).mono ?_); rintro e wp ⟨rfl, hBp⟩)
            | (go_at_call 30; (with_reducible refine (cO2 (by first | assumption | exact Below.drew (by assumption))).mono ?_); rintro e wq ⟨rfl, hBq⟩; obtain ⟨s0, s1⟩ := KB _ hBq)
            | (go_at_call 27; (with_reducible refine (cI (by first | assumption | exact Below.drew (by assumption))).mono ?_); rintro e wz ⟨rfl, hBz⟩))
          (try rw [Exit.noGoto_ret])
          go_ret
          exact ⟨rfl, HEND (by first | assumption | exact Below.drew (by assumption))⟩
        | false =>
          have cO1 : ∀ {W : World}, Below wr.heap.size wr W → Calls Try.prog 30 #[.pointer (some ⟨d, 0, none⟩), .int .i64 a, .int .i64 b] W fun e w' => e = .returned (.int .i64 (ordT a b)) ∧ Below wr.heap.size wr w' := fun {W} hb => (dorder_none (HK5.out.below hb).dc (by have := HLEN.out; omega) a b hA hB).mono fun _ _ ⟨x, y⟩ => ⟨x, hb.trans (y.mono hb.size)⟩
          have cO2 : ∀ {W : World}, Below wr.heap.size wr W → Calls Try.prog 30 #[.pointer (some ⟨d, 0, none⟩), .int .i64 b, .int .i64 a] W fun e w' => e = .returned (.int .i64 (ordT b a)) ∧ Below wr.heap.size wr w' := fun {W} hb => (dorder_none (HK5.out.below hb).dc (by have := HLEN.out; omega) b a hB hA).mono fun _ _ ⟨x, y⟩ => ⟨x, hb.trans (y.mono hb.size)⟩
          rcases Int.lt_trichotomy a b with hab | hab | hab
          · rw [show ordT a b = -1 by unfold ordT; rw [if_pos hab]] at cO1
            rw [show ordT b a = 1 by unfold ordT; rw [if_neg (by omega), if_pos hab]] at cO2
            rw [hA] at cCa
            rw [hB] at cCb
            clear hig hK5 cC hlen hA hB
            go_wp2_with (first
              | (go_at_call 28; (with_reducible refine (cCa (by first | assumption | exact Below.drew (by assumption))).mono ?_); rintro e wx ⟨rfl, rfl⟩)
              | (go_at_call 28; (with_reducible refine (cCb (by first | assumption | exact Below.drew (by assumption))).mono ?_); rintro e wx ⟨rfl, rfl⟩)
              | (go_at_call 30; (with_reducible refine (cO1 (by first | assumption | exact Below.drew (by assumption))).mono ?_); rintro e wp ⟨rfl, hBp⟩)
              | (go_at_call 30; (with_reducible refine (cO2 (by first | assumption | exact Below.drew (by assumption))).mono ?_); rintro e wq ⟨rfl, hBq⟩; obtain ⟨s0, s1⟩ := KB _ hBq)
              | (go_at_call 27; (with_reducible refine (cI (by first | assumption | exact Below.drew (by assumption))).mono ?_); rintro e wz ⟨rfl, hBz⟩))
            (try rw [Exit.noGoto_ret])
            go_ret
            exact ⟨rfl, HEND (by first | assumption | exact Below.drew (by assumption))⟩
          · rw [show ordT a b = 0 by unfold ordT; rw [if_neg (by omega), if_neg (by omega)]] at cO1
            rw [show ordT b a = 0 by unfold ordT; rw [if_neg (by omega), if_neg (by omega)]] at cO2
            have hx1 : ¬ a < b := by omega
            have hx2 : ¬ b < a := by omega
            clear hab
            rw [hA] at cCa
            rw [hB] at cCb
            clear hig hK5 cC hlen hA hB
            go_wp2_with (first
              | (go_at_call 28; (with_reducible refine (cCa (by first | assumption | exact Below.drew (by assumption))).mono ?_); rintro e wx ⟨rfl, rfl⟩)
              | (go_at_call 28; (with_reducible refine (cCb (by first | assumption | exact Below.drew (by assumption))).mono ?_); rintro e wx ⟨rfl, rfl⟩)
              | (go_at_call 30; (with_reducible refine (cO1 (by first | assumption | exact Below.drew (by assumption))).mono ?_); rintro e wp ⟨rfl, hBp⟩)
              | (go_at_call 30; (with_reducible refine (cO2 (by first | assumption | exact Below.drew (by assumption))).mono ?_); rintro e wq ⟨rfl, hBq⟩; obtain ⟨s0, s1⟩ := KB _ hBq)
              | (go_at_call 27; (with_reducible refine (cI (by first | assumption | exact Below.drew (by assumption))).mono ?_); rintro e wz ⟨rfl, hBz⟩))
            (try rw [Exit.noGoto_ret])
            go_ret
            exact ⟨rfl, HEND (by first | assumption | exact Below.drew (by assumption))⟩
          · rw [show ordT a b = 1 by unfold ordT; rw [if_neg (by omega), if_pos hab]] at cO1
            rw [show ordT b a = -1 by unfold ordT; rw [if_pos hab]] at cO2
            have hx1 : ¬ a < b := by omega
            rw [hA] at cCa
            rw [hB] at cCb
            clear hig hK5 cC hlen hA hB
            go_wp2_with (first
              | (go_at_call 28; (with_reducible refine (cCa (by first | assumption | exact Below.drew (by assumption))).mono ?_); rintro e wx ⟨rfl, rfl⟩)
              | (go_at_call 28; (with_reducible refine (cCb (by first | assumption | exact Below.drew (by assumption))).mono ?_); rintro e wx ⟨rfl, rfl⟩)
              | (go_at_call 30; (with_reducible refine (cO1 (by first | assumption | exact Below.drew (by assumption))).mono ?_); rintro e wp ⟨rfl, hBp⟩)
              | (go_at_call 30; (with_reducible refine (cO2 (by first | assumption | exact Below.drew (by assumption))).mono ?_); rintro e wq ⟨rfl, hBq⟩; obtain ⟨s0, s1⟩ := KB _ hBq)
              | (go_at_call 27; (with_reducible refine (cI (by first | assumption | exact Below.drew (by assumption))).mono ?_); rintro e wz ⟨rfl, hBz⟩))
            (try rw [Exit.noGoto_ret])
            go_ret
            exact ⟨rfl, HEND (by first | assumption | exact Below.drew (by assumption))⟩
    | succ g =>
      have hin : (i : Int) < (n : Int) := by omega
      have hiz : (0 : Int) ≤ (i : Int) := by omega
      obtain ⟨k, ta0, tb0, tc0, hkb, hti, hfew, hcell⟩ := HEL.out i (by omega)
      obtain ⟨gg, og, rfl, q0, q1, q2, q3⟩ := hcell (HB1.out.trans (hK5.b.mono HB1.out.size))
      obtain ⟨A5, c5, rfl⟩ := hK5.dl.shape
      have hC0 := Uw.mk' hK5 k ta0 tb0 tc0
      have cS := dshort_any k ta0 tb0 tc0
      have hi9 : i < 20 := by have := HN.out; omega
      obtain ⟨x0, x1, x2, x3⟩ := hC0.cells
      cases hsh : shortD ta0 tb0 tc0 with
      | false =>
        rw [hsh] at cS
        clear hcell hfew hti hkb hsh
        go_wp2_with (go_at_call 10; (with_reducible refine (cS _).mono ?_); rintro e w6 ⟨rfl, hb6⟩)
        (try rw [Exit.noGoto_ret])
        go_ret
        exact ⟨rfl, HB1.out.trans ((hC0.below hb6).uk.b.mono HB1.out.size)⟩
      | true =>
        rw [hsh] at cS
        have cPl := plain3_any k hkb ta0 tb0 tc0
        have cR := pl3_real k ta0 tb0 tc0
        have hfw := hfew hsh
        have hkd := pl3_kind k ta0 tb0 tc0
        have hlen := dicts_len 20 ts i
        have hstp := dicts_some 20 hti
        have hgd := hK5.gd.put hfw 20
        have hl5 : (dicts 20 ts i).length ≤ 100000 := by omega
        have cPu : ∀ {W : World} {v : Value}, w1.heap.size ≤ W.heap.size → Dc w1.heap.size d m 20 v (dicts 20 ts i) W → Calls Try.prog 14 #[.pointer (some ⟨d, 0, none⟩), (pl3 k ta0 tb0 tc0).val] W (PutPost w1.heap.size d m 20 v W (putP 20 (dicts 20 ts i) (pl3 k ta0 tb0 tc0))) := fun {W v} hb h => dput_any h hb hl5 _ hfw
        have cU : ∀ {W : World} {u : Value}, w1.heap.size ≤ W.heap.size → DtL w1.heap.size W u (dicts 20 ts i) → Calls Try.prog 13 #[.agg #[.int .i64 20, u], T4 (pl3 k ta0 tb0 tc0)] W (EPutPost w1.heap.size W 20 (putP 20 (dicts 20 ts i) (pl3 k ta0 tb0 tc0))) := fun {W u} hb h => eput_any h hb hK5.dc.ks hl5 20 _ hkd hfw
        have hst : ∀ (v u : Value) (s : Value) (W : World), s = .int .i64 ((i + 1 : Nat) : Int) → Uk w1 d m w2.heap.size v (putP 20 (dicts 20 ts i) (pl3 k ta0 tb0 tc0)).1 u W → Ui w1 d m w2.heap.size ts n g s W := fun v u s W hs h => by
          rw [← hstp] at h
          exact ⟨i + 1, v, u, by omega, hs, h⟩
        unfold T4 at cPl cR cU
        generalize putP 20 (dicts 20 ts i) (pl3 k ta0 tb0 tc0) = r at cPu cU hst hgd
        obtain ⟨r1, r2, r3⟩ := r
        dsimp only at hst hgd
        unfold PutPost at cPu
        unfold EPutPost at cU
        dsimp only at cPu cU
        have HSTP := Lib.hid hst
        generalize (pl3 k ta0 tb0 tc0).val = tv at cR cPu
        generalize (pl3 k ta0 tb0 tc0).kind = tk at *
        generalize (pl3 k ta0 tb0 tc0).ta = ta at *
        generalize (pl3 k ta0 tb0 tc0).tb = tb at *
        generalize (pl3 k ta0 tb0 tc0).tc = tc at *
        generalize dicts 20 ts i = D at *
        have HGD := Lib.hid hgd
        clear hcell hfew hti hkb hsh hfw hst hig hkd hlen hstp hl5 hgd
        go_wp2_with (first
          | (go_at_call 10; (with_reducible refine (cS _).mono ?_); rintro e w6 ⟨rfl, hb6⟩; have hC6 := hC0.below hb6; obtain ⟨x0, x1, x2, x3⟩ := hC6.cells)
          | (go_at_call 11; (with_reducible refine (cPl _).mono ?_); rintro e w7 ⟨rfl, hb7⟩; have hC8 := Uw.mk' (hC6.below hb7).uk tk ta tb tc; obtain ⟨z0, z1, z2, z3⟩ := hC8.cells)
          | (go_at_call 12; (with_reducible refine (cR _).mono ?_); rintro e w11 ⟨rfl, hb11⟩; have hC11 := hC8.below hb11)
          | (go_at_call 14; (with_reducible refine (cPu hC11.uk.b.size hC11.uk.dc).mono ?_); rintro e w12 ⟨v12, rfl, hD12, hT12⟩; have hC12 := hC11.turn hD12 hT12; obtain ⟨j0, j1, j2, j3, j4, j5⟩ := hC12.cells)
          | (go_at_call 13; (with_reducible refine (cU hC12.bw.size hC12.dl).mono ?_); rintro e w13 ⟨u9, rfl, hdl9, hb9⟩; obtain ⟨A9, c9, rfl⟩ := hdl9.shape; have hC13 := hC12.below hb9; obtain ⟨f0, f1, f2⟩ := hC13.free; obtain ⟨y0, y1, y2, y3, y4, y5⟩ := hC13.cells))
        go_roundg g
        case measure => exact Nat.lt_succ_self g
        case rel => exact HSTP.out _ _ _ _ (by first | rfl | (rw [IntWalk.wrap64_in _ ⟨by omega, by omega⟩, Int.natCast_succ])) (by first | exact hC13.fin hdl9 HGD.out | exact Uk.drew (hC13.fin hdl9 HGD.out))
end Go.Proofs.Ytpnfjjgihkmjmaa
