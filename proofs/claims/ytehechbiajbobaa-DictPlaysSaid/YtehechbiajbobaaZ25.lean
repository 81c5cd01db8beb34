/-
  MERGED (a claim has at most 60 files): ETri.
-/
import Derived.Test.YtehechbiajbobaaZ22
import Derived.Test.YtehechbiajbobaaZ24
import Derived.Test.YtehechbiajbobaaZ16
/-
  THE DOCUMENT's DICTIONARY: Triple.
-/
namespace Go.Proofs.Ytehechbiajbobaa
open Go.RowKit
set_option linter.unusedVariables false
set_option linter.unusedSimpArgs false
set_option maxRecDepth 100000

def ETriPost (W : World) (r : (Tm × Tm × Tm) × Int) (e : Ending) (w' : World) : Prop := ∃ a b c : Tm, e = .returned (.tuple #[T12 a b c, .int .i64 r.2]) ∧ (r.2 = 0 → r.1 = (a, b, c)) ∧ Below W.heap.size W w'
/-- The boxes: the dictionary's, the key's, the result's. -/
structure Et3 (W : World) (g : Nat) (room : Int) (v : Value) (n0 n1 n2 : Int) (w : World) : Prop where
  b : Below W.heap.size W w
  x2 : Fb w g 30 #[.int .i64 room, v]
  x3 : Fb w (g + 1) 35 #[.int .i64 n0, .int .i64 n1, .int .i64 n2]
  x4 : Fb w (g + 2) 34 #[.int .i64 0, .string mt, .string mt, .string mt, .int .i64 0, .string mt, .string mt, .string mt, .int .i64 0, .string mt, .string mt, .string mt]
  hg : W.heap.size ≤ g
section
variable {W : World} {g : Nat} {room : Int} {v : Value} {n0 n1 n2 : Int}
theorem Et3.below {w w' : World} (h : Et3 W g room v n0 n1 n2 w) (hb : Below w.heap.size w w') : Et3 W g room v n0 n1 n2 w' := ⟨h.b.trans (hb.mono h.b.size), h.x2.below hb, h.x3.below hb, h.x4.below hb, h.hg⟩
theorem Et3.drewN {w : World} (h : Et3 W g room v n0 n1 n2 w) (q : Nat) : Et3 W g room v n0 n1 n2 (w.drewN q) := h.below ⟨rfl, rfl, rfl, Nat.le_refl _, fun _ _ => rfl⟩
theorem Et3.c {w : World} (h : Et3 W g room v n0 n1 n2 w) : w.cell? ⟨g, 1, none⟩ = some v ∧ w.cell? ⟨g + 1, 0, none⟩ = some (.int .i64 n0) ∧ w.cell? ⟨g + 1, 1, none⟩ = some (.int .i64 n1) ∧ w.cell? ⟨g + 1, 2, none⟩ = some (.int .i64 n2) := ⟨h.x2.cell 1, h.x3.cell 0, h.x3.cell 1, h.x3.cell 2⟩
end
/-- A zero triple in the document's. -/
abbrev Tz12 : Tm × Tm × Tm := (.blank mt, .blank mt, .blank mt)
theorem Fb.set12 {w : World} {g : Nat} {t : TypeId} {cs : Array Value} (h : Fb w g t cs) (i : Nat) (x : Value) : Fb (w.setCell ⟨g, i, none⟩ x) g t (cs.setIfInBounds i x) := heap_setCell_same w g i _ _ _ h
/-- Twelve cells written. -/
def set12 (w : World) (g : Nat) (x0 x1 x2 x3 x4 x5 x6 x7 x8 x9 x10 x11 : Value) : World := ((((((((((((w.setCell ⟨g, 0, none⟩ x0).setCell ⟨g, 1, none⟩ x1).setCell ⟨g, 2, none⟩ x2).setCell ⟨g, 3, none⟩ x3).setCell ⟨g, 4, none⟩ x4).setCell ⟨g, 5, none⟩ x5).setCell ⟨g, 6, none⟩ x6).setCell ⟨g, 7, none⟩ x7).setCell ⟨g, 8, none⟩ x8).setCell ⟨g, 9, none⟩ x9).setCell ⟨g, 10, none⟩ x10).setCell ⟨g, 11, none⟩ x11)
set_option maxHeartbeats 4000000 in
theorem set12_fb {w : World} {g : Nat} {t : TypeId} {y0 y1 y2 y3 y4 y5 y6 y7 y8 y9 ya yb : Value} (h : Fb w g t #[y0, y1, y2, y3, y4, y5, y6, y7, y8, y9, ya, yb]) (x0 x1 x2 x3 x4 x5 x6 x7 x8 x9 x10 x11 : Value) : Fb (set12 w g x0 x1 x2 x3 x4 x5 x6 x7 x8 x9 x10 x11) g t #[x0, x1, x2, x3, x4, x5, x6, x7, x8, x9, x10, x11] := by
  have h0 : Fb (w.setCell ⟨g, 0, none⟩ x0) g t #[x0, y1, y2, y3, y4, y5, y6, y7, y8, y9, ya, yb] := Fb.set12 h 0 x0
  have h1 : Fb ((w.setCell ⟨g, 0, none⟩ x0).setCell ⟨g, 1, none⟩ x1) g t #[x0, x1, y2, y3, y4, y5, y6, y7, y8, y9, ya, yb] := Fb.set12 h0 1 x1
  have h2 : Fb (((w.setCell ⟨g, 0, none⟩ x0).setCell ⟨g, 1, none⟩ x1).setCell ⟨g, 2, none⟩ x2) g t #[x0, x1, x2, y3, y4, y5, y6, y7, y8, y9, ya, yb] := Fb.set12 h1 2 x2
  have h3 : Fb ((((w.setCell ⟨g, 0, none⟩ x0).setCell ⟨g, 1, none⟩ x1).setCell ⟨g, 2, none⟩ x2).setCell ⟨g, 3, none⟩ x3) g t #[x0, x1, x2, x3, y4, y5, y6, y7, y8, y9, ya, yb] := Fb.set12 h2 3 x3
  have h4 : Fb (((((w.setCell ⟨g, 0, none⟩ x0).setCell ⟨g, 1, none⟩ x1).setCell ⟨g, 2, none⟩ x2).setCell ⟨g, 3, none⟩ x3).setCell ⟨g, 4, none⟩ x4) g t #[x0, x1, x2, x3, x4, y5, y6, y7, y8, y9, ya, yb] := Fb.set12 h3 4 x4
  have h5 : Fb ((((((w.setCell ⟨g, 0, none⟩ x0).setCell ⟨g, 1, none⟩ x1).setCell ⟨g, 2, none⟩ x2).setCell ⟨g, 3, none⟩ x3).setCell ⟨g, 4, none⟩ x4).setCell ⟨g, 5, none⟩ x5) g t #[x0, x1, x2, x3, x4, x5, y6, y7, y8, y9, ya, yb] := Fb.set12 h4 5 x5
  have h6 : Fb (((((((w.setCell ⟨g, 0, none⟩ x0).setCell ⟨g, 1, none⟩ x1).setCell ⟨g, 2, none⟩ x2).setCell ⟨g, 3, none⟩ x3).setCell ⟨g, 4, none⟩ x4).setCell ⟨g, 5, none⟩ x5).setCell ⟨g, 6, none⟩ x6) g t #[x0, x1, x2, x3, x4, x5, x6, y7, y8, y9, ya, yb] := Fb.set12 h5 6 x6
  have h7 : Fb ((((((((w.setCell ⟨g, 0, none⟩ x0).setCell ⟨g, 1, none⟩ x1).setCell ⟨g, 2, none⟩ x2).setCell ⟨g, 3, none⟩ x3).setCell ⟨g, 4, none⟩ x4).setCell ⟨g, 5, none⟩ x5).setCell ⟨g, 6, none⟩ x6).setCell ⟨g, 7, none⟩ x7) g t #[x0, x1, x2, x3, x4, x5, x6, x7, y8, y9, ya, yb] := Fb.set12 h6 7 x7
  have h8 : Fb (((((((((w.setCell ⟨g, 0, none⟩ x0).setCell ⟨g, 1, none⟩ x1).setCell ⟨g, 2, none⟩ x2).setCell ⟨g, 3, none⟩ x3).setCell ⟨g, 4, none⟩ x4).setCell ⟨g, 5, none⟩ x5).setCell ⟨g, 6, none⟩ x6).setCell ⟨g, 7, none⟩ x7).setCell ⟨g, 8, none⟩ x8) g t #[x0, x1, x2, x3, x4, x5, x6, x7, x8, y9, ya, yb] := Fb.set12 h7 8 x8
  have h9 : Fb ((((((((((w.setCell ⟨g, 0, none⟩ x0).setCell ⟨g, 1, none⟩ x1).setCell ⟨g, 2, none⟩ x2).setCell ⟨g, 3, none⟩ x3).setCell ⟨g, 4, none⟩ x4).setCell ⟨g, 5, none⟩ x5).setCell ⟨g, 6, none⟩ x6).setCell ⟨g, 7, none⟩ x7).setCell ⟨g, 8, none⟩ x8).setCell ⟨g, 9, none⟩ x9) g t #[x0, x1, x2, x3, x4, x5, x6, x7, x8, x9, ya, yb] := Fb.set12 h8 9 x9
  have h10 : Fb (((((((((((w.setCell ⟨g, 0, none⟩ x0).setCell ⟨g, 1, none⟩ x1).setCell ⟨g, 2, none⟩ x2).setCell ⟨g, 3, none⟩ x3).setCell ⟨g, 4, none⟩ x4).setCell ⟨g, 5, none⟩ x5).setCell ⟨g, 6, none⟩ x6).setCell ⟨g, 7, none⟩ x7).setCell ⟨g, 8, none⟩ x8).setCell ⟨g, 9, none⟩ x9).setCell ⟨g, 10, none⟩ x10) g t #[x0, x1, x2, x3, x4, x5, x6, x7, x8, x9, x10, yb] := Fb.set12 h9 10 x10
  have h11 : Fb ((((((((((((w.setCell ⟨g, 0, none⟩ x0).setCell ⟨g, 1, none⟩ x1).setCell ⟨g, 2, none⟩ x2).setCell ⟨g, 3, none⟩ x3).setCell ⟨g, 4, none⟩ x4).setCell ⟨g, 5, none⟩ x5).setCell ⟨g, 6, none⟩ x6).setCell ⟨g, 7, none⟩ x7).setCell ⟨g, 8, none⟩ x8).setCell ⟨g, 9, none⟩ x9).setCell ⟨g, 10, none⟩ x10).setCell ⟨g, 11, none⟩ x11) g t #[x0, x1, x2, x3, x4, x5, x6, x7, x8, x9, x10, x11] := Fb.set12 h10 11 x11
  exact h11
set_option maxHeartbeats 4000000 in
theorem set12_below {B : Nat} {W w : World} {g : Nat} (h : Below B W w) (hg : B ≤ g) (x0 x1 x2 x3 x4 x5 x6 x7 x8 x9 x10 x11 : Value) : Below B W (set12 w g x0 x1 x2 x3 x4 x5 x6 x7 x8 x9 x10 x11) := (Below.setCell (Below.setCell (Below.setCell (Below.setCell (Below.setCell (Below.setCell (Below.setCell (Below.setCell (Below.setCell (Below.setCell (Below.setCell (Below.setCell h (p := ⟨g, 0, none⟩) hg x0) (p := ⟨g, 1, none⟩) hg x1) (p := ⟨g, 2, none⟩) hg x2) (p := ⟨g, 3, none⟩) hg x3) (p := ⟨g, 4, none⟩) hg x4) (p := ⟨g, 5, none⟩) hg x5) (p := ⟨g, 6, none⟩) hg x6) (p := ⟨g, 7, none⟩) hg x7) (p := ⟨g, 8, none⟩) hg x8) (p := ⟨g, 9, none⟩) hg x9) (p := ⟨g, 10, none⟩) hg x10) (p := ⟨g, 11, none⟩) hg x11)
theorem etri_err {W w' : World} {r : (Tm × Tm × Tm) × Int} {e : Int} (hr : r = ((.none, .none, .none), e)) (he : e ≠ 0) (hb : Below W.heap.size W w') : ETriPost W r (.returned (.tuple #[T12 (.blank mt) (.blank mt) (.blank mt), .int .i64 e])) w' := by
  subst hr
  exact ⟨.blank mt, .blank mt, .blank mt, rfl, fun h => absurd h he, hb⟩
theorem below_drewE {B : Nat} {W0 W : World} (h : Below B W0 W) (q : Nat) : Below B W0 (W.drewN q) := ⟨h.os, h.tape, h.output, h.size, h.block⟩
def EtI (W2 W : World) (g : Nat) (room : Int) (v : Value) (n0 n1 n2 : Int) (b0 b1 b2 : Bool) (gk : Nat) (s8 : Value) (wr : World) : Prop :=
  Et3 W g room v n0 n1 n2 wr ∧ Below W2.heap.size W2 wr ∧ ((gk = 3 ∧ s8 = .int .i64 0) ∨ (gk = 2 ∧ s8 = .int .i64 1 ∧ Hid (b0 = true)) ∨ (gk = 1 ∧ s8 = .int .i64 2 ∧ Hid (b0 = true ∧ b1 = true)) ∨ (gk = 0 ∧ s8 = .int .i64 3 ∧ Hid (b0 = true ∧ b1 = true ∧ b2 = true)))
set_option maxHeartbeats 16000000 in
theorem etriple_any {B : Nat} {W : World} {v : Value} {L : List Tm} (hL : DtL B W v L) (hl : L.length ≤ 90000) (hf : ∀ t ∈ L, t.few) (room n0 n1 n2 : Int) :
    Calls Try.prog 18 #[.agg #[.int .i64 room, v], .agg #[.int .i64 n0, .int .i64 n1, .int .i64 n2]] W (ETriPost W (tripD L n0 n1 n2)) := by
  obtain ⟨A, c, rfl⟩ := hL.shape
  obtain ⟨W2, hW2⟩ : ∃ W2, W2 = ((W.alloc (.cells #[.int .i64 room, .slice A L.length c] 30)).alloc (.cells #[.int .i64 n0, .int .i64 n1, .int .i64 n2] 35)).alloc (.cells #[.int .i64 0, .string mt, .string mt, .string mt, .int .i64 0, .string mt, .string mt, .string mt, .int .i64 0, .string mt, .string mt, .string mt] 34) := ⟨_, rfl⟩
  obtain ⟨g, hg⟩ : ∃ g, g = W.heap.size := ⟨_, rfl⟩
  have hE0 : Et3 W g room (.slice A L.length c) n0 n1 n2 W2 := by
    have h2 := Fb.new W 30 #[.int .i64 room, .slice A L.length c]
    have h3 := Fb.new (W.alloc (.cells #[.int .i64 room, .slice A L.length c] 30)) 35 #[.int .i64 n0, .int .i64 n1, .int .i64 n2]
    have h4 := Fb.new ((W.alloc (.cells #[.int .i64 room, .slice A L.length c] 30)).alloc (.cells #[.int .i64 n0, .int .i64 n1, .int .i64 n2] 35)) 34 #[.int .i64 0, .string mt, .string mt, .string mt, .int .i64 0, .string mt, .string mt, .string mt, .int .i64 0, .string mt, .string mt, .string mt]
    rw [hW2, hg]
    refine ⟨(((Below.refl _ _).alloc (Nat.le_refl _) _).alloc (by simp) _).alloc (by simp; omega) _, (h2.alloc _).alloc _, ?_, ?_, Nat.le_refl _⟩
    · simpa using h3.alloc _
    · simpa using h4
  have hD2 : DtL B W2 (.slice A L.length c) L := hL.below ⟨hE0.b.os, hE0.b.tape, hE0.b.output, hE0.b.size, hE0.b.block⟩
  have HE0 := Lib.hid hE0
  have HD2 := Lib.hid hD2
  have HF := Lib.hid hf
  have HN := Lib.hid hl
  have HG := Lib.hid hg
  obtain ⟨r, hr⟩ : ∃ r, r = tripD L n0 n1 n2 := ⟨_, rfl⟩
  rw [← hr]
  unfold tripD at hr
  have hpres := fun (h : hasB L n0 = true ∧ hasB L n1 = true ∧ hasB L n2 = true) => (⟨atN_of h.1, atN_of h.2.1, atN_of h.2.2⟩ : (∃ i : Nat, n0 = i ∧ L[i]? = some (atN L n0)) ∧ (∃ i : Nat, n1 = i ∧ L[i]? = some (atN L n1)) ∧ (∃ i : Nat, n2 = i ∧ L[i]? = some (atN L n2)))
  have e0 : hasB L n0 = decide (0 ≤ n0 ∧ n0 < L.length) := by rw [Bool.eq_iff_iff, hasB_iff]; simp
  have e1 : hasB L n1 = decide (0 ≤ n1 ∧ n1 < L.length) := by rw [Bool.eq_iff_iff, hasB_iff]; simp
  have e2 : hasB L n2 = decide (0 ≤ n2 ∧ n2 < L.length) := by rw [Bool.eq_iff_iff, hasB_iff]; simp
  generalize hasB L n0 = b0 at *
  generalize hasB L n1 = b1 at *
  generalize hasB L n2 = b2 at *
  have HR := Lib.hid hr
  have HP := Lib.hid hpres
  have E0 := Lib.hid e0
  have E1 := Lib.hid e1
  have E2 := Lib.hid e2
  have hst : EtI W2 W g room (.slice A L.length c) n0 n1 n2 b0 b1 b2 3 (.int .i64 0) W2 := ⟨hE0, Below.refl _ _, .inl ⟨rfl, rfl⟩⟩
  have HST := Lib.hid hst
  clear hr hpres hL hf hl hE0 hD2 e0 e1 e2 hst
  go_enter Try.func18, Try.ntmps18
  go_wp2
  rw [← hW2]
  rw [← hg]
  clear hW2 hg
  go_loopg [8] 3 (fun gk s8 wr => EtI W2 W g room (.slice A L.length c) n0 n1 n2 b0 b1 b2 gk s8 wr)
  case atStart => exact HST.out
  case round =>
    clear HST
    obtain ⟨hE, hbw, hw⟩ := hrel
    have HE := Lib.hid hE
    have HBW := Lib.hid hbw
    obtain ⟨c1, k0, k1, k2⟩ := hE.c
    rcases hw with ⟨rfl, rfl⟩ | ⟨rfl, rfl, HZ⟩ | ⟨rfl, rfl, HZ⟩ | ⟨rfl, rfl, HZ⟩
    · by_cases h0 : 0 ≤ n0
      · by_cases h1 : n0 < (L.length : Int)
        · have HQ := Lib.hid (show b0 = true from by rw [E0.out]; exact decide_eq_true ⟨h0, h1⟩)
          have d1 : decide (n0 < 0) = false := decide_eq_false (by omega)
          have d2 : decide ((L.length : Int) ≤ n0) = false := decide_eq_false (by omega)
          have d3 : ¬ (L.length : Int) ≤ n0 := by omega
          have d4 : ¬ n0 < 0 := by omega
          clear hE hbw
          go_wp2
          go_quiet (fail)
          go_wp2
          go_roundg 2
          case measure => exact Nat.lt_succ_self _
          case rel => exact ⟨HE.out.drewN _, below_drewE HBW.out _, .inr (.inl ⟨rfl, rfl, Lib.hid HQ.out⟩)⟩
        · have HQ := Lib.hid (show b0 = false from by rw [E0.out]; exact decide_eq_false (fun h => h1 h.2))
          have d1 : decide (n0 < 0) = false := decide_eq_false (by omega)
          have d2 : decide ((L.length : Int) ≤ n0) = true := decide_eq_true (by omega)
          have d3 : (L.length : Int) ≤ n0 := by omega
          have d4 : ¬ n0 < 0 := by omega
          clear hE hbw
          go_wp2
          go_quiet (fail)
          have hx4 := (HE.out.drewN nq).x4
          have HBL := Lib.hid (HE.out.drewN nq).b
          have y0 := hx4.cell 0
          have yf0 := d_free hx4 0
          have y1 := hx4.cell 1
          have yf1 := d_free hx4 1
          have y2 := hx4.cell 2
          have yf2 := d_free hx4 2
          have y3 := hx4.cell 3
          have yf3 := d_free hx4 3
          have y4 := hx4.cell 4
          have yf4 := d_free hx4 4
          have y5 := hx4.cell 5
          have yf5 := d_free hx4 5
          have y6 := hx4.cell 6
          have yf6 := d_free hx4 6
          have y7 := hx4.cell 7
          have yf7 := d_free hx4 7
          have y8 := hx4.cell 8
          have yf8 := d_free hx4 8
          have y9 := hx4.cell 9
          have yf9 := d_free hx4 9
          have y10 := hx4.cell 10
          have yf10 := d_free hx4 10
          have y11 := hx4.cell 11
          have yf11 := d_free hx4 11
          have yl := hx4.lt
          have hBE := (HE.out.drewN nq).b
          go_wp2
          (try rw [Exit.noGoto_ret])
          have hr2 : r = ((.none, .none, .none), 4) := by rw [HR.out, if_neg (fun h => by have := h.1; rw [HQ.out] at this; cases this)]
          refine (show bodyPost _ _ _ _ _ (set12 (wr.drewN nq) (g + 2) (.int .i64 0) (.string mt) (.string mt) (.string mt) (.int .i64 0) (.string mt) (.string mt) (.string mt) (.int .i64 0) (.string mt) (.string mt) (.string mt)) from ?_)
          have hz9 := set12_fb hx4 (.int .i64 0) (.string mt) (.string mt) (.string mt) (.int .i64 0) (.string mt) (.string mt) (.string mt) (.int .i64 0) (.string mt) (.string mt) (.string mt)
          have hb9f := set12_below (hBE) (show W.heap.size ≤ g + 2 from Nat.le_trans HE0.out.hg (by omega)) (.int .i64 0) (.string mt) (.string mt) (.string mt) (.int .i64 0) (.string mt) (.string mt) (.string mt) (.int .i64 0) (.string mt) (.string mt) (.string mt)
          have y0 := hz9.cell 0
          have y1 := hz9.cell 1
          have y2 := hz9.cell 2
          have y3 := hz9.cell 3
          have y4 := hz9.cell 4
          have y5 := hz9.cell 5
          have y6 := hz9.cell 6
          have y7 := hz9.cell 7
          have y8 := hz9.cell 8
          have y9 := hz9.cell 9
          have y10 := hz9.cell 10
          have y11 := hz9.cell 11
          have yl := hz9.lt
          generalize set12 (wr.drewN nq) (g + 2) (.int .i64 0) (.string mt) (.string mt) (.string mt) (.int .i64 0) (.string mt) (.string mt) (.string mt) (.int .i64 0) (.string mt) (.string mt) (.string mt) = wf at *
          exact bodyPost_ret (v := .tuple #[T12 (.blank mt) (.blank mt) (.blank mt), .int .i64 4]) (by simp [results, Try.results18, go_sem, T12, Tm.kind, Tm.ta, Tm.tb, Tm.tc, y0, y1, y2, y3, y4, y5, y6, y7, y8, y9, y10, y11, yl]) rfl (etri_err hr2 (by decide) hb9f)
      · have HQ := Lib.hid (show b0 = false from by rw [E0.out]; exact decide_eq_false (fun h => h0 h.1))
        have d1 : decide (n0 < 0) = true := decide_eq_true (by omega)
        have d4 : n0 < 0 := by omega
        clear hE hbw
        go_wp2
        go_quiet (fail)
        have hx4 := (HE.out.drewN nq).x4
        have HBL := Lib.hid (HE.out.drewN nq).b
        have y0 := hx4.cell 0
        have yf0 := d_free hx4 0
        have y1 := hx4.cell 1
        have yf1 := d_free hx4 1
        have y2 := hx4.cell 2
        have yf2 := d_free hx4 2
        have y3 := hx4.cell 3
        have yf3 := d_free hx4 3
        have y4 := hx4.cell 4
        have yf4 := d_free hx4 4
        have y5 := hx4.cell 5
        have yf5 := d_free hx4 5
        have y6 := hx4.cell 6
        have yf6 := d_free hx4 6
        have y7 := hx4.cell 7
        have yf7 := d_free hx4 7
        have y8 := hx4.cell 8
        have yf8 := d_free hx4 8
        have y9 := hx4.cell 9
        have yf9 := d_free hx4 9
        have y10 := hx4.cell 10
        have yf10 := d_free hx4 10
        have y11 := hx4.cell 11
        have yf11 := d_free hx4 11
        have yl := hx4.lt
        have hBE := (HE.out.drewN nq).b
        go_wp2
        (try rw [Exit.noGoto_ret])
        have hr2 : r = ((.none, .none, .none), 4) := by rw [HR.out, if_neg (fun h => by have := h.1; rw [HQ.out] at this; cases this)]
        refine (show bodyPost _ _ _ _ _ (set12 (wr.drewN nq) (g + 2) (.int .i64 0) (.string mt) (.string mt) (.string mt) (.int .i64 0) (.string mt) (.string mt) (.string mt) (.int .i64 0) (.string mt) (.string mt) (.string mt)) from ?_)
        have hz9 := set12_fb hx4 (.int .i64 0) (.string mt) (.string mt) (.string mt) (.int .i64 0) (.string mt) (.string mt) (.string mt) (.int .i64 0) (.string mt) (.string mt) (.string mt)
        have hb9f := set12_below (hBE) (show W.heap.size ≤ g + 2 from Nat.le_trans HE0.out.hg (by omega)) (.int .i64 0) (.string mt) (.string mt) (.string mt) (.int .i64 0) (.string mt) (.string mt) (.string mt) (.int .i64 0) (.string mt) (.string mt) (.string mt)
        have y0 := hz9.cell 0
        have y1 := hz9.cell 1
        have y2 := hz9.cell 2
        have y3 := hz9.cell 3
        have y4 := hz9.cell 4
        have y5 := hz9.cell 5
        have y6 := hz9.cell 6
        have y7 := hz9.cell 7
        have y8 := hz9.cell 8
        have y9 := hz9.cell 9
        have y10 := hz9.cell 10
        have y11 := hz9.cell 11
        have yl := hz9.lt
        generalize set12 (wr.drewN nq) (g + 2) (.int .i64 0) (.string mt) (.string mt) (.string mt) (.int .i64 0) (.string mt) (.string mt) (.string mt) (.int .i64 0) (.string mt) (.string mt) (.string mt) = wf at *
        exact bodyPost_ret (v := .tuple #[T12 (.blank mt) (.blank mt) (.blank mt), .int .i64 4]) (by simp [results, Try.results18, go_sem, T12, Tm.kind, Tm.ta, Tm.tb, Tm.tc, y0, y1, y2, y3, y4, y5, y6, y7, y8, y9, y10, y11, yl]) rfl (etri_err hr2 (by decide) hb9f)
    · by_cases h0 : 0 ≤ n1
      · by_cases h1 : n1 < (L.length : Int)
        · have HQ := Lib.hid (show b1 = true from by rw [E1.out]; exact decide_eq_true ⟨h0, h1⟩)
          have d1 : decide (n1 < 0) = false := decide_eq_false (by omega)
          have d2 : decide ((L.length : Int) ≤ n1) = false := decide_eq_false (by omega)
          have d3 : ¬ (L.length : Int) ≤ n1 := by omega
          have d4 : ¬ n1 < 0 := by omega
          clear hE hbw
          go_wp2
          go_quiet (fail)
          go_wp2
          go_roundg 1
          case measure => exact Nat.lt_succ_self _
          case rel => exact ⟨HE.out.drewN _, below_drewE HBW.out _, .inr (.inr (.inl ⟨rfl, rfl, Lib.hid ⟨HZ.out, HQ.out⟩⟩))⟩
        · have HQ := Lib.hid (show b1 = false from by rw [E1.out]; exact decide_eq_false (fun h => h1 h.2))
          have d1 : decide (n1 < 0) = false := decide_eq_false (by omega)
          have d2 : decide ((L.length : Int) ≤ n1) = true := decide_eq_true (by omega)
          have d3 : (L.length : Int) ≤ n1 := by omega
          have d4 : ¬ n1 < 0 := by omega
          clear hE hbw
          go_wp2
          go_quiet (fail)
          have hx4 := (HE.out.drewN nq).x4
          have HBL := Lib.hid (HE.out.drewN nq).b
          have y0 := hx4.cell 0
          have yf0 := d_free hx4 0
          have y1 := hx4.cell 1
          have yf1 := d_free hx4 1
          have y2 := hx4.cell 2
          have yf2 := d_free hx4 2
          have y3 := hx4.cell 3
          have yf3 := d_free hx4 3
          have y4 := hx4.cell 4
          have yf4 := d_free hx4 4
          have y5 := hx4.cell 5
          have yf5 := d_free hx4 5
          have y6 := hx4.cell 6
          have yf6 := d_free hx4 6
          have y7 := hx4.cell 7
          have yf7 := d_free hx4 7
          have y8 := hx4.cell 8
          have yf8 := d_free hx4 8
          have y9 := hx4.cell 9
          have yf9 := d_free hx4 9
          have y10 := hx4.cell 10
          have yf10 := d_free hx4 10
          have y11 := hx4.cell 11
          have yf11 := d_free hx4 11
          have yl := hx4.lt
          have hBE := (HE.out.drewN nq).b
          go_wp2
          (try rw [Exit.noGoto_ret])
          have hr2 : r = ((.none, .none, .none), 4) := by rw [HR.out, if_neg (fun h => by have := h.2.1; rw [HQ.out] at this; cases this)]
          refine (show bodyPost _ _ _ _ _ (set12 (wr.drewN nq) (g + 2) (.int .i64 0) (.string mt) (.string mt) (.string mt) (.int .i64 0) (.string mt) (.string mt) (.string mt) (.int .i64 0) (.string mt) (.string mt) (.string mt)) from ?_)
          have hz9 := set12_fb hx4 (.int .i64 0) (.string mt) (.string mt) (.string mt) (.int .i64 0) (.string mt) (.string mt) (.string mt) (.int .i64 0) (.string mt) (.string mt) (.string mt)
          have hb9f := set12_below (hBE) (show W.heap.size ≤ g + 2 from Nat.le_trans HE0.out.hg (by omega)) (.int .i64 0) (.string mt) (.string mt) (.string mt) (.int .i64 0) (.string mt) (.string mt) (.string mt) (.int .i64 0) (.string mt) (.string mt) (.string mt)
          have y0 := hz9.cell 0
          have y1 := hz9.cell 1
          have y2 := hz9.cell 2
          have y3 := hz9.cell 3
          have y4 := hz9.cell 4
          have y5 := hz9.cell 5
          have y6 := hz9.cell 6
          have y7 := hz9.cell 7
          have y8 := hz9.cell 8
          have y9 := hz9.cell 9
          have y10 := hz9.cell 10
          have y11 := hz9.cell 11
          have yl := hz9.lt
          generalize set12 (wr.drewN nq) (g + 2) (.int .i64 0) (.string mt) (.string mt) (.string mt) (.int .i64 0) (.string mt) (.string mt) (.string mt) (.int .i64 0) (.string mt) (.string mt) (.string mt) = wf at *
          exact bodyPost_ret (v := .tuple #[T12 (.blank mt) (.blank mt) (.blank mt), .int .i64 4]) (by simp [results, Try.results18, go_sem, T12, Tm.kind, Tm.ta, Tm.tb, Tm.tc, y0, y1, y2, y3, y4, y5, y6, y7, y8, y9, y10, y11, yl]) rfl (etri_err hr2 (by decide) hb9f)
      · have HQ := Lib.hid (show b1 = false from by rw [E1.out]; exact decide_eq_false (fun h => h0 h.1))
        have d1 : decide (n1 < 0) = true := decide_eq_true (by omega)
        have d4 : n1 < 0 := by omega
        clear hE hbw
        go_wp2
        go_quiet (fail)
        have hx4 := (HE.out.drewN nq).x4
        have HBL := Lib.hid (HE.out.drewN nq).b
        have y0 := hx4.cell 0
        have yf0 := d_free hx4 0
        have y1 := hx4.cell 1
        have yf1 := d_free hx4 1
        have y2 := hx4.cell 2
        have yf2 := d_free hx4 2
        have y3 := hx4.cell 3
        have yf3 := d_free hx4 3
        have y4 := hx4.cell 4
        have yf4 := d_free hx4 4
        have y5 := hx4.cell 5
        have yf5 := d_free hx4 5
        have y6 := hx4.cell 6
        have yf6 := d_free hx4 6
        have y7 := hx4.cell 7
        have yf7 := d_free hx4 7
        have y8 := hx4.cell 8
        have yf8 := d_free hx4 8
        have y9 := hx4.cell 9
        have yf9 := d_free hx4 9
        have y10 := hx4.cell 10
        have yf10 := d_free hx4 10
        have y11 := hx4.cell 11
        have yf11 := d_free hx4 11
        have yl := hx4.lt
        have hBE := (HE.out.drewN nq).b
        go_wp2
        (try rw [Exit.noGoto_ret])
        have hr2 : r = ((.none, .none, .none), 4) := by rw [HR.out, if_neg (fun h => by have := h.2.1; rw [HQ.out] at this; cases this)]
        refine (show bodyPost _ _ _ _ _ (set12 (wr.drewN nq) (g + 2) (.int .i64 0) (.string mt) (.string mt) (.string mt) (.int .i64 0) (.string mt) (.string mt) (.string mt) (.int .i64 0) (.string mt) (.string mt) (.string mt)) from ?_)
        have hz9 := set12_fb hx4 (.int .i64 0) (.string mt) (.string mt) (.string mt) (.int .i64 0) (.string mt) (.string mt) (.string mt) (.int .i64 0) (.string mt) (.string mt) (.string mt)
        have hb9f := set12_below (hBE) (show W.heap.size ≤ g + 2 from Nat.le_trans HE0.out.hg (by omega)) (.int .i64 0) (.string mt) (.string mt) (.string mt) (.int .i64 0) (.string mt) (.string mt) (.string mt) (.int .i64 0) (.string mt) (.string mt) (.string mt)
        have y0 := hz9.cell 0
        have y1 := hz9.cell 1
        have y2 := hz9.cell 2
        have y3 := hz9.cell 3
        have y4 := hz9.cell 4
        have y5 := hz9.cell 5
        have y6 := hz9.cell 6
        have y7 := hz9.cell 7
        have y8 := hz9.cell 8
        have y9 := hz9.cell 9
        have y10 := hz9.cell 10
        have y11 := hz9.cell 11
        have yl := hz9.lt
        generalize set12 (wr.drewN nq) (g + 2) (.int .i64 0) (.string mt) (.string mt) (.string mt) (.int .i64 0) (.string mt) (.string mt) (.string mt) (.int .i64 0) (.string mt) (.string mt) (.string mt) = wf at *
        exact bodyPost_ret (v := .tuple #[T12 (.blank mt) (.blank mt) (.blank mt), .int .i64 4]) (by simp [results, Try.results18, go_sem, T12, Tm.kind, Tm.ta, Tm.tb, Tm.tc, y0, y1, y2, y3, y4, y5, y6, y7, y8, y9, y10, y11, yl]) rfl (etri_err hr2 (by decide) hb9f)
    · by_cases h0 : 0 ≤ n2
      · by_cases h1 : n2 < (L.length : Int)
        · have HQ := Lib.hid (show b2 = true from by rw [E2.out]; exact decide_eq_true ⟨h0, h1⟩)
          have d1 : decide (n2 < 0) = false := decide_eq_false (by omega)
          have d2 : decide ((L.length : Int) ≤ n2) = false := decide_eq_false (by omega)
          have d3 : ¬ (L.length : Int) ≤ n2 := by omega
          have d4 : ¬ n2 < 0 := by omega
          clear hE hbw
          go_wp2
          go_quiet (fail)
          go_wp2
          go_roundg 0
          case measure => exact Nat.lt_succ_self _
          case rel => exact ⟨HE.out.drewN _, below_drewE HBW.out _, .inr (.inr (.inr ⟨rfl, rfl, Lib.hid ⟨HZ.out.1, HZ.out.2, HQ.out⟩⟩))⟩
        · have HQ := Lib.hid (show b2 = false from by rw [E2.out]; exact decide_eq_false (fun h => h1 h.2))
          have d1 : decide (n2 < 0) = false := decide_eq_false (by omega)
          have d2 : decide ((L.length : Int) ≤ n2) = true := decide_eq_true (by omega)
          have d3 : (L.length : Int) ≤ n2 := by omega
          have d4 : ¬ n2 < 0 := by omega
          clear hE hbw
          go_wp2
          go_quiet (fail)
          have hx4 := (HE.out.drewN nq).x4
          have HBL := Lib.hid (HE.out.drewN nq).b
          have y0 := hx4.cell 0
          have yf0 := d_free hx4 0
          have y1 := hx4.cell 1
          have yf1 := d_free hx4 1
          have y2 := hx4.cell 2
          have yf2 := d_free hx4 2
          have y3 := hx4.cell 3
          have yf3 := d_free hx4 3
          have y4 := hx4.cell 4
          have yf4 := d_free hx4 4
          have y5 := hx4.cell 5
          have yf5 := d_free hx4 5
          have y6 := hx4.cell 6
          have yf6 := d_free hx4 6
          have y7 := hx4.cell 7
          have yf7 := d_free hx4 7
          have y8 := hx4.cell 8
          have yf8 := d_free hx4 8
          have y9 := hx4.cell 9
          have yf9 := d_free hx4 9
          have y10 := hx4.cell 10
          have yf10 := d_free hx4 10
          have y11 := hx4.cell 11
          have yf11 := d_free hx4 11
          have yl := hx4.lt
          have hBE := (HE.out.drewN nq).b
          go_wp2
          (try rw [Exit.noGoto_ret])
          have hr2 : r = ((.none, .none, .none), 4) := by rw [HR.out, if_neg (fun h => by have := h.2.2; rw [HQ.out] at this; cases this)]
          refine (show bodyPost _ _ _ _ _ (set12 (wr.drewN nq) (g + 2) (.int .i64 0) (.string mt) (.string mt) (.string mt) (.int .i64 0) (.string mt) (.string mt) (.string mt) (.int .i64 0) (.string mt) (.string mt) (.string mt)) from ?_)
          have hz9 := set12_fb hx4 (.int .i64 0) (.string mt) (.string mt) (.string mt) (.int .i64 0) (.string mt) (.string mt) (.string mt) (.int .i64 0) (.string mt) (.string mt) (.string mt)
          have hb9f := set12_below (hBE) (show W.heap.size ≤ g + 2 from Nat.le_trans HE0.out.hg (by omega)) (.int .i64 0) (.string mt) (.string mt) (.string mt) (.int .i64 0) (.string mt) (.string mt) (.string mt) (.int .i64 0) (.string mt) (.string mt) (.string mt)
          have y0 := hz9.cell 0
          have y1 := hz9.cell 1
          have y2 := hz9.cell 2
          have y3 := hz9.cell 3
          have y4 := hz9.cell 4
          have y5 := hz9.cell 5
          have y6 := hz9.cell 6
          have y7 := hz9.cell 7
          have y8 := hz9.cell 8
          have y9 := hz9.cell 9
          have y10 := hz9.cell 10
          have y11 := hz9.cell 11
          have yl := hz9.lt
          generalize set12 (wr.drewN nq) (g + 2) (.int .i64 0) (.string mt) (.string mt) (.string mt) (.int .i64 0) (.string mt) (.string mt) (.string mt) (.int .i64 0) (.string mt) (.string mt) (.string mt) = wf at *
          exact bodyPost_ret (v := .tuple #[T12 (.blank mt) (.blank mt) (.blank mt), .int .i64 4]) (by simp [results, Try.results18, go_sem, T12, Tm.kind, Tm.ta, Tm.tb, Tm.tc, y0, y1, y2, y3, y4, y5, y6, y7, y8, y9, y10, y11, yl]) rfl (etri_err hr2 (by decide) hb9f)
      · have HQ := Lib.hid (show b2 = false from by rw [E2.out]; exact decide_eq_false (fun h => h0 h.1))
        have d1 : decide (n2 < 0) = true := decide_eq_true (by omega)
        have d4 : n2 < 0 := by omega
        clear hE hbw
        go_wp2
        go_quiet (fail)
        have hx4 := (HE.out.drewN nq).x4
        have HBL := Lib.hid (HE.out.drewN nq).b
        have y0 := hx4.cell 0
        have yf0 := d_free hx4 0
        have y1 := hx4.cell 1
        have yf1 := d_free hx4 1
        have y2 := hx4.cell 2
        have yf2 := d_free hx4 2
        have y3 := hx4.cell 3
        have yf3 := d_free hx4 3
        have y4 := hx4.cell 4
        have yf4 := d_free hx4 4
        have y5 := hx4.cell 5
        have yf5 := d_free hx4 5
        have y6 := hx4.cell 6
        have yf6 := d_free hx4 6
        have y7 := hx4.cell 7
        have yf7 := d_free hx4 7
        have y8 := hx4.cell 8
        have yf8 := d_free hx4 8
        have y9 := hx4.cell 9
        have yf9 := d_free hx4 9
        have y10 := hx4.cell 10
        have yf10 := d_free hx4 10
        have y11 := hx4.cell 11
        have yf11 := d_free hx4 11
        have yl := hx4.lt
        have hBE := (HE.out.drewN nq).b
        go_wp2
        (try rw [Exit.noGoto_ret])
        have hr2 : r = ((.none, .none, .none), 4) := by rw [HR.out, if_neg (fun h => by have := h.2.2; rw [HQ.out] at this; cases this)]
        refine (show bodyPost _ _ _ _ _ (set12 (wr.drewN nq) (g + 2) (.int .i64 0) (.string mt) (.string mt) (.string mt) (.int .i64 0) (.string mt) (.string mt) (.string mt) (.int .i64 0) (.string mt) (.string mt) (.string mt)) from ?_)
        have hz9 := set12_fb hx4 (.int .i64 0) (.string mt) (.string mt) (.string mt) (.int .i64 0) (.string mt) (.string mt) (.string mt) (.int .i64 0) (.string mt) (.string mt) (.string mt)
        have hb9f := set12_below (hBE) (show W.heap.size ≤ g + 2 from Nat.le_trans HE0.out.hg (by omega)) (.int .i64 0) (.string mt) (.string mt) (.string mt) (.int .i64 0) (.string mt) (.string mt) (.string mt) (.int .i64 0) (.string mt) (.string mt) (.string mt)
        have y0 := hz9.cell 0
        have y1 := hz9.cell 1
        have y2 := hz9.cell 2
        have y3 := hz9.cell 3
        have y4 := hz9.cell 4
        have y5 := hz9.cell 5
        have y6 := hz9.cell 6
        have y7 := hz9.cell 7
        have y8 := hz9.cell 8
        have y9 := hz9.cell 9
        have y10 := hz9.cell 10
        have y11 := hz9.cell 11
        have yl := hz9.lt
        generalize set12 (wr.drewN nq) (g + 2) (.int .i64 0) (.string mt) (.string mt) (.string mt) (.int .i64 0) (.string mt) (.string mt) (.string mt) (.int .i64 0) (.string mt) (.string mt) (.string mt) = wf at *
        exact bodyPost_ret (v := .tuple #[T12 (.blank mt) (.blank mt) (.blank mt), .int .i64 4]) (by simp [results, Try.results18, go_sem, T12, Tm.kind, Tm.ta, Tm.tb, Tm.tc, y0, y1, y2, y3, y4, y5, y6, y7, y8, y9, y10, y11, yl]) rfl (etri_err hr2 (by decide) hb9f)
    · have hall := HZ.out
      obtain ⟨⟨i0, hn0, hi0⟩, ⟨i1, hn1, hi1⟩, ⟨i2, hn2, hi2⟩⟩ := HP.out hall
      have hr := HR.out
      rw [if_pos hall] at hr
      generalize atN L n0 = ta at hi0 hr
      generalize atN L n1 = tb at hi1 hr
      generalize atN L n2 = tc at hi2 hr
      obtain ⟨gL, cL, ev, hgl, u0, u1, u2, u3⟩ := dtL_at HD2.out hi0
      obtain ⟨gM, cM, ew, hgm, v0, v1, v2, v3⟩ := dtL_at HD2.out hi1
      obtain ⟨gN, cN, ex, hgn, t0, t1, t2, t3⟩ := dtL_at HD2.out hi2
      injection ev with ev1 ev2 ev3
      subst ev1
      injection ew with ew1 _ _
      injection ew1 with ew1
      injection ew1 with ew1 _ _
      subst ew1
      injection ex with ex1 _ _
      injection ex1 with ex1
      injection ex1 with ex1 _ _
      subst ex1
      have z0 := (List.getElem?_eq_some_iff.1 hi0).1
      have z1 := (List.getElem?_eq_some_iff.1 hi1).1
      have z2 := (List.getElem?_eq_some_iff.1 hi2).1
      have cG := qgood_any ta tb tc (HF.out ta (List.mem_of_getElem? hi0)) (HF.out tb (List.mem_of_getElem? hi1)) (HF.out tc (List.mem_of_getElem? hi2))
      obtain ⟨ok, hok⟩ : ∃ ok, ok = okR ta tb tc 0 := ⟨_, rfl⟩
      rw [← hok] at cG hr
      have hfin : ∀ w9, r = ((ta, tb, tc), 0) → Below W.heap.size W w9 → ETriPost W r (.returned (.tuple #[T12 ta tb tc, .int .i64 0])) w9 := fun w9 h hb => by
        subst h
        exact ⟨ta, tb, tc, rfl, fun _ => rfl, hb⟩
      have HRR := Lib.hid hr
      have HFIN := Lib.hid hfin
      unfold T12 at cG HFIN
      have K : ∀ w, Below wr.heap.size wr w → w.cell? ⟨g, 1, none⟩ = some (.slice (some ⟨gL, 0, none⟩) L.length c) ∧ (w.cell? ⟨g + 1, 0, none⟩ = some (.int .i64 n0) ∧ w.cell? ⟨g + 1, 1, none⟩ = some (.int .i64 n1) ∧ w.cell? ⟨g + 1, 2, none⟩ = some (.int .i64 n2)) ∧ (w.cell? ⟨gL, i0 * 4, none⟩ = some (.int .i64 ta.kind) ∧ w.cell? ⟨gL, i0 * 4 + 1, none⟩ = some (.string ta.ta) ∧ w.cell? ⟨gL, i0 * 4 + 2, none⟩ = some (.string ta.tb) ∧ w.cell? ⟨gL, i0 * 4 + 3, none⟩ = some (.string ta.tc)) ∧ (w.cell? ⟨gL, i1 * 4, none⟩ = some (.int .i64 tb.kind) ∧ w.cell? ⟨gL, i1 * 4 + 1, none⟩ = some (.string tb.ta) ∧ w.cell? ⟨gL, i1 * 4 + 2, none⟩ = some (.string tb.tb) ∧ w.cell? ⟨gL, i1 * 4 + 3, none⟩ = some (.string tb.tc)) ∧ (w.cell? ⟨gL, i2 * 4, none⟩ = some (.int .i64 tc.kind) ∧ w.cell? ⟨gL, i2 * 4 + 1, none⟩ = some (.string tc.ta) ∧ w.cell? ⟨gL, i2 * 4 + 2, none⟩ = some (.string tc.tb) ∧ w.cell? ⟨gL, i2 * 4 + 3, none⟩ = some (.string tc.tc)) := fun w hb => by
        have h2 := (HE.out.below hb).c
        have hq := HBW.out.trans (hb.mono HBW.out.size)
        have q := fun (o : Nat) (x : Value) (hx : W2.cell? ⟨gL, o, none⟩ = some x) => (hq.cell (p := ⟨gL, o, none⟩) hgl).trans hx
        exact ⟨h2.1, h2.2, ⟨q _ _ u0, q _ _ u1, q _ _ u2, q _ _ u3⟩, ⟨q _ _ v0, q _ _ v1, q _ _ v2, q _ _ v3⟩, q _ _ t0, q _ _ t1, q _ _ t2, q _ _ t3⟩
      subst hn0 hn1 hn2
      have d0 : (0 : Int) ≤ (i0 : Int) := by omega
      have d1 : (0 : Int) ≤ (i1 : Int) := by omega
      have d2 : (0 : Int) ≤ (i2 : Int) := by omega
      have f0 : (i0 : Int) < (L.length : Int) := by omega
      have f1 : (i1 : Int) < (L.length : Int) := by omega
      have f2 : (i2 : Int) < (L.length : Int) := by omega
      clear hr hfin hi0 hi1 hi2 u0 u1 u2 u3 v0 v1 v2 v3 t0 t1 t2 t3 hE hbw hok hgl hgm hgn hall c1 k0 k1 k2 z0 z1 z2
      generalize ta.kind = ak at *
      generalize ta.ta = a0 at *
      generalize ta.tb = a1 at *
      generalize ta.tc = a2 at *
      generalize tb.kind = bk at *
      generalize tb.ta = x0 at *
      generalize tb.tb = x1 at *
      generalize tb.tc = x2 at *
      generalize tc.kind = ck at *
      generalize tc.ta = e0 at *
      generalize tc.tb = e1 at *
      generalize tc.tc = e2 at *
      obtain ⟨k1, ⟨k2, k3, k4⟩, ⟨p0, p1, p2, p3⟩, ⟨q0, q1, q2, q3⟩, s0, s1, s2, s3⟩ := K wr (Below.refl _ _)
      cases ok with
      | false =>
        rw [if_neg (by decide)] at HRR
        go_upto_region 7 with fail
        go_region_held3 (fun w => w.cell? ⟨g, 1, none⟩ = some (.slice (some ⟨gL, 0, none⟩) L.length c) ∧ (w.cell? ⟨g + 1, 0, none⟩ = some (.int .i64 i0) ∧ w.cell? ⟨g + 1, 1, none⟩ = some (.int .i64 i1) ∧ w.cell? ⟨g + 1, 2, none⟩ = some (.int .i64 i2)) ∧ (w.cell? ⟨gL, i0 * 4, none⟩ = some (.int .i64 ak) ∧ w.cell? ⟨gL, i0 * 4 + 1, none⟩ = some (.string a0) ∧ w.cell? ⟨gL, i0 * 4 + 2, none⟩ = some (.string a1) ∧ w.cell? ⟨gL, i0 * 4 + 3, none⟩ = some (.string a2)) ∧ (w.cell? ⟨gL, i1 * 4, none⟩ = some (.int .i64 bk) ∧ w.cell? ⟨gL, i1 * 4 + 1, none⟩ = some (.string x0) ∧ w.cell? ⟨gL, i1 * 4 + 2, none⟩ = some (.string x1) ∧ w.cell? ⟨gL, i1 * 4 + 3, none⟩ = some (.string x2)) ∧ (w.cell? ⟨gL, i2 * 4, none⟩ = some (.int .i64 ck) ∧ w.cell? ⟨gL, i2 * 4 + 1, none⟩ = some (.string e0) ∧ w.cell? ⟨gL, i2 * 4 + 2, none⟩ = some (.string e1) ∧ w.cell? ⟨gL, i2 * 4 + 3, none⟩ = some (.string e2)))
          (first | (refine K _ ?_; repeat (first | assumption | exact Below.refl _ _ | refine Below.drew ?_ | refine Below.alloc ?_ (by first | exact Nat.le_refl _ | (simp; done) | (simp; omega)) _)))
          (fail)
        all_goals
          have hBB : True := trivial
          go_wp2_with (go_at_call 30; (with_reducible refine (cG _).mono ?_); rintro e w9 ⟨rfl, hb9⟩; have hB9 : Below wr.heap.size wr w9 := Below.trans (by repeat (first | assumption | exact Below.refl _ _ | refine Below.drew ?_ | refine Below.alloc ?_ (by first | exact Nat.le_refl _ | (simp; done) | (simp; omega)) _)) (hb9.mono (by simp)); have hx4 := (HE.out.below hB9).x4; have y0 := hx4.cell 0; have yf0 := d_free hx4 0; have y1 := hx4.cell 1; have yf1 := d_free hx4 1; have y2 := hx4.cell 2; have yf2 := d_free hx4 2; have y3 := hx4.cell 3; have yf3 := d_free hx4 3; have y4 := hx4.cell 4; have yf4 := d_free hx4 4; have y5 := hx4.cell 5; have yf5 := d_free hx4 5; have y6 := hx4.cell 6; have yf6 := d_free hx4 6; have y7 := hx4.cell 7; have yf7 := d_free hx4 7; have y8 := hx4.cell 8; have yf8 := d_free hx4 8; have y9 := hx4.cell 9; have yf9 := d_free hx4 9; have y10 := hx4.cell 10; have yf10 := d_free hx4 10; have y11 := hx4.cell 11; have yf11 := d_free hx4 11; have yl := hx4.lt; have hBE := (HE.out.below hB9).b)
          refine (show bodyPost _ _ _ _ _ (set12 (w9) (g + 2) (.int .i64 0) (.string mt) (.string mt) (.string mt) (.int .i64 0) (.string mt) (.string mt) (.string mt) (.int .i64 0) (.string mt) (.string mt) (.string mt)) from ?_)
          have hz9 := set12_fb hx4 (.int .i64 0) (.string mt) (.string mt) (.string mt) (.int .i64 0) (.string mt) (.string mt) (.string mt) (.int .i64 0) (.string mt) (.string mt) (.string mt)
          have hb9f := set12_below (hBE) (show W.heap.size ≤ g + 2 from Nat.le_trans HE0.out.hg (by omega)) (.int .i64 0) (.string mt) (.string mt) (.string mt) (.int .i64 0) (.string mt) (.string mt) (.string mt) (.int .i64 0) (.string mt) (.string mt) (.string mt)
          have y0 := hz9.cell 0
          have y1 := hz9.cell 1
          have y2 := hz9.cell 2
          have y3 := hz9.cell 3
          have y4 := hz9.cell 4
          have y5 := hz9.cell 5
          have y6 := hz9.cell 6
          have y7 := hz9.cell 7
          have y8 := hz9.cell 8
          have y9 := hz9.cell 9
          have y10 := hz9.cell 10
          have y11 := hz9.cell 11
          have yl := hz9.lt
          generalize set12 (w9) (g + 2) (.int .i64 0) (.string mt) (.string mt) (.string mt) (.int .i64 0) (.string mt) (.string mt) (.string mt) (.int .i64 0) (.string mt) (.string mt) (.string mt) = wf at *
          exact bodyPost_ret (v := .tuple #[T12 (.blank mt) (.blank mt) (.blank mt), .int .i64 3]) (by simp [results, Try.results18, go_sem, T12, Tm.kind, Tm.ta, Tm.tb, Tm.tc, y0, y1, y2, y3, y4, y5, y6, y7, y8, y9, y10, y11, yl]) rfl (etri_err HRR.out (by decide) hb9f)
      | true =>
        rw [if_pos rfl] at HRR
        go_upto_region 7 with fail
        go_region_held3 (fun w => w.cell? ⟨g, 1, none⟩ = some (.slice (some ⟨gL, 0, none⟩) L.length c) ∧ (w.cell? ⟨g + 1, 0, none⟩ = some (.int .i64 i0) ∧ w.cell? ⟨g + 1, 1, none⟩ = some (.int .i64 i1) ∧ w.cell? ⟨g + 1, 2, none⟩ = some (.int .i64 i2)) ∧ (w.cell? ⟨gL, i0 * 4, none⟩ = some (.int .i64 ak) ∧ w.cell? ⟨gL, i0 * 4 + 1, none⟩ = some (.string a0) ∧ w.cell? ⟨gL, i0 * 4 + 2, none⟩ = some (.string a1) ∧ w.cell? ⟨gL, i0 * 4 + 3, none⟩ = some (.string a2)) ∧ (w.cell? ⟨gL, i1 * 4, none⟩ = some (.int .i64 bk) ∧ w.cell? ⟨gL, i1 * 4 + 1, none⟩ = some (.string x0) ∧ w.cell? ⟨gL, i1 * 4 + 2, none⟩ = some (.string x1) ∧ w.cell? ⟨gL, i1 * 4 + 3, none⟩ = some (.string x2)) ∧ (w.cell? ⟨gL, i2 * 4, none⟩ = some (.int .i64 ck) ∧ w.cell? ⟨gL, i2 * 4 + 1, none⟩ = some (.string e0) ∧ w.cell? ⟨gL, i2 * 4 + 2, none⟩ = some (.string e1) ∧ w.cell? ⟨gL, i2 * 4 + 3, none⟩ = some (.string e2)))
          (first | (refine K _ ?_; repeat (first | assumption | exact Below.refl _ _ | refine Below.drew ?_ | refine Below.alloc ?_ (by first | exact Nat.le_refl _ | (simp; done) | (simp; omega)) _)))
          (fail)
        all_goals
          have hBB : True := trivial
          go_wp2_with (go_at_call 30; (with_reducible refine (cG _).mono ?_); rintro e w9 ⟨rfl, hb9⟩; have hB9 : Below wr.heap.size wr w9 := Below.trans (by repeat (first | assumption | exact Below.refl _ _ | refine Below.drew ?_ | refine Below.alloc ?_ (by first | exact Nat.le_refl _ | (simp; done) | (simp; omega)) _)) (hb9.mono (by simp)); have hx4 := (HE.out.below hB9).x4; have hbx : Fb w9 wr.heap.size 34 #[.int .i64 ak, .string a0, .string a1, .string a2, .int .i64 bk, .string x0, .string x1, .string x2, .int .i64 ck, .string e0, .string e1, .string e2] := (by first | exact Fb.below (Fb.drew (Fb.new _ _ _)) hb9 | exact Fb.below (Fb.new _ _ _) hb9); have b0 := hbx.cell 0; have b1 := hbx.cell 1; have b2 := hbx.cell 2; have b3 := hbx.cell 3; have b4 := hbx.cell 4; have b5 := hbx.cell 5; have b6 := hbx.cell 6; have b7 := hbx.cell 7; have b8 := hbx.cell 8; have b9 := hbx.cell 9; have b10 := hbx.cell 10; have b11 := hbx.cell 11; have y0 := hx4.cell 0; have yf0 := d_free hx4 0; have y1 := hx4.cell 1; have yf1 := d_free hx4 1; have y2 := hx4.cell 2; have yf2 := d_free hx4 2; have y3 := hx4.cell 3; have yf3 := d_free hx4 3; have y4 := hx4.cell 4; have yf4 := d_free hx4 4; have y5 := hx4.cell 5; have yf5 := d_free hx4 5; have y6 := hx4.cell 6; have yf6 := d_free hx4 6; have y7 := hx4.cell 7; have yf7 := d_free hx4 7; have y8 := hx4.cell 8; have yf8 := d_free hx4 8; have y9 := hx4.cell 9; have yf9 := d_free hx4 9; have y10 := hx4.cell 10; have yf10 := d_free hx4 10; have y11 := hx4.cell 11; have yf11 := d_free hx4 11; have yl := hx4.lt; have hBE := (HE.out.below hB9).b)
          refine (show bodyPost _ _ _ _ _ (set12 (w9) (g + 2) (.int .i64 ak) (.string a0) (.string a1) (.string a2) (.int .i64 bk) (.string x0) (.string x1) (.string x2) (.int .i64 ck) (.string e0) (.string e1) (.string e2)) from ?_)
          have hz9 := set12_fb hx4 (.int .i64 ak) (.string a0) (.string a1) (.string a2) (.int .i64 bk) (.string x0) (.string x1) (.string x2) (.int .i64 ck) (.string e0) (.string e1) (.string e2)
          have hb9f := set12_below (hBE) (show W.heap.size ≤ g + 2 from Nat.le_trans HE0.out.hg (by omega)) (.int .i64 ak) (.string a0) (.string a1) (.string a2) (.int .i64 bk) (.string x0) (.string x1) (.string x2) (.int .i64 ck) (.string e0) (.string e1) (.string e2)
          have y0 := hz9.cell 0
          have y1 := hz9.cell 1
          have y2 := hz9.cell 2
          have y3 := hz9.cell 3
          have y4 := hz9.cell 4
          have y5 := hz9.cell 5
          have y6 := hz9.cell 6
          have y7 := hz9.cell 7
          have y8 := hz9.cell 8
          have y9 := hz9.cell 9
          have y10 := hz9.cell 10
          have y11 := hz9.cell 11
          have yl := hz9.lt
          generalize set12 (w9) (g + 2) (.int .i64 ak) (.string a0) (.string a1) (.string a2) (.int .i64 bk) (.string x0) (.string x1) (.string x2) (.int .i64 ck) (.string e0) (.string e1) (.string e2) = wf at *
          exact bodyPost_ret (v := .tuple #[.agg #[.int .i64 ak, .string a0, .string a1, .string a2, .int .i64 bk, .string x0, .string x1, .string x2, .int .i64 ck, .string e0, .string e1, .string e2], .int .i64 0]) (by simp [results, Try.results18, go_sem, y0, y1, y2, y3, y4, y5, y6, y7, y8, y9, y10, y11, yl]) rfl (HFIN.out _ HRR.out hb9f)
end Go.Proofs.Ytehechbiajbobaa
