/-
  Takes: words of the one symbol that a path of one part within another has, and a word that it does not take.
-/
import Derived.Test.YtcbdgbcphfimlaaNfNxL
import Derived.Test.YtcbdgbcphfimlaaNfFin
namespace Go.Proofs.Ytcbdgbcphfimlaa
open Go.RowKit
set_option linter.unusedVariables false
set_option linter.unusedSimpArgs false
set_option maxRecDepth 100000

/-- A machine of two states, as Compile leaves it. -/
def Mc (d : Nat) (N : Int) (em lp : Bool) (W : World) : Prop := ∃ g c g0 c0, MvF d g 0 c g0 c0 N W ∧ W.cell? ⟨g, 1, none⟩ = some (.bool em) ∧ W.cell? ⟨g, 3, none⟩ = some (.bool true) ∧ (lp = true → ∃ g1 c1, MvF d g 1 c g1 c1 N W)
theorem Mc.below {d : Nat} {N : Int} {em lp : Bool} {W W' : World} (h : Mc d N em lp W) (hb : Below W.heap.size W W') : Mc d N em lp W' := by
  obtain ⟨g, c, g0, c0, h1, h2, h3, h4⟩ := h
  exact ⟨g, c, g0, c0, h1.below hb, cell_below h2 hb, cell_below h3 hb, fun e => by obtain ⟨g1, c1, h⟩ := h4 e; exact ⟨g1, c1, h.below hb⟩⟩
def StA (W : World) (v : Value) (i : Nat) : Prop := ∃ gs cs, v = .slice (some ⟨gs, 0, none⟩) 1 cs ∧ W.cell? ⟨gs, 0, none⟩ = some (.int .i64 (i : Int))
theorem Mc.next {d i : Nat} {N : Int} {em lp : Bool} {W : World} {v : Value} (h : Mc d N em lp W) (hv : StA W v (if i = 0 then 0 else 1)) (hi : i = 0 ∨ lp = true) :
    Calls Try.prog 24 #[.pointer (some ⟨d, 0, none⟩), v, .agg #[.int .i64 N, .bool false]] W fun e w' => ∃ v', e = .returned v' ∧ StA w' v' 1 ∧ Below W.heap.size W w' := by
  obtain ⟨gs, cs, rfl, hs⟩ := hv
  obtain ⟨g, c, g0, c0, h1, h2, h3, h4⟩ := h
  by_cases h0 : i = 0
  · subst h0
    rw [if_pos rfl] at hs
    refine (next_eq (cs := cs) h1 hs).mono ?_
    rintro e w' ⟨⟨g9, c9, rfl, hc⟩, hb⟩
    exact ⟨_, rfl, ⟨g9, c9, rfl, hc⟩, hb⟩
  · rw [if_neg h0] at hs
    obtain ⟨g1, c1, h5⟩ := h4 (hi.resolve_left h0)
    refine (next_eq (cs := cs) h5 hs).mono ?_
    rintro e w' ⟨⟨g9, c9, rfl, hc⟩, hb⟩
    exact ⟨_, rfl, ⟨g9, c9, rfl, hc⟩, hb⟩
theorem Mc.final {d i : Nat} {N : Int} {em lp : Bool} {W : World} {v : Value} (h : Mc d N em lp W) (hv : StA W v (if i = 0 then 0 else 1)) :
    Calls Try.prog 26 #[.pointer (some ⟨d, 0, none⟩), v] W fun e w' => e = .returned (.bool (if i = 0 then em else true)) ∧ Below W.heap.size W w' := by
  obtain ⟨gs, cs, rfl, hs⟩ := hv
  obtain ⟨g, c, g0, c0, h1, h2, h3, h4⟩ := h
  by_cases h0 : i = 0
  · rw [if_pos h0] at hs ⊢
    exact final1 (i := 0) (by omega) hs h1.a h2
  · rw [if_neg h0] at hs ⊢
    exact final1 (i := 1) (by omega) hs h1.a h3
set_option maxHeartbeats 8000000 in
theorem begin_any (W : World) (d : Nat) : Calls Try.prog 22 #[.pointer (some ⟨d, 0, none⟩)] W fun e w' => ∃ v, e = .returned v ∧ StA w' v 0 ∧ Below W.heap.size W w' := by
  have HB := Lib.hid (show Below W.heap.size W (W.alloc (.cells #[.int .i64 0] 3)) from (Below.refl _ _).alloc (Nat.le_refl _) _)
  have HF := Lib.hid (show (W.alloc (.cells #[.int .i64 0] 3)).cell? ⟨W.heap.size, 0, none⟩ = some (.int .i64 0) from (Fb.new W 3 #[.int .i64 0]).cell 0)
  go_enter Try.func22, Try.ntmps22
  go_wp2
  go_ret
  exact ⟨_, rfl, ⟨_, _, rfl, HF.out⟩, HB.out⟩
def TkRel (W : World) (L : Nat) (g : Nat) (s5 s6 : Value) (wr : World) : Prop := ∃ i : Nat, i + g = L ∧ s6 = .int .i64 (i : Int) ∧ StA wr s5 (if i = 0 then 0 else 1) ∧ Below W.heap.size W wr
set_option maxHeartbeats 16000000 in
theorem takes_all {d L gw cw : Nat} {A : Option Addr} {N : Int} {em lp : Bool} {W : World} (h : Mc d N em lp W) (hlp : L ≤ 1 ∨ lp = true) (hL : L ≤ 1000) (hA : A = (if L = 0 then none else some ⟨gw, 0, none⟩))
    (hw : ∀ j, j < L → W.cell? ⟨gw, j * 2, none⟩ = some (.int .i64 N) ∧ W.cell? ⟨gw, j * 2 + 1, none⟩ = some (.bool false)) :
    Calls Try.prog 18 #[.pointer (some ⟨d, 0, none⟩), .slice A L cw] W fun e w' => e = .returned (.bool (if L = 0 then em else true)) ∧ Below W.heap.size W w' := by
  have cB := begin_any W d
  have HH := Lib.hid h
  have HW := Lib.hid hw
  have HLP := Lib.hid hlp
  have HL := Lib.hid hL
  have HA := Lib.hid hA
  clear h hw hlp hL hA
  obtain ⟨r, hr⟩ : ∃ r, r = (if L = 0 then em else true) := ⟨_, rfl⟩
  rw [← hr]
  have HRR := Lib.hid hr
  clear hr
  go_enter Try.func18, Try.ntmps18
  go_wp2_with (go_at_call 22; (with_reducible refine cB.mono ?_); rintro e w5 ⟨v0, rfl, hst, hb⟩; have HST := Lib.hid hst; have HB := Lib.hid hb; clear hst hb)
  go_loopg [5, 6] L (fun g s5 s6 wr => TkRel W L g s5 s6 wr)
  case atStart => exact ⟨0, by omega, rfl, by rw [if_pos rfl]; exact HST.out, HB.out⟩
  case round =>
    obtain ⟨i, hi, rfl, hst, hb⟩ := hrel
    obtain ⟨gs, cs, rfl, hs⟩ := id hst
    have hl9 := HL.out
    by_cases hiL : i < L
    · have hA9 := HA.out
      rw [if_neg (by omega)] at hA9
      subst hA9
      have z1 : (i : Int) < (L : Int) := by omega
      have z0 : (0 : Int) ≤ (i : Int) := by omega
      have z2 : (L : Int) ≤ 1000 := by omega
      have w0 := cell_below (HW.out i hiL).1 hb
      have w1 := cell_below (HW.out i hiL).2 hb
      have hlq : i = 0 ∨ lp = true := HLP.out.imp (fun h => by omega) id
      have cN := (HH.out.below hb).next hst hlq
      have HBB := Lib.hid hb
      have HI := Lib.hid hi
      have HIL := Lib.hid hiL
      clear hb hi hst hs
      go_wp2_with (go_at_call 24; (with_reducible refine cN.mono ?_); rintro e w6 ⟨v6, rfl, hs6, hb6⟩; have HS6 := Lib.hid hs6; have HB6 := Lib.hid hb6; clear hs6 hb6)
      go_roundg (L - (i + 1))
      case measure => have := HI.out; have := HIL.out; omega
      case rel => exact ⟨i + 1, by have := HIL.out; omega, by rw [Int.natCast_add]; rfl, by rw [if_neg (Nat.succ_ne_zero i)]; exact HS6.out, HBB.out.trans (HB6.out.mono HBB.out.size)⟩
    · obtain rfl : i = L := by omega
      have z1 : ¬ ((i : Int) < (i : Int)) := by omega
      have cF := (HH.out.below hb).final hst
      rw [← HRR.out] at cF
      have HBB := Lib.hid hb
      clear hb hi hst hs
      go_wp2_with (go_at_call 26; (with_reducible refine cF.mono ?_); rintro e w6 ⟨rfl, hb6⟩; have HB6 := Lib.hid hb6; clear hb6)
      go_ret
      exact ⟨rfl, HBB.out.trans (HB6.out.mono HBB.out.size)⟩
def TlRel (W W1 : World) (g : Nat) (s5 s6 : Value) (wr : World) : Prop := (g = 1 ∧ s6 = .int .i64 0 ∧ StA wr s5 0 ∧ Below W.heap.size W wr) ∨ (g = 0 ∧ s6 = .int .i64 1 ∧ s5 = .slice none 0 0 ∧ Below W.heap.size W wr)
set_option maxHeartbeats 16000000 in
theorem takes_lt {d gw cw : Nat} {N t : Int} {em lp : Bool} {W : World} (h : Mc d N em lp W) (ht : N < t) (hw : W.cell? ⟨gw, 0, none⟩ = some (.int .i64 t) ∧ W.cell? ⟨gw, 1, none⟩ = some (.bool false)) :
    Calls Try.prog 18 #[.pointer (some ⟨d, 0, none⟩), .slice (some ⟨gw, 0, none⟩) 1 cw] W fun e w' => e = .returned (.bool false) ∧ Below W.heap.size W w' := by
  have cB := begin_any W d
  have HH := Lib.hid h
  have HW := Lib.hid hw
  have HT := Lib.hid ht
  clear h hw ht
  go_enter Try.func18, Try.ntmps18
  go_wp2_with (go_at_call 22; (with_reducible refine cB.mono ?_); rintro e w5 ⟨v0, rfl, hst, hb⟩; have HST := Lib.hid hst; have HB := Lib.hid hb; clear hst hb)
  go_loopg [5, 6] 1 (fun g s5 s6 wr => TlRel W W g s5 s6 wr)
  case atStart => exact .inl ⟨rfl, rfl, HST.out, HB.out⟩
  case round =>
    rcases hrel with ⟨hg, rfl, hst, hb⟩ | ⟨hg, rfl, rfl, hb⟩
    · subst hg
      obtain ⟨gs, cs, rfl, hs⟩ := id hst
      have w0 := cell_below HW.out.1 hb
      have w1 := cell_below HW.out.2 hb
      have cN : Calls Try.prog 24 #[.pointer (some ⟨d, 0, none⟩), .slice (some ⟨gs, 0, none⟩) 1 cs, .agg #[.int .i64 t, .bool false]] wr fun e w' => e = .returned (.slice none 0 0) ∧ Below wr.heap.size wr w' := by
        obtain ⟨g, c, g0, c0, h1, _⟩ := HH.out.below hb
        exact next_lt (i := 0) h1 HT.out hs
      have HBB := Lib.hid hb
      clear hb hst hs
      go_wp2_with (go_at_call 24; (with_reducible refine cN.mono ?_); rintro e w6 ⟨rfl, hb6⟩; have HB6 := Lib.hid hb6; clear hb6)
      go_roundg 0
      case measure => exact Nat.lt_succ_self _
      case rel => exact .inr ⟨rfl, rfl, rfl, HBB.out.trans (HB6.out.mono HBB.out.size)⟩
    · subst hg
      have cF := final0 (W := wr) (d := d)
      have HBB := Lib.hid hb
      clear hb
      go_wp2_with (go_at_call 26; (with_reducible refine cF.mono ?_); rintro e w6 ⟨rfl, hb6⟩; have HB6 := Lib.hid hb6; clear hb6)
      go_ret
      exact ⟨rfl, HBB.out.trans (HB6.out.mono HBB.out.size)⟩
end Go.Proofs.Ytcbdgbcphfimlaa
