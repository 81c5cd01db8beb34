/-
  many and formed, of paths of one part within another.
-/
import Derived.Test.YtcbdgbcphfimlaaNfFit
import Derived.Shelf.Abstract
import Derived.Deep.RegionHeld3
namespace Go.Proofs.Ytcbdgbcphfimlaa
open Go.RowKit
set_option linter.unusedVariables false
set_option linter.unusedSimpArgs false
set_option maxRecDepth 100000

def MnRel (W : World) (len n0 : Nat) (g : Nat) (s5 s11 : Value) (wr : World) : Prop :=
  (g = 1 ∧ len = 1 ∧ s5 = .int .i64 1 ∧ s11 = .int .i64 0 ∧ Below W.heap.size W wr) ∨ (g = 0 ∧ s5 = .int .i64 (n0 : Int) ∧ s11 = .int .i64 (len : Int) ∧ Below W.heap.size W wr)
set_option maxHeartbeats 8000000 in
theorem many_any {N : Int} : ∀ (ks : List Int) {W : World} {kd n : Int} {s : Value} (most : Int), Chn W N ks ⟨kd, n, s⟩ → (ks.length : Int) < most → most ≤ 1000 →
    Calls Try.prog 40 #[.agg #[.int .i64 kd, .int .i64 n, s], .int .i64 most] W fun e w' => e = .returned (.int .i64 ((ks.length : Int) + 1)) ∧ Below W.heap.size W w'
  | [], W, kd, n, s, most, h, h1, h2 => by
    obtain ⟨h3, h4, rfl⟩ := h
    dsimp only at h3 h4
    rw [h3, h4]
    have hB1 : Below W.heap.size W (W.alloc (.cells #[.int .i64 0, .int .i64 N, .slice none 0 0] 28)) := (Below.refl _ _).alloc (Nat.le_refl _) _
    have HB := Lib.hid hB1
    clear hB1
    go_enter Try.func40, Try.ntmps40
    go_wp2
    go_loopg [5, 11] 0 (fun g s5 s11 wr => MnRel W 0 1 g s5 s11 wr)
    case atStart => exact .inr ⟨rfl, rfl, rfl, HB.out⟩
    case round =>
      rcases hrel with ⟨_, e, _⟩ | ⟨rfl, rfl, rfl, hB⟩
      · cases e
      have HB := Lib.hid hB
      clear hB
      go_wp2
      go_ret
      exact ⟨rfl, HB.out⟩
  | k :: ks, W, kd, n, s, most, h, h1, h2 => by
    obtain ⟨h3, h4, b, q, rfl, hF, hC⟩ := h
    dsimp only at h3 h4
    rw [h3, h4]
    have hB1 : Below W.heap.size W (W.alloc (.cells #[.int .i64 k, .int .i64 0, .slice (some ⟨b, 0, none⟩) 1 1] 28)) := (Below.refl _ _).alloc (Nat.le_refl _) _
    have hIH := fun (w : World) (hb : Below W.heap.size W w) => many_any ks (W := w) (kd := q.kd) (n := q.n) (s := q.s) (most - 1) (hC.below hb) (by simp at h1; omega) (by omega)
    have HIH := Lib.hid hIH
    have HB := Lib.hid hB1
    have HF := Lib.hid hF
    have HC := Lib.hid hC
    have hk1 : ((k :: ks).length : Int) = (ks.length : Int) + 1 := by simp
    have H1 := Lib.hid h1
    have H2 := Lib.hid h2
    rw [hk1]
    clear hB1 hIH hF hC h1 h2
    go_enter Try.func40, Try.ntmps40
    go_wp2
    go_loopg [5, 11] 1 (fun g s5 s11 wr => MnRel W 1 (ks.length + 2) g s5 s11 wr)
    case atStart => exact .inl ⟨rfl, rfl, rfl, rfl, HB.out⟩
    case round =>
      rcases hrel with ⟨hg, _, rfl, rfl, hB⟩ | ⟨hg, rfl, rfl, hB⟩
      · subst hg
        have hb := HF.out.below hB
        have x0 := hb.cell 0
        have x1 := hb.cell 1
        have x2 := hb.cell 2
        unfold Pa.cs at x0 x1 x2
        have z1 : ¬ (most < 1) := by have := H1.out; simp at this; omega
        have z2 := H2.out
        have z3 : (ks.length : Int) < 1000 := by have := H1.out; simp at this; omega
        have z4 : (0 : Int) ≤ (ks.length : Int) := by omega
        have z5 : (1 : Int) ≤ most := by omega
        have HBB := Lib.hid hB
        have hsh : q.s = .slice none 0 0 ∨ ∃ b : Nat, q.s = .slice (some ⟨b, 0, none⟩) 1 1 := by
          have := HC.out
          cases ks with
          | nil => exact .inl this.2.2
          | cons k ks => obtain ⟨_, _, b, _, e, _⟩ := this; exact .inr ⟨b, e⟩
        clear hB hb
        have cM := HIH.out
        rcases hsh with e | ⟨b2, e⟩
        all_goals
          rw [e] at x2 cM
          clear e
          go_wp2_with (go_at_call 40; (with_reducible refine (cM _ (HBB.out.alloc HBB.out.size _)).mono ?_); rintro e w5 ⟨rfl, hb5⟩; have HB5 := Lib.hid hb5; clear hb5)
          go_roundg 0
          case measure => exact Nat.lt_succ_self _
          case rel =>
            refine .inr ⟨rfl, ?_, rfl, ?_⟩
            · rw [show (((ks.length + 2 : Nat)) : Int) = 1 + ((ks.length : Int) + 1) by omega]
            · exact (HBB.out.alloc HBB.out.size _).trans (HB5.out.mono (HBB.out.alloc HBB.out.size _).size)
      · subst hg
        have HBB := Lib.hid hB
        clear hB
        go_wp2
        go_ret
        exact ⟨rfl, HBB.out⟩
end Go.Proofs.Ytcbdgbcphfimlaa
