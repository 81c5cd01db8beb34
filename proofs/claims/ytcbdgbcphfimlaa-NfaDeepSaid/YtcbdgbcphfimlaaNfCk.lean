/-
  Check, of paths of one part within another.
-/
import Derived.Test.YtcbdgbcphfimlaaNfDp
import Derived.Test.YtcbdgbcphfimlaaNfMny
import Derived.Test.YtcbdgbcphfimlaaNfFrm
namespace Go.Proofs.Ytcbdgbcphfimlaa
open Go.RowKit
set_option linter.unusedVariables false
set_option linter.unusedSimpArgs false
set_option maxRecDepth 100000

theorem Chn.sh {W : World} {N : Int} {ks : List Int} {p : Pa} (h : Chn W N ks p) : p.s = .slice none 0 0 ∨ ∃ b : Nat, p.s = .slice (some ⟨b, 0, none⟩) 1 1 := by
  cases ks with
  | nil => exact .inl h.2.2
  | cons k ks => obtain ⟨_, _, b, _, e, _⟩ := h; exact .inr ⟨b, e⟩
set_option maxHeartbeats 8000000 in
theorem check_any {N : Int} (hN : 0 ≤ N) {ks : List Int} {W : World} {p : Pa} (hk : Kd ks) (h : Chn W N ks p) (hl : ks.length ≤ 100) :
    Calls Try.prog 21 #[.agg #[.int .i64 p.kd, .int .i64 p.n, p.s]] W fun e w' => e = .returned (.int .i64 (if 40 ≤ ks.length then 15 else 0)) ∧ Below W.heap.size W w' := by
  obtain ⟨kd, n, s⟩ := p
  have hsh := h.sh
  dsimp only at hsh
  obtain ⟨W2, hW2⟩ : ∃ W2, W2 = W.alloc (.cells #[.int .i64 kd, .int .i64 n, s] 28) := ⟨_, rfl⟩
  have hF : Fb W2 W.heap.size 28 #[.int .i64 kd, .int .i64 n, s] := by rw [hW2]; exact Fb.new W _ _
  have hB2 : Below W.heap.size W W2 := by rw [hW2]; exact (Below.refl _ _).alloc (Nat.le_refl _) _
  have hc1 := deeper_any (L := 40) hsh (h.below hB2) (by omega)
  rw [show ((40 : Nat) : Int) = 40 from rfl] at hc1
  have HC2 := Lib.hid (fun (w : World) (hb : Below W.heap.size W w) => many_any ks (W := w) (kd := kd) (n := n) (s := s) 200 (h.below hb) (by omega) (by omega))
  have HC3 := Lib.hid (fun (w : World) (hb : Below W.heap.size W w) => formed_any hN ks (W := w) (q := ⟨kd, n, s⟩) hk (h.below hb))
  have q0 := hF.cell 0
  have q1 := hF.cell 1
  have q2 := hF.cell 2
  have HB := Lib.hid hB2
  have HFF := Lib.hid hF
  have hz : ¬ (200 < (ks.length : Int) + 1) := by omega
  have hz1 : (ks.length : Int) ≤ 100 := by omega
  clear h hF hB2 hl
  by_cases hd : 40 ≤ ks.length
  · rw [if_pos hd]
    rw [decide_eq_true hd] at hc1
    clear HC2 HC3 HFF
    rcases hsh with rfl | ⟨b, rfl⟩
    all_goals
      subst hW2
      go_enter Try.func21, Try.ntmps21
      go_wp2_with (go_at_call 39; (with_reducible refine hc1.mono ?_); rintro e w5 ⟨rfl, hb5⟩; have HB5 := Lib.hid hb5; clear hb5)
      go_ret
      exact ⟨rfl, HB.out.trans (HB5.out.mono HB.out.size)⟩
  · rw [if_neg hd]
    rw [decide_eq_false hd] at hc1
    rcases hsh with rfl | ⟨b, rfl⟩
    all_goals
      subst hW2
      go_enter Try.func21, Try.ntmps21
      go_wp2_with (first
        | (go_at_call 39; (with_reducible refine hc1.mono ?_); rintro e w5 ⟨rfl, hb5⟩; have hf5 := HFF.out.below hb5; have r0 := hf5.cell 0; have r1 := hf5.cell 1; have r2 := hf5.cell 2; have hB5 := HB.out.trans (hb5.mono HB.out.size); have hc2 := HC2.out w5 hB5; have HF5 := Lib.hid hf5; have HB5 := Lib.hid hB5; clear hb5 hf5 hB5)
        | (go_at_call 40; (with_reducible refine hc2.mono ?_); rintro e w6 ⟨rfl, hb6⟩; have hf6 := HF5.out.below hb6; have y0 := hf6.cell 0; have y1 := hf6.cell 1; have y2 := hf6.cell 2; have hB6 := HB5.out.trans (hb6.mono HB5.out.size); have hc3 := HC3.out w6 hB6; have HB6 := Lib.hid hB6; clear hb6 hf6 hB6)
        | (go_at_call 41; (with_reducible refine hc3.mono ?_); rintro e w7 ⟨rfl, hb7⟩; have HB7 := Lib.hid hb7; clear hb7))
      go_ret
      exact ⟨rfl, HB6.out.trans (HB7.out.mono HB6.out.size)⟩
end Go.Proofs.Ytcbdgbcphfimlaa
