/-
  moves, of a symbol that no move has.
-/
import Derived.Test.YtcbdgbcphfimlaaNfMv
import Derived.Deep.RegionWith
namespace Go.Proofs.Ytcbdgbcphfimlaa
open Go.RowKit
set_option linter.unusedVariables false
set_option linter.unusedSimpArgs false
set_option maxRecDepth 100000

set_option maxHeartbeats 16000000 in
theorem moves_lt {d g i c gi ci : Nat} {N s : Int} {W : World} (h : MvF d g i c gi ci N W) (hs : N < s) :
    Calls Try.prog 42 #[.pointer (some ⟨d, 0, none⟩), .int .i64 (i : Int), .agg #[.int .i64 s, .bool false]] W fun e w' => (∃ A c', e = .returned (.slice A 0 c')) ∧ Below W.heap.size W w' := by
  have hb1 : Below W.heap.size W (W.alloc (.cells #[.int .i64 s, .bool false] 44)) := (Below.refl _ _).alloc (Nat.le_refl _) _
  have h1 := h.below hb1
  have hi := h.hi
  have hc1 := h.c1
  have cH := has_any (i := i) h1.a h.hi
  have b2 : Below W.heap.size W ((W.alloc (.cells #[.int .i64 s, .bool false] 44)).alloc (.cells #[.slice (some ⟨gi, 0, none⟩) 1 ci] 68)) := hb1.alloc hb1.size _
  have hq := (Fb.new W 44 #[.int .i64 s, .bool false]).alloc (.cells #[.slice (some ⟨gi, 0, none⟩) 1 ci] 68)
  have hp := Fb.new (W.alloc (.cells #[.int .i64 s, .bool false] 44)) 68 #[.slice (some ⟨gi, 0, none⟩) 1 ci]
  rw [World.size_alloc] at hp
  have h2 := h.below b2
  have S0 : SqF (W.heap.size + 1) W.heap.size gi ci N s ((W.alloc (.cells #[.int .i64 s, .bool false] 44)).alloc (.cells #[.slice (some ⟨gi, 0, none⟩) 1 ci] 68)) := ⟨hp.cell 0, hq.cell 0, hq.cell 1, h2.n0, h2.n1⟩
  obtain ⟨W2, hW2⟩ : ∃ W2, W2 = (W.alloc (.cells #[.int .i64 s, .bool false] 44)).alloc (.cells #[.slice (some ⟨gi, 0, none⟩) 1 ci] 68) := ⟨_, rfl⟩
  rw [← hW2] at S0 hp b2
  have HS := Lib.hid S0
  have HB2 := Lib.hid b2
  have HW2 := Lib.hid (show Below (W.heap.size + 1) (W.alloc (.cells #[.int .i64 s, .bool false] 44)) W2 from by rw [hW2]; exact (Below.refl _ _).alloc (by simp) _)
  have HQ1 := Lib.hid (Fb.new W 44 #[.int .i64 s, .bool false])
  have HM1 := Lib.hid h1
  have HP := Lib.hid hp
  have a1 := h1.a
  have m1 := h1.m
  have z0 : (0 : Int) ≤ (i : Int) := by omega
  have z1 : (i : Int) < 2 := by omega
  have HC := Lib.hid hc1
  clear h h1 h2 hq hp S0 b2 hb1 hi
  go_enter Try.func42, Try.ntmps42
  go_wp2_with (go_at_call 45; (with_reducible refine cH.mono ?_); rintro e w1 ⟨rfl, rfl⟩)
  clear cH a1 m1
  go_wp2
  rw [← hW2]
  clear hW2
  have x0 := HS.out.hp
  have xf := HP.out.free 0
  have cS := seaA (W := W2.drew) (HS.out.below (Below.refl _ _).drew)
  rw [if_neg (by omega)] at cS
  clear hs
  go_region_with (first
    | (go_at_call 63; (with_reducible refine cS.mono ?_); rintro e w1 ⟨rfl, hB0⟩; have hB := (Below.drew (Below.refl W2.heap.size W2)).trans hB0; have x1 := cell_below x0 hB; have xf1 := (HP.out.below hB).free 0)
    | fail)
  all_goals
    obtain ⟨A, hA⟩ : ∃ A, A = (if ci = 1 then some (⟨gi, 0, none⟩ : Addr) else some ⟨gi, 3, none⟩) := ⟨_, rfl⟩
    rw [← hA]
    have b3 : Below (W.heap.size + 1) (W.alloc (.cells #[.int .i64 s, .bool false] 44)) (w1.setCell ⟨W.heap.size + 1, 0, none⟩ (.slice A 0 (ci - 1))) := (HW2.out.trans (hB.mono (by rw [← World.size_alloc W (.cells #[.int .i64 s, .bool false] 44)]; simpa using HW2.out.size))).setCell (Nat.le_refl _) _
    have hF3 := (HP.out.below hB).set 0 (.slice A 0 (ci - 1))
    clear hB hB0 x1 xf1 hA x0 xf cS
    obtain ⟨W3, hW3⟩ : ∃ W3, W3 = w1.setCell ⟨W.heap.size + 1, 0, none⟩ (.slice A 0 (ci - 1)) := ⟨_, rfl⟩
    rw [← hW3] at b3 hF3
    rw [← hW3]
    clear hW3
    obtain ⟨c5, hc5⟩ : ∃ c5, c5 = ci - 1 := ⟨_, rfl⟩
    rw [← hc5] at hF3
    rw [← hc5]
    clear hc5
    have cS3 := sea0 W3.drew #[.pointer (some ⟨W.heap.size + 1, 0, none⟩), .pointer (some ⟨W.heap.size, 0, none⟩)]
    have y0 : W3.cell? ⟨W.heap.size + 1, 0, none⟩ = some (.slice A 0 c5) := hF3.cell 0
    have HB3 := Lib.hid ((Below.refl W.heap.size W).alloc (Nat.le_refl _) (.cells #[.int .i64 s, .bool false] 44) |>.trans (b3.mono (Nat.le_succ _)))
    clear b3 hF3
    cases A with
    | none =>
      go_wp2
      go_region_held3 (fun w => w.cell? ⟨W.heap.size + 1, 0, none⟩ = some (.slice none 0 c5))
        (first | exact y0 | exact cell_below y0 hB)
        (first
          | (go_at_call 63; (with_reducible refine cS3.mono ?_); rintro e w5 ⟨rfl, hB0⟩; have hB := (Below.drew (Below.refl W3.heap.size W3)).trans hB0)
          | fail)
      all_goals
        have HB5 := Lib.hid (HB3.out.trans (hB.mono HB3.out.size))
        clear hB hB0
        go_wp2
        go_ret
        exact ⟨⟨_, _, rfl⟩, HB5.out⟩
    | some ad =>
      go_wp2
      go_region_held3 (fun w => w.cell? ⟨W.heap.size + 1, 0, none⟩ = some (.slice (some ad) 0 c5))
        (first | exact y0 | exact cell_below y0 hB)
        (first
          | (go_at_call 63; (with_reducible refine cS3.mono ?_); rintro e w5 ⟨rfl, hB0⟩; have hB := (Below.drew (Below.refl W3.heap.size W3)).trans hB0)
          | fail)
      all_goals
        have HB5 := Lib.hid (HB3.out.trans (hB.mono HB3.out.size))
        clear hB hB0
        go_wp2
        go_ret
        exact ⟨⟨_, _, rfl⟩, HB5.out⟩
end Go.Proofs.Ytcbdgbcphfimlaa
