/-
  moves, of a state with one move.
-/
import Derived.Test.YtcbdgbcphfimlaaNfOrd
import Derived.Test.YtcbdgbcphfimlaaNfSea
namespace Go.Proofs.Ytcbdgbcphfimlaa
open Go.RowKit
set_option linter.unusedVariables false
set_option linter.unusedSimpArgs false
set_option maxRecDepth 100000

theorem cf_A (args : Array Value) (w : World) : (callFunc 64 args).run Try.prog w = .ok (.enter 64 args) w := by
  first | rfl | kernel_rfl
theorem cf_B (args : Array Value) (w : World) : (callFunc 65 args).run Try.prog w = .ok (.enter 65 args) w := by
  first | rfl | kernel_rfl
theorem sea_one {p : Nat → Bool} {k : Nat} {b : Bool} (h : SeaAt p 1 k) (hp : p 0 = b) : k = if b = true then 0 else 1 := by
  obtain ⟨h1, h2, h3⟩ := h
  cases b with
  | true =>
    rw [if_pos rfl]
    have h2 := h2 0
    rcases Nat.lt_or_ge 0 k with h | h
    · rw [hp] at h2; exact absurd (h2 h) (by simp)
    · omega
  | false =>
    rw [if_neg (by simp)]
    have h3 := h3 0
    rcases Nat.lt_or_ge 0 k with h | h
    · omega
    · rw [hp] at h3; exact absurd (h3 h (by omega)) (by simp)
/-- What a search among one move reads. -/
structure SqF (p q g c : Nat) (N s : Int) (W : World) : Prop where
  hp : W.cell? ⟨p, 0, none⟩ = some (.slice (some ⟨g, 0, none⟩) 1 c)
  hq : W.cell? ⟨q, 0, none⟩ = some (.int .i64 s)
  hq1 : W.cell? ⟨q, 1, none⟩ = some (.bool false)
  hg : W.cell? ⟨g, 0, none⟩ = some (.int .i64 N)
  hg1 : W.cell? ⟨g, 1, none⟩ = some (.bool false)
theorem SqF.below {p q g c : Nat} {N s : Int} {W W' : World} (h : SqF p q g c N s W) (hb : Below W.heap.size W W') : SqF p q g c N s W' := ⟨cell_below h.hp hb, cell_below h.hq hb, cell_below h.hq1 hb, cell_below h.hg hb, cell_below h.hg1 hb⟩
theorem seaA {p q g c : Nat} {N s : Int} {W : World} (h : SqF p q g c N s W) : Calls Try.prog 63 #[.int .i64 1, .func (.func 64) #[] #[.pointer (some ⟨p, 0, none⟩), .pointer (some ⟨q, 0, none⟩)]] W fun e w' => e = .returned (.int .i64 (if s ≤ N then 0 else 1)) ∧ Below W.heap.size W w' := by
  refine (search_any 64 #[.pointer (some ⟨p, 0, none⟩), .pointer (some ⟨q, 0, none⟩)] 1 (fun _ => decide (s ≤ N)) W cf_A (by omega) (fun w i hb hi => ?_) (fun a b _ _ h => h)).mono ?_
  · have h' := h.below hb
    exact movesA_any h'.hp h'.hq h'.hq1 h'.hg h'.hg1 hi
  · rintro e w' ⟨k, rfl, hk, hb⟩
    have := sea_one hk rfl
    subst this
    refine ⟨?_, hb⟩
    by_cases h : s ≤ N
    · rw [if_pos h, decide_eq_true h]; rfl
    · rw [if_neg h, decide_eq_false h]; rfl
theorem seaB {p q g c : Nat} {N s : Int} {W : World} (h : SqF p q g c N s W) : Calls Try.prog 63 #[.int .i64 1, .func (.func 65) #[] #[.pointer (some ⟨p, 0, none⟩), .pointer (some ⟨q, 0, none⟩)]] W fun e w' => e = .returned (.int .i64 (if N = s then 1 else 0)) ∧ Below W.heap.size W w' := by
  refine (search_any 65 #[.pointer (some ⟨p, 0, none⟩), .pointer (some ⟨q, 0, none⟩)] 1 (fun _ => decide (N ≠ s)) W cf_B (by omega) (fun w i hb hi => ?_) (fun a b _ _ h => h)).mono ?_
  · have h' := h.below hb
    exact movesB_any h'.hp h'.hq h'.hq1 h'.hg h'.hg1 hi
  · rintro e w' ⟨k, rfl, hk, hb⟩
    have := sea_one hk rfl
    subst this
    refine ⟨?_, hb⟩
    by_cases h : N = s
    · rw [if_pos h, decide_eq_false (by simp [h])]; rfl
    · rw [if_neg h, decide_eq_true h]; rfl
theorem sea0 (W : World) (cb : Array Value) : Calls Try.prog 63 #[.int .i64 0, .func (.func 65) #[] cb] W fun e w' => e = .returned (.int .i64 0) ∧ Below W.heap.size W w' := by
  refine (search_any 65 cb 0 (fun _ => true) W cf_B (by omega) (fun w i hb hi => absurd hi (Nat.not_lt_zero _)) (fun a b _ _ h => h)).mono ?_
  rintro e w' ⟨k, rfl, ⟨hk, _⟩, hb⟩
  obtain rfl : k = 0 := by omega
  exact ⟨rfl, hb⟩
/-- A state's moves: one. -/
structure MvF (d g i c gi ci : Nat) (N : Int) (W : World) : Prop where
  hi : i < 2
  a : W.cell? ⟨d, 0, none⟩ = some (.slice (some ⟨g, 0, none⟩) 2 c)
  m : W.cell? ⟨g, i * 2, none⟩ = some (.slice (some ⟨gi, 0, none⟩) 1 ci)
  n0 : W.cell? ⟨gi, 0, none⟩ = some (.int .i64 N)
  n1 : W.cell? ⟨gi, 1, none⟩ = some (.bool false)
  n2 : W.cell? ⟨gi, 2, none⟩ = some (.int .i64 1)
  c1 : 1 ≤ ci
theorem MvF.below {d g i c gi ci : Nat} {N : Int} {W W' : World} (h : MvF d g i c gi ci N W) (hb : Below W.heap.size W W') : MvF d g i c gi ci N W' := ⟨h.hi, cell_below h.a hb, cell_below h.m hb, cell_below h.n0 hb, cell_below h.n1 hb, cell_below h.n2 hb, h.c1⟩
set_option maxHeartbeats 16000000 in
theorem moves_eq {d g i c gi ci : Nat} {N : Int} {W : World} (h : MvF d g i c gi ci N W) :
    Calls Try.prog 42 #[.pointer (some ⟨d, 0, none⟩), .int .i64 (i : Int), .agg #[.int .i64 N, .bool false]] W fun e w' => e = .returned (.slice (some ⟨gi, 0, none⟩) 1 ci) ∧ Below W.heap.size W w' := by
  have hb1 : Below W.heap.size W (W.alloc (.cells #[.int .i64 N, .bool false] 44)) := (Below.refl _ _).alloc (Nat.le_refl _) _
  have h1 := h.below hb1
  have hi := h.hi
  have hc1 := h.c1
  have cH := has_any (i := i) h1.a h.hi
  have b2 : Below W.heap.size W ((W.alloc (.cells #[.int .i64 N, .bool false] 44)).alloc (.cells #[.slice (some ⟨gi, 0, none⟩) 1 ci] 68)) := hb1.alloc hb1.size _
  have hq := (Fb.new W 44 #[.int .i64 N, .bool false]).alloc (.cells #[.slice (some ⟨gi, 0, none⟩) 1 ci] 68)
  have hp := Fb.new (W.alloc (.cells #[.int .i64 N, .bool false] 44)) 68 #[.slice (some ⟨gi, 0, none⟩) 1 ci]
  rw [World.size_alloc] at hp
  have h2 := h.below b2
  have S0 : SqF (W.heap.size + 1) W.heap.size gi ci N N ((W.alloc (.cells #[.int .i64 N, .bool false] 44)).alloc (.cells #[.slice (some ⟨gi, 0, none⟩) 1 ci] 68)) := ⟨hp.cell 0, hq.cell 0, hq.cell 1, h2.n0, h2.n1⟩
  obtain ⟨W2, hW2⟩ : ∃ W2, W2 = (W.alloc (.cells #[.int .i64 N, .bool false] 44)).alloc (.cells #[.slice (some ⟨gi, 0, none⟩) 1 ci] 68) := ⟨_, rfl⟩
  rw [← hW2] at S0 hp b2
  have HS := Lib.hid S0
  have HB2 := Lib.hid b2
  have HW2 := Lib.hid (show Below (W.heap.size + 1) (W.alloc (.cells #[.int .i64 N, .bool false] 44)) W2 from by rw [hW2]; exact (Below.refl _ _).alloc (by simp) _)
  have HQ1 := Lib.hid (Fb.new W 44 #[.int .i64 N, .bool false])
  have HM1 := Lib.hid h1
  have HP := Lib.hid hp
  have a1 := h1.a
  have m1 := h1.m
  have z0 : (0 : Int) ≤ (i : Int) := by omega
  have z1 : (i : Int) < 2 := by omega
  have HC := Lib.hid hc1
  have hcI : (1 : Int) ≤ (ci : Int) := by omega
  clear h h1 h2 hq hp S0 b2 hb1 hi
  go_enter Try.func42, Try.ntmps42
  go_wp2_with (go_at_call 45; (with_reducible refine cH.mono ?_); rintro e w1 ⟨rfl, rfl⟩)
  clear cH a1 m1
  go_wp2
  rw [← hW2]
  clear hW2
  have x0 := HS.out.hp
  have xf := HP.out.free 0
  have cS := seaA (W := W2.drew) (HS.out.below (Below.refl _ _).drew)
  rw [if_pos (Int.le_refl N)] at cS
  go_region_held3 (fun w => w.cell? ⟨W.heap.size + 1, 0, none⟩ = some (.slice (some ⟨gi, 0, none⟩) 1 ci) ∧ w.frozen? ⟨W.heap.size + 1, 0, none⟩ = false)
    (first | exact ⟨x0, xf⟩ | exact ⟨cell_below x0 hB, (HP.out.below hB).free 0⟩ | exact ⟨((HP.out.below hB).set 0 _).cell 0, ((HP.out.below hB).set 0 _).free 0⟩)
    (first
      | (go_at_call 63; (with_reducible refine cS.mono ?_); rintro e w1 ⟨rfl, hB0⟩; have hB := (Below.drew (Below.refl W2.heap.size W2)).trans hB0)
      | fail)
  all_goals
    have b3 : Below (W.heap.size + 1) (W.alloc (.cells #[.int .i64 N, .bool false] 44)) (w1.setCell ⟨W.heap.size + 1, 0, none⟩ (.slice (some ⟨gi, 0, none⟩) 1 ci)) := (HW2.out.trans (hB.mono (by rw [← World.size_alloc W (.cells #[.int .i64 N, .bool false] 44)]; simpa using HW2.out.size))).setCell (Nat.le_refl _) _
    have hF3 := (HP.out.below hB).set 0 (.slice (some ⟨gi, 0, none⟩) 1 ci)
    clear hB hB0
    obtain ⟨W3, hW3⟩ : ∃ W3, W3 = w1.setCell ⟨W.heap.size + 1, 0, none⟩ (.slice (some ⟨gi, 0, none⟩) 1 ci) := ⟨_, rfl⟩
    rw [← hW3] at b3 hF3
    go_wp2
    rw [← hW3]
    clear hW3
    have b3' : Below (W.alloc (.cells #[.int .i64 N, .bool false] 44)).heap.size (W.alloc (.cells #[.int .i64 N, .bool false] 44)) W3 := by rw [World.size_alloc]; exact b3
    have hm3 := HM1.out.below b3'
    have S3 : SqF (W.heap.size + 1) W.heap.size gi ci N N W3 := ⟨hF3.cell 0, (HQ1.out.below b3').cell 0, (HQ1.out.below b3').cell 1, hm3.n0, hm3.n1⟩
    have cS3 := seaB (W := W3.drew) (S3.below (Below.refl _ _).drew)
    rw [if_pos rfl] at cS3
    have y0 := S3.hp
    have HB3 := Lib.hid ((Below.refl W.heap.size W).alloc (Nat.le_refl _) (.cells #[.int .i64 N, .bool false] 44) |>.trans (b3.mono (Nat.le_succ _)))
    clear S3 hm3 b3' b3 hF3
    go_region_held3 (fun w => w.cell? ⟨W.heap.size + 1, 0, none⟩ = some (.slice (some ⟨gi, 0, none⟩) 1 ci))
      (first | exact y0 | exact cell_below y0 hB)
      (first
        | (go_at_call 63; (with_reducible refine cS3.mono ?_); rintro e w5 ⟨rfl, hB0⟩; have hB := (Below.drew (Below.refl W3.heap.size W3)).trans hB0)
        | fail)
    all_goals
      have HB5 := Lib.hid (HB3.out.trans (hB.mono HB3.out.size))
      clear hB hB0
      go_wp2
      go_ret
      exact ⟨rfl, HB5.out⟩
end Go.Proofs.Ytcbdgbcphfimlaa
