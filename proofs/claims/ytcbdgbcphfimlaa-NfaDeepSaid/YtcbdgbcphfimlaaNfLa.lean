/-
  lay of a path of one part within another.
-/
import Derived.Test.YtcbdgbcphfimlaaNfSy
import Derived.Test.YtcbdgbcphfimlaaNfSe
import Derived.Test.YtcbdgbcphfimlaaNfAl
import Derived.Deep.RegionHeld3
namespace Go.Proofs.Ytcbdgbcphfimlaa
open Go.RowKit
set_option linter.unusedVariables false
set_option linter.unusedSimpArgs false
set_option maxRecDepth 100000

set_option maxHeartbeats 16000000 in
theorem lay_seq {B d b : Nat} {N kd nn : Int} {A9 : Option Addr} {m9 c9 : Nat} {lp em : Bool} {W : World} (hF : Fb W b 28 #[.int .i64 kd, .int .i64 nn, .slice A9 m9 c9]) (hB : B ≤ W.heap.size)
    (hL : ∀ w, Below W.heap.size W w → Calls Try.prog 31 #[.pointer (some ⟨d, 0, none⟩), .agg #[.int .i64 kd, .int .i64 nn, .slice A9 m9 c9]] w (LyQ B d N lp em w)) :
    Calls Try.prog 31 #[.pointer (some ⟨d, 0, none⟩), .agg #[.int .i64 2, .int .i64 0, .slice (some ⟨b, 0, none⟩) 1 1]] W (LyQ B d N lp em W) := by
  obtain ⟨W2, hW2⟩ : ∃ W2, W2 = (W.alloc (.cells #[.int .i64 2, .int .i64 0, .slice (some ⟨b, 0, none⟩) 1 1] 28)).alloc (.cells #[.slice none 0 0, .slice none 0 0, .bool false] 70) := ⟨_, rfl⟩
  have hb2 : Below W.heap.size W W2 := by rw [hW2]; exact ((Below.refl _ _).alloc (Nat.le_refl _) _).alloc (by simp) _
  have hX : Fb W2 W.heap.size 28 #[.int .i64 2, .int .i64 0, .slice (some ⟨b, 0, none⟩) 1 1] := by rw [hW2]; exact (Fb.new W _ _).alloc _
  have hY : Fb W2 (W.heap.size + 1) 70 #[.slice none 0 0, .slice none 0 0, .bool false] := by
    have := Fb.new (W.alloc (.cells #[.int .i64 2, .int .i64 0, .slice (some ⟨b, 0, none⟩) 1 1] 28)) 70 #[.slice none 0 0, .slice none 0 0, .bool false]
    rw [World.size_alloc] at this
    rw [hW2]; exact this
  have hF2 := hF.below hb2
  have hbn : b < W.heap.size := hF.lt
  have cS := seq_one hF2 (Nat.le_trans hB hb2.size) (fun w hw => hL w (hb2.trans (hw.mono hb2.size)))
  have HB2 := Lib.hid hb2
  have HY := Lib.hid hY
  have x0 := hX.cell 0
  have x1 := hX.cell 1
  have x2 := hX.cell 2
  have HBB := Lib.hid hB
  clear hB hb2 hX hY hF hL hF2 hbn
  subst hW2
  go_enter Try.func31, Try.ntmps31
  go_wp2_with (go_at_call 50; (with_reducible refine cS.mono ?_); rintro e w5 ⟨f, l, rfl, hly, hk5⟩; obtain ⟨k0, ck, rfl, hmv⟩ := id hly.fi; obtain ⟨gl, cl, rfl, _⟩ := own_at hly.la (by decide); have hy5 := hk5.k _ _ _ HY.out (by decide) (by decide); have v0 := hy5.cell 0; have v1 := hy5.cell 1; have v2 := hy5.cell 2; have u0 := hy5.free 0; have u1 := hy5.free 1; have u2 := hy5.free 2; have HLY := Lib.hid hly; have HK5 := Lib.hid (Kp.trans (Kp.below HB2.out HBB.out) hk5); have HY5 := Lib.hid hy5; clear hly hk5 hy5 hmv)
  have hY9 : Fb (((w5.setCell ⟨W.heap.size + 1, 0, none⟩ (.slice (some ⟨k0, 0, none⟩) 1 ck)).setCell ⟨W.heap.size + 1, 1, none⟩ (.slice (some ⟨gl, 0, none⟩) 1 cl)).setCell ⟨W.heap.size + 1, 2, none⟩ (.bool em)) (W.heap.size + 1) 70 #[.slice (some ⟨k0, 0, none⟩) 1 ck, .slice (some ⟨gl, 0, none⟩) 1 cl, .bool em] := ((HY5.out.set 0 _).set 1 _).set 2 _
  have hL9 := ((HLY.out.set HY5.out 0 (.slice (some ⟨k0, 0, none⟩) 1 ck)).set (HY5.out.set 0 _) 1 (.slice (some ⟨gl, 0, none⟩) 1 cl)).set ((HY5.out.set 0 _).set 1 _) 2 (.bool em)
  have hK9 := ((HK5.out.set HBB.out (Nat.le_succ _) 0 (.slice (some ⟨k0, 0, none⟩) 1 ck)).set HBB.out (Nat.le_succ _) 1 (.slice (some ⟨gl, 0, none⟩) 1 cl)).set HBB.out (Nat.le_succ _) 2 (.bool em)
  obtain ⟨W9, hW9⟩ : ∃ W9, W9 = ((w5.setCell ⟨W.heap.size + 1, 0, none⟩ (.slice (some ⟨k0, 0, none⟩) 1 ck)).setCell ⟨W.heap.size + 1, 1, none⟩ (.slice (some ⟨gl, 0, none⟩) 1 cl)).setCell ⟨W.heap.size + 1, 2, none⟩ (.bool em) := ⟨_, rfl⟩
  rw [← hW9] at hY9 hL9 hK9
  rw [← hW9]
  have v0 := hY9.cell 0
  have v1 := hY9.cell 1
  have v2 := hY9.cell 2
  clear hW9
  try simp only [Exit.inBlock, Exit.then]
  refine bodyPost_ret (results_cell_row (P := Try.prog) rfl _ W9 (W.heap.size + 1) 70 _ (0, 0) _ rfl hY9 Try.underlying70 rfl (by kernel_rfl)) rfl ?_
  exact ⟨_, _, rfl, hL9, hK9⟩
set_option maxHeartbeats 16000000 in
theorem lay_alt {B d b : Nat} {N kd nn : Int} {A9 : Option Addr} {m9 c9 : Nat} {lp em : Bool} {W : World} (hF : Fb W b 28 #[.int .i64 kd, .int .i64 nn, .slice A9 m9 c9]) (hB : B ≤ W.heap.size)
    (hL : ∀ w, Below W.heap.size W w → Calls Try.prog 31 #[.pointer (some ⟨d, 0, none⟩), .agg #[.int .i64 kd, .int .i64 nn, .slice A9 m9 c9]] w (LyQ B d N lp em w)) :
    Calls Try.prog 31 #[.pointer (some ⟨d, 0, none⟩), .agg #[.int .i64 3, .int .i64 0, .slice (some ⟨b, 0, none⟩) 1 1]] W (LyQ B d N lp em W) := by
  obtain ⟨W2, hW2⟩ : ∃ W2, W2 = (W.alloc (.cells #[.int .i64 3, .int .i64 0, .slice (some ⟨b, 0, none⟩) 1 1] 28)).alloc (.cells #[.slice none 0 0, .slice none 0 0, .bool false] 70) := ⟨_, rfl⟩
  have hb2 : Below W.heap.size W W2 := by rw [hW2]; exact ((Below.refl _ _).alloc (Nat.le_refl _) _).alloc (by simp) _
  have hX : Fb W2 W.heap.size 28 #[.int .i64 3, .int .i64 0, .slice (some ⟨b, 0, none⟩) 1 1] := by rw [hW2]; exact (Fb.new W _ _).alloc _
  have hY : Fb W2 (W.heap.size + 1) 70 #[.slice none 0 0, .slice none 0 0, .bool false] := by
    have := Fb.new (W.alloc (.cells #[.int .i64 3, .int .i64 0, .slice (some ⟨b, 0, none⟩) 1 1] 28)) 70 #[.slice none 0 0, .slice none 0 0, .bool false]
    rw [World.size_alloc] at this
    rw [hW2]; exact this
  have hF2 := hF.below hb2
  have hbn : b < W.heap.size := hF.lt
  have cS := alt_one hF2 (Nat.le_trans hB hb2.size) (fun w hw => hL w (hb2.trans (hw.mono hb2.size)))
  have HB2 := Lib.hid hb2
  have HY := Lib.hid hY
  have x0 := hX.cell 0
  have x1 := hX.cell 1
  have x2 := hX.cell 2
  have HBB := Lib.hid hB
  clear hB hb2 hX hY hF hL hF2 hbn
  subst hW2
  go_enter Try.func31, Try.ntmps31
  go_wp2_with (go_at_call 51; (with_reducible refine cS.mono ?_); rintro e w5 ⟨f, l, rfl, hly, hk5⟩; obtain ⟨k0, ck, rfl, hmv⟩ := id hly.fi; obtain ⟨gl, cl, rfl, _⟩ := own_at hly.la (by decide); have hy5 := hk5.k _ _ _ HY.out (by decide) (by decide); have v0 := hy5.cell 0; have v1 := hy5.cell 1; have v2 := hy5.cell 2; have u0 := hy5.free 0; have u1 := hy5.free 1; have u2 := hy5.free 2; have HLY := Lib.hid hly; have HK5 := Lib.hid (Kp.trans (Kp.below HB2.out HBB.out) hk5); have HY5 := Lib.hid hy5; clear hly hk5 hy5 hmv)
  have hY9 : Fb (((w5.setCell ⟨W.heap.size + 1, 0, none⟩ (.slice (some ⟨k0, 0, none⟩) 1 ck)).setCell ⟨W.heap.size + 1, 1, none⟩ (.slice (some ⟨gl, 0, none⟩) 1 cl)).setCell ⟨W.heap.size + 1, 2, none⟩ (.bool em)) (W.heap.size + 1) 70 #[.slice (some ⟨k0, 0, none⟩) 1 ck, .slice (some ⟨gl, 0, none⟩) 1 cl, .bool em] := ((HY5.out.set 0 _).set 1 _).set 2 _
  have hL9 := ((HLY.out.set HY5.out 0 (.slice (some ⟨k0, 0, none⟩) 1 ck)).set (HY5.out.set 0 _) 1 (.slice (some ⟨gl, 0, none⟩) 1 cl)).set ((HY5.out.set 0 _).set 1 _) 2 (.bool em)
  have hK9 := ((HK5.out.set HBB.out (Nat.le_succ _) 0 (.slice (some ⟨k0, 0, none⟩) 1 ck)).set HBB.out (Nat.le_succ _) 1 (.slice (some ⟨gl, 0, none⟩) 1 cl)).set HBB.out (Nat.le_succ _) 2 (.bool em)
  obtain ⟨W9, hW9⟩ : ∃ W9, W9 = ((w5.setCell ⟨W.heap.size + 1, 0, none⟩ (.slice (some ⟨k0, 0, none⟩) 1 ck)).setCell ⟨W.heap.size + 1, 1, none⟩ (.slice (some ⟨gl, 0, none⟩) 1 cl)).setCell ⟨W.heap.size + 1, 2, none⟩ (.bool em) := ⟨_, rfl⟩
  rw [← hW9] at hY9 hL9 hK9
  rw [← hW9]
  have v0 := hY9.cell 0
  have v1 := hY9.cell 1
  have v2 := hY9.cell 2
  clear hW9
  try simp only [Exit.inBlock, Exit.then]
  refine bodyPost_ret (results_cell_row (P := Try.prog) rfl _ W9 (W.heap.size + 1) 70 _ (0, 0) _ rfl hY9 Try.underlying70 rfl (by kernel_rfl)) rfl ?_
  exact ⟨_, _, rfl, hL9, hK9⟩
set_option maxHeartbeats 16000000 in
theorem lay_again {B d b : Nat} {N kd nn k : Int} {A9 : Option Addr} {m9 c9 : Nat} {lp em : Bool} {W : World} (hF : Fb W b 28 #[.int .i64 kd, .int .i64 nn, .slice A9 m9 c9]) (hB : B ≤ W.heap.size)
    (hL : ∀ w, Below W.heap.size W w → Calls Try.prog 31 #[.pointer (some ⟨d, 0, none⟩), .agg #[.int .i64 kd, .int .i64 nn, .slice A9 m9 c9]] w (LyQ B d N lp em w)) (hk : k = 4 ∨ k = 5 ∨ k = 6) :
    Calls Try.prog 31 #[.pointer (some ⟨d, 0, none⟩), .agg #[.int .i64 k, .int .i64 0, .slice (some ⟨b, 0, none⟩) 1 1]] W (LyQ B d N (if k = 6 then lp else true) (if k = 5 then em else true) W) := by
  obtain ⟨W2, hW2⟩ : ∃ W2, W2 = (W.alloc (.cells #[.int .i64 k, .int .i64 0, .slice (some ⟨b, 0, none⟩) 1 1] 28)).alloc (.cells #[.slice none 0 0, .slice none 0 0, .bool false] 70) := ⟨_, rfl⟩
  have hb2 : Below W.heap.size W W2 := by rw [hW2]; exact ((Below.refl _ _).alloc (Nat.le_refl _) _).alloc (by simp) _
  have hX : Fb W2 W.heap.size 28 #[.int .i64 k, .int .i64 0, .slice (some ⟨b, 0, none⟩) 1 1] := by rw [hW2]; exact (Fb.new W _ _).alloc _
  have hY : Fb W2 (W.heap.size + 1) 70 #[.slice none 0 0, .slice none 0 0, .bool false] := by
    have := Fb.new (W.alloc (.cells #[.int .i64 k, .int .i64 0, .slice (some ⟨b, 0, none⟩) 1 1] 28)) 70 #[.slice none 0 0, .slice none 0 0, .bool false]
    rw [World.size_alloc] at this
    rw [hW2]; exact this
  have hF2 := hF.below hb2
  have hbn : b < W.heap.size := hF.lt
  have cS := hL W2.drew (Below.drew hb2)
  have HB2 := Lib.hid (Below.drew hb2)
  have HY := Lib.hid hY.drew
  have HX := Lib.hid hX.drew
  have HF2 := Lib.hid hF2.drew
  have x0 := hX.cell 0
  have x2 := hX.cell 2
  have b0 := hF2.cell 0
  have b1 := hF2.cell 1
  have b2 := hF2.cell 2
  have n1 : W.heap.size ≠ W.heap.size + 1 := by omega
  have n2 : b ≠ W.heap.size + 1 := by omega
  have HBB := Lib.hid hB
  have HA := Lib.hid (fun (f l : Value) (w : World) (h : Ly B d N lp f l w) (hw : B ≤ w.heap.size) => again_any (em := em) h hw hk)
  have HN := Lib.hid (And.intro n1 n2)
  obtain ⟨E6, hE6⟩ : ∃ E6 : Bool, E6 = (if k = 5 then em else true) := ⟨_, rfl⟩
  obtain ⟨L6, hL6⟩ : ∃ L6 : Bool, L6 = (if k = 6 then lp else true) := ⟨_, rfl⟩
  rw [← hE6, ← hL6] at HA ⊢
  clear hE6 hL6 hB hb2 hX hY hF hL hF2 hbn n1 n2
  rcases hk with rfl | rfl | rfl
  · go_enter Try.func31, Try.ntmps31
    go_wp2
    rw [← hW2]
    clear hW2
    go_region_held3 (fun w => w.cell? ⟨W.heap.size, 0, none⟩ = some (.int .i64 4) ∧ w.cell? ⟨W.heap.size, 2, none⟩ = some (.slice (some ⟨b, 0, none⟩) 1 1) ∧ w.cell? ⟨b, 0, none⟩ = some (.int .i64 kd) ∧ w.cell? ⟨b, 1, none⟩ = some (.int .i64 nn) ∧ w.cell? ⟨b, 2, none⟩ = some (.slice A9 m9 c9))
      (first | exact ⟨x0, x2, b0, b1, b2⟩ | exact ⟨hx5.cell 0, hx5.cell 2, hf5.cell 0, hf5.cell 1, hf5.cell 2⟩ | exact ⟨hx6.cell 0, hx6.cell 2, hf6.cell 0, hf6.cell 1, hf6.cell 2⟩ | exact ⟨(((hx6.far 0 _ HN.out.1).far 1 _ HN.out.1).far 2 _ HN.out.1).cell 0, (((hx6.far 0 _ HN.out.1).far 1 _ HN.out.1).far 2 _ HN.out.1).cell 2, (((hf6.far 0 _ HN.out.2).far 1 _ HN.out.2).far 2 _ HN.out.2).cell 0, (((hf6.far 0 _ HN.out.2).far 1 _ HN.out.2).far 2 _ HN.out.2).cell 1, (((hf6.far 0 _ HN.out.2).far 1 _ HN.out.2).far 2 _ HN.out.2).cell 2⟩)
      (first
        | (go_at_call 31; (with_reducible refine cS.mono ?_); rintro e w5 ⟨f, l, rfl, hly, hk5⟩; have hx5 := hk5.k _ _ _ HX.out (by decide) (by decide); have hf5 := hk5.k _ _ _ HF2.out (by decide) (by decide); have hy5 := hk5.k _ _ _ HY.out (by decide) (by decide); have cA := HA.out f l w5 hly (Nat.le_trans HBB.out (Nat.le_trans HB2.out.size hk5.b.size)))
        | (go_at_call 52; (with_reducible refine cA.mono ?_); rintro e w6 ⟨rfl, hly6, hk6⟩; obtain ⟨k0, ck, rfl, hmv⟩ := id hly6.fi; obtain ⟨gl, cl, rfl, _⟩ := own_at hly6.la (by decide); have hx6 := hk6.k _ _ _ hx5 (by decide) (by decide); have hf6 := hk6.k _ _ _ hf5 (by decide) (by decide); have hy6 := hk6.k _ _ _ hy5 (by decide) (by decide); have v0 := hy6.cell 0; have v1 := hy6.cell 1; have v2 := hy6.cell 2; have u0 := hy6.free 0; have u1 := hy6.free 1; have u2 := hy6.free 2; have HLY := Lib.hid hly6; have HK6 := Lib.hid ((Kp.trans (Kp.below HB2.out HBB.out) hk5).trans hk6); have HY6 := Lib.hid hy6)
        | fail)
    all_goals
      clear cA cS x0 x2 b0 b1 b2 hx5 hf5 hy5 hx6 hf6 hy6 v0 v1 v2
      go_wp2
      have hY9 : Fb (((w6.setCell ⟨W.heap.size + 1, 0, none⟩ (.slice (some ⟨k0, 0, none⟩) 1 ck)).setCell ⟨W.heap.size + 1, 1, none⟩ (.slice (some ⟨gl, 0, none⟩) 1 cl)).setCell ⟨W.heap.size + 1, 2, none⟩ (.bool E6)) (W.heap.size + 1) 70 #[.slice (some ⟨k0, 0, none⟩) 1 ck, .slice (some ⟨gl, 0, none⟩) 1 cl, .bool E6] := ((HY6.out.set 0 _).set 1 _).set 2 _
      have hL9 := ((HLY.out.set HY6.out 0 (.slice (some ⟨k0, 0, none⟩) 1 ck)).set (HY6.out.set 0 _) 1 (.slice (some ⟨gl, 0, none⟩) 1 cl)).set ((HY6.out.set 0 _).set 1 _) 2 (.bool E6)
      have hK9 := ((HK6.out.set HBB.out (Nat.le_succ _) 0 (.slice (some ⟨k0, 0, none⟩) 1 ck)).set HBB.out (Nat.le_succ _) 1 (.slice (some ⟨gl, 0, none⟩) 1 cl)).set HBB.out (Nat.le_succ _) 2 (.bool E6)
      obtain ⟨W9, hW9⟩ : ∃ W9, W9 = ((w6.setCell ⟨W.heap.size + 1, 0, none⟩ (.slice (some ⟨k0, 0, none⟩) 1 ck)).setCell ⟨W.heap.size + 1, 1, none⟩ (.slice (some ⟨gl, 0, none⟩) 1 cl)).setCell ⟨W.heap.size + 1, 2, none⟩ (.bool E6) := ⟨_, rfl⟩
      rw [← hW9] at hY9 hL9 hK9
      rw [← hW9]
      have v0 := hY9.cell 0
      have v1 := hY9.cell 1
      have v2 := hY9.cell 2
      clear hW9
      try simp only [Exit.inBlock, Exit.then]
      refine bodyPost_ret (results_cell_row (P := Try.prog) rfl _ W9 (W.heap.size + 1) 70 _ (0, 0) _ rfl hY9 Try.underlying70 rfl (by kernel_rfl)) rfl ?_
      exact ⟨_, _, rfl, hL9, hK9⟩
  · go_enter Try.func31, Try.ntmps31
    go_wp2
    rw [← hW2]
    clear hW2
    go_region_held3 (fun w => w.cell? ⟨W.heap.size, 0, none⟩ = some (.int .i64 5) ∧ w.cell? ⟨W.heap.size, 2, none⟩ = some (.slice (some ⟨b, 0, none⟩) 1 1) ∧ w.cell? ⟨b, 0, none⟩ = some (.int .i64 kd) ∧ w.cell? ⟨b, 1, none⟩ = some (.int .i64 nn) ∧ w.cell? ⟨b, 2, none⟩ = some (.slice A9 m9 c9))
      (first | exact ⟨x0, x2, b0, b1, b2⟩ | exact ⟨hx5.cell 0, hx5.cell 2, hf5.cell 0, hf5.cell 1, hf5.cell 2⟩ | exact ⟨hx6.cell 0, hx6.cell 2, hf6.cell 0, hf6.cell 1, hf6.cell 2⟩ | exact ⟨(((hx6.far 0 _ HN.out.1).far 1 _ HN.out.1).far 2 _ HN.out.1).cell 0, (((hx6.far 0 _ HN.out.1).far 1 _ HN.out.1).far 2 _ HN.out.1).cell 2, (((hf6.far 0 _ HN.out.2).far 1 _ HN.out.2).far 2 _ HN.out.2).cell 0, (((hf6.far 0 _ HN.out.2).far 1 _ HN.out.2).far 2 _ HN.out.2).cell 1, (((hf6.far 0 _ HN.out.2).far 1 _ HN.out.2).far 2 _ HN.out.2).cell 2⟩)
      (first
        | (go_at_call 31; (with_reducible refine cS.mono ?_); rintro e w5 ⟨f, l, rfl, hly, hk5⟩; have hx5 := hk5.k _ _ _ HX.out (by decide) (by decide); have hf5 := hk5.k _ _ _ HF2.out (by decide) (by decide); have hy5 := hk5.k _ _ _ HY.out (by decide) (by decide); have cA := HA.out f l w5 hly (Nat.le_trans HBB.out (Nat.le_trans HB2.out.size hk5.b.size)))
        | (go_at_call 52; (with_reducible refine cA.mono ?_); rintro e w6 ⟨rfl, hly6, hk6⟩; obtain ⟨k0, ck, rfl, hmv⟩ := id hly6.fi; obtain ⟨gl, cl, rfl, _⟩ := own_at hly6.la (by decide); have hx6 := hk6.k _ _ _ hx5 (by decide) (by decide); have hf6 := hk6.k _ _ _ hf5 (by decide) (by decide); have hy6 := hk6.k _ _ _ hy5 (by decide) (by decide); have v0 := hy6.cell 0; have v1 := hy6.cell 1; have v2 := hy6.cell 2; have u0 := hy6.free 0; have u1 := hy6.free 1; have u2 := hy6.free 2; have HLY := Lib.hid hly6; have HK6 := Lib.hid ((Kp.trans (Kp.below HB2.out HBB.out) hk5).trans hk6); have HY6 := Lib.hid hy6)
        | fail)
    all_goals
      clear cA cS x0 x2 b0 b1 b2 hx5 hf5 hy5 hx6 hf6 hy6 v0 v1 v2
      go_wp2
      have hY9 : Fb (((w6.setCell ⟨W.heap.size + 1, 0, none⟩ (.slice (some ⟨k0, 0, none⟩) 1 ck)).setCell ⟨W.heap.size + 1, 1, none⟩ (.slice (some ⟨gl, 0, none⟩) 1 cl)).setCell ⟨W.heap.size + 1, 2, none⟩ (.bool E6)) (W.heap.size + 1) 70 #[.slice (some ⟨k0, 0, none⟩) 1 ck, .slice (some ⟨gl, 0, none⟩) 1 cl, .bool E6] := ((HY6.out.set 0 _).set 1 _).set 2 _
      have hL9 := ((HLY.out.set HY6.out 0 (.slice (some ⟨k0, 0, none⟩) 1 ck)).set (HY6.out.set 0 _) 1 (.slice (some ⟨gl, 0, none⟩) 1 cl)).set ((HY6.out.set 0 _).set 1 _) 2 (.bool E6)
      have hK9 := ((HK6.out.set HBB.out (Nat.le_succ _) 0 (.slice (some ⟨k0, 0, none⟩) 1 ck)).set HBB.out (Nat.le_succ _) 1 (.slice (some ⟨gl, 0, none⟩) 1 cl)).set HBB.out (Nat.le_succ _) 2 (.bool E6)
      obtain ⟨W9, hW9⟩ : ∃ W9, W9 = ((w6.setCell ⟨W.heap.size + 1, 0, none⟩ (.slice (some ⟨k0, 0, none⟩) 1 ck)).setCell ⟨W.heap.size + 1, 1, none⟩ (.slice (some ⟨gl, 0, none⟩) 1 cl)).setCell ⟨W.heap.size + 1, 2, none⟩ (.bool E6) := ⟨_, rfl⟩
      rw [← hW9] at hY9 hL9 hK9
      rw [← hW9]
      have v0 := hY9.cell 0
      have v1 := hY9.cell 1
      have v2 := hY9.cell 2
      clear hW9
      try simp only [Exit.inBlock, Exit.then]
      refine bodyPost_ret (results_cell_row (P := Try.prog) rfl _ W9 (W.heap.size + 1) 70 _ (0, 0) _ rfl hY9 Try.underlying70 rfl (by kernel_rfl)) rfl ?_
      exact ⟨_, _, rfl, hL9, hK9⟩
  · go_enter Try.func31, Try.ntmps31
    go_wp2
    rw [← hW2]
    clear hW2
    go_region_held3 (fun w => w.cell? ⟨W.heap.size, 0, none⟩ = some (.int .i64 6) ∧ w.cell? ⟨W.heap.size, 2, none⟩ = some (.slice (some ⟨b, 0, none⟩) 1 1) ∧ w.cell? ⟨b, 0, none⟩ = some (.int .i64 kd) ∧ w.cell? ⟨b, 1, none⟩ = some (.int .i64 nn) ∧ w.cell? ⟨b, 2, none⟩ = some (.slice A9 m9 c9))
      (first | exact ⟨x0, x2, b0, b1, b2⟩ | exact ⟨hx5.cell 0, hx5.cell 2, hf5.cell 0, hf5.cell 1, hf5.cell 2⟩ | exact ⟨hx6.cell 0, hx6.cell 2, hf6.cell 0, hf6.cell 1, hf6.cell 2⟩ | exact ⟨(((hx6.far 0 _ HN.out.1).far 1 _ HN.out.1).far 2 _ HN.out.1).cell 0, (((hx6.far 0 _ HN.out.1).far 1 _ HN.out.1).far 2 _ HN.out.1).cell 2, (((hf6.far 0 _ HN.out.2).far 1 _ HN.out.2).far 2 _ HN.out.2).cell 0, (((hf6.far 0 _ HN.out.2).far 1 _ HN.out.2).far 2 _ HN.out.2).cell 1, (((hf6.far 0 _ HN.out.2).far 1 _ HN.out.2).far 2 _ HN.out.2).cell 2⟩)
      (first
        | (go_at_call 31; (with_reducible refine cS.mono ?_); rintro e w5 ⟨f, l, rfl, hly, hk5⟩; have hx5 := hk5.k _ _ _ HX.out (by decide) (by decide); have hf5 := hk5.k _ _ _ HF2.out (by decide) (by decide); have hy5 := hk5.k _ _ _ HY.out (by decide) (by decide); have cA := HA.out f l w5 hly (Nat.le_trans HBB.out (Nat.le_trans HB2.out.size hk5.b.size)))
        | (go_at_call 52; (with_reducible refine cA.mono ?_); rintro e w6 ⟨rfl, hly6, hk6⟩; obtain ⟨k0, ck, rfl, hmv⟩ := id hly6.fi; obtain ⟨gl, cl, rfl, _⟩ := own_at hly6.la (by decide); have hx6 := hk6.k _ _ _ hx5 (by decide) (by decide); have hf6 := hk6.k _ _ _ hf5 (by decide) (by decide); have hy6 := hk6.k _ _ _ hy5 (by decide) (by decide); have v0 := hy6.cell 0; have v1 := hy6.cell 1; have v2 := hy6.cell 2; have u0 := hy6.free 0; have u1 := hy6.free 1; have u2 := hy6.free 2; have HLY := Lib.hid hly6; have HK6 := Lib.hid ((Kp.trans (Kp.below HB2.out HBB.out) hk5).trans hk6); have HY6 := Lib.hid hy6)
        | fail)
    all_goals
      clear cA cS x0 x2 b0 b1 b2 hx5 hf5 hy5 hx6 hf6 hy6 v0 v1 v2
      go_wp2
      have hY9 : Fb (((w6.setCell ⟨W.heap.size + 1, 0, none⟩ (.slice (some ⟨k0, 0, none⟩) 1 ck)).setCell ⟨W.heap.size + 1, 1, none⟩ (.slice (some ⟨gl, 0, none⟩) 1 cl)).setCell ⟨W.heap.size + 1, 2, none⟩ (.bool E6)) (W.heap.size + 1) 70 #[.slice (some ⟨k0, 0, none⟩) 1 ck, .slice (some ⟨gl, 0, none⟩) 1 cl, .bool E6] := ((HY6.out.set 0 _).set 1 _).set 2 _
      have hL9 := ((HLY.out.set HY6.out 0 (.slice (some ⟨k0, 0, none⟩) 1 ck)).set (HY6.out.set 0 _) 1 (.slice (some ⟨gl, 0, none⟩) 1 cl)).set ((HY6.out.set 0 _).set 1 _) 2 (.bool E6)
      have hK9 := ((HK6.out.set HBB.out (Nat.le_succ _) 0 (.slice (some ⟨k0, 0, none⟩) 1 ck)).set HBB.out (Nat.le_succ _) 1 (.slice (some ⟨gl, 0, none⟩) 1 cl)).set HBB.out (Nat.le_succ _) 2 (.bool E6)
      obtain ⟨W9, hW9⟩ : ∃ W9, W9 = ((w6.setCell ⟨W.heap.size + 1, 0, none⟩ (.slice (some ⟨k0, 0, none⟩) 1 ck)).setCell ⟨W.heap.size + 1, 1, none⟩ (.slice (some ⟨gl, 0, none⟩) 1 cl)).setCell ⟨W.heap.size + 1, 2, none⟩ (.bool E6) := ⟨_, rfl⟩
      rw [← hW9] at hY9 hL9 hK9
      rw [← hW9]
      have v0 := hY9.cell 0
      have v1 := hY9.cell 1
      have v2 := hY9.cell 2
      clear hW9
      try simp only [Exit.inBlock, Exit.then]
      refine bodyPost_ret (results_cell_row (P := Try.prog) rfl _ W9 (W.heap.size + 1) 70 _ (0, 0) _ rfl hY9 Try.underlying70 rfl (by kernel_rfl)) rfl ?_
      exact ⟨_, _, rfl, hL9, hK9⟩
end Go.Proofs.Ytcbdgbcphfimlaa
