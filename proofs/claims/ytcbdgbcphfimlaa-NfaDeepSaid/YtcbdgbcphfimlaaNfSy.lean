/-
  lay of a step.
-/
import Derived.Test.YtcbdgbcphfimlaaNfAp
import Derived.Laws.OwnMore
namespace Go.Proofs.Ytcbdgbcphfimlaa
open Go.RowKit
set_option linter.unusedVariables false
set_option linter.unusedSimpArgs false
set_option maxRecDepth 100000

theorem MS.two {B d : Nat} {W : World} (h : MS B d 2 [.slice none 0 0, .bool false, .slice none 0 0, .bool false] W) : ∃ g c cs, Fb W d 67 #[.slice (some ⟨g, 0, none⟩) 2 c] ∧ Fb W g 74 cs ∧ B ≤ g ∧ cs[0]? = some (.slice none 0 0) ∧ cs[1]? = some (.bool false) ∧ cs[2]? = some (.slice none 0 0) ∧ cs[3]? = some (.bool false) := by
  obtain ⟨A, c, h1, h2, h3⟩ := h
  rcases id h2.2 with ⟨hv, h0⟩ | ⟨g, cap, cur, hv, hB, hg, hc, hm, hs, ht⟩
  · exact absurd h0 (by decide)
  · injection hv with e1 e2 e3
    subst e1
    have key : ∀ j, j < 4 → cur[j]? = ([.slice none 0 0, .bool false, .slice none 0 0, .bool false] : List Value)[j]? := fun j hj => by
      rw [← ht, List.getElem?_take, if_pos hj]; simp
    exact ⟨g, _, cur, h1, hg, hB, key 0 (by decide), key 1 (by decide), key 2 (by decide), key 3 (by decide)⟩
def SymQ (W : World) (N : Int) (e : Ending) (w' : World) : Prop := e = .returned (.agg #[.int .i64 N, .bool false]) ∧ Below W.heap.size W w'
set_option maxHeartbeats 8000000 in
theorem symbol_leaf (W : World) (N : Int) : Calls Try.prog 53 #[.agg #[.int .i64 0, .int .i64 N, .slice none 0 0]] W (SymQ W N) := by
  have hY9 : Fb ((W.alloc (.cells #[.int .i64 0, .int .i64 N, .slice none 0 0] 28)).alloc (.cells #[.int .i64 N, .bool false] 44)) (W.heap.size + 1) 44 #[.int .i64 N, .bool false] := by
    have := Fb.new (W.alloc (.cells #[.int .i64 0, .int .i64 N, .slice none 0 0] 28)) 44 #[.int .i64 N, .bool false]
    rw [World.size_alloc] at this
    exact this
  have hb9 : Below W.heap.size W ((W.alloc (.cells #[.int .i64 0, .int .i64 N, .slice none 0 0] 28)).alloc (.cells #[.int .i64 N, .bool false] 44)) := ((Below.refl _ _).alloc (Nat.le_refl _) _).alloc (by simp) _
  have HY9 := Lib.hid hY9
  have HB9 := Lib.hid hb9
  clear hY9 hb9
  go_enter Try.func53, Try.ntmps53
  go_wp2
  try simp only [Exit.inBlock, Exit.then]
  refine bodyPost_ret (results_cell_row (P := Try.prog) rfl _ _ (W.heap.size + 1) 44 _ (0, 0) _ rfl HY9.out Try.underlying44 rfl (by kernel_rfl)) rfl ?_
  exact ⟨rfl, HB9.out⟩
set_option maxHeartbeats 16000000 in
theorem lay_leaf {B d : Nat} {N : Int} {W : World} (h : MS B d 1 [.slice none 0 0, .bool false] W) (hB : B ≤ W.heap.size) :
    Calls Try.prog 31 #[.pointer (some ⟨d, 0, none⟩), .agg #[.int .i64 0, .int .i64 N, .slice none 0 0]] W (LyQ B d N false false W) := by
  obtain ⟨W2, hW2⟩ : ∃ W2, W2 = (W.alloc (.cells #[.int .i64 0, .int .i64 N, .slice none 0 0] 28)).alloc (.cells #[.slice none 0 0, .slice none 0 0, .bool false] 70) := ⟨_, rfl⟩
  have hb2 : Below W.heap.size W W2 := by rw [hW2]; exact ((Below.refl _ _).alloc (Nat.le_refl _) _).alloc (by simp) _
  have hX : Fb W2 W.heap.size 28 #[.int .i64 0, .int .i64 N, .slice none 0 0] := by rw [hW2]; exact (Fb.new W _ _).alloc _
  have hY : Fb W2 (W.heap.size + 1) 70 #[.slice none 0 0, .slice none 0 0, .bool false] := by
    have := Fb.new (W.alloc (.cells #[.int .i64 0, .int .i64 N, .slice none 0 0] 28)) 70 #[.slice none 0 0, .slice none 0 0, .bool false]
    rw [World.size_alloc] at this
    rw [hW2]; exact this
  have cS := symbol_leaf W2 N
  have HM := Lib.hid (fun (w : World) (hw : Below W2.heap.size W2 w) => more_any ((h.below hb2).below hw) (by decide) (Nat.le_trans hB (Nat.le_trans hb2.size hw.size)))
  have HB2 := Lib.hid hb2
  have HX := Lib.hid hX
  have HY := Lib.hid hY
  have x0 := hX.cell 0
  have x1 := hX.cell 1
  have x2 := hX.cell 2
  have HBB := Lib.hid hB
  clear h hB hb2 hX hY
  subst hW2
  go_enter Try.func31, Try.ntmps31
  go_wp2_with (first
    | (go_at_call 53; (with_reducible refine cS.mono ?_); rintro e w5 ⟨rfl, hb5⟩; have cM := HM.out w5 hb5; have HB5 := Lib.hid hb5; clear hb5)
    | (go_at_call 30; (with_reducible refine cM.mono ?_); rintro e w6 ⟨rfl, hms, hk6⟩; have hy6 := hk6.k _ _ _ (HY.out.below HB5.out) (by decide) (by decide); have ha6 : Fb (((w6.alloc (.cells #[.int .i64 N, .bool false, .int .i64 1] 85)).alloc (.cells #[.int .i64 N, .bool false, .int .i64 1] 85)).alloc (.cells #[.int .i64 1] 3)) (W.heap.size + 1) 70 #[.slice none 0 0, .slice none 0 0, .bool false] := ((hy6.alloc _).alloc _).alloc _; have t0 := ha6.cell 0; have t1 := ha6.cell 1; have t2 := ha6.cell 2; have u0 := ha6.free 0; have u1 := ha6.free 1; have u2 := ha6.free 2; clear ha6; have HMS := Lib.hid hms; have HK6 := Lib.hid hk6; have HY6 := Lib.hid hy6; clear hms hk6 hy6))
  obtain ⟨g, c, cs, m1, m2, m3, m4, m5, m6, m7⟩ := MS.two HMS.out
  have hb6 : Below w6.heap.size w6 (((w6.alloc (.cells #[.int .i64 N, .bool false, .int .i64 1] 85)).alloc (.cells #[.int .i64 N, .bool false, .int .i64 1] 85)).alloc (.cells #[.int .i64 1] 3)) := (((Below.refl _ _).alloc (Nat.le_refl _) _).alloc (by rw [World.size_alloc]; omega) _).alloc (by rw [World.size_alloc, World.size_alloc]; omega) _
  obtain ⟨w8, hw8⟩ : ∃ w8, w8 = (w6.alloc (.cells #[.int .i64 N, .bool false, .int .i64 1] 85)).alloc (.cells #[.int .i64 N, .bool false, .int .i64 1] 85) := ⟨_, rfl⟩
  have hs8 : w8.heap.size = w6.heap.size + 1 + 1 := by rw [hw8]; simp
  rw [← hw8] at hb6
  rw [← hw8]
  have hM : Fb (w8.alloc (.cells #[.int .i64 1] 3)) (w6.heap.size + 1) 85 #[.int .i64 N, .bool false, .int .i64 1] := by
    have := Fb.new (w6.alloc (.cells #[.int .i64 N, .bool false, .int .i64 1] 85)) 85 #[.int .i64 N, .bool false, .int .i64 1]
    rw [World.size_alloc, ← hw8] at this
    exact this.alloc _
  have hmv : Mv1 (w8.alloc (.cells #[.int .i64 1] 3)) (w6.heap.size + 1) 1 N := ⟨Nat.le_refl _, ⟨_, hM⟩, hM.cell 0, hM.cell 1, hM.cell 2⟩
  have hB6 : B ≤ w6.heap.size := Nat.le_trans HBB.out (Nat.le_trans HB2.out.size (Nat.le_trans HB5.out.size HK6.out.b.size))
  have hl : (w8.alloc (.cells #[.int .i64 1] 3)).ownsRow B 3 1 (.slice (some ⟨w6.heap.size + 1 + 1, 0, none⟩) 1 1) 1 [.int .i64 1] := by
    have := World.ownsRow_lit (base := B) (e := 3) (size := 1) w8 #[.int .i64 1] 1 (by omega) (by unfold maxLen; omega) rfl
    rw [hs8] at this
    exact this
  have hL0 : Ly B d N false (.slice (some ⟨w6.heap.size + 1, 0, none⟩) 1 1) (.slice (some ⟨w6.heap.size + 1 + 1, 0, none⟩) 1 1) (w8.alloc (.cells #[.int .i64 1] 3)) :=
    ⟨⟨g, c, cs, _, m1.below hb6, m2.below hb6, m3, m4, m5, m6, m7, fun _ => rfl, fun e => by cases e⟩, ⟨_, _, rfl, hmv⟩, hl, by obtain ⟨_, _, _, _, hd⟩ := HMS.out; exact hd⟩
  have hY6 := HY6.out.below hb6
  have hY9 : Fb ((((w8.alloc (.cells #[.int .i64 1] 3)).setCell ⟨W.heap.size + 1, 0, none⟩ (.slice (some ⟨w6.heap.size + 1, 0, none⟩) 1 1)).setCell ⟨W.heap.size + 1, 1, none⟩ (.slice (some ⟨w6.heap.size + 1 + 1, 0, none⟩) 1 1)).setCell ⟨W.heap.size + 1, 2, none⟩ (.bool false)) (W.heap.size + 1) 70 #[.slice (some ⟨w6.heap.size + 1, 0, none⟩) 1 1, .slice (some ⟨w6.heap.size + 1 + 1, 0, none⟩) 1 1, .bool false] := ((hY6.set 0 _).set 1 _).set 2 _
  have hL9 := ((hL0.set hY6 0 (.slice (some ⟨w6.heap.size + 1, 0, none⟩) 1 1)).set (hY6.set 0 _) 1 (.slice (some ⟨w6.heap.size + 1 + 1, 0, none⟩) 1 1)).set ((hY6.set 0 _).set 1 _) 2 (.bool false)
  have hK9 := (((((Kp.below (HB2.out.trans (HB5.out.mono HB2.out.size)) HBB.out).trans HK6.out).trans (Kp.below hb6 hB6)).set HBB.out (Nat.le_succ _) 0 (.slice (some ⟨w6.heap.size + 1, 0, none⟩) 1 1)).set HBB.out (Nat.le_succ _) 1 (.slice (some ⟨w6.heap.size + 1 + 1, 0, none⟩) 1 1)).set HBB.out (Nat.le_succ _) 2 (.bool false)
  obtain ⟨W9, hW9⟩ : ∃ W9, W9 = (((w8.alloc (.cells #[.int .i64 1] 3)).setCell ⟨W.heap.size + 1, 0, none⟩ (.slice (some ⟨w6.heap.size + 1, 0, none⟩) 1 1)).setCell ⟨W.heap.size + 1, 1, none⟩ (.slice (some ⟨w6.heap.size + 1 + 1, 0, none⟩) 1 1)).setCell ⟨W.heap.size + 1, 2, none⟩ (.bool false) := ⟨_, rfl⟩
  rw [← hW9] at hY9 hL9 hK9
  rw [← hW9]
  have v0 := hY9.cell 0
  have v1 := hY9.cell 1
  have v2 := hY9.cell 2
  clear hW9
  try simp only [Exit.inBlock, Exit.then]
  refine bodyPost_ret (results_cell_row (P := Try.prog) rfl _ W9 (W.heap.size + 1) 70 _ (0, 0) _ rfl hY9 Try.underlying70 rfl (by kernel_rfl)) rfl ?_
  exact ⟨_, _, rfl, hL9, hK9⟩
end Go.Proofs.Ytcbdgbcphfimlaa
