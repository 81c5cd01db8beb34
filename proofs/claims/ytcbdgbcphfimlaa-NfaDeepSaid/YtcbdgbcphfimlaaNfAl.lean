/-
  alt of one part.
-/
import Derived.Test.YtcbdgbcphfimlaaNfAp
namespace Go.Proofs.Ytcbdgbcphfimlaa
open Go.RowKit
set_option linter.unusedVariables false
set_option linter.unusedSimpArgs false
set_option maxRecDepth 100000

def AltR (B d : Nat) (N : Int) (lp em : Bool) (W W1 : World) (gk : Nat) (s : Value) (wr : World) : Prop := (gk = 1 ∧ s = .int .i64 0 ∧ W1 = wr) ∨
  (gk = 0 ∧ s = .int .i64 1 ∧ ∃ f l, Ly B d N lp f l wr ∧ Kp B W wr ∧ Fb wr W.heap.size 70 #[.slice none 0 0, .slice none 0 0, .bool false] ∧ Fb wr (W.heap.size + 1) 70 #[f, l, .bool em])
set_option maxHeartbeats 16000000 in
theorem alt_one {B d b : Nat} {N kd nn : Int} {A9 : Option Addr} {m9 c9 : Nat} {lp em : Bool} {W : World} (hF : Fb W b 28 #[.int .i64 kd, .int .i64 nn, .slice A9 m9 c9]) (hB : B ≤ W.heap.size)
    (hL : ∀ w, Below W.heap.size W w → Calls Try.prog 31 #[.pointer (some ⟨d, 0, none⟩), .agg #[.int .i64 kd, .int .i64 nn, .slice A9 m9 c9]] w (LyQ B d N lp em w)) :
    Calls Try.prog 51 #[.pointer (some ⟨d, 0, none⟩), .slice (some ⟨b, 0, none⟩) 1 1] W (LyQ B d N lp em W) := by
  obtain ⟨W1, hW1⟩ : ∃ W1, W1 = (W.alloc (.cells #[.slice none 0 0, .slice none 0 0, .bool false] 70)).alloc (.cells #[.slice none 0 0, .slice none 0 0, .bool false] 70) := ⟨_, rfl⟩
  have hb1 : Below W.heap.size W W1 := by rw [hW1]; exact ((Below.refl _ _).alloc (Nat.le_refl _) _).alloc (by simp) _
  have hZ : Fb W1 W.heap.size 70 #[.slice none 0 0, .slice none 0 0, .bool false] := by rw [hW1]; exact (Fb.new W _ _).alloc _
  have hY : Fb W1 (W.heap.size + 1) 70 #[.slice none 0 0, .slice none 0 0, .bool false] := by
    have := Fb.new (W.alloc (.cells #[.slice none 0 0, .slice none 0 0, .bool false] 70)) 70 #[.slice none 0 0, .slice none 0 0, .bool false]
    rw [World.size_alloc] at this
    rw [hW1]; exact this
  have hF1 := hF.below hb1
  have x0 := hF1.cell 0
  have x1 := hF1.cell 1
  have x2 := hF1.cell 2
  have hs1 : W1.heap.size = W.heap.size + 2 := by rw [hW1]; simp
  have hq1 : Below W.heap.size W (W1.alloc (.cells #[.int .i64 kd, .int .i64 nn, .slice A9 m9 c9] 28)) := hb1.alloc (by omega) _
  have cL := hL _ hq1
  have HQ1 := Lib.hid hq1
  have HZ := Lib.hid (hZ.alloc (.cells #[.int .i64 kd, .int .i64 nn, .slice A9 m9 c9] 28))
  have HY := Lib.hid (hY.alloc (.cells #[.int .i64 kd, .int .i64 nn, .slice A9 m9 c9] 28))
  have HBB := Lib.hid hB
  have HW1 := Lib.hid hW1
  have HS1 := Lib.hid hs1
  clear hF hB hL hb1 hZ hY hF1 hW1 hs1 hq1
  go_enter Try.func51, Try.ntmps51
  go_wp2
  go_loopg [11] 1 (fun gk s wr => AltR B d N lp em W W1 gk s wr)
  case atStart => exact .inl ⟨rfl, rfl, HW1.out⟩
  case round =>
    rcases hrel with ⟨hgk, rfl, rfl⟩ | ⟨hgk, rfl, f, l, hly, hk, hz, hy⟩
    · subst hgk
      cases em with
      | false =>
        go_wp2_with (first
          | (go_at_call 31; (with_reducible refine cL.mono ?_); rintro e w5 ⟨f, l, rfl, hly, hk5⟩; obtain ⟨k, ck, rfl, hmv⟩ := id hly.fi; obtain ⟨gl, cl, rfl, _⟩ := own_at hly.la (by decide); have hz5 := hk5.k _ _ _ HZ.out (by decide) (by decide); have hy5 := hk5.k _ _ _ HY.out (by decide) (by decide); have HN5 := Lib.hid (fun o => hmv.below ((Below.refl w5.heap.size w5).alloc (Nat.le_refl _) o)); have v0 := hy5.cell 0; have v1 := hy5.cell 1; have v2 := hy5.cell 2; have hlt : W.heap.size + 1 < w5.heap.size := hy5.lt; have HLY := Lib.hid hly; have HK5 := Lib.hid (Kp.trans (Kp.below HQ1.out HBB.out) hk5); have HZ5 := Lib.hid hz5; have HY5 := Lib.hid hy5; have HT5 := Lib.hid (Fb.new w5 70 #[.slice (some ⟨k, 0, none⟩) 1 ck, .slice (some ⟨gl, 0, none⟩) 1 cl, .bool false]); have HC0 := Lib.hid hmv; clear hly hk5 hz5 hy5 hmv)
          | (at_builtin; refine wp_app_mv rfl _ _ rfl rfl rfl (HN5.out _) ?_; intro g7 c7 w7 hm7 hb7; have hb57 := ((Below.refl w5.heap.size w5).alloc (Nat.le_refl _) _).trans (hb7.mono (by rw [World.size_alloc]; omega)); have hy7 := HY5.out.below hb57; have ht7 := HT5.out.below hb7; have y0 := hy7.cell 0; have y1 := hy7.cell 1; have y2 := hy7.cell 2; have p0 := hy7.free 0; have p1 := hy7.free 1; have p2 := hy7.free 2; have t0 := ht7.cell 0; have t1 := ht7.cell 1; have t2 := ht7.cell 2; have q1 := ht7.free 1; have HL7 := Lib.hid ((HLY.out.below hb57).first hm7); have HM7 := Lib.hid hm7; have HB57 := Lib.hid hb57; have HY7 := Lib.hid hy7; have HT7 := Lib.hid ht7; have hsz7 : B ≤ (w7.setCell ⟨W.heap.size + 1, 0, none⟩ (.slice (some ⟨g7, 0, none⟩) 1 c7)).heap.size := (by rw [World.size_setCell]; exact Nat.le_trans HBB.out (Nat.le_trans HK5.out.b.size hb57.size)); have HSZ := Lib.hid hsz7; clear hm7 hb7 hb57 hy7 ht7 hsz7)
          | (at_builtin; refine wp_app_in (B := B) rfl _ _ rfl rfl rfl ((HL7.out.set HY7.out 0 _).la) HSZ.out ?_; intro l8 w8 hl8 hb8; obtain ⟨g8, c8, rfl, _⟩ := own_at hl8 (by decide); have hy8 := (HY7.out.set 0 (.slice (some ⟨g7, 0, none⟩) 1 c7)).below hb8; have ht8 := (HT7.out.far (g' := W.heap.size + 1) 0 (.slice (some ⟨g7, 0, none⟩) 1 c7) (by omega)).below hb8; have j0 := hy8.cell 0; have j1 := hy8.cell 1; have j2 := hy8.cell 2; have jf1 := hy8.free 1; have jf2 := hy8.free 2; have jt2 := ht8.cell 2; have HL8 := Lib.hid (((HL7.out.set HY7.out 0 (.slice (some ⟨g7, 0, none⟩) 1 c7)).below hb8).last hl8); have HB8 := Lib.hid hb8; have HY8 := Lib.hid hy8; clear hl8 hb8 hy8 ht8))
        go_roundg 0
        case measure => exact Nat.lt_succ_self _
        case rel => exact .inr ⟨rfl, rfl, _, _, ((HL8.out.set HY8.out 1 _).set (HY8.out.set 1 _) 2 _), (((((HK5.out.trans (Kp.below HB57.out (Nat.le_trans HBB.out HK5.out.b.size))).set HBB.out (Nat.le_succ _) 0 _).trans (Kp.below HB8.out HSZ.out)).set HBB.out (Nat.le_succ _) 1 _).set HBB.out (Nat.le_succ _) 2 _), (((((HZ5.out.below HB57.out).far _ _ (by omega)).below HB8.out).far _ _ (by omega)).far _ _ (by omega)), ((HY8.out.set 1 _).set 2 _)⟩
      | true =>
        go_wp2_with (first
          | (go_at_call 31; (with_reducible refine cL.mono ?_); rintro e w5 ⟨f, l, rfl, hly, hk5⟩; obtain ⟨k, ck, rfl, hmv⟩ := id hly.fi; obtain ⟨gl, cl, rfl, _⟩ := own_at hly.la (by decide); have hz5 := hk5.k _ _ _ HZ.out (by decide) (by decide); have hy5 := hk5.k _ _ _ HY.out (by decide) (by decide); have HN5 := Lib.hid (fun o => hmv.below ((Below.refl w5.heap.size w5).alloc (Nat.le_refl _) o)); have v0 := hy5.cell 0; have v1 := hy5.cell 1; have v2 := hy5.cell 2; have hlt : W.heap.size + 1 < w5.heap.size := hy5.lt; have HLY := Lib.hid hly; have HK5 := Lib.hid (Kp.trans (Kp.below HQ1.out HBB.out) hk5); have HZ5 := Lib.hid hz5; have HY5 := Lib.hid hy5; have HT5 := Lib.hid (Fb.new w5 70 #[.slice (some ⟨k, 0, none⟩) 1 ck, .slice (some ⟨gl, 0, none⟩) 1 cl, .bool true]); have HC0 := Lib.hid hmv; clear hly hk5 hz5 hy5 hmv)
          | (at_builtin; refine wp_app_mv rfl _ _ rfl rfl rfl (HN5.out _) ?_; intro g7 c7 w7 hm7 hb7; have hb57 := ((Below.refl w5.heap.size w5).alloc (Nat.le_refl _) _).trans (hb7.mono (by rw [World.size_alloc]; omega)); have hy7 := HY5.out.below hb57; have ht7 := HT5.out.below hb7; have y0 := hy7.cell 0; have y1 := hy7.cell 1; have y2 := hy7.cell 2; have p0 := hy7.free 0; have p1 := hy7.free 1; have p2 := hy7.free 2; have t0 := ht7.cell 0; have t1 := ht7.cell 1; have t2 := ht7.cell 2; have q1 := ht7.free 1; have HL7 := Lib.hid ((HLY.out.below hb57).first hm7); have HM7 := Lib.hid hm7; have HB57 := Lib.hid hb57; have HY7 := Lib.hid hy7; have HT7 := Lib.hid ht7; have hsz7 : B ≤ (w7.setCell ⟨W.heap.size + 1, 0, none⟩ (.slice (some ⟨g7, 0, none⟩) 1 c7)).heap.size := (by rw [World.size_setCell]; exact Nat.le_trans HBB.out (Nat.le_trans HK5.out.b.size hb57.size)); have HSZ := Lib.hid hsz7; clear hm7 hb7 hb57 hy7 ht7 hsz7)
          | (at_builtin; refine wp_app_in (B := B) rfl _ _ rfl rfl rfl ((HL7.out.set HY7.out 0 _).la) HSZ.out ?_; intro l8 w8 hl8 hb8; obtain ⟨g8, c8, rfl, _⟩ := own_at hl8 (by decide); have hy8 := (HY7.out.set 0 (.slice (some ⟨g7, 0, none⟩) 1 c7)).below hb8; have ht8 := (HT7.out.far (g' := W.heap.size + 1) 0 (.slice (some ⟨g7, 0, none⟩) 1 c7) (by omega)).below hb8; have j0 := hy8.cell 0; have j1 := hy8.cell 1; have j2 := hy8.cell 2; have jf1 := hy8.free 1; have jf2 := hy8.free 2; have jt2 := ht8.cell 2; have HL8 := Lib.hid (((HL7.out.set HY7.out 0 (.slice (some ⟨g7, 0, none⟩) 1 c7)).below hb8).last hl8); have HB8 := Lib.hid hb8; have HY8 := Lib.hid hy8; clear hl8 hb8 hy8 ht8))
        go_roundg 0
        case measure => exact Nat.lt_succ_self _
        case rel => exact .inr ⟨rfl, rfl, _, _, ((HL8.out.set HY8.out 1 _).set (HY8.out.set 1 _) 2 _), (((((HK5.out.trans (Kp.below HB57.out (Nat.le_trans HBB.out HK5.out.b.size))).set HBB.out (Nat.le_succ _) 0 _).trans (Kp.below HB8.out HSZ.out)).set HBB.out (Nat.le_succ _) 1 _).set HBB.out (Nat.le_succ _) 2 _), (((((HZ5.out.below HB57.out).far _ _ (by omega)).below HB8.out).far _ _ (by omega)).far _ _ (by omega)), ((HY8.out.set 1 _).set 2 _)⟩
    · subst hgk
      obtain ⟨k, ck, rfl, _⟩ := id hly.fi
      obtain ⟨gl, cl, rfl, _⟩ := own_at hly.la (by decide)
      have z0 := hz.cell 0
      have z1 := hz.cell 1
      have z2 := hz.cell 2
      have zf0 := hz.free 0
      have zf1 := hz.free 1
      have zf2 := hz.free 2
      have y0 := hy.cell 0
      have y1 := hy.cell 1
      have y2 := hy.cell 2
      have HZ9 := Lib.hid hz
      have HLY := Lib.hid hly
      have HK := Lib.hid hk
      clear hly hk hz hy cL x0 x1 x2
      go_wp2
      have hY9 : Fb (((wr.setCell ⟨W.heap.size, 0, none⟩ (.slice (some ⟨k, 0, none⟩) 1 ck)).setCell ⟨W.heap.size, 1, none⟩ (.slice (some ⟨gl, 0, none⟩) 1 cl)).setCell ⟨W.heap.size, 2, none⟩ (.bool em)) W.heap.size 70 #[.slice (some ⟨k, 0, none⟩) 1 ck, .slice (some ⟨gl, 0, none⟩) 1 cl, .bool em] := ((HZ9.out.set 0 _).set 1 _).set 2 _
      have hL9 : Ly B d N lp (.slice (some ⟨k, 0, none⟩) 1 ck) (.slice (some ⟨gl, 0, none⟩) 1 cl) (((wr.setCell ⟨W.heap.size, 0, none⟩ (.slice (some ⟨k, 0, none⟩) 1 ck)).setCell ⟨W.heap.size, 1, none⟩ (.slice (some ⟨gl, 0, none⟩) 1 cl)).setCell ⟨W.heap.size, 2, none⟩ (.bool em)) := (((HLY.out).set HZ9.out 0 _).set (HZ9.out.set 0 _) 1 _).set ((HZ9.out.set 0 _).set 1 _) 2 _
      have hK9 : Kp B W (((wr.setCell ⟨W.heap.size, 0, none⟩ (.slice (some ⟨k, 0, none⟩) 1 ck)).setCell ⟨W.heap.size, 1, none⟩ (.slice (some ⟨gl, 0, none⟩) 1 cl)).setCell ⟨W.heap.size, 2, none⟩ (.bool em)) := ((HK.out.set HBB.out (Nat.le_refl _) 0 _).set HBB.out (Nat.le_refl _) 1 _).set HBB.out (Nat.le_refl _) 2 _
      obtain ⟨W9, hW9⟩ : ∃ W9, W9 = (((wr.setCell ⟨W.heap.size, 0, none⟩ (.slice (some ⟨k, 0, none⟩) 1 ck)).setCell ⟨W.heap.size, 1, none⟩ (.slice (some ⟨gl, 0, none⟩) 1 cl)).setCell ⟨W.heap.size, 2, none⟩ (.bool em)) := ⟨_, rfl⟩
      rw [← hW9] at hY9 hL9 hK9
      rw [← hW9]
      have v0 := hY9.cell 0
      have v1 := hY9.cell 1
      have v2 := hY9.cell 2
      clear hW9
      try simp only [Exit.inBlock, Exit.then]
      refine bodyPost_ret (results_cell_row (P := Try.prog) rfl _ W9 W.heap.size 70 _ (0, 0) _ rfl hY9 Try.underlying70 rfl (by kernel_rfl)) rfl ?_
      exact ⟨_, _, rfl, hL9, hK9⟩
end Go.Proofs.Ytcbdgbcphfimlaa
