/-
  seq of one part.
-/
import Derived.Test.YtcbdgbcphfimlaaNfAp
namespace Go.Proofs.Ytcbdgbcphfimlaa
open Go.RowKit
set_option linter.unusedVariables false
set_option linter.unusedSimpArgs false
set_option maxRecDepth 100000

def SeqR (B d : Nat) (N : Int) (lp em : Bool) (W W1 : World) (gk : Nat) (s : Value) (wr : World) : Prop := (gk = 1 ∧ s = .int .i64 0 ∧ W1 = wr) ∨
  (gk = 0 ∧ s = .int .i64 1 ∧ ∃ f l, Ly B d N lp f l wr ∧ Kp B W wr ∧ Fb wr W.heap.size 70 #[.slice none 0 0, .slice none 0 0, .bool false] ∧ Fb wr (W.heap.size + 1) 70 #[f, l, .bool em])
set_option maxHeartbeats 16000000 in
theorem seq_one {B d b : Nat} {N kd nn : Int} {A9 : Option Addr} {m9 c9 : Nat} {lp em : Bool} {W : World} (hF : Fb W b 28 #[.int .i64 kd, .int .i64 nn, .slice A9 m9 c9]) (hB : B ≤ W.heap.size)
    (hL : ∀ w, Below W.heap.size W w → Calls Try.prog 31 #[.pointer (some ⟨d, 0, none⟩), .agg #[.int .i64 kd, .int .i64 nn, .slice A9 m9 c9]] w (LyQ B d N lp em w)) :
    Calls Try.prog 50 #[.pointer (some ⟨d, 0, none⟩), .slice (some ⟨b, 0, none⟩) 1 1] W (LyQ B d N lp em W) := by
  obtain ⟨W1, hW1⟩ : ∃ W1, W1 = (W.alloc (.cells #[.slice none 0 0, .slice none 0 0, .bool false] 70)).alloc (.cells #[.slice none 0 0, .slice none 0 0, .bool true] 70) := ⟨_, rfl⟩
  have hb1 : Below W.heap.size W W1 := by rw [hW1]; exact ((Below.refl _ _).alloc (Nat.le_refl _) _).alloc (by simp) _
  have hZ : Fb W1 W.heap.size 70 #[.slice none 0 0, .slice none 0 0, .bool false] := by rw [hW1]; exact (Fb.new W _ _).alloc _
  have hY : Fb W1 (W.heap.size + 1) 70 #[.slice none 0 0, .slice none 0 0, .bool true] := by
    have := Fb.new (W.alloc (.cells #[.slice none 0 0, .slice none 0 0, .bool false] 70)) 70 #[.slice none 0 0, .slice none 0 0, .bool true]
    rw [World.size_alloc] at this
    rw [hW1]; exact this
  have hF1 := hF.below hb1
  have x0 := hF1.cell 0
  have x1 := hF1.cell 1
  have x2 := hF1.cell 2
  have hs1 : W1.heap.size = W.heap.size + 2 := by rw [hW1]; simp
  have hq1 : Below W.heap.size W (W1.alloc (.cells #[.int .i64 kd, .int .i64 nn, .slice A9 m9 c9] 28)) := hb1.alloc (by omega) _
  have cL := hL _ hq1
  have HQ1 := Lib.hid hq1
  have HZ := Lib.hid (hZ.alloc (.cells #[.int .i64 kd, .int .i64 nn, .slice A9 m9 c9] 28))
  have HY := Lib.hid (hY.alloc (.cells #[.int .i64 kd, .int .i64 nn, .slice A9 m9 c9] 28))
  have HBB := Lib.hid hB
  have HW1 := Lib.hid hW1
  have HS1 := Lib.hid hs1
  clear hF hB hL hb1 hZ hY hF1 hW1 hs1 hq1
  go_enter Try.func50, Try.ntmps50
  go_wp2
  go_loopg [12] 1 (fun gk s wr => SeqR B d N lp em W W1 gk s wr)
  case atStart => exact .inl ⟨rfl, rfl, HW1.out⟩
  case round =>
    rcases hrel with ⟨hgk, rfl, rfl⟩ | ⟨hgk, rfl, f, l, hly, hk, hz, hy⟩
    · subst hgk
      cases em with
      | false =>
        go_wp2_with (first
          | (go_at_call 31; (with_reducible refine cL.mono ?_); rintro e w5 ⟨f, l, rfl, hly, hk5⟩; obtain ⟨k, ck, rfl, hmv⟩ := id hly.fi; obtain ⟨gl, cl, rfl, _⟩ := own_at hly.la (by decide); have hz5 := hk5.k _ _ _ HZ.out (by decide) (by decide); have hy5 := hk5.k _ _ _ HY.out (by decide) (by decide); have HN5 := Lib.hid (fun o => hmv.below ((Below.refl w5.heap.size w5).alloc (Nat.le_refl _) o)); have v0 := hy5.cell 0; have v1 := hy5.cell 1; have v2 := hy5.cell 2; have hlt : W.heap.size + 1 < w5.heap.size := hy5.lt; have HLY := Lib.hid hly; have HK5 := Lib.hid (Kp.trans (Kp.below HQ1.out HBB.out) hk5); have HZ5 := Lib.hid hz5; have HY5 := Lib.hid hy5; have HT5 := Lib.hid (Fb.new w5 70 #[.slice (some ⟨k, 0, none⟩) 1 ck, .slice (some ⟨gl, 0, none⟩) 1 cl, .bool false]); have HC0 := Lib.hid hmv; clear hly hk5 hz5 hy5 hmv)
          | (go_at_call 32; (with_reducible refine lead_nil.mono ?_); rintro e w6 ⟨rfl, rfl⟩)
          | (at_builtin; refine wp_app_mv rfl _ _ rfl rfl rfl (HN5.out _) ?_; intro g7 c7 w7 hm7 hb7; have hb57 := ((Below.refl w5.heap.size w5).alloc (Nat.le_refl _) _).trans (hb7.mono (by rw [World.size_alloc]; omega)); have hy7 := HY5.out.below hb57; have ht7 := HT5.out.below hb7; have y0 := hy7.cell 0; have y1 := hy7.cell 1; have y2 := hy7.cell 2; have p0 := hy7.free 0; have p1 := hy7.free 1; have p2 := hy7.free 2; have t0 := ht7.cell 0; have t1 := ht7.cell 1; have t2 := ht7.cell 2; have q1 := ht7.free 1; have HL7 := Lib.hid (HLY.out.below hb57); have HM7 := Lib.hid hm7; have HB57 := Lib.hid hb57; have HY7 := Lib.hid hy7; have HT7 := Lib.hid ht7; clear hm7 hb7 hb57 hy7 ht7)
          | (at_builtin; refine wp_app_l0 (B := B) rfl _ _ rfl rfl rfl (((HL7.out.first HM7.out).set HY7.out 0 _).la) ?_))
        go_roundg 0
        case measure => exact Nat.lt_succ_self _
        case rel => exact .inr ⟨rfl, rfl, _, _, ((((HL7.out.first HM7.out).set HY7.out 0 _).set (HY7.out.set 0 _) 1 _).set ((HY7.out.set 0 _).set 1 _) 2 _), ((((HK5.out.trans (Kp.below HB57.out (Nat.le_trans HBB.out HK5.out.b.size))).set HBB.out (Nat.le_succ _) 0 _).set HBB.out (Nat.le_succ _) 1 _).set HBB.out (Nat.le_succ _) 2 _), ((((HZ5.out.below HB57.out).far _ _ (by omega)).far _ _ (by omega)).far _ _ (by omega)), (((HY7.out.set 0 _).set 1 _).set 2 _)⟩
      | true =>
        go_wp2_with (first
          | (go_at_call 31; (with_reducible refine cL.mono ?_); rintro e w5 ⟨f, l, rfl, hly, hk5⟩; obtain ⟨k, ck, rfl, hmv⟩ := id hly.fi; obtain ⟨gl, cl, rfl, _⟩ := own_at hly.la (by decide); have hz5 := hk5.k _ _ _ HZ.out (by decide) (by decide); have hy5 := hk5.k _ _ _ HY.out (by decide) (by decide); have HN5 := Lib.hid (fun o => hmv.below ((Below.refl w5.heap.size w5).alloc (Nat.le_refl _) o)); have v0 := hy5.cell 0; have v1 := hy5.cell 1; have v2 := hy5.cell 2; have hlt : W.heap.size + 1 < w5.heap.size := hy5.lt; have HLY := Lib.hid hly; have HK5 := Lib.hid (Kp.trans (Kp.below HQ1.out HBB.out) hk5); have HZ5 := Lib.hid hz5; have HY5 := Lib.hid hy5; have HT5 := Lib.hid (Fb.new w5 70 #[.slice (some ⟨k, 0, none⟩) 1 ck, .slice (some ⟨gl, 0, none⟩) 1 cl, .bool true]); have HC0 := Lib.hid hmv; clear hly hk5 hz5 hy5 hmv)
          | (go_at_call 32; (with_reducible refine lead_nil.mono ?_); rintro e w6 ⟨rfl, rfl⟩)
          | (at_builtin; refine wp_app_mv rfl _ _ rfl rfl rfl (HN5.out _) ?_; intro g7 c7 w7 hm7 hb7; have hb57 := ((Below.refl w5.heap.size w5).alloc (Nat.le_refl _) _).trans (hb7.mono (by rw [World.size_alloc]; omega)); have hy7 := HY5.out.below hb57; have ht7 := HT5.out.below hb7; have y0 := hy7.cell 0; have y1 := hy7.cell 1; have y2 := hy7.cell 2; have p0 := hy7.free 0; have p1 := hy7.free 1; have p2 := hy7.free 2; have t0 := ht7.cell 0; have t1 := ht7.cell 1; have t2 := ht7.cell 2; have q1 := ht7.free 1; have HL7 := Lib.hid (HLY.out.below hb57); have HM7 := Lib.hid hm7; have HB57 := Lib.hid hb57; have HY7 := Lib.hid hy7; have HT7 := Lib.hid ht7; clear hm7 hb7 hb57 hy7 ht7)
          | (at_builtin; refine wp_app_l0 (B := B) rfl _ _ rfl rfl rfl (((HL7.out.first HM7.out).set HY7.out 0 _).la) ?_))
        go_roundg 0
        case measure => exact Nat.lt_succ_self _
        case rel => exact .inr ⟨rfl, rfl, _, _, (((((HL7.out.first HM7.out).set HY7.out 0 _).set (HT7.out.far _ _ (by omega)) 1 _).set ((HY7.out.set 0 _).far _ _ (by omega)) 1 _).set (((HY7.out.set 0 _).far _ _ (by omega)).set 1 _) 2 _), (((((HK5.out.trans (Kp.below HB57.out (Nat.le_trans HBB.out HK5.out.b.size))).set HBB.out (Nat.le_succ _) 0 _).set HBB.out HK5.out.b.size 1 _).set HBB.out (Nat.le_succ _) 1 _).set HBB.out (Nat.le_succ _) 2 _), (((((HZ5.out.below HB57.out).far _ _ (by omega)).far _ _ (by omega)).far _ _ (by omega)).far _ _ (by omega)), ((((HY7.out.set 0 _).far _ _ (by omega)).set 1 _).set 2 _)⟩
    · subst hgk
      obtain ⟨k, ck, rfl, _⟩ := id hly.fi
      obtain ⟨gl, cl, rfl, _⟩ := own_at hly.la (by decide)
      have z0 := hz.cell 0
      have z1 := hz.cell 1
      have z2 := hz.cell 2
      have zf0 := hz.free 0
      have zf1 := hz.free 1
      have zf2 := hz.free 2
      have y0 := hy.cell 0
      have y1 := hy.cell 1
      have y2 := hy.cell 2
      have HZ9 := Lib.hid hz
      have HLY := Lib.hid hly
      have HK := Lib.hid hk
      clear hly hk hz hy cL x0 x1 x2
      go_wp2
      have hY9 : Fb (((wr.setCell ⟨W.heap.size, 0, none⟩ (.slice (some ⟨k, 0, none⟩) 1 ck)).setCell ⟨W.heap.size, 1, none⟩ (.slice (some ⟨gl, 0, none⟩) 1 cl)).setCell ⟨W.heap.size, 2, none⟩ (.bool em)) W.heap.size 70 #[.slice (some ⟨k, 0, none⟩) 1 ck, .slice (some ⟨gl, 0, none⟩) 1 cl, .bool em] := ((HZ9.out.set 0 _).set 1 _).set 2 _
      have hL9 : Ly B d N lp (.slice (some ⟨k, 0, none⟩) 1 ck) (.slice (some ⟨gl, 0, none⟩) 1 cl) (((wr.setCell ⟨W.heap.size, 0, none⟩ (.slice (some ⟨k, 0, none⟩) 1 ck)).setCell ⟨W.heap.size, 1, none⟩ (.slice (some ⟨gl, 0, none⟩) 1 cl)).setCell ⟨W.heap.size, 2, none⟩ (.bool em)) := (((HLY.out).set HZ9.out 0 _).set (HZ9.out.set 0 _) 1 _).set ((HZ9.out.set 0 _).set 1 _) 2 _
      have hK9 : Kp B W (((wr.setCell ⟨W.heap.size, 0, none⟩ (.slice (some ⟨k, 0, none⟩) 1 ck)).setCell ⟨W.heap.size, 1, none⟩ (.slice (some ⟨gl, 0, none⟩) 1 cl)).setCell ⟨W.heap.size, 2, none⟩ (.bool em)) := ((HK.out.set HBB.out (Nat.le_refl _) 0 _).set HBB.out (Nat.le_refl _) 1 _).set HBB.out (Nat.le_refl _) 2 _
      obtain ⟨W9, hW9⟩ : ∃ W9, W9 = (((wr.setCell ⟨W.heap.size, 0, none⟩ (.slice (some ⟨k, 0, none⟩) 1 ck)).setCell ⟨W.heap.size, 1, none⟩ (.slice (some ⟨gl, 0, none⟩) 1 cl)).setCell ⟨W.heap.size, 2, none⟩ (.bool em)) := ⟨_, rfl⟩
      rw [← hW9] at hY9 hL9 hK9
      rw [← hW9]
      have v0 := hY9.cell 0
      have v1 := hY9.cell 1
      have v2 := hY9.cell 2
      clear hW9
      try simp only [Exit.inBlock, Exit.then]
      refine bodyPost_ret (results_cell_row (P := Try.prog) rfl _ W9 W.heap.size 70 _ (0, 0) _ rfl hY9 Try.underlying70 rfl (by kernel_rfl)) rfl ?_
      exact ⟨_, _, rfl, hL9, hK9⟩
end Go.Proofs.Ytcbdgbcphfimlaa
