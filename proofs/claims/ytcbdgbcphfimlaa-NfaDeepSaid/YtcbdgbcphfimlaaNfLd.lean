/-
  lead: a move for a state that has none.
-/
import Derived.Test.YtcbdgbcphfimlaaNfBq
import Derived.Test.YtcbdgbcphfimlaaNfMore
import Derived.Deep.RegionWith
namespace Go.Proofs.Ytcbdgbcphfimlaa
open Go.RowKit
set_option linter.unusedVariables false
set_option linter.unusedSimpArgs false
set_option maxRecDepth 100000

theorem Mv1.below {W W' : World} {g c : Nat} {N : Int} (h : Mv1 W g c N) (hb : Below W.heap.size W W') : Mv1 W' g c N := by
  obtain ⟨cs, hf⟩ := h.f
  exact ⟨h.c1, ⟨cs, hf.below hb⟩, cell_below h.n0 hb, cell_below h.n1 hb, cell_below h.n2 hb⟩
theorem Fb.neT {W : World} {g g' : Nat} {t t' : TypeId} {cs cs' : Array Value} (h : Fb W g t cs) (h' : Fb W g' t' cs') (ht : t ≠ t') : g ≠ g' := fun e => by
  unfold Fb at h h'
  rw [e, h'] at h
  injection h with h1
  injection h1 with _ h1
  exact ht h1.symm
theorem Mv1.of {W W' : World} {g c : Nat} {N : Int} (h : Mv1 W g c N) (hk : W'.heap[g]? = W.heap[g]?) : Mv1 W' g c N := by
  obtain ⟨cs, hf⟩ := h.f
  have e : ∀ j, W'.cell? ⟨g, j, none⟩ = W.cell? ⟨g, j, none⟩ := fun j => by unfold World.cell?; simp [hk]
  exact ⟨h.c1, ⟨cs, hk.trans hf⟩, (e 0).trans h.n0, (e 1).trans h.n1, (e 2).trans h.n2⟩
/-- What lead leaves behind. -/
def LdQ (B d g c i : Nat) (cs : Array Value) (N : Int) (W w' : World) : Prop := ∃ g2 c2, Mv1 w' g2 c2 N ∧ Fb w' d 67 #[.slice (some ⟨g, 0, none⟩) 2 c] ∧ Fb w' g 74 (cs.setIfInBounds (i * 2) (.slice (some ⟨g2, 0, none⟩) 1 c2)) ∧ Kp B W w'
def LdR (B d g c i : Nat) (cs : Array Value) (N : Int) (W : World) (gk : Nat) (s : Value) (wr : World) : Prop := (gk = 1 ∧ s = .int .i64 0 ∧ W = wr) ∨ (gk = 0 ∧ s = .int .i64 1 ∧ LdQ B d g c i cs N W wr)
theorem ld_end {B d g c i g2 c2 : Nat} {cs : Array Value} {N : Int} {W w6 : World} (hd : Fb W d 67 #[.slice (some ⟨g, 0, none⟩) 2 c]) (hg : Fb W g 74 cs) (hB : B ≤ g) (hb : Below W.heap.size W w6) (hm : Mv1 w6 g2 c2 N) : LdQ B d g c i cs N W (w6.setCell ⟨g, i * 2, none⟩ (.slice (some ⟨g2, 0, none⟩) 1 c2)) := by
  have hlt := hg.lt
  obtain ⟨cs2, hf2⟩ := hm.f
  have hne : g2 ≠ g := hf2.neT (hg.below hb) (by decide)
  refine ⟨g2, c2, hm.of (heap_setCell_other _ _ _ _ hne), (hd.below hb).far _ _ (hd.neT hg (by decide)), (hg.below hb).set _ _, (hb.mono (by omega)).setCell hB _, fun x t cs' hx _ h2 => (hx.below hb).far _ _ (hx.neT hg h2)⟩
theorem insert_box (N : Int) (w : World) : Calls Try.prog 56 #[.slice none 0 0, .int .i64 0, .slice (some ⟨w.heap.size, 0, none⟩) 1 1] (w.alloc (.cells #[.int .i64 N, .bool false, .int .i64 1] 85)) fun e w' => ∃ g c, e = .returned (.slice (some ⟨g, 0, none⟩) 1 c) ∧ Mv1 w' g c N ∧ Below w.heap.size w w' := by
  refine (insert_nil ((Fb.new w 85 #[.int .i64 N, .bool false, .int .i64 1]).cell 0) ((Fb.new w 85 #[.int .i64 N, .bool false, .int .i64 1]).cell 1) ((Fb.new w 85 #[.int .i64 N, .bool false, .int .i64 1]).cell 2)).mono ?_
  rintro e w' ⟨g2, c2, rfl, h1, h2⟩
  exact ⟨g2, c2, rfl, h1, ((Below.refl w.heap.size w).alloc (Nat.le_refl _) _).trans (h2.mono (by rw [World.size_alloc]; omega))⟩
set_option maxHeartbeats 32000000 in
theorem lead_new {B d g c gs cf k ck i : Nat} {N : Int} {cs : Array Value} {W : World} (hd : Fb W d 67 #[.slice (some ⟨g, 0, none⟩) 2 c]) (hg : Fb W g 74 cs) (hi : i < 2) (h0 : cs[i * 2]? = some (.slice none 0 0))
    (hs : W.cell? ⟨gs, 0, none⟩ = some (.int .i64 (i : Int))) (hk : Mv1 W k ck N) (hB : B ≤ g) :
    Calls Try.prog 32 #[.pointer (some ⟨d, 0, none⟩), .slice (some ⟨gs, 0, none⟩) 1 cf, .slice (some ⟨k, 0, none⟩) 1 ck] W fun e w' => e = .returned (.tuple #[]) ∧ LdQ B d g c i cs N W w' := by
  obtain ⟨W1, hW1⟩ : ∃ W1, W1 = W.alloc (.cells #[.int .i64 N, .bool false, .int .i64 1] 85) := ⟨_, rfl⟩
  have hb1 : Below W.heap.size W W1 := by rw [hW1]; exact (Below.refl _ _).alloc (Nat.le_refl _) _
  have hF1 : Fb W1 W.heap.size 85 #[.int .i64 N, .bool false, .int .i64 1] := by rw [hW1]; exact Fb.new W _ _
  have n0 := hk.n0
  have n1 := hk.n1
  have n2 := hk.n2
  have HB1 := Lib.hid hb1
  have HF1 := Lib.hid hF1
  have HD := Lib.hid hd
  have HG := Lib.hid hg
  have HBG := Lib.hid hB
  have HG1 := Lib.hid (hg.below hb1)
  have HD1 := Lib.hid (hd.below hb1)
  have f0 := hF1.cell 0
  have f1 := hF1.cell 1
  have f2 := hF1.cell 2
  have d1 := (hd.below hb1).cell 0
  have g1 : W1.cell? ⟨g, i * 2, none⟩ = some (.slice none 0 0) := ((hg.below hb1).cell _).trans h0
  have H0 := Lib.hid h0
  have z0 : (0 : Int) ≤ (i : Int) := by omega
  have z1 : (i : Int) < 2 := by omega
  clear hb1 hF1 hd hg hB h0 hk hi
  go_enter Try.func32, Try.ntmps32
  go_wp2
  go_loopg [14] 1 (fun gk s wr => LdR B d g c i cs N W gk s wr)
  case atStart => exact .inl ⟨rfl, rfl, rfl⟩
  case round =>
    rcases hrel with ⟨hgk, rfl, rfl⟩ | ⟨hgk, rfl, hq⟩
    · subst hgk
      go_wp2
      go_loopg [20] 1 (fun gk s wr => LdR B d g c i cs N W gk s wr)
      case atStart => exact .inl ⟨rfl, rfl, rfl⟩
      case round =>
        rcases hrel with ⟨hgk, rfl, rfl⟩ | ⟨hgk, rfl, hq⟩
        · subst hgk
          go_wp2
          rw [← hW1]
          clear hW1
          go_region_held3 (fun w => w.cell? ⟨d, 0, none⟩ = some (.slice (some ⟨g, 0, none⟩) 2 c) ∧ w.cell? ⟨g, i * 2, none⟩ = some (.slice none 0 0) ∧ w.cell? ⟨W.heap.size, 0, none⟩ = some (.int .i64 N) ∧ w.cell? ⟨W.heap.size, 1, none⟩ = some (.bool false) ∧ w.cell? ⟨W.heap.size, 2, none⟩ = some (.int .i64 1))
            (first | exact ⟨d1, g1, f0, f1, f2⟩ | exact ⟨cell_below d1 hB, cell_below g1 hB, cell_below f0 hB, cell_below f1 hB, cell_below f2 hB⟩)
            (first
              | (go_at_call 54; (with_reducible refine (bin0 N 1 _).mono ?_); rintro e w5 ⟨rfl, hB0⟩; have hB := (Below.drew (Below.refl W1.heap.size W1)).trans hB0)
              | fail)
          all_goals
            have r0 := cell_below d1 hB
            have r1 := cell_below g1 hB
            have r2 := cell_below f0 hB
            have r3 := cell_below f1 hB
            have r4 := cell_below f2 hB
            have HB5 := Lib.hid hB
            have d1' := d1
            have g1' := g1
            clear hB hB0 d1 g1 f0 f1 f2 n0 n1 n2
            go_wp2
            have cI : Calls Try.prog 56 #[.slice none 0 0, .int .i64 0, .slice (some ⟨w5.heap.size, 0, none⟩) 1 1] ((w5.alloc (.cells #[.int .i64 N, .bool false, .int .i64 1] 85)).drew) fun e w' => ∃ g c, e = .returned (.slice (some ⟨g, 0, none⟩) 1 c) ∧ Mv1 w' g c N ∧ Below w5.heap.size w5.drew w' := insert_box N w5.drew
            have xd : (w5.alloc (.cells #[.int .i64 N, .bool false, .int .i64 1] 85)).cell? ⟨d, 0, none⟩ = some (.slice (some ⟨g, 0, none⟩) 2 c) := cell_below r0 ((Below.refl _ _).alloc (Nat.le_refl _) _)
            have xg : (w5.alloc (.cells #[.int .i64 N, .bool false, .int .i64 1] 85)).cell? ⟨g, i * 2, none⟩ = some (.slice none 0 0) := cell_below r1 ((Below.refl _ _).alloc (Nat.le_refl _) _)
            go_region_with (first
              | (go_at_call 56; (with_reducible refine cI.mono ?_); rintro e w6 ⟨g2, c2, rfl, hm2, hb6⟩; have hB6 := (HB5.out.drew).trans (hb6.mono HB5.out.size); have y0 := cell_below d1' hB6; have y1 := cell_below g1' hB6; have yf := (HG1.out.below hB6).free (i * 2))
              | fail)
            all_goals
              have HM2 := Lib.hid hm2
              have HB6 := Lib.hid hB6
              clear hm2 hb6 hB6 y0 y1 yf xd xg r0 r1 r2 r3 r4 cI d1' g1'
              go_wp2
              go_roundg 0
              case measure => exact Nat.lt_succ_self _
              case rel => exact .inr ⟨rfl, rfl, ld_end HD.out HG.out HBG.out (HB1.out.trans (HB6.out.mono HB1.out.size)) HM2.out⟩
        · subst hgk
          have HQ := Lib.hid hq
          clear hq n0 n1 n2
          go_wp2
          go_roundg 0
          case measure => exact Nat.lt_succ_self _
          case rel => exact .inr ⟨rfl, rfl, HQ.out⟩
    · subst hgk
      have HQ := Lib.hid hq
      clear hq n0 n1 n2
      go_wp2
      go_end0
      exact ⟨rfl, HQ.out⟩
end Go.Proofs.Ytcbdgbcphfimlaa
