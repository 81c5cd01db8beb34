/-
  A STORE: New; the first key, added and found.
-/
import Derived.Test.YtoiigplflmejmaaSOne
import Derived.Laws.MakeOwn
namespace Go.Proofs.Ytoiigplflmejmaa
open Go.RowKit
set_option linter.unusedVariables false
set_option linter.unusedSimpArgs false
set_option maxRecDepth 100000

/-- A store's cells. -/
abbrev stc (room many : Int) (x0 x1 x2 : Value) (o1 o2 : Int) : Array Value := #[.int .i64 room, .int .i64 many, .int .i64 0, x0, .int .i64 o1, x1, .int .i64 o2, x2]
abbrev nl : Value := .slice none 0 0
theorem snew_ok (W : World) : Calls Try.prog 9 #[.int .i64 2] W fun e w' => ∃ d, e = .returned (.tuple #[.pointer (some ⟨d, 0, none⟩), .int .i64 0]) ∧ Fb w' d 60 (stc 2 0 nl nl nl 1 2) ∧ W.heap.size ≤ d ∧ Below W.heap.size W w' := by
  have hb : Below W.heap.size W (W.alloc (.cells (stc 2 0 nl nl nl 0 0) 60)) := (Below.refl _ _).alloc (Nat.le_refl _) _
  have HF := Lib.hid (Fb.new W 60 (stc 2 0 nl nl nl 0 0))
  have HB := Lib.hid hb
  clear hb
  unfold stc nl at *
  go_enter Try.func9, Try.ntmps9
  go_wp2
  go_loopg [15] 3 (fun g s wr => Below W.heap.size W wr ∧ ((g = 3 ∧ s = .int .i64 0 ∧ Fb wr W.heap.size 60 (stc 2 0 nl nl nl 0 0)) ∨ (g = 2 ∧ s = .int .i64 1 ∧ Fb wr W.heap.size 60 (stc 2 0 nl nl nl 0 0)) ∨ (g = 1 ∧ s = .int .i64 2 ∧ Fb wr W.heap.size 60 (stc 2 0 nl nl nl 1 0)) ∨ (g = 0 ∧ s = .int .i64 3 ∧ Fb wr W.heap.size 60 (stc 2 0 nl nl nl 1 2))))
  case atStart => exact ⟨HB.out, .inl ⟨rfl, rfl, HF.out⟩⟩
  case round =>
    obtain ⟨hb, hw⟩ := hrel
    rcases hw with ⟨hg, rfl, hf⟩ | ⟨hg, rfl, hf⟩ | ⟨hg, rfl, hf⟩ | ⟨hg, rfl, hf⟩
    · subst hg
      have hl := hf.lt
      have f2 := hf.free 2
      have c2 := hf.cell 2
      have HN := Lib.hid (hf.set 2 (.int .i64 0))
      have HBN := Lib.hid (Below.setCell hb (p := ⟨W.heap.size, 2, none⟩) (Nat.le_refl _) (.int .i64 0))
      clear hf hb
      go_wp2
      go_roundg 2
      case measure => exact Nat.lt_succ_self _
      case rel => exact ⟨HBN.out, .inr (.inl ⟨rfl, rfl, HN.out⟩)⟩
    · subst hg
      have hl := hf.lt
      have f4 := hf.free 4
      have c4 := hf.cell 4
      have HN := Lib.hid (hf.set 4 (.int .i64 1))
      have HBN := Lib.hid (Below.setCell hb (p := ⟨W.heap.size, 4, none⟩) (Nat.le_refl _) (.int .i64 1))
      clear hf hb
      go_wp2
      go_roundg 1
      case measure => exact Nat.lt_succ_self _
      case rel => exact ⟨HBN.out, .inr (.inr (.inl ⟨rfl, rfl, HN.out⟩))⟩
    · subst hg
      have hl := hf.lt
      have f6 := hf.free 6
      have c6 := hf.cell 6
      have HN := Lib.hid (hf.set 6 (.int .i64 2))
      have HBN := Lib.hid (Below.setCell hb (p := ⟨W.heap.size, 6, none⟩) (Nat.le_refl _) (.int .i64 2))
      clear hf hb
      go_wp2
      go_roundg 0
      case measure => exact Nat.lt_succ_self _
      case rel => exact ⟨HBN.out, .inr (.inr (.inr ⟨rfl, rfl, HN.out⟩))⟩
    · subst hg
      have HF2 := Lib.hid hf
      have HB2 := Lib.hid hb
      clear hf hb
      go_wp2
      go_ret2
      exact ⟨_, rfl, HF2.out, Nat.le_refl _, HB2.out⟩
/-- A list's first key: what stands there behind it. -/
structure SlaW (W : World) (d o : Nat) (gb gk : Nat) (a b c : Int) (w' : World) : Prop where
  hb : Fb w' gb 70 #[.slice (some ⟨gk, 0, none⟩) 1 1]
  hk : Fb w' gk 37 #[.int .i64 a, .int .i64 b, .int .i64 c]
  own : ∀ {ty : TypeId} {cs : Array Value}, Fb W d ty cs → Fb w' d ty (cs.setIfInBounds (o + 1) (.slice (some ⟨gb, 0, none⟩) 1 1))
  far : ∀ {k : Nat} {ty : TypeId} {cs : Array Value}, k ≠ d → Fb W k ty cs → Fb w' k ty cs
  bel : ∀ {B : Nat} {W0 : World}, Below B W0 W → B ≤ d → Below B W0 w'
  nb : gb ≠ d
  nk : gk ≠ d
def SlaPost (W : World) (d o : Nat) (a b c : Int) (e : Ending) (w' : World) : Prop := e = .returned (.tuple #[]) ∧ ∃ gb gk, SlaW W d o gb gk a b c w'
set_option maxHeartbeats 4000000 in
theorem sladd_none {W : World} {d o : Nat} {n a b c : Int} (h0 : W.cell? ⟨d, o, none⟩ = some (.int .i64 n)) (h1 : W.cell? ⟨d, o + 1, none⟩ = some (.slice none 0 0)) (hf : ∀ i, W.frozen? ⟨d, i, none⟩ = false) :
    Calls Try.prog 24 #[.pointer (some ⟨d, o, none⟩), .agg #[.int .i64 a, .int .i64 b, .int .i64 c]] W (SlaPost W d o a b c) := by
  have hB1 : Below W.heap.size W (W.alloc (.cells #[.int .i64 a, .int .i64 b, .int .i64 c] 37)) := (Below.refl _ _).alloc (Nat.le_refl _) _
  have hk := Fb.new W 37 #[.int .i64 a, .int .i64 b, .int .i64 c]
  have hd : d < W.heap.size := World.block_lt_of_cell? _ _ h0
  have cF := sfind_none (a := a) (b := b) (c := c) (cell_below h0 hB1) (cell_below h1 hB1) (Nat.lt_of_lt_of_le hd hB1.size)
  have hfz : ∀ {w : World}, Below W.heap.size W w → w.frozen? ⟨d, o + 1, none⟩ = false := fun {w} hb => by
    have := hf (o + 1)
    unfold World.frozen? at this ⊢
    rw [hb.block d hd]
    exact this
  have HD := Lib.hid (fun (w : World) (hb : Below (W.alloc (.cells #[.int .i64 a, .int .i64 b, .int .i64 c] 37)).heap.size (W.alloc (.cells #[.int .i64 a, .int .i64 b, .int .i64 c] 37)) w) => (⟨cell_below (cell_below h1 hB1) hb, (hk.below hb).cell 0, (hk.below hb).cell 1, (hk.below hb).cell 2, hfz (hB1.trans (hb.mono hB1.size)), Nat.lt_of_lt_of_le hd (Nat.le_trans hB1.size hb.size), hB1.trans (hb.mono hB1.size)⟩ : _ ∧ _ ∧ _ ∧ _ ∧ _ ∧ _ ∧ _))
  clear h0 h1 hB1 hk hf hfz
  go_enter Try.func24, Try.ntmps24
  go_wp2_with (go_at_call 35; (with_reducible refine cF.mono ?_); rintro e w1 ⟨rfl, hb1⟩; obtain ⟨y1, k0, k1, k2, f1, l1, hB⟩ := HD.out _ hb1; have HB := Lib.hid hB; clear hB hb1)
  refine bodyPost_ret (results_none rfl _ _ _) rfl ?_
  obtain ⟨w2, hw2⟩ : ∃ w2, w2 = w1.setCell ⟨d, o + 1, none⟩ (.slice (some ⟨w1.heap.size + 1, 0, none⟩) 1 1) := ⟨_, rfl⟩
  have hz2 : w2.heap.size = w1.heap.size := by rw [hw2]; simp
  have hF2 : Fb ((w2.alloc (.cells #[.int .i64 a, .int .i64 b, .int .i64 c] 37)).alloc (.cells #[.slice (some ⟨w1.heap.size, 0, none⟩) 1 1] 70)) (w1.heap.size + 1) 70 #[.slice (some ⟨w1.heap.size, 0, none⟩) 1 1] := by
    have := Fb.new (w2.alloc (.cells #[.int .i64 a, .int .i64 b, .int .i64 c] 37)) 70 #[.slice (some ⟨w1.heap.size, 0, none⟩) 1 1]
    rw [World.size_alloc, hz2] at this
    exact this
  have hF1 : Fb ((w2.alloc (.cells #[.int .i64 a, .int .i64 b, .int .i64 c] 37)).alloc (.cells #[.slice (some ⟨w1.heap.size, 0, none⟩) 1 1] 70)) w1.heap.size 37 #[.int .i64 a, .int .i64 b, .int .i64 c] := by
    have := (Fb.new w2 37 #[.int .i64 a, .int .i64 b, .int .i64 c]).alloc (.cells #[.slice (some ⟨w1.heap.size, 0, none⟩) 1 1] 70)
    rw [hz2] at this
    exact this
  have hz := HB.out.size
  refine ⟨rfl, w1.heap.size + 1, w1.heap.size, ?_⟩
  rw [← hw2]
  refine ⟨hF2, hF1, fun h => ?_, fun hne h => ?_, fun hb hB => ?_, by omega, by omega⟩
  · have := (h.below HB.out).set (o + 1) (.slice (some ⟨w1.heap.size + 1, 0, none⟩) 1 1)
    rw [← hw2] at this
    exact (this.alloc _).alloc _
  · have := (h.below HB.out).far (o + 1) (.slice (some ⟨w1.heap.size + 1, 0, none⟩) 1 1) hne
    rw [← hw2] at this
    exact (this.alloc _).alloc _
  · have h1 := Below.setCell (hb.trans (HB.out.mono (Nat.le_of_lt (Nat.lt_of_le_of_lt hB hd)))) (p := ⟨d, o + 1, none⟩) hB (.slice (some ⟨w1.heap.size + 1, 0, none⟩) 1 1)
    rw [← hw2] at h1
    have h2 := hb.size
    exact (h1.alloc (by omega) _).alloc (by simp; omega) _
/-- Has: of the empty store, and of the one key. -/
theorem shas_none {A0 : Option Addr} {c0 : Nat} {W : World} {d : Nat} {room many o1 o2 : Int} {x1 x2 : Value} (a b c : Int) (h : Fb W d 60 (stc room many (.slice A0 0 c0) x1 x2 o1 o2)) :
    Calls Try.prog 15 #[.pointer (some ⟨d, 0, none⟩), .agg #[.int .i64 a, .int .i64 b, .int .i64 c]] W fun e w' => e = .returned (.bool false) ∧ Below W.heap.size W w' := by
  have hB1 : Below W.heap.size W (W.alloc (.cells #[.int .i64 a, .int .i64 b, .int .i64 c] 37)) := (Below.refl _ _).alloc (Nat.le_refl _) _
  have hk := Fb.new W 37 #[.int .i64 a, .int .i64 b, .int .i64 c]
  have hl := h.lt
  have cH := fun (w : World) (hb : Below (W.alloc (.cells #[.int .i64 a, .int .i64 b, .int .i64 c] 37)).heap.size (W.alloc (.cells #[.int .i64 a, .int .i64 b, .int .i64 c] 37)) w) => slhas_none (a := a) (b := b) (c := c) (o := 2) (((h.below hB1).below hb).cell 2) (((h.below hB1).below hb).cell 3)
  have HK := Lib.hid (fun (w : World) (hb : Below (W.alloc (.cells #[.int .i64 a, .int .i64 b, .int .i64 c] 37)).heap.size (W.alloc (.cells #[.int .i64 a, .int .i64 b, .int .i64 c] 37)) w) => (⟨(hk.below hb).cell 0, (hk.below hb).cell 1, (hk.below hb).cell 2⟩ : _ ∧ _ ∧ _))
  obtain ⟨k0, k1, k2⟩ := HK.out _ (Below.refl _ _)
  have HB := Lib.hid hB1
  have hcH := cH _ (Below.drew (Below.refl _ _))
  clear h hB1 hk cH
  go_enter Try.func15, Try.ntmps15
  go_wp2
  go_region_held3 (fun w => w.cell? ⟨W.heap.size, 0, none⟩ = some (.int .i64 a) ∧ w.cell? ⟨W.heap.size, 1, none⟩ = some (.int .i64 b) ∧ w.cell? ⟨W.heap.size, 2, none⟩ = some (.int .i64 c))
    (first | exact ⟨k0, k1, k2⟩ | exact HK.out _ ((Below.drew (Below.refl _ _)).trans hb0))
    (first
      | (go_at_call 27; (with_reducible refine hcH.mono ?_); rintro e w1 ⟨rfl, hb0⟩)
      | fail)
  all_goals
    go_wp2
    go_ret
    exact ⟨rfl, HB.out.trans (((Below.drew (Below.refl _ _)).trans hb0).mono HB.out.size)⟩
end Go.Proofs.Ytoiigplflmejmaa
