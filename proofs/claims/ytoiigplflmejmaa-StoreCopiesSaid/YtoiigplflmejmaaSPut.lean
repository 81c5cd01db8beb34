/-
  A STORE: its first key added, and found; awake.
-/
import Derived.Test.YtoiigplflmejmaaSAdd
import Derived.Test.YtoiigplflmejmaaSOrder
namespace Go.Proofs.Ytoiigplflmejmaa
open Go.RowKit
set_option linter.unusedVariables false
set_option linter.unusedSimpArgs false
set_option maxRecDepth 100000

abbrev sl1 (g : Nat) : Value := .slice (some ⟨g, 0, none⟩) 1 1
theorem shas_one {W : World} {d gb gk : Nat} {room many o1 o2 : Int} {x1 x2 : Value} (a b c : Int) (h : Fb W d 60 (stc room many (sl1 gb) x1 x2 o1 o2)) (hb : Fb W gb 70 #[sl1 gk]) (hg : Fb W gk 37 #[.int .i64 a, .int .i64 b, .int .i64 c]) :
    Calls Try.prog 15 #[.pointer (some ⟨d, 0, none⟩), .agg #[.int .i64 a, .int .i64 b, .int .i64 c]] W fun e w' => e = .returned (.bool true) ∧ Below W.heap.size W w' := by
  have hB1 : Below W.heap.size W (W.alloc (.cells #[.int .i64 a, .int .i64 b, .int .i64 c] 37)) := (Below.refl _ _).alloc (Nat.le_refl _) _
  have hk := Fb.new W 37 #[.int .i64 a, .int .i64 b, .int .i64 c]
  have hl := h.lt
  have cH := fun (w : World) (hbb : Below (W.alloc (.cells #[.int .i64 a, .int .i64 b, .int .i64 c] 37)).heap.size (W.alloc (.cells #[.int .i64 a, .int .i64 b, .int .i64 c] 37)) w) => slhas_one (d := d) (o := 2) ⟨((h.below hB1).below hbb).cell 2, ((h.below hB1).below hbb).cell 3, (hb.below hB1).below hbb, (hg.below hB1).below hbb⟩
  have HK := Lib.hid (fun (w : World) (hb : Below (W.alloc (.cells #[.int .i64 a, .int .i64 b, .int .i64 c] 37)).heap.size (W.alloc (.cells #[.int .i64 a, .int .i64 b, .int .i64 c] 37)) w) => (⟨(hk.below hb).cell 0, (hk.below hb).cell 1, (hk.below hb).cell 2⟩ : _ ∧ _ ∧ _))
  obtain ⟨k0, k1, k2⟩ := HK.out _ (Below.refl _ _)
  have HB := Lib.hid hB1
  have hcH := cH _ (Below.drew (Below.refl _ _))
  clear h hb hg hB1 hk cH
  go_enter Try.func15, Try.ntmps15
  go_wp2
  go_region_held3 (fun w => w.cell? ⟨W.heap.size, 0, none⟩ = some (.int .i64 a) ∧ w.cell? ⟨W.heap.size, 1, none⟩ = some (.int .i64 b) ∧ w.cell? ⟨W.heap.size, 2, none⟩ = some (.int .i64 c))
    (first | exact ⟨k0, k1, k2⟩ | exact HK.out _ ((Below.drew (Below.refl _ _)).trans hb0))
    (first
      | (go_at_call 27; (with_reducible refine hcH.mono ?_); rintro e w1 ⟨rfl, hb0⟩)
      | fail)
  all_goals
    go_wp2
    go_ret
    exact ⟨rfl, HB.out.trans (((Below.drew (Below.refl _ _)).trans hb0).mono HB.out.size)⟩
/-- While the first key is put into the lists. -/
def SrRel (B : Nat) (W0 : World) (d bk : Nat) (g : Nat) (s : Value) (wr : World) : Prop :=
  (Below B W0 wr ∧ Fb wr bk 37 #[.int .i64 1, .int .i64 2, .int .i64 3] ∧ bk ≠ d) ∧
  ((g = 3 ∧ s = .int .i64 0 ∧ Fb wr d 60 (stc 2 0 nl nl nl 1 2)) ∨
   (g = 2 ∧ s = .int .i64 1 ∧ ∃ gb gk, (gb ≠ d ∧ gk ≠ d) ∧ Fb wr d 60 (stc 2 0 (sl1 gb) nl nl 1 2) ∧ Fb wr gb 70 #[sl1 gk] ∧ Fb wr gk 37 #[.int .i64 1, .int .i64 2, .int .i64 3]) ∨
   (g = 1 ∧ s = .int .i64 2 ∧ ∃ gb gk g1, (gb ≠ d ∧ gk ≠ d) ∧ Fb wr d 60 (stc 2 0 (sl1 gb) (sl1 g1) nl 1 2) ∧ Fb wr gb 70 #[sl1 gk] ∧ Fb wr gk 37 #[.int .i64 1, .int .i64 2, .int .i64 3]) ∨
   (g = 0 ∧ s = .int .i64 3 ∧ ∃ gb gk g1 g2, (gb ≠ d ∧ gk ≠ d) ∧ Fb wr d 60 (stc 2 0 (sl1 gb) (sl1 g1) (sl1 g2) 1 2) ∧ Fb wr gb 70 #[sl1 gk] ∧ Fb wr gk 37 #[.int .i64 1, .int .i64 2, .int .i64 3]))
def AddPost (B : Nat) (W0 : World) (d : Nat) (e : Ending) (w' : World) : Prop := e = .returned (.int .i64 0) ∧ Below B W0 w' ∧ ∃ gb gk g1 g2, Fb w' d 60 (stc 2 1 (sl1 gb) (sl1 g1) (sl1 g2) 1 2) ∧ Fb w' gb 70 #[sl1 gk] ∧ Fb w' gk 37 #[.int .i64 1, .int .i64 2, .int .i64 3]
set_option maxHeartbeats 16000000 in
theorem sadd_first {W W0 : World} {B d : Nat} (hB : Below B W0 W) (hd : B ≤ d) (h : Fb W d 60 (stc 2 0 nl nl nl 1 2)) :
    Calls Try.prog 11 #[.pointer (some ⟨d, 0, none⟩), .agg #[.int .i64 1, .int .i64 2, .int .i64 3]] W (AddPost B W0 d) := by
  obtain ⟨W2, hW2⟩ : ∃ W2, W2 = W.alloc (.cells #[.int .i64 1, .int .i64 2, .int .i64 3] 37) := ⟨_, rfl⟩
  have hB1 : Below W.heap.size W W2 := by rw [hW2]; exact (Below.refl _ _).alloc (Nat.le_refl _) _
  have hk : Fb W2 W.heap.size 37 #[.int .i64 1, .int .i64 2, .int .i64 3] := by rw [hW2]; exact Fb.new _ _ _
  have hl := h.lt
  have h2 := h.below hB1
  have cH := shas_none 1 2 3 h2
  have k0 : W2.cell? ⟨W.heap.size, 0, none⟩ = some (.int .i64 1) := hk.cell 0
  have k1 : W2.cell? ⟨W.heap.size, 1, none⟩ = some (.int .i64 2) := hk.cell 1
  have k2 : W2.cell? ⟨W.heap.size, 2, none⟩ = some (.int .i64 3) := hk.cell 2
  have HD := Lib.hid (fun (w : World) (hb : Below W2.heap.size W2 w) (q : Nat) => (⟨(h2.below hb).cell 0, (h2.below hb).cell 1, ⟨below_drewP (hB.trans ((hB1.trans (hb.mono hB1.size)).mono (Nat.le_trans hd (Nat.le_of_lt hl)))) q, hk.below (below_drewP hb q), by omega⟩, h2.below (below_drewP hb q)⟩ : w.cell? ⟨d, 0, none⟩ = some (.int .i64 2) ∧ w.cell? ⟨d, 1, none⟩ = some (.int .i64 0) ∧ (Below B W0 (w.drewN q) ∧ Fb (w.drewN q) W.heap.size 37 #[.int .i64 1, .int .i64 2, .int .i64 3] ∧ W.heap.size ≠ d) ∧ Fb (w.drewN q) d 60 (stc 2 0 nl nl nl 1 2)))
  clear hB h hB1 hk h2
  subst hW2
  go_enter Try.func11, Try.ntmps11
  go_wp2_with (go_at_call 15; (with_reducible refine cH.mono ?_); rintro e w1 ⟨rfl, hb1⟩; obtain ⟨z0, z1, _⟩ := HD.out _ hb1 0)
  go_quiet (fail)
  go_wp2
  have HS := Lib.hid (HD.out _ hb1 nq).2.2
  clear hb1 cH k0 k1 k2 z0 z1 HD
  go_loopg [29] 3 (fun g s wr => SrRel B W0 d W.heap.size g s wr)
  case atStart => exact ⟨HS.out.1, .inl ⟨rfl, rfl, HS.out.2⟩⟩
  case round =>
    clear HS
    obtain ⟨⟨hb, hk, hne⟩, hw⟩ := hrel
    have k0 : wr.cell? ⟨W.heap.size, 0, none⟩ = some (.int .i64 1) := hk.cell 0
    have k1 : wr.cell? ⟨W.heap.size, 1, none⟩ = some (.int .i64 2) := hk.cell 1
    have k2 : wr.cell? ⟨W.heap.size, 2, none⟩ = some (.int .i64 3) := hk.cell 2
    rcases hw with ⟨hg, rfl, hf⟩ | ⟨hg, rfl, gb, gk, ⟨n1, n2⟩, hf, hgb, hgk⟩ | ⟨hg, rfl, gb, gk, g1, ⟨n1, n2⟩, hf, hgb, hgk⟩ | ⟨hg, rfl, gb, gk, g1, g2, ⟨n1, n2⟩, hf, hgb, hgk⟩
    · subst hg
      have cL := sladd_none (W := wr.drew) (d := d) (o := 2) (a := 1) (b := 2) (c := 3) (hf.cell 2) (hf.cell 3) (fun i => hf.free i)
      have HX := Lib.hid (And.intro hb (And.intro hk hne))
      have HF := Lib.hid hf
      clear hb hk hne hf
      go_wp2
      go_region_held3 (fun w => w.cell? ⟨W.heap.size, 0, none⟩ = some (.int .i64 1) ∧ w.cell? ⟨W.heap.size, 1, none⟩ = some (.int .i64 2) ∧ w.cell? ⟨W.heap.size, 2, none⟩ = some (.int .i64 3))
        (first | exact ⟨k0, k1, k2⟩ | exact ⟨Fb.cell HK6.out 0, Fb.cell HK6.out 1, Fb.cell HK6.out 2⟩)
        (first
          | (go_at_call 24; (with_reducible refine cL.mono ?_); rintro e w5 ⟨rfl, gb5, gk5, hX⟩; have HK6 := Lib.hid (hX.far HX.out.2.2 HX.out.2.1.drew); have HB6 := Lib.hid (hX.bel (Below.drew HX.out.1) hd); have HF6 := Lib.hid (hX.own HF.out.drew); have HG6 := Lib.hid (And.intro hX.hb hX.hk); have HM := Lib.hid (And.intro hX.nb hX.nk); clear hX)
          | fail)
      all_goals
        go_wp2
        go_roundg 2
        case measure => exact Nat.lt_succ_self _
        case rel => exact ⟨⟨HB6.out, HK6.out, HX.out.2.2⟩, .inr (.inl ⟨rfl, rfl, _, _, HM.out, HF6.out, HG6.out.1, HG6.out.2⟩)⟩
    · subst hg
      have cL := sladd_none (W := wr.drew) (d := d) (o := 4) (a := 1) (b := 2) (c := 3) (hf.cell 4) (hf.cell 5) (fun i => hf.free i)
      have HX := Lib.hid (And.intro hb (And.intro hk hne))
      have HF := Lib.hid hf
      have HG := Lib.hid (And.intro hgb hgk)
      have HM := Lib.hid (And.intro n1 n2)
      clear hgb hgk n1 n2
      clear hb hk hne hf
      go_wp2
      go_region_held3 (fun w => w.cell? ⟨W.heap.size, 0, none⟩ = some (.int .i64 1) ∧ w.cell? ⟨W.heap.size, 1, none⟩ = some (.int .i64 2) ∧ w.cell? ⟨W.heap.size, 2, none⟩ = some (.int .i64 3))
        (first | exact ⟨k0, k1, k2⟩ | exact ⟨Fb.cell HK6.out 0, Fb.cell HK6.out 1, Fb.cell HK6.out 2⟩)
        (first
          | (go_at_call 24; (with_reducible refine cL.mono ?_); rintro e w5 ⟨rfl, gb5, gk5, hX⟩; have HK6 := Lib.hid (hX.far HX.out.2.2 HX.out.2.1.drew); have HB6 := Lib.hid (hX.bel (Below.drew HX.out.1) hd); have HF6 := Lib.hid (hX.own HF.out.drew); have HG6 := Lib.hid (And.intro (hX.far HM.out.1 HG.out.1) (hX.far HM.out.2 HG.out.2)); clear hX)
          | fail)
      all_goals
        go_wp2
        go_roundg 1
        case measure => exact Nat.lt_succ_self _
        case rel => exact ⟨⟨HB6.out, HK6.out, HX.out.2.2⟩, .inr (.inr (.inl ⟨rfl, rfl, _, _, _, HM.out, HF6.out, HG6.out.1, HG6.out.2⟩))⟩
    · subst hg
      have cL := sladd_none (W := wr.drew) (d := d) (o := 6) (a := 1) (b := 2) (c := 3) (hf.cell 6) (hf.cell 7) (fun i => hf.free i)
      have HX := Lib.hid (And.intro hb (And.intro hk hne))
      have HF := Lib.hid hf
      have HG := Lib.hid (And.intro hgb hgk)
      have HM := Lib.hid (And.intro n1 n2)
      clear hgb hgk n1 n2
      clear hb hk hne hf
      go_wp2
      go_region_held3 (fun w => w.cell? ⟨W.heap.size, 0, none⟩ = some (.int .i64 1) ∧ w.cell? ⟨W.heap.size, 1, none⟩ = some (.int .i64 2) ∧ w.cell? ⟨W.heap.size, 2, none⟩ = some (.int .i64 3))
        (first | exact ⟨k0, k1, k2⟩ | exact ⟨Fb.cell HK6.out 0, Fb.cell HK6.out 1, Fb.cell HK6.out 2⟩)
        (first
          | (go_at_call 24; (with_reducible refine cL.mono ?_); rintro e w5 ⟨rfl, gb5, gk5, hX⟩; have HK6 := Lib.hid (hX.far HX.out.2.2 HX.out.2.1.drew); have HB6 := Lib.hid (hX.bel (Below.drew HX.out.1) hd); have HF6 := Lib.hid (hX.own HF.out.drew); have HG6 := Lib.hid (And.intro (hX.far HM.out.1 HG.out.1) (hX.far HM.out.2 HG.out.2)); clear hX)
          | fail)
      all_goals
        go_wp2
        go_roundg 0
        case measure => exact Nat.lt_succ_self _
        case rel => exact ⟨⟨HB6.out, HK6.out, HX.out.2.2⟩, .inr (.inr (.inr ⟨rfl, rfl, _, _, _, _, HM.out, HF6.out, HG6.out.1, HG6.out.2⟩))⟩
    · subst hg
      have z1 : wr.cell? ⟨d, 1, none⟩ = some (.int .i64 0) := hf.cell 1
      have f1 := hf.free 1
      have l1 := hf.lt
      have HE := Lib.hid (show AddPost B W0 d (.returned (.int .i64 0)) (wr.setCell ⟨d, 1, none⟩ (.int .i64 1)) from ⟨rfl, Below.setCell hb (p := ⟨d, 1, none⟩) hd _, gb, gk, g1, g2, hf.set 1 _, hgb.far 1 _ n1, hgk.far 1 _ n2⟩)
      clear hb hk hne hf hgb hgk
      go_wp2
      go_ret
      exact HE.out
set_option maxHeartbeats 8000000 in
theorem sawake_ok (W : World) : Calls Try.prog 8 #[] W fun e w' => e = .returned (.bool true) ∧ Below W.heap.size W w' := by
  have cN := snew_ok W
  have cO := fun w => sorder_any (-1) 3 (-1) w
  rw [show ordP (-1) 3 (-1) = 1 from rfl] at cO
  go_enter Try.func8, Try.ntmps8
  go_wp2_with (first
    | (go_at_call 9; (with_reducible refine cN.mono ?_); rintro e w1 ⟨d, rfl, hf1, hd1, hb1⟩)
    | (go_at_call 23; (with_reducible refine (cO _).mono ?_); rintro e w2 ⟨rfl, hb2⟩; have cA := sadd_first (hb1.trans (hb2.mono hb1.size)) hd1 (hf1.below hb2))
    | (go_at_call 11; (with_reducible refine cA.mono ?_); rintro e w3 ⟨rfl, hb3, gb, gk, g1, g2, hf3, hg3, hk3⟩; have cH := shas_one 1 2 3 hf3 hg3 hk3)
    | (go_at_call 15; (with_reducible refine cH.mono ?_); rintro e w4 ⟨rfl, hb4⟩))
  go_ret
  exact ⟨rfl, hb3.trans (hb4.mono hb3.size)⟩
end Go.Proofs.Ytoiigplflmejmaa
