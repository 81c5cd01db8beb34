/-
  A LIST WITH ONE KEY: find and has of it; has in an empty list.
-/
import Derived.Test.YtoiigplflmejmaaSFind
import Derived.Deep.RegionHeld3
import Derived.ChangeKeysEq
namespace Go.Proofs.Ytoiigplflmejmaa
open Go.RowKit
set_option linter.unusedVariables false
set_option linter.unusedSimpArgs false
set_option maxRecDepth 100000

/-- One key in one block. -/
structure Ok1 (W : World) (d o : Nat) (n : Int) (gb gk : Nat) (a b c : Int) : Prop where
  h0 : W.cell? ⟨d, o, none⟩ = some (.int .i64 n)
  h1 : W.cell? ⟨d, o + 1, none⟩ = some (.slice (some ⟨gb, 0, none⟩) 1 1)
  hb : Fb W gb 70 #[.slice (some ⟨gk, 0, none⟩) 1 1]
  hk : Fb W gk 37 #[.int .i64 a, .int .i64 b, .int .i64 c]
theorem cell_below {W W' : World} {a : Addr} {v : Value} (h : W.cell? a = some v) (hb : Below W.heap.size W W') : W'.cell? a = some v := by
  have hlt := World.block_lt_of_cell? _ _ h
  unfold World.cell? at h ⊢
  rw [hb.block _ hlt]
  exact h
section
variable {W W' : World} {d o gb gk : Nat} {n a b c : Int}
theorem Ok1.below (h : Ok1 W d o n gb gk a b c) (hb : Below W.heap.size W W') : Ok1 W' d o n gb gk a b c := ⟨cell_below h.h0 hb, cell_below h.h1 hb, h.hb.below hb, h.hk.below hb⟩
theorem Ok1.cells (h : Ok1 W d o n gb gk a b c) : W.cell? ⟨gb, 0, none⟩ = some (.slice (some ⟨gk, 0, none⟩) 1 1) ∧ W.cell? ⟨gk, 0, none⟩ = some (.int .i64 a) ∧ W.cell? ⟨gk, 1, none⟩ = some (.int .i64 b) ∧ W.cell? ⟨gk, 2, none⟩ = some (.int .i64 c) ∧ gb < W.heap.size ∧ gk < W.heap.size ∧ d < W.heap.size := ⟨h.hb.cell 0, h.hk.cell 0, h.hk.cell 1, h.hk.cell 2, h.hb.lt, h.hk.lt, World.block_lt_of_cell? _ _ h.h0⟩
/-- The closure over the blocks. -/
theorem sfa_ok (h : Ok1 W d o n gb gk a b c) {bl bk : Nat} (hl : Fb W bl 67 #[.pointer (some ⟨d, o, none⟩)]) (hk : Fb W bk 37 #[.int .i64 a, .int .i64 b, .int .i64 c]) :
    Calls Try.prog 44 #[.int .i64 0, .pointer (some ⟨bl, 0, none⟩), .pointer (some ⟨bk, 0, none⟩)] W fun e w' => e = .returned (.bool true) ∧ Below W.heap.size W w' := by
  have cL := fun W => sless_any n a b c a b c W
  rw [lsB_same] at cL
  obtain ⟨z0, z1, z2, z3, _, _, _⟩ := h.cells
  have y0 := h.h0
  have y1 := h.h1
  have x0 := hl.cell 0
  have k0 := hk.cell 0
  have k1 := hk.cell 1
  have k2 := hk.cell 2
  clear h hl hk
  have wz1 : IntKind.i64.wrap ((1 : Int) - 1) = 0 := by decide
  have wz2 : IntKind.i64.wrap (((1 : Nat) : Int) - 1) = 0 := by decide
  have wz3 : IntKind.i64.wrap 0 = 0 := by decide
  go_enter Try.func44, Try.ntmps44
  go_wp2
  go_region_held3 (fun w => w.cell? ⟨bl, 0, none⟩ = some (.pointer (some ⟨d, o, none⟩)) ∧ w.cell? ⟨d, o, none⟩ = some (.int .i64 n) ∧ w.cell? ⟨gk, 0, none⟩ = some (.int .i64 a) ∧ w.cell? ⟨gk, 1, none⟩ = some (.int .i64 b) ∧ w.cell? ⟨gk, 2, none⟩ = some (.int .i64 c) ∧ w.cell? ⟨bk, 0, none⟩ = some (.int .i64 a) ∧ w.cell? ⟨bk, 1, none⟩ = some (.int .i64 b) ∧ w.cell? ⟨bk, 2, none⟩ = some (.int .i64 c))
    (first | exact ⟨x0, y0, z1, z2, z3, k0, k1, k2⟩ | exact ⟨cell_below x0 hB, cell_below y0 hB, cell_below z1 hB, cell_below z2 hB, cell_below z3 hB, cell_below k0 hB, cell_below k1 hB, cell_below k2 hB⟩)
    (first
      | (go_at_call 45; (with_reducible refine (cL _).mono ?_); rintro e w1 ⟨rfl, hB0⟩; have hB := (Below.drew (Below.refl W.heap.size W)).trans hB0)
      | fail)
  all_goals
    go_wp2
    go_ret
    exact ⟨rfl, hB⟩
/-- The closure over a block's keys. -/
theorem sfb_ok (h : Ok1 W d o n gb gk a b c) {bl bq bk : Nat} (hl : Fb W bl 67 #[.pointer (some ⟨d, o, none⟩)]) (hq : Fb W bq 70 #[.slice (some ⟨gk, 0, none⟩) 1 1]) (hk : Fb W bk 37 #[.int .i64 a, .int .i64 b, .int .i64 c]) :
    Calls Try.prog 46 #[.int .i64 0, .pointer (some ⟨bl, 0, none⟩), .pointer (some ⟨bq, 0, none⟩), .pointer (some ⟨bk, 0, none⟩)] W fun e w' => e = .returned (.bool true) ∧ Below W.heap.size W w' := by
  have cL := fun W => sless_any n a b c a b c W
  rw [lsB_same] at cL
  obtain ⟨z0, z1, z2, z3, _, _, _⟩ := h.cells
  have y0 := h.h0
  have x0 := hl.cell 0
  have x1 := hq.cell 0
  have k0 := hk.cell 0
  have k1 := hk.cell 1
  have k2 := hk.cell 2
  clear h hl hk hq
  go_enter Try.func46, Try.ntmps46
  go_wp2
  go_region_held3 (fun w => w.cell? ⟨bl, 0, none⟩ = some (.pointer (some ⟨d, o, none⟩)) ∧ w.cell? ⟨bq, 0, none⟩ = some (.slice (some ⟨gk, 0, none⟩) 1 1) ∧ w.cell? ⟨d, o, none⟩ = some (.int .i64 n) ∧ w.cell? ⟨gk, 0, none⟩ = some (.int .i64 a) ∧ w.cell? ⟨gk, 1, none⟩ = some (.int .i64 b) ∧ w.cell? ⟨gk, 2, none⟩ = some (.int .i64 c) ∧ w.cell? ⟨bk, 0, none⟩ = some (.int .i64 a) ∧ w.cell? ⟨bk, 1, none⟩ = some (.int .i64 b) ∧ w.cell? ⟨bk, 2, none⟩ = some (.int .i64 c))
    (first | exact ⟨x0, x1, y0, z1, z2, z3, k0, k1, k2⟩ | exact ⟨cell_below x0 hB, cell_below x1 hB, cell_below y0 hB, cell_below z1 hB, cell_below z2 hB, cell_below z3 hB, cell_below k0 hB, cell_below k1 hB, cell_below k2 hB⟩)
    (first
      | (go_at_call 45; (with_reducible refine (cL _).mono ?_); rintro e w1 ⟨rfl, hB0⟩; have hB := (Below.drew (Below.refl W.heap.size W)).trans hB0)
      | fail)
  all_goals
    go_wp2
    go_ret
    exact ⟨rfl, hB⟩
set_option maxHeartbeats 4000000 in
theorem sfind_one (h : Ok1 W d o n gb gk a b c) :
    Calls Try.prog 35 #[.pointer (some ⟨d, o, none⟩), .agg #[.int .i64 a, .int .i64 b, .int .i64 c]] W fun e w' => e = .returned (.tuple #[.int .i64 0, .int .i64 0]) ∧ Below W.heap.size W w' := by
  obtain ⟨W2, hW2⟩ : ∃ W2, W2 = (W.alloc (.cells #[.pointer (some ⟨d, o, none⟩)] 67)).alloc (.cells #[.int .i64 a, .int .i64 b, .int .i64 c] 37) := ⟨_, rfl⟩
  have hB2 : Below W.heap.size W W2 := by rw [hW2]; exact ((Below.refl _ _).alloc (Nat.le_refl _) _).alloc (by simp) _
  have hF1 : Fb W2 W.heap.size 67 #[.pointer (some ⟨d, o, none⟩)] := by rw [hW2]; exact (Fb.new _ _ _).alloc _
  have hF2 : Fb W2 (W.heap.size + 1) 37 #[.int .i64 a, .int .i64 b, .int .i64 c] := by
    have := Fb.new (W.alloc (.cells #[.pointer (some ⟨d, o, none⟩)] 67)) 37 #[.int .i64 a, .int .i64 b, .int .i64 c]
    rw [World.size_alloc] at this
    rw [hW2]; exact this
  have h2 := h.below hB2
  have c1 := search1 44 #[.pointer (some ⟨W.heap.size, 0, none⟩), .pointer (some ⟨W.heap.size + 1, 0, none⟩)] W2 (fun _ _ => by first | rfl | kernel_rfl) (sfa_ok h2 hF1 hF2)
  have c2 := fun (w : World) (hb : Below W2.heap.size W2 w) => search1 46 #[.pointer (some ⟨W.heap.size, 0, none⟩), .pointer (some ⟨w.heap.size, 0, none⟩), .pointer (some ⟨W.heap.size + 1, 0, none⟩)] (w.alloc (.cells #[.slice (some ⟨gk, 0, none⟩) 1 1] 70)) (fun _ _ => by first | rfl | kernel_rfl) (sfb_ok ((h2.below hb).below ((Below.refl _ _).alloc (Nat.le_refl _) _)) ((hF1.below hb).alloc _) (Fb.new _ _ _) ((hF2.below hb).alloc _))
  have H2 := Lib.hid h2
  have HF := Lib.hid hF1
  have x0 := hF1.cell 0
  have y1 := h2.h1
  have HB := Lib.hid (fun (w : World) (hb : Below W2.heap.size W2 w) (w' : World) (hb' : Below (w.alloc (.cells #[.slice (some ⟨gk, 0, none⟩) 1 1] 70)).heap.size (w.alloc (.cells #[.slice (some ⟨gk, 0, none⟩) 1 1] 70)) w') => (show Below W.heap.size W w' from hB2.trans ((hb.trans ((((Below.refl _ _).alloc (Nat.le_refl _) _).trans (hb'.mono (by simp))).mono hb.size)).mono hB2.size)))
  have HD := Lib.hid (fun (w : World) (hb : Below W2.heap.size W2 w) => (⟨(hF1.below hb).cell 0, (h2.below hb).h1, (h2.below hb).cells⟩ : _ ∧ _ ∧ _))
  have hd : d < W.heap.size := World.block_lt_of_cell? _ _ h.h0
  have v1 := h.h1
  have n1 : ¬ W.heap.size = d := by omega
  have n2 : ¬ W.heap.size + 1 = d := by omega
  have n3 : ¬ d = W.heap.size := by omega
  have n4 : ¬ d = W.heap.size + 1 := by omega
  clear h hF1 hF2 h2 hB2 x0 y1
  subst hW2
  go_enter Try.func35, Try.ntmps35
  go_wp2_with (first
    | (go_at_call 43; (with_reducible refine c1.mono ?_); rintro e w1 ⟨rfl, hb1⟩; obtain ⟨x0, y1, z0, _⟩ := HD.out _ hb1; have c21 := c2 _ hb1; have HE := Lib.hid (HB.out _ hb1); clear c1)
    | (go_at_call 43; (with_reducible refine c21.mono ?_); rintro e w2 ⟨rfl, hb2⟩; have HG := Lib.hid (HE.out _ hb2)))
  go_ret2
  exact ⟨rfl, HG.out⟩
/-- has, of the key that is there. -/
theorem infoInt : ∃ i, Try.prog.info? 3 = some i := Option.isSome_iff_exists.1 (by kernel_rfl)
theorem eqKeyA (a b c : Int) (w : World) : (Op.equalIn 9999 37 (.agg #[.int .i64 a, .int .i64 b, .int .i64 c]) (.agg #[.int .i64 a, .int .i64 b, .int .i64 c])).run Try.prog w = .ok true w := by
  obtain ⟨i, hi⟩ := infoInt
  have hs : Try.prog.cellsOf 3 = 1 := by kernel_rfl
  have hu : Try.prog.underlying 37 = some (.array 3 3) := by kernel_rfl
  rw [run_equalIn_array (w := w) 9998 _ _ hu hi, hs]
  simp only [show List.range 3 = [0, 1, 2] by decide, Op.eqItems]
  go_simp
theorem eqKey1 (a b c : Int) (w : World) : (binOp .eql 37 (.agg #[.int .i64 a, .int .i64 b, .int .i64 c]) (.agg #[.int .i64 a, .int .i64 b, .int .i64 c])).run Try.prog w = .ok (.bool true) w := by
  have hA := fun w => eqKeyA a b c w
  obtain ⟨i, hi⟩ := infoInt
  have hs : Try.prog.cellsOf 3 = 1 := by kernel_rfl
  have hu : Try.prog.underlying 37 = some (.array 3 3) := by kernel_rfl
  have hB := fun w => (run_equalIn_array (w := w) 9999 #[.int .i64 a, .int .i64 b, .int .i64 c] #[.int .i64 a, .int .i64 b, .int .i64 c] hu hi)
  rw [hs] at hB
  simp only [show List.range 3 = [0, 1, 2] by decide, Op.eqItems] at hB
  go_simp
set_option maxHeartbeats 4000000 in
theorem slhas_one (h : Ok1 W d o n gb gk a b c) :
    Calls Try.prog 27 #[.pointer (some ⟨d, o, none⟩), .agg #[.int .i64 a, .int .i64 b, .int .i64 c]] W fun e w' => e = .returned (.bool true) ∧ Below W.heap.size W w' := by
  have hB1 : Below W.heap.size W (W.alloc (.cells #[.int .i64 a, .int .i64 b, .int .i64 c] 37)) := (Below.refl _ _).alloc (Nat.le_refl _) _
  have hk := Fb.new W 37 #[.int .i64 a, .int .i64 b, .int .i64 c]
  have cF := sfind_one (h.below hB1)
  have hE := eqKey1 a b c
  have HD := Lib.hid (fun (w : World) (hb : Below (W.alloc (.cells #[.int .i64 a, .int .i64 b, .int .i64 c] 37)).heap.size (W.alloc (.cells #[.int .i64 a, .int .i64 b, .int .i64 c] 37)) w) => (⟨((h.below hB1).below hb).h1, ((h.below hB1).below hb).cells, (hk.below hb).cell 0, (hk.below hb).cell 1, (hk.below hb).cell 2, hB1.trans (hb.mono hB1.size)⟩ : _ ∧ _ ∧ _ ∧ _ ∧ _ ∧ _))
  clear h hB1 hk
  go_enter Try.func27, Try.ntmps27
  go_wp2_with (go_at_call 35; (with_reducible refine cF.mono ?_); rintro e w1 ⟨rfl, hb1⟩; obtain ⟨y1, ⟨z0, z1, z2, z3, _, _, _⟩, k0, k1, k2, hB⟩ := HD.out _ hb1; have HB := Lib.hid hB; clear hB hb1)
  go_quiet (fail)
  go_wp2
  go_ret
  exact ⟨rfl, below_drewP HB.out _⟩
set_option maxHeartbeats 4000000 in
theorem slhas_none {A0 : Option Addr} {c0 : Nat} (h0 : W.cell? ⟨d, o, none⟩ = some (.int .i64 n)) (h1 : W.cell? ⟨d, o + 1, none⟩ = some (.slice A0 0 c0)) :
    Calls Try.prog 27 #[.pointer (some ⟨d, o, none⟩), .agg #[.int .i64 a, .int .i64 b, .int .i64 c]] W fun e w' => e = .returned (.bool false) ∧ Below W.heap.size W w' := by
  have hB1 : Below W.heap.size W (W.alloc (.cells #[.int .i64 a, .int .i64 b, .int .i64 c] 37)) := (Below.refl _ _).alloc (Nat.le_refl _) _
  have hd := World.block_lt_of_cell? _ _ h0
  have cF := sfind_none (a := a) (b := b) (c := c) (cell_below h0 hB1) (cell_below h1 hB1) (Nat.lt_of_lt_of_le (show d < W.heap.size from hd) hB1.size)
  have HD := Lib.hid (fun (w : World) (hb : Below (W.alloc (.cells #[.int .i64 a, .int .i64 b, .int .i64 c] 37)).heap.size (W.alloc (.cells #[.int .i64 a, .int .i64 b, .int .i64 c] 37)) w) => (⟨cell_below (cell_below h1 hB1) hb, hB1.trans (hb.mono hB1.size)⟩ : _ ∧ _))
  clear h0 h1 hB1 hd
  go_enter Try.func27, Try.ntmps27
  go_wp2_with (go_at_call 35; (with_reducible refine cF.mono ?_); rintro e w1 ⟨rfl, hb1⟩; obtain ⟨y1, hB⟩ := HD.out _ hb1; have HB := Lib.hid hB; clear hB hb1)
  go_quiet (fail)
  go_wp2
  go_ret
  exact ⟨rfl, below_drewP HB.out _⟩
end
end Go.Proofs.Ytoiigplflmejmaa
