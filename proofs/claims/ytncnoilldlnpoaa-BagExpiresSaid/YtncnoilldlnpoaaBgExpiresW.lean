/-
  BagExpires, walked.
-/
import Derived.Test.YtncnoilldlnpoaaBgExL
import Derived.Deep.RegionHeld3
namespace Go.Proofs.Ytncnoilldlnpoaa
open Go.RowKit
set_option linter.unusedVariables false
set_option linter.unusedSimpArgs false
set_option maxRecDepth 100000

set_option maxHeartbeats 16000000 in
theorem bexp_walk (l : List Ga) (ok : ∀ t ∈ l, t.ok) (A : Option Addr) (cap : Nat) (hl : l.length ≤ cap) (hm : cap ≤ maxLen) (before : Int) (hb0 : -9223372036854775808 ≤ before) (hb1 : before ≤ 9223372036854775807) (rr : Int × Int) (okr : i64b rr.1 ∧ i64b rr.2) (W : World) (hs : SlAt W A 6 (l.map Ga.cells)) :
    Calls Try.prog 5 #[.slice A l.length cap, .int .i64 before, .agg #[.int .i64 rr.1, .int .i64 rr.2]] W fun e w' => e = .returned (.bool true) ∧ Below W.heap.size W w' := by
  obtain ⟨a, b⟩ := rr
  clear okr ok hm
  dsimp only
  have hB0 : Below W.heap.size W (W.alloc (.cells #[.int .i64 a, .int .i64 b] 24)) := (Below.refl _ _).alloc (Nat.le_refl _) _
  have hf0 := Fb.new W 24 #[.int .i64 a, .int .i64 b]
  by_cases h40 : 40 < l.length
  · have d1 : decide ((40 : Int) < (l.length : Int)) = true := decide_eq_true (by omega)
    have n1 : (40 : Int) < (l.length : Int) := by omega
    have HB := Lib.hid hB0
    clear hs hB0 hf0
    generalize l.length = n at *
    go_enter Try.func5, Try.ntmps5
    go_wp2_with (go_at_call 6; (with_reducible refine (gawake_ok _).mono ?_); rintro e w1 ⟨rfl, hb⟩; have HB := Lib.hid (HB.out.trans (hb.mono HB.out.size)); clear hb)
    go_ret
    exact ⟨rfl, HB.out⟩
  · have d1 : decide ((40 : Int) < (l.length : Int)) = false := decide_eq_false (by omega)
    have n1 : ¬ (40 : Int) < (l.length : Int) := by omega
    have HB := Lib.hid hB0
    have HF := Lib.hid hf0
    have HS := Lib.hid hs
    have H40 := Lib.hid h40
    clear hs hB0 hf0 h40
    go_enter Try.func5, Try.ntmps5
    go_wp2_with (first
      | (go_at_call 6; (with_reducible refine (gawake_ok _).mono ?_); rintro e w1 ⟨rfl, hb⟩; have HW1 := Lib.hid hb; clear hb; have cN1 := gnew_any w1 (room := 100) (by decide) (by decide); have cN2 := gnew_any (newW w1 100) (room := 100) (by decide) (by decide))
      | (go_at_call 7; (with_reducible refine cN1.mono ?_); rintro e w' ⟨rfl, rfl⟩; clear cN1)
      | (go_at_call 7; (with_reducible refine cN2.mono ?_); rintro e w' ⟨rfl, rfl⟩; clear cN2))
    go_loopg [32] l.length (fun gk s32 wr => ∃ i : Nat, s32 = .int .i64 (i : Int) ∧ i ≤ l.length ∧ l.length - i ≤ gk ∧ ExS w1 (w1.heap.size + 1) ((newW w1 100).heap.size + 1) before i wr)
    case atStart => exact ⟨0, rfl, Nat.zero_le _, by omega, ex_start w1 before⟩
    case round =>
      obtain ⟨i, rfl, hi, hgk, M, Fa, Fc, hex⟩ := hrel
      have hl40 := H40.out
      have hW : Below W.heap.size W wr := (HB.out.trans (HW1.out.mono HB.out.size)).trans (hex.bl.mono (Nat.le_trans HB.out.size HW1.out.size))
      by_cases hlt : i < l.length
      · obtain ⟨r, hr⟩ : ∃ r, l[i]? = some r := ⟨_, List.getElem?_eq_getElem hlt⟩
        obtain ⟨g, o, rfl, c0, c1, c2, c3, c4, c5⟩ := sl_at6 (HS.out.below hW) hr
        have hV := Fb.new wr 32 #[.int .u8 r.k, .int .i64 r.t, .int .i64 r.n, .int .i64 r.key.1, .int .i64 r.key.2.1, .int .i64 r.key.2.2]
        have cA := ex_round (hex.below ((Below.refl _ _).alloc (Nat.le_refl _) (.cells #[.int .u8 r.k, .int .i64 r.t, .int .i64 r.n, .int .i64 r.key.1, .int .i64 r.key.2.1, .int .i64 r.key.2.2] 32))) (by omega) hV (fun e => by have := hex.a.lt _ e; omega) (fun e => by have := hex.b.lt _ e; omega) r.t r.key
        unfold kE at cA
        have hi0 : (0 : Int) ≤ (i : Int) := by omega
        have hi1 : (i : Int) < (l.length : Int) := by omega
        have hi2 : (i : Int) + 1 ≤ 41 := by omega
        have HGK := Lib.hid hgk
        have HLT := Lib.hid hlt
        obtain ⟨rk, rt, rn, rkey⟩ := r
        obtain ⟨k0, k1, k2⟩ := rkey
        dsimp only at *
        clear hex hW hr hgk hi hlt hV
        by_cases hbt : before ≤ rt
        · have d2 : decide (before ≤ rt) = true := decide_eq_true hbt
          go_wp2_with (first
            | (go_at_call 8; (with_reducible refine cA.mono ?_); rintro e w5 ⟨⟨c9, rfl⟩, hf5, _, cA2⟩; have y1 : w5.cell? ⟨wr.heap.size, 1, none⟩ = some (.int .i64 rt) := hf5.cell 1; have y3 : w5.cell? ⟨wr.heap.size, 3, none⟩ = some (.int .i64 k0) := hf5.cell 3; have y4 : w5.cell? ⟨wr.heap.size, 4, none⟩ = some (.int .i64 k1) := hf5.cell 4; have y5 : w5.cell? ⟨wr.heap.size, 5, none⟩ = some (.int .i64 k2) := hf5.cell 5; clear hf5 cA)
            | (go_at_call 8; (with_reducible refine cA2.mono ?_); rintro e w6 ⟨⟨c8, rfl⟩, hx⟩; have HX := Lib.hid hx; clear hx cA2))
          go_roundg (l.length - (i + 1))
          case measure => have := HGK.out; have := HLT.out; omega
          case rel => exact ⟨i + 1, by rw [Int.natCast_add]; rfl, HLT.out, Nat.le_refl _, HX.out hbt⟩
        · have d2 : decide (before ≤ rt) = false := decide_eq_false hbt
          go_wp2_with (first
            | (go_at_call 8; (with_reducible refine cA.mono ?_); rintro e w5 ⟨⟨c9, rfl⟩, hf5, hx, _⟩; have HX := Lib.hid hx; have y1 : w5.cell? ⟨wr.heap.size, 1, none⟩ = some (.int .i64 rt) := hf5.cell 1; clear hf5 cA hx))
          go_roundg (l.length - (i + 1))
          case measure => have := HGK.out; have := HLT.out; omega
          case rel => exact ⟨i + 1, by rw [Int.natCast_add]; rfl, HLT.out, Nat.le_refl _, HX.out hbt⟩
      · obtain rfl : i = l.length := by omega
        have hbx : Fb wr W.heap.size 24 #[.int .i64 a, .int .i64 b] := (hex.bl.block _ (by have := HW1.out.size; simp at this; omega)).trans (HW1.out.block _ (by simp) |>.trans HF.out)
        have cL := bo_len hex.a
        have hsl : (stayM before M).length ≤ M.length := List.length_filter_le _ _
        have hml := hex.ml
        have cX := ex_end (hex.below (Below.drew (Below.refl _ _))) (by omega) (show Fb wr.drew W.heap.size 24 #[.int .i64 a, .int .i64 b] from hbx) (fun e => by have := hex.a.ge _ e; have := HW1.out.size; simp at this; omega)
        have k0 : wr.cell? ⟨W.heap.size, 0, none⟩ = some (.int .i64 a) := hbx.cell 0
        have k1 : wr.cell? ⟨W.heap.size, 1, none⟩ = some (.int .i64 b) := hbx.cell 1
        have HBW := Lib.hid (HB.out.trans (HW1.out.mono HB.out.size))
        obtain ⟨mm, hmm⟩ : ∃ mm : Int, mm = (M.length : Int) := ⟨_, rfl⟩
        obtain ⟨nn, hnn⟩ : ∃ nn : Int, nn = ((stayM before M).length : Int) := ⟨_, rfl⟩
        rw [← hmm] at cL cX
        rw [← hnn] at cX
        have z1 : 0 ≤ nn := by omega
        have z2 : nn ≤ mm := by omega
        have z3 : mm ≤ 40 := by omega
        obtain ⟨gg, hgg⟩ : ∃ gg : Int, mm - nn = gg := ⟨_, rfl⟩
        rw [hgg] at cX
        have hwr : IntKind.i64.wrap (mm - nn) = gg := by rw [IntWalk.i64_in _ (by omega)]; exact hgg
        have hwg : IntKind.i64.wrap gg = gg := IntWalk.i64_in _ (by omega)
        clear hex hW hgk hi hlt hbx hsl hml hmm hnn z1 z2 z3
        go_wp2_with (go_at_call 11; (with_reducible refine cL.mono ?_); rintro e w' ⟨rfl, rfl⟩)
        go_region_held3 (fun w => w.cell? ⟨W.heap.size, 0, none⟩ = some (.int .i64 a) ∧ w.cell? ⟨W.heap.size, 1, none⟩ = some (.int .i64 b))
          (exact ⟨k0, k1⟩)
          (first
            | (go_at_call 13; (with_reducible refine cX.mono ?_); rintro e w2 ⟨rfl, hx2, cB2, cA2, cC2⟩; have k0 : w2.cell? ⟨W.heap.size, 0, none⟩ = some (.int .i64 a) := hx2.cell 0; have k1 : w2.cell? ⟨W.heap.size, 1, none⟩ = some (.int .i64 b) := hx2.cell 1; clear cX hx2)
            | (go_at_call 11; (with_reducible refine cB2.mono ?_); rintro e w9 ⟨rfl, rfl⟩)
            | (go_at_call 11; (with_reducible refine cA2.mono ?_); rintro e w' ⟨rfl, rfl⟩; clear cA2)
            | (go_at_call 10; (with_reducible refine cC2.mono ?_); rintro e w3 ⟨v3, rfl, ⟨A3, n3, p3, rfl⟩, hx3, cD3⟩; have k0 : w3.cell? ⟨W.heap.size, 0, none⟩ = some (.int .i64 a) := hx3.cell 0; have k1 : w3.cell? ⟨W.heap.size, 1, none⟩ = some (.int .i64 b) := hx3.cell 1; clear cC2 hx3)
            | (go_at_call 10; (with_reducible refine cD3.mono ?_); rintro e w4 ⟨v4, rfl, ⟨A4, n4, p4, rfl⟩, hx4, cS4⟩; have k0 : w4.cell? ⟨W.heap.size, 0, none⟩ = some (.int .i64 a) := hx4.cell 0; have k1 : w4.cell? ⟨W.heap.size, 1, none⟩ = some (.int .i64 b) := hx4.cell 1; clear cD3 hx4)
            | (go_at_call 9; (with_reducible refine cS4.mono ?_); rintro e w5 ⟨rfl, hx5, cE5⟩; have k0 : w5.cell? ⟨W.heap.size, 0, none⟩ = some (.int .i64 a) := hx5.cell 0; have k1 : w5.cell? ⟨W.heap.size, 1, none⟩ = some (.int .i64 b) := hx5.cell 1; clear cS4 hx5)
            | (go_at_call 13; (with_reducible refine cE5.mono ?_); rintro e w6 ⟨rfl, hx6, hb6⟩; have k0 : w6.cell? ⟨W.heap.size, 0, none⟩ = some (.int .i64 a) := hx6.cell 0; have k1 : w6.cell? ⟨W.heap.size, 1, none⟩ = some (.int .i64 b) := hx6.cell 1; clear cE5 hx6))
        all_goals
          go_wp2
          go_ret
          exact ⟨rfl, HBW.out.trans (hb6.mono HBW.out.size)⟩
end Go.Proofs.Ytncnoilldlnpoaa
