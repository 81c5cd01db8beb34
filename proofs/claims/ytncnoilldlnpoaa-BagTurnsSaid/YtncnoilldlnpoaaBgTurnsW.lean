/-
  BagTurns, walked.
-/
import Derived.Test.YtncnoilldlnpoaaBgTuL
import Derived.Deep.RegionHeld3
namespace Go.Proofs.Ytncnoilldlnpoaa
open Go.RowKit
set_option linter.unusedVariables false
set_option linter.unusedSimpArgs false
set_option maxRecDepth 100000

set_option maxHeartbeats 16000000 in
theorem bturn_walk (l : List Ga) (ok : ∀ t ∈ l, t.ok) (A : Option Addr) (cap : Nat) (hl : l.length ≤ cap) (hm : cap ≤ maxLen) (turn : Int) (ht0 : 0 ≤ turn) (ht1 : turn ≤ 255) (rr : Int × Int) (okr : i64b rr.1 ∧ i64b rr.2) (W : World) (hs : SlAt W A 6 (l.map Ga.cells)) :
    Calls Try.prog 3 #[.slice A l.length cap, .int .u8 turn, .agg #[.int .i64 rr.1, .int .i64 rr.2]] W fun e w' => e = .returned (.bool true) ∧ Below W.heap.size W w' := by
  obtain ⟨a, b⟩ := rr
  obtain ⟨tn, rfl⟩ : ∃ tn : Nat, turn = (tn : Int) := ⟨turn.toNat, by omega⟩
  clear okr ok hm
  dsimp only
  have hB0 : Below W.heap.size W (W.alloc (.cells #[.int .i64 a, .int .i64 b] 24)) := (Below.refl _ _).alloc (Nat.le_refl _) _
  have hf0 := Fb.new W 24 #[.int .i64 a, .int .i64 b]
  by_cases h40 : 40 < l.length
  · have d1 : decide ((40 : Int) < (l.length : Int)) = true := decide_eq_true (by omega)
    have n1 : (40 : Int) < (l.length : Int) := by omega
    have HB := Lib.hid hB0
    clear hs hB0 hf0
    generalize l.length = n at *
    go_enter Try.func3, Try.ntmps3
    go_wp2_with (go_at_call 6; (with_reducible refine (gawake_ok _).mono ?_); rintro e w1 ⟨rfl, hb⟩; have HB := Lib.hid (HB.out.trans (hb.mono HB.out.size)); clear hb)
    go_ret
    exact ⟨rfl, HB.out⟩
  · have d1 : decide ((40 : Int) < (l.length : Int)) = false := decide_eq_false (by omega)
    have n1 : ¬ (40 : Int) < (l.length : Int) := by omega
    by_cases h0 : l.length = 0
    · have HB := Lib.hid hB0
      clear hs hB0 hf0
      rw [h0] at *
      go_enter Try.func3, Try.ntmps3
      go_wp2_with (go_at_call 6; (with_reducible refine (gawake_ok _).mono ?_); rintro e w1 ⟨rfl, hb⟩; have HB := Lib.hid (HB.out.trans (hb.mono HB.out.size)); clear hb)
      go_ret
      exact ⟨rfl, HB.out⟩
    · have d2 : ((l.length : Int) == 0) = false := by rw [beq_eq_false_iff_ne]; omega
      have n2 : ¬ (l.length : Int) = 0 := by omega
      have HB := Lib.hid hB0
      have HF := Lib.hid hf0
      have HS := Lib.hid hs
      have H40 := Lib.hid h40
      have H0 := Lib.hid h0
      clear hs hB0 hf0 h40 h0
      go_enter Try.func3, Try.ntmps3
      go_wp2_with (first
        | (go_at_call 6; (with_reducible refine (gawake_ok _).mono ?_); rintro e w1 ⟨rfl, hb⟩; have HW1 := Lib.hid hb; clear hb; have cN1 := gnew_any w1 (room := 100) (by decide) (by decide); have cN2 := gnew_any (newW w1 100) (room := 100) (by decide) (by decide))
        | (go_at_call 7; (with_reducible refine cN1.mono ?_); rintro e w' ⟨rfl, rfl⟩; clear cN1)
        | (go_at_call 7; (with_reducible refine cN2.mono ?_); rintro e w' ⟨rfl, rfl⟩; clear cN2))
      go_loopg [39] l.length (fun gk s39 wr => ∃ i : Nat, s39 = .int .i64 (i : Int) ∧ i ≤ l.length ∧ l.length - i ≤ gk ∧ TrS w1 (w1.heap.size + 1) ((newW w1 100).heap.size + 1) l (rot l tn) i wr)
      case atStart => exact ⟨0, rfl, Nat.zero_le _, by omega, tr_start w1 l (rot l tn)⟩
      case round =>
        obtain ⟨i, rfl, hi, hgk, Ma, Mc, Fa, Fc, hex⟩ := hrel
        have hl40 := H40.out
        have hl0 := H0.out
        have hW : Below W.heap.size W wr := (HB.out.trans (HW1.out.mono HB.out.size)).trans (hex.bl.mono (Nat.le_trans HB.out.size HW1.out.size))
        by_cases hlt : i < l.length
        · obtain ⟨r, hr⟩ : ∃ r, l[i]? = some r := ⟨_, List.getElem?_eq_getElem hlt⟩
          have hj : (i + tn) % l.length < l.length := Nat.mod_lt _ (by omega)
          obtain ⟨r2, hr2⟩ : ∃ r2, l[(i + tn) % l.length]? = some r2 := ⟨_, List.getElem?_eq_getElem hj⟩
          have hrt : (rot l tn)[i]? = some r2 := (rot_at l tn i hlt).trans hr2
          have hrem : Int.tmod ((i : Int) + (tn : Int)) (l.length : Int) = (((i + tn) % l.length : Nat) : Int) := by
            rw [Int.tmod_eq_emod_of_nonneg (by omega), ← Int.natCast_add]
            rfl
          obtain ⟨g, o, rfl, c0, c1, c2, c3, c4, c5⟩ := sl_at6 (HS.out.below hW) hr
          obtain ⟨g', o', e', b0, b1, b2, b3, b4, b5⟩ := sl_at6 (HS.out.below hW) hr2
          simp only [Option.some.injEq, Addr.mk.injEq] at e'
          obtain ⟨rfl, rfl, _⟩ := e'
          have hbl1 : Below wr.heap.size wr (wr.alloc (.cells #[.int .u8 r.k, .int .i64 r.t, .int .i64 r.n, .int .i64 r.key.1, .int .i64 r.key.2.1, .int .i64 r.key.2.2] 32)) := (Below.refl _ _).alloc (Nat.le_refl _) _
          have e0 := cell_below b0 hbl1
          have e1 := cell_below b1 hbl1
          have e2 := cell_below b2 hbl1
          have e3 := cell_below b3 hbl1
          have e4 := cell_below b4 hbl1
          have e5 := cell_below b5 hbl1
          have hV := Fb.new (wr.alloc (.cells #[.int .u8 r.k, .int .i64 r.t, .int .i64 r.n, .int .i64 r.key.1, .int .i64 r.key.2.1, .int .i64 r.key.2.2] 32)) 32 #[.int .u8 r2.k, .int .i64 r2.t, .int .i64 r2.n, .int .i64 r2.key.1, .int .i64 r2.key.2.1, .int .i64 r2.key.2.2]
          rw [World.size_alloc] at hV
          have hbb : Below wr.heap.size wr ((wr.alloc (.cells #[.int .u8 r.k, .int .i64 r.t, .int .i64 r.n, .int .i64 r.key.1, .int .i64 r.key.2.1, .int .i64 r.key.2.2] 32)).alloc (.cells #[.int .u8 r2.k, .int .i64 r2.t, .int .i64 r2.n, .int .i64 r2.key.1, .int .i64 r2.key.2.1, .int .i64 r2.key.2.2] 32)) := ((Below.refl _ _).alloc (Nat.le_refl _) _).alloc (by simp) _
          have cA := tr_round (hex.below hbb) (by omega) hr hrt hV (fun e => by have := hex.a.lt _ e; omega)
          unfold kE at cA
          generalize (i + tn) % l.length = j at *
          have hi0 : (0 : Int) ≤ (i : Int) := by omega
          have hi1 : (i : Int) < (l.length : Int) := by omega
          have hi2 : (i : Int) + 1 ≤ 41 := by omega
          have hj0 : (0 : Int) ≤ (j : Int) := by omega
          have hj1 : (j : Int) < (l.length : Int) := by omega
          have hit : (i : Int) + (tn : Int) ≤ 300 := by omega
          have HGK := Lib.hid hgk
          have HLT := Lib.hid hlt
          obtain ⟨rk, rt, rn, rkey⟩ := r
          obtain ⟨k0, k1, k2⟩ := rkey
          obtain ⟨sk, st, sn, skey⟩ := r2
          obtain ⟨h0, h1, h2⟩ := skey
          dsimp only at *
          clear hex hW hr hr2 hrt hgk hi hlt hV hbb hj hbl1 b0 b1 b2 b3 b4 b5
          go_wp2_with (first
            | (go_at_call 8; (with_reducible refine cA.mono ?_); rintro e w5 ⟨⟨c9, rfl⟩, hf5, cA2⟩; have y1 : w5.cell? ⟨wr.heap.size + 1, 1, none⟩ = some (.int .i64 st) := hf5.cell 1; have y3 : w5.cell? ⟨wr.heap.size + 1, 3, none⟩ = some (.int .i64 h0) := hf5.cell 3; have y4 : w5.cell? ⟨wr.heap.size + 1, 4, none⟩ = some (.int .i64 h1) := hf5.cell 4; have y5 : w5.cell? ⟨wr.heap.size + 1, 5, none⟩ = some (.int .i64 h2) := hf5.cell 5; clear hf5 cA)
            | (go_at_call 8; (with_reducible refine cA2.mono ?_); rintro e w6 ⟨⟨c8, rfl⟩, hx⟩; have HX := Lib.hid hx; clear hx cA2))
          go_roundg (l.length - (i + 1))
          case measure => have := HGK.out; have := HLT.out; omega
          case rel => exact ⟨i + 1, by rw [Int.natCast_add]; rfl, HLT.out, Nat.le_refl _, HX.out⟩
        · obtain rfl : i = l.length := by omega
          have hbx : Fb wr W.heap.size 24 #[.int .i64 a, .int .i64 b] := (hex.bl.block _ (by have := HW1.out.size; simp at this; omega)).trans (HW1.out.block _ (by simp) |>.trans HF.out)
          have cX := tr_end (hex.below (Below.drew (Below.refl _ _))) rfl (by omega) (rot_perm l tn) (show Fb wr.drew W.heap.size 24 #[.int .i64 a, .int .i64 b] from hbx)
          have k0 : wr.cell? ⟨W.heap.size, 0, none⟩ = some (.int .i64 a) := hbx.cell 0
          have k1 : wr.cell? ⟨W.heap.size, 1, none⟩ = some (.int .i64 b) := hbx.cell 1
          have HBW := Lib.hid (HB.out.trans (HW1.out.mono HB.out.size))
          clear hex hW hgk hi hlt hbx
          go_wp2
          go_region_held3 (fun w => w.cell? ⟨W.heap.size, 0, none⟩ = some (.int .i64 a) ∧ w.cell? ⟨W.heap.size, 1, none⟩ = some (.int .i64 b))
            (exact ⟨k0, k1⟩)
            (first
              | (go_at_call 10; (with_reducible refine cX.mono ?_); rintro e w3 ⟨v3, rfl, ⟨A3, n3, p3, rfl⟩, hx3, cD3⟩; have k0 : w3.cell? ⟨W.heap.size, 0, none⟩ = some (.int .i64 a) := hx3.cell 0; have k1 : w3.cell? ⟨W.heap.size, 1, none⟩ = some (.int .i64 b) := hx3.cell 1; clear cX hx3)
              | (go_at_call 10; (with_reducible refine cD3.mono ?_); rintro e w4 ⟨v4, rfl, ⟨A4, n4, p4, rfl⟩, hx4, cS4⟩; have k0 : w4.cell? ⟨W.heap.size, 0, none⟩ = some (.int .i64 a) := hx4.cell 0; have k1 : w4.cell? ⟨W.heap.size, 1, none⟩ = some (.int .i64 b) := hx4.cell 1; clear cD3 hx4)
              | (go_at_call 9; (with_reducible refine cS4.mono ?_); rintro e w5 ⟨rfl, hx5, hrm, nn, hnn, cLa, cLb⟩; have k0 : w5.cell? ⟨W.heap.size, 0, none⟩ = some (.int .i64 a) := hx5.cell 0; have k1 : w5.cell? ⟨W.heap.size, 1, none⟩ = some (.int .i64 b) := hx5.cell 1; have HRM := Lib.hid hrm; have HX5 := Lib.hid hx5; clear cS4 hx5 hrm)
              | (go_at_call 11; (with_reducible refine cLa.mono ?_); rintro e w9 ⟨rfl, rfl⟩)
              | (go_at_call 11; (with_reducible refine cLb.mono ?_); rintro e w9 ⟨rfl, rfl⟩))
          all_goals
            clear k0 k1 cLa cLb hnn
            go_wp2
            go_loopg [84] l.length (fun gk s84 wr => ∃ i : Nat, s84 = .int .i64 (i : Int) ∧ i ≤ l.length ∧ l.length - i ≤ gk ∧ RmS w1 (w1.heap.size + 1) l i wr)
            case atStart => exact ⟨0, rfl, Nat.zero_le _, by omega, HRM.out⟩
            case round =>
              obtain ⟨i, rfl, hi, hgk, hex⟩ := hrel
              have hl40 := H40.out
              have hW : Below W.heap.size W wr := HBW.out.trans (hex.bl.mono HBW.out.size)
              by_cases hlt : i < l.length
              · obtain ⟨r, hr⟩ : ∃ r, l[i]? = some r := ⟨_, List.getElem?_eq_getElem hlt⟩
                obtain ⟨g, o, rfl, c0, c1, c2, c3, c4, c5⟩ := sl_at6 (HS.out.below hW) hr
                have cR := rm_round hex hr (.cells #[.int .u8 r.k, .int .i64 r.t, .int .i64 r.n, .int .i64 r.key.1, .int .i64 r.key.2.1, .int .i64 r.key.2.2] 32)
                unfold kE at cR
                have hi0 : (0 : Int) ≤ (i : Int) := by omega
                have hi1 : (i : Int) < (l.length : Int) := by omega
                have hi2 : (i : Int) + 1 ≤ 41 := by omega
                have HGK := Lib.hid hgk
                have HLT := Lib.hid hlt
                obtain ⟨rk, rt, rn, rkey⟩ := r
                obtain ⟨k0, k1, k2⟩ := rkey
                dsimp only at *
                clear hex hW hr hgk hi hlt
                go_wp2_with (go_at_call 12; (with_reducible refine cR.mono ?_); rintro e w5 ⟨⟨c9, rfl⟩, hx⟩; have HX := Lib.hid hx; clear hx cR)
                go_roundg (l.length - (i + 1))
                case measure => have := HGK.out; have := HLT.out; omega
                case rel => exact ⟨i + 1, by rw [Int.natCast_add]; rfl, HLT.out, Nat.le_refl _, HX.out⟩
              · obtain rfl : i = l.length := by omega
                have hbx : Fb wr W.heap.size 24 #[.int .i64 a, .int .i64 b] := (hex.bl.block _ (by have := HW1.out.size; simp at this; omega)).trans (HW1.out.block _ (by simp) |>.trans HF.out)
                obtain ⟨cL, cC⟩ := rm_end hex hbx
                have k0 : wr.cell? ⟨W.heap.size, 0, none⟩ = some (.int .i64 a) := hbx.cell 0
                have k1 : wr.cell? ⟨W.heap.size, 1, none⟩ = some (.int .i64 b) := hbx.cell 1
                clear hex hW hgk hi hlt hbx
                go_wp2_with (first
                  | (go_at_call 11; (with_reducible refine cL.mono ?_); rintro e w9 ⟨rfl, rfl⟩; clear cL)
                  | (go_at_call 10; (with_reducible refine cC.mono ?_); rintro e w3 ⟨A3, p3, rfl, hx3, cD⟩; have k0 : w3.cell? ⟨W.heap.size, 0, none⟩ = some (.int .i64 a) := hx3.cell 0; have k1 : w3.cell? ⟨W.heap.size, 1, none⟩ = some (.int .i64 b) := hx3.cell 1; clear cC hx3)
                  | (go_at_call 10; (with_reducible refine cD.mono ?_); rintro e w4 ⟨A4, p4, rfl, hb4⟩; have HB4 := Lib.hid hb4; clear cD hb4)
                  | (go_at_call 9; (with_reducible refine (gsame_nil _ _ _).mono ?_); rintro e w6 ⟨rfl, hb6⟩; have HB6 := Lib.hid hb6; clear hb6))
                go_ret
                exact ⟨rfl, HBW.out.trans ((HB4.out.trans (HB6.out.mono HB4.out.size)).mono HBW.out.size)⟩
end Go.Proofs.Ytncnoilldlnpoaa
