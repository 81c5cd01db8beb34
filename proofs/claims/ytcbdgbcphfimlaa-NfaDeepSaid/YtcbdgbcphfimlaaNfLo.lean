/-
  lead: of no state, and of a state that has the move.
-/
import Derived.Test.YtcbdgbcphfimlaaNfLd
namespace Go.Proofs.Ytcbdgbcphfimlaa
open Go.RowKit
set_option linter.unusedVariables false
set_option linter.unusedSimpArgs false
set_option maxRecDepth 100000

set_option maxHeartbeats 8000000 in
theorem lead_nil {d k ck : Nat} {W : World} : Calls Try.prog 32 #[.pointer (some ⟨d, 0, none⟩), .slice none 0 0, .slice (some ⟨k, 0, none⟩) 1 ck] W fun e w' => e = .returned (.tuple #[]) ∧ w' = W := by
  go_enter Try.func32, Try.ntmps32
  go_wp2
  go_loopg [14] 0 (fun gk s wr => s = .int .i64 0 ∧ W = wr)
  case atStart => exact ⟨rfl, rfl⟩
  case round =>
    obtain ⟨rfl, rfl⟩ := hrel
    go_wp2
    go_end0
    exact ⟨rfl, rfl⟩
def LoR (W : World) (gk : Nat) (s : Value) (wr : World) : Prop := (gk = 1 ∧ s = .int .i64 0 ∧ W = wr) ∨ (gk = 0 ∧ s = .int .i64 1 ∧ Below W.heap.size W wr)
set_option maxHeartbeats 16000000 in
theorem lead_old {d g c gs cf k ck i g1 c1 : Nat} {N : Int} {W : World} (hd : W.cell? ⟨d, 0, none⟩ = some (.slice (some ⟨g, 0, none⟩) 2 c)) (hi : i < 2) (hg : W.cell? ⟨g, i * 2, none⟩ = some (.slice (some ⟨g1, 0, none⟩) 1 c1))
    (hs : W.cell? ⟨gs, 0, none⟩ = some (.int .i64 (i : Int))) (hk : Mv1 W k ck N) (hm : Mv1 W g1 c1 N) :
    Calls Try.prog 32 #[.pointer (some ⟨d, 0, none⟩), .slice (some ⟨gs, 0, none⟩) 1 cf, .slice (some ⟨k, 0, none⟩) 1 ck] W fun e w' => e = .returned (.tuple #[]) ∧ Below W.heap.size W w' := by
  obtain ⟨W1, hW1⟩ : ∃ W1, W1 = W.alloc (.cells #[.int .i64 N, .bool false, .int .i64 1] 85) := ⟨_, rfl⟩
  have hb1 : Below W.heap.size W W1 := by rw [hW1]; exact (Below.refl _ _).alloc (Nat.le_refl _) _
  have hF1 : Fb W1 W.heap.size 85 #[.int .i64 N, .bool false, .int .i64 1] := by rw [hW1]; exact Fb.new W _ _
  have n0 := hk.n0
  have n1 := hk.n1
  have n2 := hk.n2
  have HB1 := Lib.hid hb1
  have f0 := hF1.cell 0
  have f1 := hF1.cell 1
  have f2 := hF1.cell 2
  have d1 := cell_below hd hb1
  have g1' := cell_below hg hb1
  have HM := Lib.hid (fun (w : World) (h : Below W1.heap.size W1 w) => bin1 ((hm.below hb1).below h))
  have z0 : (0 : Int) ≤ (i : Int) := by omega
  have z1 : (i : Int) < 2 := by omega
  have cB := HM.out W1.drew ((Below.refl _ _).drew)
  clear hb1 hF1 hd hg hk hi hm
  go_enter Try.func32, Try.ntmps32
  go_wp2
  go_loopg [14] 1 (fun gk s wr => LoR W gk s wr)
  case atStart => exact .inl ⟨rfl, rfl, rfl⟩
  case round =>
    rcases hrel with ⟨hgk, rfl, rfl⟩ | ⟨hgk, rfl, hq⟩
    · subst hgk
      go_wp2
      go_loopg [20] 1 (fun gk s wr => LoR W gk s wr)
      case atStart => exact .inl ⟨rfl, rfl, rfl⟩
      case round =>
        rcases hrel with ⟨hgk, rfl, rfl⟩ | ⟨hgk, rfl, hq⟩
        · subst hgk
          go_wp2
          rw [← hW1]
          clear hW1
          go_region_held3 (fun w => w.cell? ⟨d, 0, none⟩ = some (.slice (some ⟨g, 0, none⟩) 2 c) ∧ w.cell? ⟨g, i * 2, none⟩ = some (.slice (some ⟨g1, 0, none⟩) 1 c1) ∧ w.cell? ⟨W.heap.size, 0, none⟩ = some (.int .i64 N) ∧ w.cell? ⟨W.heap.size, 1, none⟩ = some (.bool false) ∧ w.cell? ⟨W.heap.size, 2, none⟩ = some (.int .i64 1))
            (first | exact ⟨d1, g1', f0, f1, f2⟩ | exact ⟨cell_below d1 hB, cell_below g1' hB, cell_below f0 hB, cell_below f1 hB, cell_below f2 hB⟩)
            (first
              | (go_at_call 54; (with_reducible refine cB.mono ?_); rintro e w5 ⟨rfl, hB0⟩; have hB := (Below.drew (Below.refl W1.heap.size W1)).trans hB0)
              | fail)
          all_goals
            have HB5 := Lib.hid (HB1.out.trans (hB.mono HB1.out.size))
            clear hB hB0 d1 g1' f0 f1 f2 n0 n1 n2 cB
            go_wp2
            go_roundg 0
            case measure => exact Nat.lt_succ_self _
            case rel => exact .inr ⟨rfl, rfl, HB5.out⟩
        · subst hgk
          have HQ := Lib.hid hq
          clear hq n0 n1 n2
          go_wp2
          go_roundg 0
          case measure => exact Nat.lt_succ_self _
          case rel => exact .inr ⟨rfl, rfl, HQ.out⟩
    · subst hgk
      have HQ := Lib.hid hq
      clear hq n0 n1 n2
      go_wp2
      go_end0
      exact ⟨rfl, HQ.out⟩
end Go.Proofs.Ytcbdgbcphfimlaa
