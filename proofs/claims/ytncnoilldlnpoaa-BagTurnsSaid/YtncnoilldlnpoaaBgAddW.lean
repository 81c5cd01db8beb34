/-
  Bag.Add, walked.
-/
import Derived.Test.YtncnoilldlnpoaaBgAdd
namespace Go.Proofs.Ytncnoilldlnpoaa
open Go.RowKit
set_option linter.unusedVariables false
set_option linter.unusedSimpArgs false
set_option maxRecDepth 100000

section
variable {B d am : Nat} {room : Int} {v : Value} {D : List Tz} {M : List (Int × Ky)} {W : World}
set_option maxHeartbeats 8000000 in
theorem gadd_any (h : Bk B d room v am D M W) (hr : TsR B W v (D.map (·.t))) (hB : B ≤ W.heap.size) (hl : D.length ≤ 30000) (hM : M.length ≤ 30000) (x : Int) (k : Ky) :
    Calls Try.prog 8 #[.pointer (some ⟨d, 0, none⟩), .int .i64 x, kE k] W (AddP B d room am v D M W x k) := by
  obtain ⟨W1, hW1⟩ : ∃ W1, W1 = W.alloc (.cells #[.int .i64 k.1, .int .i64 k.2.1, .int .i64 k.2.2] 39) := ⟨_, rfl⟩
  have hB1 : Below W.heap.size W W1 := by rw [hW1]; exact (Below.refl _ _).alloc (Nat.le_refl _) _
  have hk : Fb W1 W.heap.size 39 #[.int .i64 k.1, .int .i64 k.2.1, .int .i64 k.2.2] := by rw [hW1]; exact Fb.new _ _ _
  have h1 := h.below hB1
  have hr1 := hr.below hB1
  have cM := gmin_any hk
  have stay : ∀ (n : Int) (w : World), Below W.heap.size W w → addM room M x k = (M, n) → AddP B d room am v D M W x k (.returned (.int .i64 n)) w := fun n w hb e => by
    unfold AddP
    rw [e]
    exact ⟨rfl, v, D, ⟨h.below hb, Ch.of hb, fun q hq => .inl hq⟩, hr.below hb, Nat.le_succ _⟩
  have HS := Lib.hid stay
  have HB1 := Lib.hid hB1
  by_cases hneg : negY k
  · have e : addM room M x k = (M, 2) := by unfold addM; rw [if_pos hneg]
    have HE := Lib.hid e
    have HN := Lib.hid hneg
    clear h hr h1 hr1 hB1 hk stay e hneg
    unfold kE
    subst hW1
    go_enter Try.func8, Try.ntmps8
    go_wp2_with (go_at_call 14; (with_reducible refine cM.mono ?_); rintro e w1 ⟨⟨m, rfl, hm⟩, rfl⟩; have hm1 : m < 0 := hm.2 HN.out; have hm2 : decide (m < 0) = true := decide_eq_true hm1; clear hm)
    go_ret
    exact HS.out _ _ HB1.out HE.out
  · have HN := Lib.hid hneg
    have c0 : W1.cell? ⟨d, 0, none⟩ = some (.int .i64 room) := h1.st.cell 0
    have c1 : W1.cell? ⟨d, 1, none⟩ = some (.int .i64 (M.length : Int)) := h1.st.cell 1
    have c2 : W1.cell? ⟨d, 2, none⟩ = some (.map (some am)) := h1.st.cell 2
    by_cases hrm : room ≤ M.length
    · have e : addM room M x k = (M, 6) := by unfold addM; rw [if_neg hneg, if_pos hrm]
      have HE := Lib.hid e
      have d1 : decide (room ≤ (M.length : Int)) = true := decide_eq_true hrm
      clear h hr h1 hr1 hB1 hk stay e hneg
      unfold kE
      subst hW1
      go_enter Try.func8, Try.ntmps8
      go_wp2_with (go_at_call 14; (with_reducible refine cM.mono ?_); rintro e w1 ⟨⟨m, rfl, hm⟩, rfl⟩; have hm1 : ¬ m < 0 := fun e => HN.out (hm.1 e); have hm2 : decide (m < 0) = false := decide_eq_false hm1; clear hm)
      go_quiet (fail)
      go_wp2
      go_ret
      exact HS.out _ _ (below_drewP HB1.out _) HE.out
    · have d1 : decide (room ≤ (M.length : Int)) = false := decide_eq_false hrm
      have HRM := Lib.hid hrm
      obtain ⟨E, hE1, hE2⟩ := h1.mo
      have hlk := fun q => (hE1.of (W' := W1.drewN q) rfl).look2 KLi mapO zeroC x
      unfold mE at hlk
      by_cases hx : x ∈ D.map (·.t)
      · obtain ⟨z, hz, hzx⟩ := List.mem_map.1 hx
        have hg := h1.getO hz hE2
        rw [hzx] at hg
        rw [hg] at hlk
        have HL := Lib.hid (show ∀ q, (Instr.lookup 45 (.map (some am)) (.int .i64 x) true).run Try.prog (W1.drewN q) = .ok (.tuple #[.map (some z.b), .bool true]) (W1.drewN q) from hlk)
        have HC := Lib.hid (show ∀ q, (W1.drewN q).cell? ⟨d, 2, none⟩ = some (.map (some am)) from fun q => c2)
        have HT0 := Lib.hid (fun q => tail_of (w2 := W1.drewN (q + 1)) h (k := k) ⟨h1.of (W' := W1.drewN (q + 1)) (fun _ _ => rfl), Ch.of (below_drewP hB1 (q + 1)), fun q hq => .inl hq⟩ (hr1.of fun _ _ => rfl) (Nat.le_succ _) hz (kb := W.heap.size) hk hneg hrm hM)
        have HZX := Lib.hid hzx
        clear h hr h1 hr1 hB1 hk stay hneg hlk hE1 hE2 hg hx hz hzx
        unfold kE
        subst hW1
        go_enter Try.func8, Try.ntmps8
        go_wp2_with (go_at_call 14; (with_reducible refine cM.mono ?_); rintro e w1 ⟨⟨m, rfl, hm⟩, rfl⟩; have hm1 : ¬ m < 0 := fun e => HN.out (hm.1 e); have hm2 : decide (m < 0) = false := decide_eq_false hm1; clear hm)
        go_quiet (fail)
        have hlk := HL.out nq
        have hc2 := HC.out nq
        go_wp2
        obtain ⟨zb, st, n0, o1, o2, T⟩ := HT0.out nq
        have t1 := T.c2
        have t2 := T.k0
        have t3 := T.k1
        have t4 := T.k2
        have t5 := T.lo
        have t6 := T.li
        have t7 := T.me
        have t8 := T.l2
        have t9 := T.es
        have ta := T.m1
        have tb := T.mf
        have tn := T.nb
        have HT := Lib.hid T.en
        clear T
        rw [HZX.out] at t5 HT
        go_region
        all_goals
          go_wp2
          go_ret
          exact HT.out
      · have hg := getO_none hx hE2
        rw [hg] at hlk
        have HL := Lib.hid (show ∀ q, (Instr.lookup 45 (.map (some am)) (.int .i64 x) true).run Try.prog (W1.drewN q) = .ok (.tuple #[.map none, .bool false]) (W1.drewN q) from hlk)
        have HC := Lib.hid (show ∀ q, (W1.drewN q).cell? ⟨d, 2, none⟩ = some (.map (some am)) from fun q => c2)
        have hBW : B ≤ W1.heap.size := Nat.le_trans hB hB1.size
        have HC2 := Lib.hid (fun q => begin_any (W := W1.drewN q) (h1.of (W' := W1.drewN q) (fun _ _ => rfl)) (hr1.of fun _ _ => rfl) hBW (by omega) hx)
        have hkl : vB v ≠ some W.heap.size := fun e => by have := h.lt _ (.inr (.inr (.inl e))); omega
        have HT0 := Lib.hid (fun (q : Nat) (w2 : World) (hb : BegP B d room am v D M (W1.drewN q) x (.returned (.tuple #[])) w2) => (show ∃ zb st n0 o1 o2, Tl B d room am v D M W x k W.heap.size w2.drew zb st n0 o1 o2 from by
          obtain ⟨_, v2, nb, D1, D2, e1, hN, hR⟩ := hb
          have hch : Ch (Fp d am v D) W w2 := (Ch.of (F := Fp d am v D) (below_drewP hB1 q)).trans hN.ch fun q hq => .inl hq
          have hfp : ∀ y, Fp d am v2 (D1 ++ ⟨x, nb, []⟩ :: D2) y → Fp d am v D y ∨ W.heap.size ≤ y := fun y hy => (hN.fp y hy).imp id (fun h => Nat.le_trans hB1.size h)
          have hk2 : Fb w2 W.heap.size 39 #[.int .i64 k.1, .int .i64 k.2.1, .int .i64 k.2.2] := (hN.ch.far W.heap.size hk.lt (fun hf => by have := h.lt _ hf; omega)).trans hk
          exact tail_of (w2 := w2.drew) (z := ⟨x, nb, []⟩) h ⟨hN.bk.of (W' := w2.drew) (fun _ _ => rfl), ⟨hch.os, hch.tape, hch.output, hch.size, hch.far⟩, hfp⟩ (hR.of fun _ _ => rfl) (by rw [e1]; simp; omega) (by simp) hk2 hneg hrm hM))
        have HBP := Lib.hid (fun (q : Nat) (e : Ending) (w2 : World) (hb : BegP B d room am v D M (W1.drewN q) x e w2) => hb.1)
        clear h hr h1 hr1 hB1 hk stay hneg hlk hE1 hE2 hg hx hBW hkl
        unfold kE
        subst hW1
        go_enter Try.func8, Try.ntmps8
        go_wp2_with (go_at_call 14; (with_reducible refine cM.mono ?_); rintro e w1 ⟨⟨m, rfl, hm⟩, rfl⟩; have hm1 : ¬ m < 0 := fun e => HN.out (hm.1 e); have hm2 : decide (m < 0) = false := decide_eq_false hm1; clear hm)
        go_quiet (fail)
        have hlk := HL.out nq
        have hc2 := HC.out nq
        have cG := HC2.out nq
        go_wp2_with (go_at_call 15; (with_reducible refine cG.mono ?_); intro e w2 hbp; obtain rfl := HBP.out _ _ _ hbp; have HW2 := Lib.hid hbp; clear hbp)
        obtain ⟨zb, st, n0, o1, o2, T⟩ := HT0.out nq _ HW2.out
        have t1 := T.c2
        have t2 := T.k0
        have t3 := T.k1
        have t4 := T.k2
        have t5 := T.lo
        have t6 := T.li
        have t7 := T.me
        have t8 := T.l2
        have t9 := T.es
        have ta := T.m1
        have tb := T.mf
        have tn := T.nb
        have HT := Lib.hid T.en
        clear T
        go_region
        all_goals
          go_wp2
          go_ret
          exact HT.out
end
end Go.Proofs.Ytncnoilldlnpoaa
