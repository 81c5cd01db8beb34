/-
  MERGED (a claim has at most 60 files): NAwake.
-/
import Derived.Test.YtehechbiajbobaaZ14
import Derived.Test.YtehechbiajbobaaZ00
import Derived.Deep.RegionHeld3
/-
  WHETHER A TRIPLE MAY BE (package nt); the law's 'awake'.
-/
namespace Go.Proofs.Ytehechbiajbobaa
open Go.RowKit
set_option linter.unusedVariables false
set_option linter.unusedSimpArgs false

noncomputable def okP (t : Tm) (part : Nat) : Bool := goodT t && mayB t part
/-- From a part on. -/
noncomputable def okR (a b c : Tm) : Nat → Bool
  | 0 => okP a 0 && (okP b 1 && okP c 2)
  | 1 => okP b 1 && okP c 2
  | 2 => okP c 2
  | _ => true
def GoI (w : World) (r : Bool) (a b c : Tm) (g : Nat) (s12 : Value) (wr : World) : Prop := ∃ i : Nat, i + g = 3 ∧ s12 = .int .i64 i ∧ Hid (r = okR a b c i) ∧ Below w.heap.size w wr
set_option maxHeartbeats 8000000 in
set_option maxRecDepth 100000 in
theorem ngood_any (a b c : Tm) (ha : a.few) (hb : b.few) (hc : c.few) (ka : a.kind < 3) (kb : b.kind < 3) (kc : c.kind < 3) (w : World) : Calls Try.prog 31 #[.agg #[a.val, b.val, c.val]] w fun e w' => e = .returned (.bool (okR a b c 0)) ∧ Below w.heap.size w w' := by
  have g0 := goodT_any a ha
  have g1 := goodT_any b hb
  have g2 := goodT_any c hc
  have m0 : ∀ W, Calls Try.prog 37 #[a.val, .int .i64 0] W fun e w' => e = .returned (.bool (mayB a 0)) ∧ Below W.heap.size W w' := fun W => nmay_any a 0 W
  have m1 : ∀ W, Calls Try.prog 37 #[b.val, .int .i64 1] W fun e w' => e = .returned (.bool (mayB b 1)) ∧ Below W.heap.size W w' := fun W => nmay_any b 1 W
  have m2 : ∀ W, Calls Try.prog 37 #[c.val, .int .i64 2] W fun e w' => e = .returned (.bool (mayB c 2)) ∧ Below W.heap.size W w' := fun W => nmay_any c 2 W
  obtain ⟨r, hr⟩ : ∃ r, r = okR a b c 0 := ⟨_, rfl⟩
  have HR := Lib.hid hr
  rw [← hr]
  have hB : Below w.heap.size w (w.alloc (.cells #[a.val, b.val, c.val] 57)) := (Below.refl _ _).alloc (Nat.le_refl _) _
  obtain ⟨ta, va, hva⟩ := iface_of ka
  obtain ⟨tb, vb, hvb⟩ := iface_of kb
  obtain ⟨tc, vc, hvc⟩ := iface_of kc
  rw [hva] at g0 m0 hB ⊢
  rw [hvb] at g1 m1 hB ⊢
  rw [hvc] at g2 m2 hB ⊢
  have HB := Lib.hid hB
  clear hr hB ha hb hc hva hvb hvc ka kb kc
  go_enter Try.func31, Try.ntmps31
  go_wp2
  go_loopg [12] 3 (fun g s12 wr => GoI w r a b c g s12 wr)
  case atStart => exact ⟨0, rfl, rfl, HR, HB.out⟩
  case round =>
    obtain ⟨i, hig, rfl, HC, hbw⟩ := hrel
    have HBW := Lib.hid hbw
    cases gk with
    | zero =>
      obtain rfl : i = 3 := by omega
      have HE : Hid (r = true) := Lib.hid HC.out
      clear hbw hig
      go_wp2
      go_ret
      exact ⟨ret_bool HE.out.symm, HBW.out⟩
    | succ g =>
      obtain rfl | rfl | rfl : i = 0 ∨ i = 1 ∨ i = 2 := by omega
      · obtain rfl : g = 2 := by omega
        have hix : ∀ w', (Instr.index 91 (.agg #[.iface ta va, .iface tb vb, .iface tc vc]) (.int .i64 0)).run Try.prog w' = .ok (.iface ta va) w' := fun _ => by kernel_rfl
        have hc := HC.out
        have hst : okR a b c 0 = (goodT a && (mayB a 0 && okR a b c 1)) := by unfold okR okP; simp [Bool.and_assoc]
        rw [hst] at hc
        clear hst
        cases h1 : goodT a
        · rw [h1] at g0 hc
          have HE : Hid (r = false) := Lib.hid hc
          clear hc hbw hig HC
          go_wp2_with (go_at_call 27; (with_reducible refine (g0 _).mono ?_); rintro e w2 ⟨rfl, hb2⟩)
          (try rw [Exit.noGoto_ret])
          go_ret
          exact ⟨ret_bool HE.out.symm, HBW.out.trans (hb2.mono HBW.out.size)⟩
        · rw [h1, Bool.true_and] at hc
          rw [h1] at g0
          cases h2 : mayB a 0
          · rw [h2] at m0 hc
            have HE : Hid (r = false) := Lib.hid hc
            clear hc hbw hig HC
            go_wp2_with (first
              | (go_at_call 27; (with_reducible refine (g0 _).mono ?_); rintro e w2 ⟨rfl, hb2⟩)
              | (go_at_call 37; (with_reducible refine (m0 _).mono ?_); rintro e w3 ⟨rfl, hb3⟩))
            (try rw [Exit.noGoto_ret])
            go_ret
            exact ⟨ret_bool HE.out.symm, (HBW.out.trans (hb2.mono HBW.out.size)).trans (hb3.mono (Nat.le_trans HBW.out.size hb2.size))⟩
          · rw [h2, Bool.true_and] at hc
            rw [h2] at m0
            have HE := Lib.hid hc
            clear hc hbw hig HC
            go_wp2_with (first
              | (go_at_call 27; (with_reducible refine (g0 _).mono ?_); rintro e w2 ⟨rfl, hb2⟩)
              | (go_at_call 37; (with_reducible refine (m0 _).mono ?_); rintro e w3 ⟨rfl, hb3⟩))
            go_roundg 2
            case measure => exact Nat.lt_succ_self _
            case rel => exact ⟨1, rfl, by first | rfl | go_num, HE, (HBW.out.trans (hb2.mono HBW.out.size)).trans (hb3.mono (Nat.le_trans HBW.out.size hb2.size))⟩
      · obtain rfl : g = 1 := by omega
        have hix : ∀ w', (Instr.index 91 (.agg #[.iface ta va, .iface tb vb, .iface tc vc]) (.int .i64 1)).run Try.prog w' = .ok (.iface tb vb) w' := fun _ => by kernel_rfl
        have hc := HC.out
        have hst : okR a b c 1 = (goodT b && (mayB b 1 && okR a b c 2)) := by unfold okR okP; simp [Bool.and_assoc]
        rw [hst] at hc
        clear hst
        cases h1 : goodT b
        · rw [h1] at g1 hc
          have HE : Hid (r = false) := Lib.hid hc
          clear hc hbw hig HC
          go_wp2_with (go_at_call 27; (with_reducible refine (g1 _).mono ?_); rintro e w2 ⟨rfl, hb2⟩)
          (try rw [Exit.noGoto_ret])
          go_ret
          exact ⟨ret_bool HE.out.symm, HBW.out.trans (hb2.mono HBW.out.size)⟩
        · rw [h1, Bool.true_and] at hc
          rw [h1] at g1
          cases h2 : mayB b 1
          · rw [h2] at m1 hc
            have HE : Hid (r = false) := Lib.hid hc
            clear hc hbw hig HC
            go_wp2_with (first
              | (go_at_call 27; (with_reducible refine (g1 _).mono ?_); rintro e w2 ⟨rfl, hb2⟩)
              | (go_at_call 37; (with_reducible refine (m1 _).mono ?_); rintro e w3 ⟨rfl, hb3⟩))
            (try rw [Exit.noGoto_ret])
            go_ret
            exact ⟨ret_bool HE.out.symm, (HBW.out.trans (hb2.mono HBW.out.size)).trans (hb3.mono (Nat.le_trans HBW.out.size hb2.size))⟩
          · rw [h2, Bool.true_and] at hc
            rw [h2] at m1
            have HE := Lib.hid hc
            clear hc hbw hig HC
            go_wp2_with (first
              | (go_at_call 27; (with_reducible refine (g1 _).mono ?_); rintro e w2 ⟨rfl, hb2⟩)
              | (go_at_call 37; (with_reducible refine (m1 _).mono ?_); rintro e w3 ⟨rfl, hb3⟩))
            go_roundg 1
            case measure => exact Nat.lt_succ_self _
            case rel => exact ⟨2, rfl, by first | rfl | go_num, HE, (HBW.out.trans (hb2.mono HBW.out.size)).trans (hb3.mono (Nat.le_trans HBW.out.size hb2.size))⟩
      · obtain rfl : g = 0 := by omega
        have hix : ∀ w', (Instr.index 91 (.agg #[.iface ta va, .iface tb vb, .iface tc vc]) (.int .i64 2)).run Try.prog w' = .ok (.iface tc vc) w' := fun _ => by kernel_rfl
        have hc := HC.out
        have hst : okR a b c 2 = (goodT c && (mayB c 2 && okR a b c 3)) := by unfold okR okP; simp [Bool.and_assoc]
        rw [hst] at hc
        clear hst
        cases h1 : goodT c
        · rw [h1] at g2 hc
          have HE : Hid (r = false) := Lib.hid hc
          clear hc hbw hig HC
          go_wp2_with (go_at_call 27; (with_reducible refine (g2 _).mono ?_); rintro e w2 ⟨rfl, hb2⟩)
          (try rw [Exit.noGoto_ret])
          go_ret
          exact ⟨ret_bool HE.out.symm, HBW.out.trans (hb2.mono HBW.out.size)⟩
        · rw [h1, Bool.true_and] at hc
          rw [h1] at g2
          cases h2 : mayB c 2
          · rw [h2] at m2 hc
            have HE : Hid (r = false) := Lib.hid hc
            clear hc hbw hig HC
            go_wp2_with (first
              | (go_at_call 27; (with_reducible refine (g2 _).mono ?_); rintro e w2 ⟨rfl, hb2⟩)
              | (go_at_call 37; (with_reducible refine (m2 _).mono ?_); rintro e w3 ⟨rfl, hb3⟩))
            (try rw [Exit.noGoto_ret])
            go_ret
            exact ⟨ret_bool HE.out.symm, (HBW.out.trans (hb2.mono HBW.out.size)).trans (hb3.mono (Nat.le_trans HBW.out.size hb2.size))⟩
          · rw [h2, Bool.true_and] at hc
            rw [h2] at m2
            have HE := Lib.hid hc
            clear hc hbw hig HC
            go_wp2_with (first
              | (go_at_call 27; (with_reducible refine (g2 _).mono ?_); rintro e w2 ⟨rfl, hb2⟩)
              | (go_at_call 37; (with_reducible refine (m2 _).mono ?_); rintro e w3 ⟨rfl, hb3⟩))
            go_roundg 0
            case measure => exact Nat.lt_succ_self _
            case rel => exact ⟨3, rfl, by first | rfl | go_num, HE, (HBW.out.trans (hb2.mono HBW.out.size)).trans (hb3.mono (Nat.le_trans HBW.out.size hb2.size))⟩
end Go.Proofs.Ytehechbiajbobaa
