/-
  MERGED (a claim has at most 60 files): NAwake.
-/
import Derived.Test.YtpnfjjgihkmjmaaGreatDoorZ24
import Derived.Test.YtpnfjjgihkmjmaaGreatDoorZ14
import Derived.Deep.RegionHeld3
/-
  WHETHER A TRIPLE MAY BE (package nt); the law's 'awake'.
-/
namespace Go.Proofs.YtpnfjjgihkmjmaaGreatDoor
open Go.RowKit
set_option linter.unusedVariables false
set_option linter.unusedSimpArgs false

noncomputable def okP (t : Tm) (part : Nat) : Bool := goodT t && mayB t part
/-- From a part on. -/
noncomputable def okR (a b c : Tm) : Nat → Bool
  | 0 => okP a 0 && (okP b 1 && okP c 2)
  | 1 => okP b 1 && okP c 2
  | 2 => okP c 2
  | _ => true
def GoI (w : World) (r : Bool) (a b c : Tm) (g : Nat) (s12 : Value) (wr : World) : Prop := ∃ i : Nat, i + g = 3 ∧ s12 = .int .i64 i ∧ Hid (r = okR a b c i) ∧ Below w.heap.size w wr
set_option maxHeartbeats 8000000 in
set_option maxRecDepth 100000 in
theorem ngood_any (a b c : Tm) (ha : a.few) (hb : b.few) (hc : c.few) (ka : a.kind < 3) (kb : b.kind < 3) (kc : c.kind < 3) (w : World) : Calls Tryz.prog 31 #[.agg #[a.val, b.val, c.val]] w fun e w' => e = .returned (.bool (okR a b c 0)) ∧ Below w.heap.size w w' := by
  have g0 := goodT_any a ha
  have g1 := goodT_any b hb
  have g2 := goodT_any c hc
  have m0 : ∀ W, Calls Tryz.prog 63 #[a.val, .int .i64 0] W fun e w' => e = .returned (.bool (mayB a 0)) ∧ Below W.heap.size W w' := fun W => nmay_any a 0 W
  have m1 : ∀ W, Calls Tryz.prog 63 #[b.val, .int .i64 1] W fun e w' => e = .returned (.bool (mayB b 1)) ∧ Below W.heap.size W w' := fun W => nmay_any b 1 W
  have m2 : ∀ W, Calls Tryz.prog 63 #[c.val, .int .i64 2] W fun e w' => e = .returned (.bool (mayB c 2)) ∧ Below W.heap.size W w' := fun W => nmay_any c 2 W
  obtain ⟨r, hr⟩ : ∃ r, r = okR a b c 0 := ⟨_, rfl⟩
  have HR := Lib.hid hr
  rw [← hr]
  have hB : Below w.heap.size w (w.alloc (.cells #[a.val, b.val, c.val] 71)) := (Below.refl _ _).alloc (Nat.le_refl _) _
  obtain ⟨ta, va, hva⟩ := iface_of ka
  obtain ⟨tb, vb, hvb⟩ := iface_of kb
  obtain ⟨tc, vc, hvc⟩ := iface_of kc
  rw [hva] at g0 m0 hB ⊢
  rw [hvb] at g1 m1 hB ⊢
  rw [hvc] at g2 m2 hB ⊢
  have HB := Lib.hid hB
  clear hr hB ha hb hc hva hvb hvc ka kb kc
  go_enter Tryz.func31, Tryz.ntmps31
  go_wp2
  go_loopg [12] 3 (fun g s12 wr => GoI w r a b c g s12 wr)
  case atStart => exact ⟨0, rfl, rfl, HR, HB.out⟩
  case round =>
    obtain ⟨i, hig, rfl, HC, hbw⟩ := hrel
    have HBW := Lib.hid hbw
    cases gk with
    | zero =>
      obtain rfl : i = 3 := by omega
      have HE : Hid (r = true) := Lib.hid HC.out
      clear hbw hig
      go_wp2
      go_ret
      exact ⟨ret_bool HE.out.symm, HBW.out⟩
    | succ g =>
      obtain rfl | rfl | rfl : i = 0 ∨ i = 1 ∨ i = 2 := by omega
      · obtain rfl : g = 2 := by omega
        have hix : ∀ w', (Instr.index 121 (.agg #[.iface ta va, .iface tb vb, .iface tc vc]) (.int .i64 0)).run Tryz.prog w' = .ok (.iface ta va) w' := fun _ => by kernel_rfl
        have hc := HC.out
        have hst : okR a b c 0 = (goodT a && (mayB a 0 && okR a b c 1)) := by unfold okR okP; simp [Bool.and_assoc]
        rw [hst] at hc
        clear hst
        cases h1 : goodT a
        · rw [h1] at g0 hc
          have HE : Hid (r = false) := Lib.hid hc
          clear hc hbw hig HC
          go_wp2_with (go_at_call 23; (with_reducible refine (g0 _).mono ?_); rintro e w2 ⟨rfl, hb2⟩)
          (try rw [Exit.noGoto_ret])
          go_ret
          exact ⟨ret_bool HE.out.symm, HBW.out.trans (hb2.mono HBW.out.size)⟩
        · rw [h1, Bool.true_and] at hc
          rw [h1] at g0
          cases h2 : mayB a 0
          · rw [h2] at m0 hc
            have HE : Hid (r = false) := Lib.hid hc
            clear hc hbw hig HC
            go_wp2_with (first
              | (go_at_call 23; (with_reducible refine (g0 _).mono ?_); rintro e w2 ⟨rfl, hb2⟩)
              | (go_at_call 63; (with_reducible refine (m0 _).mono ?_); rintro e w3 ⟨rfl, hb3⟩))
            (try rw [Exit.noGoto_ret])
            go_ret
            exact ⟨ret_bool HE.out.symm, (HBW.out.trans (hb2.mono HBW.out.size)).trans (hb3.mono (Nat.le_trans HBW.out.size hb2.size))⟩
          · rw [h2, Bool.true_and] at hc
            rw [h2] at m0
            have HE := Lib.hid hc
            clear hc hbw hig HC
            go_wp2_with (first
              | (go_at_call 23; (with_reducible refine (g0 _).mono ?_); rintro e w2 ⟨rfl, hb2⟩)
              | (go_at_call 63; (with_reducible refine (m0 _).mono ?_); rintro e w3 ⟨rfl, hb3⟩))
            go_roundg 2
            case measure => exact Nat.lt_succ_self _
            case rel => exact ⟨1, rfl, by first | rfl | go_num, HE, (HBW.out.trans (hb2.mono HBW.out.size)).trans (hb3.mono (Nat.le_trans HBW.out.size hb2.size))⟩
      · obtain rfl : g = 1 := by omega
        have hix : ∀ w', (Instr.index 121 (.agg #[.iface ta va, .iface tb vb, .iface tc vc]) (.int .i64 1)).run Tryz.prog w' = .ok (.iface tb vb) w' := fun _ => by kernel_rfl
        have hc := HC.out
        have hst : okR a b c 1 = (goodT b && (mayB b 1 && okR a b c 2)) := by unfold okR okP; simp [Bool.and_assoc]
        rw [hst] at hc
        clear hst
        cases h1 : goodT b
        · rw [h1] at g1 hc
          have HE : Hid (r = false) := Lib.hid hc
          clear hc hbw hig HC
          go_wp2_with (go_at_call 23; (with_reducible refine (g1 _).mono ?_); rintro e w2 ⟨rfl, hb2⟩)
          (try rw [Exit.noGoto_ret])
          go_ret
          exact ⟨ret_bool HE.out.symm, HBW.out.trans (hb2.mono HBW.out.size)⟩
        · rw [h1, Bool.true_and] at hc
          rw [h1] at g1
          cases h2 : mayB b 1
          · rw [h2] at m1 hc
            have HE : Hid (r = false) := Lib.hid hc
            clear hc hbw hig HC
            go_wp2_with (first
              | (go_at_call 23; (with_reducible refine (g1 _).mono ?_); rintro e w2 ⟨rfl, hb2⟩)
              | (go_at_call 63; (with_reducible refine (m1 _).mono ?_); rintro e w3 ⟨rfl, hb3⟩))
            (try rw [Exit.noGoto_ret])
            go_ret
            exact ⟨ret_bool HE.out.symm, (HBW.out.trans (hb2.mono HBW.out.size)).trans (hb3.mono (Nat.le_trans HBW.out.size hb2.size))⟩
          · rw [h2, Bool.true_and] at hc
            rw [h2] at m1
            have HE := Lib.hid hc
            clear hc hbw hig HC
            go_wp2_with (first
              | (go_at_call 23; (with_reducible refine (g1 _).mono ?_); rintro e w2 ⟨rfl, hb2⟩)
              | (go_at_call 63; (with_reducible refine (m1 _).mono ?_); rintro e w3 ⟨rfl, hb3⟩))
            go_roundg 1
            case measure => exact Nat.lt_succ_self _
            case rel => exact ⟨2, rfl, by first | rfl | go_num, HE, (HBW.out.trans (hb2.mono HBW.out.size)).trans (hb3.mono (Nat.le_trans HBW.out.size hb2.size))⟩
      · obtain rfl : g = 0 := by omega
        have hix : ∀ w', (Instr.index 121 (.agg #[.iface ta va, .iface tb vb, .iface tc vc]) (.int .i64 2)).run Tryz.prog w' = .ok (.iface tc vc) w' := fun _ => by kernel_rfl
        have hc := HC.out
        have hst : okR a b c 2 = (goodT c && (mayB c 2 && okR a b c 3)) := by unfold okR okP; simp [Bool.and_assoc]
        rw [hst] at hc
        clear hst
        cases h1 : goodT c
        · rw [h1] at g2 hc
          have HE : Hid (r = false) := Lib.hid hc
          clear hc hbw hig HC
          go_wp2_with (go_at_call 23; (with_reducible refine (g2 _).mono ?_); rintro e w2 ⟨rfl, hb2⟩)
          (try rw [Exit.noGoto_ret])
          go_ret
          exact ⟨ret_bool HE.out.symm, HBW.out.trans (hb2.mono HBW.out.size)⟩
        · rw [h1, Bool.true_and] at hc
          rw [h1] at g2
          cases h2 : mayB c 2
          · rw [h2] at m2 hc
            have HE : Hid (r = false) := Lib.hid hc
            clear hc hbw hig HC
            go_wp2_with (first
              | (go_at_call 23; (with_reducible refine (g2 _).mono ?_); rintro e w2 ⟨rfl, hb2⟩)
              | (go_at_call 63; (with_reducible refine (m2 _).mono ?_); rintro e w3 ⟨rfl, hb3⟩))
            (try rw [Exit.noGoto_ret])
            go_ret
            exact ⟨ret_bool HE.out.symm, (HBW.out.trans (hb2.mono HBW.out.size)).trans (hb3.mono (Nat.le_trans HBW.out.size hb2.size))⟩
          · rw [h2, Bool.true_and] at hc
            rw [h2] at m2
            have HE := Lib.hid hc
            clear hc hbw hig HC
            go_wp2_with (first
              | (go_at_call 23; (with_reducible refine (g2 _).mono ?_); rintro e w2 ⟨rfl, hb2⟩)
              | (go_at_call 63; (with_reducible refine (m2 _).mono ?_); rintro e w3 ⟨rfl, hb3⟩))
            go_roundg 0
            case measure => exact Nat.lt_succ_self _
            case rel => exact ⟨3, rfl, by first | rfl | go_num, HE, (HBW.out.trans (hb2.mono HBW.out.size)).trans (hb3.mono (Nat.le_trans HBW.out.size hb2.size))⟩
/-! ### awake -/
abbrev awS : ByteArray := ⟨#[60, 117, 58, 97, 62, 32, 60, 117, 58, 98, 62, 32, 34, 99, 34, 32, 46]⟩
abbrev awL : List Int := [60, 117, 58, 97, 62, 32, 60, 117, 58, 98, 62, 32, 34, 99, 34, 32, 46]
abbrev awA : Tm := .iri ⟨#[117, 58, 97]⟩
abbrev awB : Tm := .iri ⟨#[117, 58, 98]⟩
abbrev awC : Tm := .lit ⟨#[99]⟩ XS mt
theorem readP_of {sl : List Int} {k p : Nat} {t : Tm} (h1 : (formP sl k).2 = some t) (h2 : (formP sl k).1 = p) (hg : goodT t = true) : readP sl k = (some t, p, 0) := by
  unfold readP
  rw [h1]
  dsimp only
  rw [if_pos hg, h2]
theorem partP_of {sl : List Int} {k q p part : Nat} {t : Tm} (hq : gapP sl k = q) (hr : readP sl q = (some t, p, 0)) (hm : mayB t part = true) : partP sl k part = (some t, p, 0) := by
  unfold partP
  rw [hq, hr]
  dsimp only
  rw [if_pos hm]
theorem awA_good : goodT awA = true := by
  show iriG _ = true
  rw [iriG_of (ascii_parts ⟨#[117, 58, 97]⟩ [117, 58, 97] (by decide) (by decide))]
  decide
theorem awB_good : goodT awB = true := by
  show iriG _ = true
  rw [iriG_of (ascii_parts ⟨#[117, 58, 98]⟩ [117, 58, 98] (by decide) (by decide))]
  decide
theorem awC_good : goodT awC = true := by
  show litG _ _ _ = true
  unfold litG
  rw [textG_of (ascii_parts ⟨#[99]⟩ [99] (by decide) (by decide)), if_pos (by decide), iriG_of (ascii_parts XS (sigs lS) (by decide) (by decide)), ByteArray.toList_eq]
  decide
theorem aw_prs : prsB awL [] = ([[awA, awB, awC]], 0, 0) := by
  have r0 : readP awL 0 = (some awA, 5, 0) := readP_of (by rfl) (by rfl) awA_good
  have r1 : readP awL 6 = (some awB, 11, 0) := readP_of (by rfl) (by rfl) awB_good
  have r2 : readP awL 12 = (some awC, 15, 0) := readP_of (by rfl) (by rfl) awC_good
  have p0 : partP awL 0 0 = (some awA, 5, 0) := partP_of (by rfl) r0 (by rfl)
  have p1 : partP awL 5 1 = (some awB, 11, 0) := partP_of (by rfl) r1 (by rfl)
  have p2 : partP awL 11 2 = (some awC, 15, 0) := partP_of (by rfl) r2 (by rfl)
  have t0 : triP awL 0 = (some [awA, awB, awC], 17, 0) := by
    unfold triP
    rw [triC, p0]
    dsimp only
    rw [triC, p1]
    dsimp only
    rw [triC, p2]
    dsimp only
    rw [triC, show gapP awL 15 = 16 from rfl, if_pos (by rfl)]
    rfl
  have o0 : overP awL 0 = (0, false) := by rfl
  have o1 : overP awL 17 = (17, true) := by rfl
  unfold prsB
  rw [if_pos rfl, show awL.length = 17 from rfl, prsC, if_neg (by decide), o0, if_neg (by decide)]
  dsimp only
  rw [t0]
  dsimp only
  rw [o1, if_pos rfl, prsC, if_pos (by rfl)]
  rfl
theorem aw_ok : okR awA awB awC 0 = true := by
  unfold okR okP
  rw [awA_good, awB_good, awC_good]
  rfl
theorem aw_few : awA.few ∧ awB.few ∧ awC.few := by unfold Tm.few; decide
theorem aw_same : sameB awC (.lit ⟨#[99]⟩ XS mt) = true := by
  unfold sameB same4
  simp only [Tm.kind, Tm.ta, Tm.tb, Tm.tc, ByteArray.toList_eq]
  decide
/-- The world in awake: the row's three cells. -/
def Aw (w : World) (g : Nat) (x y z : Value) (W : World) : Prop := Below w.heap.size w W ∧ ∃ cs : Array Value, W.heap[g]? = some (.cells cs 71 (0, 0)) ∧ cs[0]? = some x ∧ cs[1]? = some y ∧ cs[2]? = some z
theorem Aw.all {w : World} {g : Nat} {x y z : Value} {W : World} (h : Aw w g x y z W) : W.cell? ⟨g, 0, none⟩ = some x ∧ W.cell? ⟨g, 1, none⟩ = some y ∧ W.cell? ⟨g, 2, none⟩ = some z ∧ Aw w g x y z W := by
  obtain ⟨cs, h1, h2, h3, h4⟩ := h.2
  exact ⟨by rw [Lib.cell_of_heap h1]; exact h2, by rw [Lib.cell_of_heap h1]; exact h3, by rw [Lib.cell_of_heap h1]; exact h4, h⟩
theorem Aw.drew {w : World} {g : Nat} {x y z : Value} {W : World} (h : Aw w g x y z W) : Aw w g x y z W.drew := ⟨Below.drew h.1, h.2⟩
theorem Aw.below {w : World} {g : Nat} {x y z : Value} {W W' : World} (h : Aw w g x y z W) (hb : Below W.heap.size W W') : Aw w g x y z W' := by
  obtain ⟨cs, h1, h2⟩ := h.2
  exact ⟨h.1.trans (hb.mono h.1.size), cs, (hb.block g (Array.getElem?_eq_some_iff.1 h1).1).trans h1, h2⟩
theorem Aw.of {w : World} {g : Nat} {x y z : Value} {W : World} {f : Nat} {args : Array Value} {r : Value} (h : Aw w g x y z W) (c : Calls Tryz.prog f args W fun e w' => e = .returned r ∧ Below W.heap.size W w') :
    Calls Tryz.prog f args W fun e w' => e = .returned r ∧ Aw w g x y z w' := c.mono fun _ _ ⟨a, b⟩ => ⟨a, h.below b⟩
theorem trsV_one {B : Nat} {W : World} {v : Value} {a b c : Tm} (h : TrsV B W v [[a, b, c]]) : ∃ g cap, v = .slice (some ⟨g, 0, none⟩) 1 cap ∧ ∃ cs : Array Value, W.heap[g]? = some (.cells cs 71 (0, 0)) ∧ cs[0]? = some a.val ∧ cs[1]? = some b.val ∧ cs[2]? = some c.val := by
  rcases id h.2 with ⟨hv, hl⟩ | ⟨g, cap, cur, hv, hg, hh, hn, hm, hz, hx⟩
  · cases hl
  · refine ⟨g, cap, hv, cur, hh, ?_⟩
    have key : ∀ j u, (cellsT [[a, b, c]])[j]? = some u → cur[j]? = some u := fun j u hj => by
      have := World.ownsRow.cells h (g := g) (by rw [hv]; rfl) j u hj
      rw [addr_add, Lib.cell_of_heap hh] at this
      exact this
    exact ⟨key 0 _ rfl, key 1 _ rfl, key 2 _ rfl⟩
set_option maxHeartbeats 8000000 in
set_option maxRecDepth 100000 in
theorem nawake_ok (w : World) (t : TypeId) (fr : Nat × Nat) (htab : w.heap[0]? = some (.cells escCells t fr)) : Calls Tryz.prog 6 #[] w fun e w' => e = .returned (.bool true) ∧ Below w.heap.size w w' := by
  have cP := nparse_any awS awL [] (ascii_parts awS awL (by decide) (by decide)) (by decide) w t fr htab
  rw [aw_prs] at cP
  have cG : ∀ W, Calls Tryz.prog 31 #[.agg #[awA.val, awB.val, awC.val]] W fun e w' => e = .returned (.bool true) ∧ Below W.heap.size W w' := fun W => by
    have := ngood_any awA awB awC aw_few.1 aw_few.2.1 aw_few.2.2 (by decide) (by decide) (by decide) W
    rw [aw_ok] at this
    exact this
  have cS : ∀ W, Calls Tryz.prog 32 #[awC.val, (Tm.lit ⟨#[99]⟩ XS mt).val] W fun e w' => e = .returned (.bool true) ∧ Below W.heap.size W w' := fun W => by
    have := same_any awC (.lit ⟨#[99]⟩ XS mt) W
    rw [aw_same] at this
    exact this
  have cL := plain_any ⟨#[99]⟩
  clear htab
  simp only [Tm.val] at cG cS
  go_enter Tryz.func6, Tryz.ntmps6
  go_wp2_with (go_at_call 7; (with_reducible refine cP.mono ?_); rintro e w1 ⟨v, rfl, hT, hb1⟩; obtain ⟨g, cap, rfl, hcs⟩ := trsV_one hT; clear hT)
  have hA : Aw w g (.iface 68 (.agg #[.string ⟨#[117, 58, 97]⟩])) (.iface 68 (.agg #[.string ⟨#[117, 58, 98]⟩])) (.iface 74 (.agg #[.string ⟨#[99]⟩, .string XS, .string mt])) w1 := ⟨hb1, hcs⟩
  clear hcs hb1 cP
  go_region_held3 (fun W => W.cell? ⟨g, 0, none⟩ = some (.iface 68 (.agg #[.string ⟨#[117, 58, 97]⟩])) ∧ W.cell? ⟨g, 1, none⟩ = some (.iface 68 (.agg #[.string ⟨#[117, 58, 98]⟩])) ∧ W.cell? ⟨g, 2, none⟩ = some (.iface 74 (.agg #[.string ⟨#[99]⟩, .string XS, .string mt])) ∧ Aw w g (.iface 68 (.agg #[.string ⟨#[117, 58, 97]⟩])) (.iface 68 (.agg #[.string ⟨#[117, 58, 98]⟩])) (.iface 74 (.agg #[.string ⟨#[99]⟩, .string XS, .string mt])) W)
    (first | exact Aw.all (by assumption) | exact Aw.all (Aw.drew (by assumption)))
    (first
      | (go_at_call 31; (with_reducible refine (Aw.of (by first | assumption | exact Aw.drew (by assumption)) (cG _)).mono ?_); rintro e w3 ⟨rfl, hA3⟩)
      | (go_at_call 33; (with_reducible refine (Aw.of (by first | assumption | exact Aw.drew (by assumption)) (cL _)).mono ?_); rintro e w3 ⟨rfl, hA3⟩)
      | (go_at_call 32; (with_reducible refine (Aw.of (by first | assumption | exact Aw.drew (by assumption)) (cS _)).mono ?_); rintro e w3 ⟨rfl, hA3⟩))
  all_goals
    go_wp2
    go_ret
    exact ⟨rfl, hA3.1⟩
end Go.Proofs.YtpnfjjgihkmjmaaGreatDoor
