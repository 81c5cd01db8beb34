/-
  TermOnes: the walk. (Out of tones.py.)
-/
import Derived.Test.YtaoelnfflkkeeaaGreatDoorTREff
import Derived.Test.YtaoelnfflkkeeaaGreatDoorNGood
import Derived.Test.YtaoelnfflkkeeaaGreatDoorTAwake
import Derived.Test.YtaoelnfflkkeeaaGreatDoorTTerm
import Derived.Test.YtaoelnfflkkeeaaGreatDoorTMustA
import Derived.Deep.RegionHeld3
import Derived.BigQuiet
import Derived.Deep.QuietTactic
namespace Go.Proofs.YtaoelnfflkkeeaaGreatDoor
open Go.RowKit
set_option linter.unusedVariables false
set_option linter.unusedSimpArgs false

theorem asI_ways (t : Tm) : asI t = (0, 10) ∨ asI t = (0, 3) ∨ asI t = (0, 9) ∨ ∃ z, asI t = (z, 0) ∧ F64 z := by
  unfold asI
  by_cases h1 : t.isLit = true
  · rw [if_pos h1]
    by_cases h2 : (t.tb.toList == lI) = true
    · rw [if_pos h2]
      cases hn : isNum t.la.data.toList
      · exact .inr (.inl (asT_form hn))
      · by_cases hf : F64 (numZ t.la.data.toList)
        · exact .inr (.inr (.inr ⟨_, asT_fit hn hf, hf⟩))
        · exact .inr (.inr (.inl (asT_over hn hf)))
    · rw [if_neg h2]; exact .inl rfl
  · rw [if_neg h1]; exact .inl rfl
theorem asI_zero {t : Tm} (h : ¬ (asI t).2 = 0) : (asI t).1 = 0 := by
  rcases asI_ways t with e | e | e | ⟨z, e, _⟩ <;> rw [e] at h ⊢
  exact absurd rfl h
theorem asI_fit (t : Tm) : -9223372036854775808 ≤ (asI t).1 ∧ (asI t).1 ≤ 9223372036854775807 := by
  rcases asI_ways t with e | e | e | ⟨z, e, h⟩ <;> rw [e]
  · decide
  · decide
  · decide
  · exact h
theorem eff_le (t : Tm) : 0 ≤ eff t ∧ eff t ≤ 2 := by
  have h : ∀ y x, 0 ≤ tru y x ∧ tru y x ≤ 2 := fun y x => by
    unfold tru
    split
    · cases y <;> decide
    · decide
  unfold eff
  split
  · split
    · exact h _ _
    · split
      · exact h _ _
      · split
        · split <;> decide
        · decide
  · decide
theorem digs_fit {n : Int} (h0 : -9223372036854775808 ≤ n) (h1 : n ≤ 9223372036854775807) : (digs n.natAbs).length ≤ 100000 := by
  have := digs_len (n := n.natAbs) (k := 19) (by
    have : (10 : Nat) ^ 19 = 10000000000000000000 := by decide
    omega)
  omega
theorem rasBool_no (k : Int) (hk : ¬ k = 2) (a b c : ByteArray) (w : World) : Calls Tryz.prog 11 #[F4 k a b c] w fun e w' => e = .returned (oT false 10) ∧ Below w.heap.size w w' := by
  go_enter Tryz.func11, Tryz.ntmps11
  go_wp2
  go_ret2
  exact ⟨rfl, (Below.refl _ _).alloc (Nat.le_refl _) _⟩
theorem rasBool_any (t : Tm) (w : World) : Calls Tryz.prog 11 #[T4 t] w fun e w' => e = .returned (oT (asB t).1 (asB t).2) ∧ Below w.heap.size w w' := by
  match t with
  | .blank s => exact rasBool_no 0 (by decide) _ _ _ w
  | .iri s => exact rasBool_no 1 (by decide) _ _ _ w
  | .odd n => exact rasBool_no 3 (by decide) _ _ _ w
  | .none => exact rasBool_no 3 (by decide) _ _ _ w
  | .lit a b c => exact rasBool_lit a b c w
theorem tmOf_few (k : Int) (a b c : ByteArray) (h : shortB a b c = true) : (tmOf k a b c).few ∧ (tmOf k a b c).la.size ≤ 100000 := by
  unfold shortB at h
  rw [Bool.and_eq_true, Bool.and_eq_true] at h
  have h1 := of_decide_eq_true h.1
  have h2 := of_decide_eq_true h.2.1
  have h3 := of_decide_eq_true h.2.2
  have hz : mt.size = 0 := rfl
  refine ⟨?_, ?_⟩
  · unfold Tm.few tmOf
    have h4 : k % 4 = 0 ∨ k % 4 = 1 ∨ k % 4 = 2 ∨ k % 4 = 3 := by omega
    rcases h4 with h | h | h | h <;> simp [h, Tm.ta, Tm.tb, Tm.tc, hz] <;> omega
  · rcases tmOf_la k a b c with e | e
    · rw [e]; omega
    · rw [e]; decide
theorem fldMust (s : ByteArray) (w : World) : (Instr.field 50 (.agg #[.string s]) 0).run Tryz.prog w = .ok (.string s) w := by kernel_rfl
set_option maxRecDepth 100000 in
set_option maxHeartbeats 4000000 in
theorem ones_long (k : Int) (a b c : ByteArray) (h : shortB a b c = false) (w : World) (hv : LV w) : Calls Tryz.prog 3 #[F4 k a b c] w fun e w' => e = .returned (.bool true) ∧ Below w.heap.size w w' := by
  have hb0 : Below w.heap.size w (w.alloc (.cells #[.int .i64 k, .string a, .string b, .string c] 23)) := (Below.refl _ _).alloc (Nat.le_refl _) _
  have hf : Fb (w.alloc (.cells #[.int .i64 k, .string a, .string b, .string c] 23)) w.heap.size 23 #[.int .i64 k, .string a, .string b, .string c] := Fb.new _ _ _
  have HF := Lib.hid hf
  have HB0 := Lib.hid hb0
  have hLV := Lib.hid hv
  have s1 := fun W => short_any k a b c W
  rw [h] at s1
  clear hv h hf hb0
  have cA1 := awake_ok _ (hLV.out.below HB0.out)
  have cA2 := fun (W : World) (hb : Below w.heap.size w W) => awake_ok W (hLV.out.below hb)
  go_enter Tryz.func3, Tryz.ntmps3
  go_wp2_with (first
    | (go_at_call 4; (with_reducible refine cA1.mono ?_); rintro e w1 ⟨rfl, hb1⟩; have h1 := HF.out.below hb1; have x0 := h1.cell 0; have x1 := h1.cell 1; have x2 := h1.cell 2; have x3 := h1.cell 3; have HB1 := Lib.hid (HB0.out.trans (hb1.mono HB0.out.size)); clear h1 hb1)
    | (go_at_call 5; (with_reducible refine (s1 _).mono ?_); rintro e w2 ⟨rfl, hb2⟩; have HB2 := Lib.hid (HB1.out.trans (hb2.mono HB1.out.size)); clear hb2)
    | (go_at_call 4; (with_reducible refine (cA2 _ HB2.out).mono ?_); rintro e w3 ⟨rfl, hb3⟩; have HB3 := Lib.hid (HB2.out.trans (hb3.mono HB2.out.size)); clear hb3))
  go_ret
  exact ⟨rfl, HB3.out⟩
set_option maxRecDepth 100000 in
set_option maxHeartbeats 32000000 in
theorem ones_no (k : Int) (hk : -9223372036854775808 ≤ k ∧ k ≤ 9223372036854775807) (a b c : ByteArray) (h : shortB a b c = true) (hu : ¬ (asI (tmOf k a b c)).2 = 0) (hq : ¬ (tmOf k a b c).kind = 1) (w : World) (hv : LV w) : Calls Tryz.prog 3 #[F4 k a b c] w fun e w' => e = .returned (.bool true) ∧ Below w.heap.size w w' := by
  obtain ⟨W0, hW0⟩ : ∃ W0, W0 = w.alloc (.cells #[.int .i64 k, .string a, .string b, .string c] 23) := ⟨_, rfl⟩
  have hb0 : Below w.heap.size w W0 := by rw [hW0]; exact (Below.refl _ _).alloc (Nat.le_refl _) _
  have hf : Fb W0 w.heap.size 23 #[.int .i64 k, .string a, .string b, .string c] := by rw [hW0]; exact Fb.new _ _ _
  obtain ⟨hfew, hla⟩ := tmOf_few k a b c h
  have s1 := fun W => short_any k a b c W
  rw [h] at s1
  have pl := plainT_any k hk a b c
  have rl := realT_any k a b c
  obtain ⟨t, htt⟩ : ∃ t, t = tmOf k a b c := ⟨_, rfl⟩
  rw [← htt] at hu pl rl hfew hla hq
  clear htt
  have cA := fun (W : World) (hb : Below w.heap.size w W) => awake_ok W (hv.below hb)
  have cI := fun (W : World) (hb : Below w.heap.size w W) => asInt_any t (by omega) W (hv.below hb)
  have cB := asBool_any t
  have dB := rasBool_any t
  have dI := fun W => rasInt_any t hla W
  have cG := goodT_any t hfew
  have dG := rgoodT_any t hfew
  have cK := kind_any t
  have cE := fun (W : World) (hb : Below w.heap.size w W) => eff_any t (by omega) W (hv.below hb)
  have dE := reff_any t hla
  have nG : ∀ W, Calls Tryz.prog 12 #[.nilIface] W fun e w' => e = .returned (.bool false) ∧ Below W.heap.size W w' := fun W => goodT_any .none ⟨by decide, by decide, by decide⟩ W
  have nK : ∀ W, Calls Tryz.prog 14 #[.nilIface] W fun e w' => e = .returned (.int .i64 3) ∧ Below W.heap.size W w' := fun W => kind_any .none W
  have hfit := asI_fit t
  have hle := eff_le t
  have hdg := digs_fit hfit.1 hfit.2
  have hz := asI_zero hu
  unfold RaPost at dI
  simp only [if_neg hu] at dI
  rw [hz] at cI
  obtain ⟨v, hvv⟩ : ∃ v, v = t.val := ⟨_, rfl⟩
  obtain ⟨q, hqq⟩ : ∃ v, v = t.kind := ⟨_, rfl⟩
  obtain ⟨ta, hta⟩ : ∃ v, v = t.ta := ⟨_, rfl⟩
  obtain ⟨tb, htb⟩ : ∃ v, v = t.tb := ⟨_, rfl⟩
  obtain ⟨tc, htc⟩ : ∃ v, v = t.tc := ⟨_, rfl⟩
  obtain ⟨g, hg⟩ : ∃ v, v = goodT t := ⟨_, rfl⟩
  obtain ⟨ef, hef⟩ : ∃ v, v = eff t := ⟨_, rfl⟩
  obtain ⟨y, hy⟩ : ∃ v, v = (asB t).1 := ⟨_, rfl⟩
  obtain ⟨x, hx⟩ : ∃ v, v = (asB t).2 := ⟨_, rfl⟩
  have h4 : T4 t = F4 q ta tb tc := by rw [hqq, hta, htb, htc]
  rw [h4] at pl rl dB dG dE
  simp only [h4] at dI
  rw [← hvv] at rl cB cG cK
  simp only [← hvv] at cI cE
  rw [← hg] at cG dG
  rw [← hqq] at cK
  simp only [← hef] at cE dE
  rw [← hef] at hle
  have hwe : IntKind.i64.wrap ef = ef := IntWalk.i64_in _ (by omega)
  have HWE := Lib.hid hwe
  clear hwe hle
  rw [← hy, ← hx] at cB dB
  rw [← hqq] at hq
  have hq2 : (q == 1) = false := by rw [beq_eq_false_iff_ne]; exact hq
  have hq3 : (q != 1) = true := by rw [bne, hq2]; rfl
  obtain ⟨u, huu⟩ : ∃ v, v = (asI t).2 := ⟨_, rfl⟩
  simp only [← huu] at cI dI hu
  have hu2 : (u == 0) = false := by rw [beq_eq_false_iff_ne]; exact hu
  have hu3 : (u != 0) = true := by rw [bne, hu2]; rfl
  have HB0 := Lib.hid hb0
  have HF := Lib.hid hf
  have HW0 := Lib.hid hW0
  clear hv hvv hqq hta htb htc hg hef hy hx h4 hfew hla hfit h hk hb0 hf hz huu hW0
  go_enter Tryz.func3, Tryz.ntmps3
  go_upto_region 1 with (fail)
  rw [← HW0.out]
  go_upto_region 4 with (first
    | (go_at_call 4; (with_reducible refine (cA _ HB0.out).mono ?_); rintro e w1 ⟨rfl, hb1⟩; have h1 := HF.out.below hb1; have x0 := h1.cell 0; have x1 := h1.cell 1; have x2 := h1.cell 2; have x3 := h1.cell 3; have HF1 := Lib.hid h1; have HB1 := Lib.hid (HB0.out.trans (hb1.mono HB0.out.size)); clear h1 hb1)
    | (go_at_call 5; (with_reducible refine (s1 _).mono ?_); rintro e w2 ⟨rfl, hb2⟩; have h1 := HF1.out.below hb2; have y0 := h1.cell 0; have y1 := h1.cell 1; have y2 := h1.cell 2; have y3 := h1.cell 3; have HB2 := Lib.hid (HB1.out.trans (hb2.mono HB1.out.size)); clear h1 hb2)
    | (go_at_call 6; (with_reducible refine (pl _).mono ?_); rintro e w3 ⟨rfl, hb3⟩; have HB3 := Lib.hid (HB2.out.trans (hb3.mono HB2.out.size)); clear hb3))
  clear x0 x1 x2 x3 y0 y1 y2 y3
  obtain ⟨gT, hgT⟩ : ∃ g, g = w3.heap.size := ⟨_, rfl⟩
  obtain ⟨W3, hW3⟩ : ∃ W3, W3 = w3.alloc (.cells #[.int .i64 q, .string ta, .string tb, .string tc] 23) := ⟨_, rfl⟩
  rw [← hW3, ← hgT]
  have HT := Lib.hid (show Fb W3 gT 23 #[.int .i64 q, .string ta, .string tb, .string tc] from by rw [hW3, hgT]; exact Fb.new _ _ _)
  have HBT := Lib.hid (show Below w.heap.size w W3 from by rw [hW3]; exact HB3.out.alloc HB3.out.size _)
  clear hgT hW3
  have x0 := HT.out.cell 0
  have x1 := HT.out.cell 1
  have x2 := HT.out.cell 2
  have x3 := HT.out.cell 3
  go_upto_region 8 with (first
    | (go_at_call 7; (with_reducible refine (rl _).mono ?_); rintro e w4 ⟨rfl, hb4⟩; have HC4 := Lib.hid hb4; clear hb4)
    | (go_at_call 8; (with_reducible refine (cI _ (HBT.out.trans (HC4.out.mono HBT.out.size))).mono ?_); rintro e w5 ⟨rfl, hb5⟩; have HC5 := Lib.hid (HC4.out.trans (hb5.mono HC4.out.size)); clear hb5)
    | (go_at_call 9; (with_reducible refine (cB _).mono ?_); rintro e w6 ⟨rfl, hb6⟩; have HC6 := Lib.hid (HC5.out.trans (hb6.mono HC5.out.size)); have y0 := (HT.out.below HC6.out).cell 0; have y1 := (HT.out.below HC6.out).cell 1; have y2 := (HT.out.below HC6.out).cell 2; have y3 := (HT.out.below HC6.out).cell 3; clear hb6)
    | (go_at_call 10; (with_reducible refine (dI _).mono ?_); rintro e w7 ⟨rfl, hb7⟩; have HC7 := Lib.hid (HC6.out.trans (hb7.mono HC6.out.size)); clear hb7))
  obtain ⟨gB, hgB⟩ : ∃ g, g = w7.heap.size := ⟨_, rfl⟩
  obtain ⟨W7, hW7⟩ : ∃ W7, W7 = w7.alloc (.cells #[.bool false, .slice none 0 0] 37) := ⟨_, rfl⟩
  rw [← hW7, ← hgB]
  have HC8 := Lib.hid (show Below W3.heap.size W3 W7 from by rw [hW7]; exact HC7.out.alloc HC7.out.size _)
  have HG7 := Lib.hid (show Fb W7 gB 37 #[.bool false, .slice none 0 0] from by rw [hW7, hgB]; exact Fb.new _ _ _)
  clear hgB hW7 x0 x1 x2 x3 y0 y1 y2 y3
  have x0 := (HT.out.below HC8.out).cell 0
  have x1 := (HT.out.below HC8.out).cell 1
  have x2 := (HT.out.below HC8.out).cell 2
  have x3 := (HT.out.below HC8.out).cell 3
  go_upto_region 9 with (go_at_call 11; (with_reducible refine (dB _).mono ?_); rintro e w8 ⟨rfl, hb8⟩; have HC9 := Lib.hid (HC8.out.trans (hb8.mono HC8.out.size)); have HD8 := Lib.hid hb8; clear hb8)
  clear x0 x1 x2 x3
  have hBW : Below w.heap.size w w8 := HBT.out.trans (HC9.out.mono HBT.out.size)
  have hK : ∀ W, Below w8.heap.size w8 W → W.cell? ⟨gT, 0, none⟩ = some (.int .i64 q) ∧ W.cell? ⟨gT, 1, none⟩ = some (.string ta) ∧ W.cell? ⟨gT, 2, none⟩ = some (.string tb) ∧ W.cell? ⟨gT, 3, none⟩ = some (.string tc) := fun W hb => by
    have := (HT.out.below HC9.out).below hb
    exact ⟨this.cell 0, this.cell 1, this.cell 2, this.cell 3⟩
  have HK := Lib.hid hK
  have HBW := Lib.hid hBW
  obtain ⟨x0, x1, x2, x3⟩ := hK _ (Below.refl _ _)
  clear hK hBW
  have cE2 := fun (W : World) (hb : Below w8.heap.size w8 W) => cE W (HBW.out.trans (hb.mono HBW.out.size))
  go_cut [79] from 45 (fun s79 W => s79 = .bool false ∧ Below w8.heap.size w8 W)
  case first =>
    go_region_held3 (fun W => W.cell? ⟨gT, 0, none⟩ = some (.int .i64 q) ∧ W.cell? ⟨gT, 1, none⟩ = some (.string ta) ∧ W.cell? ⟨gT, 2, none⟩ = some (.string tb) ∧ W.cell? ⟨gT, 3, none⟩ = some (.string tc))
      (first | (refine HK.out _ ?_; repeat (first | assumption | exact Below.refl _ _ | refine Below.drew ?_)))
      (first
        | (go_at_call 12; (with_reducible refine (cG _).mono ?_); rintro e wa ⟨rfl, hba⟩; have hBA : Below w8.heap.size w8 wa := Below.trans (by repeat (first | assumption | exact Below.refl _ _ | refine Below.drew ?_)) (hba.mono (by first | exact Nat.le_refl _ | (simp; done) | (have := hBB.size; simp; omega))))
        | (go_at_call 13; (with_reducible refine (dG _).mono ?_); rintro e wb ⟨rfl, hbb⟩; have hBB : Below w8.heap.size w8 wb := Below.trans (by repeat (first | assumption | exact Below.refl _ _ | refine Below.drew ?_)) (hbb.mono (by first | exact Nat.le_refl _ | (simp; done) | (have := hBA.size; simp; omega))))
        | (go_at_call 14; (with_reducible refine (cK _).mono ?_); rintro e wc ⟨rfl, hbc⟩; have hBC : Below w8.heap.size w8 wc := Below.trans (by repeat (first | assumption | exact Below.refl _ _ | refine Below.drew ?_)) (hbc.mono (by first | exact Nat.le_refl _ | (have := hBA.size; have := hBB.size; simp; omega))))
        | (go_at_call 15; (with_reducible refine (cE2 _ (by repeat (first | assumption | exact Below.refl _ _ | refine Below.drew ?_))).mono ?_); rintro e wd ⟨rfl, hbd⟩; have hBD : Below w8.heap.size w8 wd := Below.trans (by repeat (first | assumption | exact Below.refl _ _ | refine Below.drew ?_)) (hbd.mono (by first | exact Nat.le_refl _ | (have := hBC.size; simp; omega) | (have := hBE.size; simp; omega))))
        | (go_at_call 16; (with_reducible refine (dE _).mono ?_); rintro e we ⟨rfl, hbe⟩; have hBE : Below w8.heap.size w8 we := Below.trans (by repeat (first | assumption | exact Below.refl _ _ | refine Below.drew ?_)) (hbe.mono (by first | exact Nat.le_refl _ | (have := hBC.size; simp; omega) | (have := hBD.size; simp; omega)))))
    all_goals (go_wp2_with fail; go_meet)
    all_goals exact ⟨by first | rfl | (rw [HWE.out]; simp), (by repeat (first | assumption | exact Below.refl _ _ | refine Below.drew ?_))⟩
  case rest =>
    obtain ⟨rfl, hcut⟩ := hcut
    clear x0 x1 x2 x3
    obtain ⟨x0, x1, x2, x3⟩ := HK.out _ hcut
    have HCU := Lib.hid hcut
    go_upto_region 11 with (fail)
    go_quiet (fail)
    go_upto_region 13 with (fail)
    obtain ⟨W9, hW9⟩ : ∃ W9, W9 = wc.drewN nq := ⟨_, rfl⟩
    rw [← hW9]
    have HB9 := Lib.hid (show Below w8.heap.size w8 W9 from by rw [hW9]; exact below_dq HCU.out nq)
    clear hW9
    have HKS := Lib.hid (fun (W : World) (hb : Below w8.heap.size w8 W) => (⟨(HK.out _ hb).1, (HK.out _ hb).2.1, (HK.out _ hb).2.2.1, (HK.out _ hb).2.2.2, hb⟩ : (fun W => W.cell? ⟨gT, 0, none⟩ = some (.int .i64 q) ∧ W.cell? ⟨gT, 1, none⟩ = some (.string ta) ∧ W.cell? ⟨gT, 2, none⟩ = some (.string tb) ∧ W.cell? ⟨gT, 3, none⟩ = some (.string tc) ∧ Below w8.heap.size w8 W) W))
    have hcur := HB9.out
    refine wp_region_noPanic ?_
    refine wp_region_held_drew (S := (fun W => W.cell? ⟨gT, 0, none⟩ = some (.int .i64 q) ∧ W.cell? ⟨gT, 1, none⟩ = some (.string ta) ∧ W.cell? ⟨gT, 2, none⟩ = some (.string tb) ∧ W.cell? ⟨gT, 3, none⟩ = some (.string tc) ∧ Below w8.heap.size w8 W)) (by kernel_rfl) (HKS.out _ (Below.drew hcur)) (fun hHeld => ?_)
    replace hcur := Below.drew hcur
    refine wpAnyH_ready (rs := [0]) (by kernel_rfl) (by simp) ?_
    refine AllReadyH.cons (o := { dst := some 97, op := Op.call { callee := Callee.value (Operand.func 12), args := #[Operand.const Value.nilIface], argTypes := #[28] }, type := 4, pos := "law.go:84", after := #[], guard := none }) rfl (fun K' hS' => ?_) AllReadyH.nil
    go_simp
    go_at_call 12; (with_reducible refine (nG _).mono ?_); rintro e wa ⟨rfl, hbq⟩; have hBq : Below w8.heap.size w8 wa := Below.trans hcur (hbq.mono hcur.size); clear hcur; have hcur := hBq; clear hBq hbq
    (try go_wp2_with fail)
    refine hS'.out _ _ (HKS.out _ hcur) (fun hHeld => ?_)
    clear hS' K'
    try simp only [Act.put, List.setIfInBounds_toArray, List.set_cons_zero, List.set_cons_succ]
    refine wpAnyH_take (i := 1) (oi := { dst := some 98, op := Op.unOp UnOp.not 4 (Operand.tmp 97), type := 4, pos := "law.go:84", after := #[{ on := 0, ground := Ground.data }], guard := none }) (v := ?_) rfl (by kernel_rfl) (by kernel_rfl) (by kernel_rfl) (fun _ _ _ h => h) (Or.inl ⟨by rfl, ?_⟩) (by assumption) ?_
    rotate_left
    · (intro w hSw; (try dsimp only at hSw); go_simp; try with_reducible rfl)
    try simp only [Act.put, List.setIfInBounds_toArray, List.set_cons_zero, List.set_cons_succ]
    refine wpAnyH_take (i := 2) (oi := { dst := some 99, op := Op.move (Operand.tmp 98), type := 4, pos := "law.go:84", after := #[{ on := 1, ground := Ground.data }, { on := 0, ground := Ground.chain }], guard := none }) (v := ?_) rfl (by kernel_rfl) (by kernel_rfl) (by kernel_rfl) (fun _ _ _ h => h) (Or.inl ⟨by rfl, ?_⟩) (by assumption) ?_
    rotate_left
    · (intro w hSw; (try dsimp only at hSw); go_simp; try with_reducible rfl)
    try simp only [Act.put, List.setIfInBounds_toArray, List.set_cons_zero, List.set_cons_succ]
    refine wpAnyH_ready (rs := [3]) (by kernel_rfl) (by simp) ?_
    refine AllReadyH.cons (o := { dst := some 100, op := Op.call { callee := Callee.value (Operand.func 14), args := #[Operand.const Value.nilIface], argTypes := #[28] }, type := 3, pos := "law.go:84", after := #[{ on := 2, ground := Ground.chain }, { on := 2, ground := Ground.guard }], guard := some (2, true) }) rfl (fun K' hS' => ?_) AllReadyH.nil
    go_simp
    go_at_call 14; (with_reducible refine (nK _).mono ?_); rintro e wk ⟨rfl, hbq⟩; have hBq : Below w8.heap.size w8 wk := Below.trans hcur (hbq.mono hcur.size); clear hcur; have hcur := hBq; clear hBq hbq
    (try go_wp2_with fail)
    refine hS'.out _ _ (HKS.out _ hcur) (fun hHeld => ?_)
    clear hS' K'
    try simp only [Act.put, List.setIfInBounds_toArray, List.set_cons_zero, List.set_cons_succ]
    refine wpAnyH_take (i := 4) (oi := { dst := some 101, op := Op.binOp BinOp.eql 3 (Operand.tmp 100) (Operand.const (Value.int IntKind.i64 3)) 3, type := 4, pos := "law.go:84", after := #[{ on := 3, ground := Ground.data }, { on := 2, ground := Ground.guard }], guard := some (2, true) }) (v := ?_) rfl (by kernel_rfl) (by kernel_rfl) (by kernel_rfl) (fun _ _ _ h => h) (Or.inl ⟨by rfl, ?_⟩) (by assumption) ?_
    rotate_left
    · (intro w hSw; (try dsimp only at hSw); go_simp; try with_reducible rfl)
    try simp only [Act.put, List.setIfInBounds_toArray, List.set_cons_zero, List.set_cons_succ]
    refine wpAnyH_take (i := 5) (oi := { dst := some 102, op := Op.pick (Operand.tmp 99) (Operand.tmp 101) (Operand.const (Value.bool false)), type := 4, pos := "law.go:84", after := #[{ on := 2, ground := Ground.data }, { on := 4, ground := Ground.data }], guard := none }) (v := ?_) rfl (by kernel_rfl) (by kernel_rfl) (by kernel_rfl) (fun _ _ _ h => h) (Or.inl ⟨by rfl, ?_⟩) (by assumption) ?_
    rotate_left
    · (intro w hSw; (try dsimp only at hSw); go_simp; try with_reducible rfl)
    try simp only [Act.put, List.setIfInBounds_toArray, List.set_cons_zero, List.set_cons_succ]
    refine wpAnyH_take (i := 6) (oi := { dst := some 103, op := Op.move (Operand.tmp 102), type := 4, pos := "law.go:84", after := #[{ on := 5, ground := Ground.data }, { on := 3, ground := Ground.chain }], guard := none }) (v := ?_) rfl (by kernel_rfl) (by kernel_rfl) (by kernel_rfl) (fun _ _ _ h => h) (Or.inl ⟨by rfl, ?_⟩) (by assumption) ?_
    rotate_left
    · (intro w hSw; (try dsimp only at hSw); go_simp; try with_reducible rfl)
    try simp only [Act.put, List.setIfInBounds_toArray, List.set_cons_zero, List.set_cons_succ]
    refine wpAnyH_take (i := 7) (oi := { dst := some 104, op := Op.fieldAddr 23 (Operand.tmp 3) 0, type := 0, pos := "law.go:84", after := #[{ on := 6, ground := Ground.guard }], guard := some (6, true) }) (v := ?_) rfl (by kernel_rfl) (by kernel_rfl) (by kernel_rfl) (fun _ _ _ h => h) (Or.inl ⟨by rfl, ?_⟩) (by assumption) ?_
    rotate_left
    · (intro w hSw; (try dsimp only at hSw); go_simp; try with_reducible rfl)
    try simp only [Act.put, List.setIfInBounds_toArray, List.set_cons_zero, List.set_cons_succ]
    refine wpAnyH_take (i := 8) (oi := { dst := some 105, op := Op.load 3 (Operand.tmp 104), type := 3, pos := "law.go:84", after := #[{ on := 7, ground := Ground.data }, { on := 6, ground := Ground.guard }], guard := some (6, true) }) (v := ?_) rfl (by kernel_rfl) (by kernel_rfl) (by kernel_rfl) (fun _ _ _ h => h) (Or.inl ⟨by rfl, ?_⟩) (by assumption) ?_
    rotate_left
    · (intro w hSw; (try dsimp only at hSw); go_simp; try with_reducible rfl)
    try simp only [Act.put, List.setIfInBounds_toArray, List.set_cons_zero, List.set_cons_succ]
    refine wpAnyH_take (i := 9) (oi := { dst := some 106, op := Op.binOp BinOp.neq 3 (Operand.tmp 105) (Operand.const (Value.int IntKind.i64 1)) 3, type := 4, pos := "law.go:84", after := #[{ on := 8, ground := Ground.data }, { on := 6, ground := Ground.guard }], guard := some (6, true) }) (v := ?_) rfl (by kernel_rfl) (by kernel_rfl) (by kernel_rfl) (fun _ _ _ h => h) (Or.inl ⟨by rfl, ?_⟩) (by assumption) ?_
    rotate_left
    · (intro w hSw; (try dsimp only at hSw); go_simp; try with_reducible rfl)
    try simp only [Act.put, List.setIfInBounds_toArray, List.set_cons_zero, List.set_cons_succ]
    refine wpAnyH_take (i := 10) (oi := { dst := some 107, op := Op.move (Operand.tmp 106), type := 4, pos := "law.go:84", after := #[{ on := 9, ground := Ground.data }, { on := 6, ground := Ground.chain }, { on := 6, ground := Ground.guard }], guard := some (6, true) }) (v := ?_) rfl (by kernel_rfl) (by kernel_rfl) (by kernel_rfl) (fun _ _ _ h => h) (Or.inl ⟨by rfl, ?_⟩) (by assumption) ?_
    rotate_left
    · (intro w hSw; (try dsimp only at hSw); go_simp; try with_reducible rfl)
    try simp only [Act.put, List.setIfInBounds_toArray, List.set_cons_zero, List.set_cons_succ]
    refine wpAnyH_take (i := 11) (oi := { dst := some 108, op := Op.move (Operand.tmp 4), type := 28, pos := "law.go:84", after := #[{ on := 10, ground := Ground.guard }], guard := some (10, false) }) (v := undef) rfl (by kernel_rfl) (by kernel_rfl) (by kernel_rfl) (fun _ _ _ h => h) (Or.inr ⟨by rfl, rfl⟩) (by assumption) ?_
    try simp only [Act.put, List.setIfInBounds_toArray, List.set_cons_zero, List.set_cons_succ]
    refine wpAnyH_take (i := 12) (oi := { dst := some 109, op := Op.call { callee := Callee.value (Operand.func 19), args := #[Operand.tmp 108], argTypes := #[28] }, type := 50, pos := "law.go:84", after := #[{ on := 11, ground := Ground.data }, { on := 10, ground := Ground.chain }, { on := 10, ground := Ground.guard }], guard := some (10, false) }) (v := undef) rfl (by kernel_rfl) (by kernel_rfl) (by kernel_rfl) (fun _ _ _ h => h) (Or.inr ⟨by rfl, rfl⟩) (by assumption) ?_
    try simp only [Act.put, List.setIfInBounds_toArray, List.set_cons_zero, List.set_cons_succ]
    refine wpAnyH_take (i := 13) (oi := { dst := some 110, op := Op.field 50 (Operand.tmp 109) 0, type := 9, pos := "law.go:84", after := #[{ on := 12, ground := Ground.data }, { on := 10, ground := Ground.guard }], guard := some (10, false) }) (v := undef) rfl (by kernel_rfl) (by kernel_rfl) (by kernel_rfl) (fun _ _ _ h => h) (Or.inr ⟨by rfl, rfl⟩) (by assumption) ?_
    try simp only [Act.put, List.setIfInBounds_toArray, List.set_cons_zero, List.set_cons_succ]
    refine wpAnyH_take (i := 14) (oi := { dst := some 111, op := Op.fieldAddr 23 (Operand.tmp 3) 1, type := 0, pos := "law.go:84", after := #[{ on := 10, ground := Ground.guard }], guard := some (10, false) }) (v := undef) rfl (by kernel_rfl) (by kernel_rfl) (by kernel_rfl) (fun _ _ _ h => h) (Or.inr ⟨by rfl, rfl⟩) (by assumption) ?_
    try simp only [Act.put, List.setIfInBounds_toArray, List.set_cons_zero, List.set_cons_succ]
    refine wpAnyH_take (i := 15) (oi := { dst := some 112, op := Op.load 9 (Operand.tmp 111), type := 9, pos := "law.go:84", after := #[{ on := 14, ground := Ground.data }, { on := 10, ground := Ground.guard }], guard := some (10, false) }) (v := undef) rfl (by kernel_rfl) (by kernel_rfl) (by kernel_rfl) (fun _ _ _ h => h) (Or.inr ⟨by rfl, rfl⟩) (by assumption) ?_
    try simp only [Act.put, List.setIfInBounds_toArray, List.set_cons_zero, List.set_cons_succ]
    refine wpAnyH_take (i := 16) (oi := { dst := some 113, op := Op.binOp BinOp.eql 9 (Operand.tmp 110) (Operand.tmp 112) 9, type := 4, pos := "law.go:84", after := #[{ on := 13, ground := Ground.data }, { on := 15, ground := Ground.data }, { on := 10, ground := Ground.guard }], guard := some (10, false) }) (v := undef) rfl (by kernel_rfl) (by kernel_rfl) (by kernel_rfl) (fun _ _ _ h => h) (Or.inr ⟨by rfl, rfl⟩) (by assumption) ?_
    try simp only [Act.put, List.setIfInBounds_toArray, List.set_cons_zero, List.set_cons_succ]
    refine wpAnyH_take (i := 17) (oi := { dst := some 114, op := Op.pick (Operand.tmp 107) (Operand.const (Value.bool true)) (Operand.tmp 113), type := 4, pos := "law.go:84", after := #[{ on := 10, ground := Ground.data }, { on := 16, ground := Ground.data }, { on := 6, ground := Ground.guard }], guard := some (6, true) }) (v := ?_) rfl (by kernel_rfl) (by kernel_rfl) (by kernel_rfl) (fun _ _ _ h => h) (Or.inl ⟨by rfl, ?_⟩) (by assumption) ?_
    rotate_left
    · (intro w hSw; (try dsimp only at hSw); go_simp; try with_reducible rfl)
    try simp only [Act.put, List.setIfInBounds_toArray, List.set_cons_zero, List.set_cons_succ]
    refine wpAnyH_take (i := 18) (oi := { dst := some 115, op := Op.pick (Operand.tmp 103) (Operand.tmp 114) (Operand.const (Value.bool false)), type := 4, pos := "law.go:84", after := #[{ on := 6, ground := Ground.data }, { on := 17, ground := Ground.data }], guard := none }) (v := ?_) rfl (by kernel_rfl) (by kernel_rfl) (by kernel_rfl) (fun _ _ _ h => h) (Or.inl ⟨by rfl, ?_⟩) (by assumption) ?_
    rotate_left
    · (intro w hSw; (try dsimp only at hSw); go_simp; try with_reducible rfl)
    try simp only [Act.put, List.setIfInBounds_toArray, List.set_cons_zero, List.set_cons_succ]
    refine wpAnyH_take (i := 19) (oi := { dst := some 2, op := Op.assign (Operand.tmp 115), type := 4, pos := "law.go:84", after := #[{ on := 18, ground := Ground.data }, { on := 12, ground := Ground.chain }, { on := 0, ground := Ground.phase }, { on := 1, ground := Ground.phase }, { on := 2, ground := Ground.phase }, { on := 3, ground := Ground.phase }, { on := 4, ground := Ground.phase }, { on := 5, ground := Ground.phase }, { on := 6, ground := Ground.phase }, { on := 7, ground := Ground.phase }, { on := 8, ground := Ground.phase }, { on := 9, ground := Ground.phase }, { on := 10, ground := Ground.phase }, { on := 11, ground := Ground.phase }, { on := 12, ground := Ground.phase }, { on := 13, ground := Ground.phase }, { on := 14, ground := Ground.phase }, { on := 15, ground := Ground.phase }, { on := 16, ground := Ground.phase }, { on := 17, ground := Ground.phase }, { on := 18, ground := Ground.phase }], guard := none }) (v := ?_) rfl (by kernel_rfl) (by kernel_rfl) (by kernel_rfl) (fun _ _ _ h => h) (Or.inl ⟨by rfl, ?_⟩) (by assumption) ?_
    rotate_left
    · (intro w hSw; (try dsimp only at hSw); go_simp; try with_reducible rfl)
    try simp only [Act.put, List.setIfInBounds_toArray, List.set_cons_zero, List.set_cons_succ]
    refine wpAnyH_done (by kernel_rfl) ?_ _
    refine NoPanic.normal ?_
    go_wp2
    go_ret
    exact ⟨rfl, HBW.out.trans (hcur.mono HBW.out.size)⟩
end Go.Proofs.YtaoelnfflkkeeaaGreatDoor
