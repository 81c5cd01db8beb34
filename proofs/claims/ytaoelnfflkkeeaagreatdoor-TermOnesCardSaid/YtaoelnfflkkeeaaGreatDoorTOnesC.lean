/-
  TermOnes: the walk. (Out of tones.py.)
-/
import Derived.Test.YtaoelnfflkkeeaaGreatDoorTOnesA
import Derived.Test.YtaoelnfflkkeeaaGreatDoorNGood
import Derived.Test.YtaoelnfflkkeeaaGreatDoorTAwake
import Derived.Test.YtaoelnfflkkeeaaGreatDoorTTerm
import Derived.Test.YtaoelnfflkkeeaaGreatDoorTMustA
import Derived.Deep.RegionHeld3
import Derived.BigQuiet
import Derived.Deep.QuietTactic
namespace Go.Proofs.YtaoelnfflkkeeaaGreatDoor
open Go.RowKit
set_option linter.unusedVariables false
set_option linter.unusedSimpArgs false

set_option maxRecDepth 100000 in
set_option maxHeartbeats 32000000 in
theorem ones_yes (k : Int) (hk : -9223372036854775808 ≤ k ∧ k ≤ 9223372036854775807) (a b c : ByteArray) (h : shortB a b c = true) (hu : (asI (tmOf k a b c)).2 = 0) (hq : ¬ (tmOf k a b c).kind = 1) (w : World) (hv : LV w) : Calls Tryz.prog 3 #[F4 k a b c] w fun e w' => e = .returned (.bool true) ∧ Below w.heap.size w w' := by
  obtain ⟨W0, hW0⟩ : ∃ W0, W0 = w.alloc (.cells #[.int .i64 k, .string a, .string b, .string c] 23) := ⟨_, rfl⟩
  have hb0 : Below w.heap.size w W0 := by rw [hW0]; exact (Below.refl _ _).alloc (Nat.le_refl _) _
  have hf : Fb W0 w.heap.size 23 #[.int .i64 k, .string a, .string b, .string c] := by rw [hW0]; exact Fb.new _ _ _
  obtain ⟨hfew, hla⟩ := tmOf_few k a b c h
  have s1 := fun W => short_any k a b c W
  rw [h] at s1
  have pl := plainT_any k hk a b c
  have rl := realT_any k a b c
  obtain ⟨t, htt⟩ : ∃ t, t = tmOf k a b c := ⟨_, rfl⟩
  rw [← htt] at hu pl rl hfew hla hq
  clear htt
  have cA := fun (W : World) (hb : Below w.heap.size w W) => awake_ok W (hv.below hb)
  have cI := fun (W : World) (hb : Below w.heap.size w W) => asInt_any t (by omega) W (hv.below hb)
  have cB := asBool_any t
  have dB := rasBool_any t
  have dI := fun W => rasInt_any t hla W
  have cG := goodT_any t hfew
  have dG := rgoodT_any t hfew
  have cK := kind_any t
  have cE := fun (W : World) (hb : Below w.heap.size w W) => eff_any t (by omega) W (hv.below hb)
  have dE := reff_any t hla
  have nG : ∀ W, Calls Tryz.prog 12 #[.nilIface] W fun e w' => e = .returned (.bool false) ∧ Below W.heap.size W w' := fun W => goodT_any .none ⟨by decide, by decide, by decide⟩ W
  have nK : ∀ W, Calls Tryz.prog 14 #[.nilIface] W fun e w' => e = .returned (.int .i64 3) ∧ Below W.heap.size W w' := fun W => kind_any .none W
  have hfit := asI_fit t
  have hle := eff_le t
  have hdg := digs_fit hfit.1 hfit.2
  unfold RaPost at dI
  simp only [if_pos hu] at dI
  rw [hu] at cI
  obtain ⟨v, hvv⟩ : ∃ v, v = t.val := ⟨_, rfl⟩
  obtain ⟨q, hqq⟩ : ∃ v, v = t.kind := ⟨_, rfl⟩
  obtain ⟨ta, hta⟩ : ∃ v, v = t.ta := ⟨_, rfl⟩
  obtain ⟨tb, htb⟩ : ∃ v, v = t.tb := ⟨_, rfl⟩
  obtain ⟨tc, htc⟩ : ∃ v, v = t.tc := ⟨_, rfl⟩
  obtain ⟨g, hg⟩ : ∃ v, v = goodT t := ⟨_, rfl⟩
  obtain ⟨ef, hef⟩ : ∃ v, v = eff t := ⟨_, rfl⟩
  obtain ⟨y, hy⟩ : ∃ v, v = (asB t).1 := ⟨_, rfl⟩
  obtain ⟨x, hx⟩ : ∃ v, v = (asB t).2 := ⟨_, rfl⟩
  have h4 : T4 t = F4 q ta tb tc := by rw [hqq, hta, htb, htc]
  rw [h4] at pl rl dB dG dE
  simp only [h4] at dI
  rw [← hvv] at rl cB cG cK
  simp only [← hvv] at cI cE
  rw [← hg] at cG dG
  rw [← hqq] at cK
  simp only [← hef] at cE dE
  rw [← hef] at hle
  have hwe : IntKind.i64.wrap ef = ef := IntWalk.i64_in _ (by omega)
  have HWE := Lib.hid hwe
  clear hwe hle
  rw [← hy, ← hx] at cB dB
  rw [← hqq] at hq
  have hq2 : (q == 1) = false := by rw [beq_eq_false_iff_ne]; exact hq
  have hq3 : (q != 1) = true := by rw [bne, hq2]; rfl
  obtain ⟨z, hzz⟩ : ∃ v, v = (asI t).1 := ⟨_, rfl⟩
  simp only [← hzz] at cI dI hfit hdg
  have cO := of_big z hfit
  have HB0 := Lib.hid hb0
  have HF := Lib.hid hf
  have HW0 := Lib.hid hW0
  have HDG := Lib.hid hdg
  clear hv hvv hqq hta htb htc hg hef hy hx h4 hfew hla hfit h hk hb0 hf hzz hdg hu hW0
  go_enter Tryz.func3, Tryz.ntmps3
  go_upto_region 1 with (fail)
  rw [← HW0.out]
  go_upto_region 4 with (first
    | (go_at_call 4; (with_reducible refine (cA _ HB0.out).mono ?_); rintro e w1 ⟨rfl, hb1⟩; have h1 := HF.out.below hb1; have x0 := h1.cell 0; have x1 := h1.cell 1; have x2 := h1.cell 2; have x3 := h1.cell 3; have HF1 := Lib.hid h1; have HB1 := Lib.hid (HB0.out.trans (hb1.mono HB0.out.size)); clear h1 hb1)
    | (go_at_call 5; (with_reducible refine (s1 _).mono ?_); rintro e w2 ⟨rfl, hb2⟩; have h1 := HF1.out.below hb2; have y0 := h1.cell 0; have y1 := h1.cell 1; have y2 := h1.cell 2; have y3 := h1.cell 3; have HB2 := Lib.hid (HB1.out.trans (hb2.mono HB1.out.size)); clear h1 hb2)
    | (go_at_call 6; (with_reducible refine (pl _).mono ?_); rintro e w3 ⟨rfl, hb3⟩; have HB3 := Lib.hid (HB2.out.trans (hb3.mono HB2.out.size)); clear hb3))
  clear x0 x1 x2 x3 y0 y1 y2 y3
  obtain ⟨gT, hgT⟩ : ∃ g, g = w3.heap.size := ⟨_, rfl⟩
  obtain ⟨W3, hW3⟩ : ∃ W3, W3 = w3.alloc (.cells #[.int .i64 q, .string ta, .string tb, .string tc] 23) := ⟨_, rfl⟩
  rw [← hW3, ← hgT]
  have HT := Lib.hid (show Fb W3 gT 23 #[.int .i64 q, .string ta, .string tb, .string tc] from by rw [hW3, hgT]; exact Fb.new _ _ _)
  have HBT := Lib.hid (show Below w.heap.size w W3 from by rw [hW3]; exact HB3.out.alloc HB3.out.size _)
  clear hgT hW3
  have x0 := HT.out.cell 0
  have x1 := HT.out.cell 1
  have x2 := HT.out.cell 2
  have x3 := HT.out.cell 3
  go_upto_region 8 with (first
    | (go_at_call 7; (with_reducible refine (rl _).mono ?_); rintro e w4 ⟨rfl, hb4⟩; have HC4 := Lib.hid hb4; clear hb4)
    | (go_at_call 8; (with_reducible refine (cI _ (HBT.out.trans (HC4.out.mono HBT.out.size))).mono ?_); rintro e w5 ⟨rfl, hb5⟩; have HC5 := Lib.hid (HC4.out.trans (hb5.mono HC4.out.size)); clear hb5)
    | (go_at_call 9; (with_reducible refine (cB _).mono ?_); rintro e w6 ⟨rfl, hb6⟩; have HC6 := Lib.hid (HC5.out.trans (hb6.mono HC5.out.size)); have y0 := (HT.out.below HC6.out).cell 0; have y1 := (HT.out.below HC6.out).cell 1; have y2 := (HT.out.below HC6.out).cell 2; have y3 := (HT.out.below HC6.out).cell 3; clear hb6)
    | (go_at_call 10; (with_reducible refine (dI _).mono ?_); rintro e w7 ⟨vb, rfl, hV7, hb7⟩; have HV7 := Lib.hid hV7; obtain ⟨Ab, cb, rfl, _, _⟩ := hV7; have HC7 := Lib.hid (HC6.out.trans (hb7.mono HC6.out.size)); clear hb7))
  obtain ⟨gB, hgB⟩ : ∃ g, g = w7.heap.size := ⟨_, rfl⟩
  obtain ⟨W7, hW7⟩ : ∃ W7, W7 = w7.alloc (.cells #[.bool (decide (z < 0)), .slice Ab (digs z.natAbs).length cb] 37) := ⟨_, rfl⟩
  rw [← hW7, ← hgB]
  have HC8 := Lib.hid (show Below W3.heap.size W3 W7 from by rw [hW7]; exact HC7.out.alloc HC7.out.size _)
  have HG7 := Lib.hid (show Fb W7 gB 37 #[.bool (decide (z < 0)), .slice Ab (digs z.natAbs).length cb] from by rw [hW7, hgB]; exact Fb.new _ _ _)
  have HV8 := Lib.hid (show BigV W7 (.agg #[.bool (decide (z < 0)), .slice Ab (digs z.natAbs).length cb]) z from by rw [hW7]; exact HV7.out.below ((Below.refl _ _).alloc (Nat.le_refl _) _))
  clear hgB hW7 x0 x1 x2 x3 y0 y1 y2 y3
  have x0 := (HT.out.below HC8.out).cell 0
  have x1 := (HT.out.below HC8.out).cell 1
  have x2 := (HT.out.below HC8.out).cell 2
  have x3 := (HT.out.below HC8.out).cell 3
  go_upto_region 9 with (go_at_call 11; (with_reducible refine (dB _).mono ?_); rintro e w8 ⟨rfl, hb8⟩; have HC9 := Lib.hid (HC8.out.trans (hb8.mono HC8.out.size)); have HD8 := Lib.hid hb8; clear hb8)
  clear x0 x1 x2 x3
  have hBW : Below w.heap.size w w8 := HBT.out.trans (HC9.out.mono HBT.out.size)
  have hK : ∀ W, Below w8.heap.size w8 W → W.cell? ⟨gT, 0, none⟩ = some (.int .i64 q) ∧ W.cell? ⟨gT, 1, none⟩ = some (.string ta) ∧ W.cell? ⟨gT, 2, none⟩ = some (.string tb) ∧ W.cell? ⟨gT, 3, none⟩ = some (.string tc) := fun W hb => by
    have := (HT.out.below HC9.out).below hb
    exact ⟨this.cell 0, this.cell 1, this.cell 2, this.cell 3⟩
  have HK := Lib.hid hK
  have HBW := Lib.hid hBW
  obtain ⟨x0, x1, x2, x3⟩ := hK _ (Below.refl _ _)
  clear hK hBW
  have cE2 := fun (W : World) (hb : Below w8.heap.size w8 W) => cE W (HBW.out.trans (hb.mono HBW.out.size))
  go_cut [79] from 45 (fun s79 W => s79 = .bool false ∧ Below w8.heap.size w8 W)
  case first =>
    go_region_held3 (fun W => W.cell? ⟨gT, 0, none⟩ = some (.int .i64 q) ∧ W.cell? ⟨gT, 1, none⟩ = some (.string ta) ∧ W.cell? ⟨gT, 2, none⟩ = some (.string tb) ∧ W.cell? ⟨gT, 3, none⟩ = some (.string tc))
      (first | (refine HK.out _ ?_; repeat (first | assumption | exact Below.refl _ _ | refine Below.drew ?_)))
      (first
        | (go_at_call 12; (with_reducible refine (cG _).mono ?_); rintro e wa ⟨rfl, hba⟩; have hBA : Below w8.heap.size w8 wa := Below.trans (by repeat (first | assumption | exact Below.refl _ _ | refine Below.drew ?_)) (hba.mono (by first | exact Nat.le_refl _ | (simp; done) | (have := hBB.size; simp; omega))))
        | (go_at_call 13; (with_reducible refine (dG _).mono ?_); rintro e wb ⟨rfl, hbb⟩; have hBB : Below w8.heap.size w8 wb := Below.trans (by repeat (first | assumption | exact Below.refl _ _ | refine Below.drew ?_)) (hbb.mono (by first | exact Nat.le_refl _ | (simp; done) | (have := hBA.size; simp; omega))))
        | (go_at_call 14; (with_reducible refine (cK _).mono ?_); rintro e wc ⟨rfl, hbc⟩; have hBC : Below w8.heap.size w8 wc := Below.trans (by repeat (first | assumption | exact Below.refl _ _ | refine Below.drew ?_)) (hbc.mono (by first | exact Nat.le_refl _ | (have := hBA.size; have := hBB.size; simp; omega))))
        | (go_at_call 15; (with_reducible refine (cE2 _ (by repeat (first | assumption | exact Below.refl _ _ | refine Below.drew ?_))).mono ?_); rintro e wd ⟨rfl, hbd⟩; have hBD : Below w8.heap.size w8 wd := Below.trans (by repeat (first | assumption | exact Below.refl _ _ | refine Below.drew ?_)) (hbd.mono (by first | exact Nat.le_refl _ | (have := hBC.size; simp; omega) | (have := hBE.size; simp; omega))))
        | (go_at_call 16; (with_reducible refine (dE _).mono ?_); rintro e we ⟨rfl, hbe⟩; have hBE : Below w8.heap.size w8 we := Below.trans (by repeat (first | assumption | exact Below.refl _ _ | refine Below.drew ?_)) (hbe.mono (by first | exact Nat.le_refl _ | (have := hBC.size; simp; omega) | (have := hBD.size; simp; omega)))))
    all_goals (go_wp2_with fail; go_meet)
    all_goals exact ⟨by first | rfl | (rw [HWE.out]; simp), (by repeat (first | assumption | exact Below.refl _ _ | refine Below.drew ?_))⟩
  case rest =>
    obtain ⟨rfl, hcut⟩ := hcut
    clear x0 x1 x2 x3
    obtain ⟨x0, x1, x2, x3⟩ := HK.out _ hcut
    have HCU := Lib.hid hcut
    have HV9 := Lib.hid (HV8.out.below HD8.out)
    have HG9 := Lib.hid (HG7.out.below HD8.out)
    have cSm : ∀ (W : World) (u v : Value), BigV W u z → BigV W v z → Calls Tryz.prog 17 #[u, v] W fun e w' => e = .returned (.bool true) ∧ Below W.heap.size W w' := fun W u v hu hv => by
      have := same_big z z HDG.out HDG.out u v W hu hv
      rw [decide_eq_true rfl] at this
      exact this
    have b0 := (HG9.out.below hcut).cell 0
    have b1 := (HG9.out.below hcut).cell 1
    go_upto_region 11 with (fail)
    go_cut [96] from 80 (fun s96 W => s96 = .bool false ∧ Below w8.heap.size w8 W)
    case first =>
      have HKS := Lib.hid (fun (W : World) (hb : Below w8.heap.size w8 W) => (⟨(HG9.out.below hb).cell 0, (HG9.out.below hb).cell 1, hb⟩ : (fun W => W.cell? ⟨gB, 0, none⟩ = some (.bool (decide (z < 0))) ∧ W.cell? ⟨gB, 1, none⟩ = some (.slice Ab (digs z.natAbs).length cb) ∧ Below w8.heap.size w8 W) W))
      have hcur := HCU.out
      refine wp_region_noPanic ?_
      refine wp_region_held_drew (S := (fun W => W.cell? ⟨gB, 0, none⟩ = some (.bool (decide (z < 0))) ∧ W.cell? ⟨gB, 1, none⟩ = some (.slice Ab (digs z.natAbs).length cb) ∧ Below w8.heap.size w8 W)) (by kernel_rfl) (HKS.out _ (Below.drew hcur)) (fun hHeld => ?_)
      replace hcur := Below.drew hcur
      refine wpAnyH_take (i := 0) (oi := { dst := some 80, op := Op.move (Operand.tmp 10), type := 3, pos := "law.go:81", after := #[], guard := none }) (v := ?_) rfl (by kernel_rfl) (by kernel_rfl) (by kernel_rfl) (fun _ _ _ h => h) (Or.inl ⟨by rfl, ?_⟩) (by assumption) ?_
      rotate_left
      · (intro w hSw; (try dsimp only at hSw); go_simp; try with_reducible rfl)
      try simp only [Act.put, List.setIfInBounds_toArray, List.set_cons_zero, List.set_cons_succ]
      refine wpAnyH_take (i := 1) (oi := { dst := some 81, op := Op.binOp BinOp.neq 3 (Operand.tmp 80) (Operand.const (Value.int IntKind.i64 0)) 3, type := 4, pos := "law.go:81", after := #[{ on := 0, ground := Ground.data }], guard := none }) (v := ?_) rfl (by kernel_rfl) (by kernel_rfl) (by kernel_rfl) (fun _ _ _ h => h) (Or.inl ⟨by rfl, ?_⟩) (by assumption) ?_
      rotate_left
      · (intro w hSw; (try dsimp only at hSw); go_simp; try with_reducible rfl)
      try simp only [Act.put, List.setIfInBounds_toArray, List.set_cons_zero, List.set_cons_succ]
      refine wpAnyH_take (i := 2) (oi := { dst := some 82, op := Op.move (Operand.tmp 81), type := 4, pos := "law.go:81", after := #[{ on := 1, ground := Ground.data }], guard := none }) (v := ?_) rfl (by kernel_rfl) (by kernel_rfl) (by kernel_rfl) (fun _ _ _ h => h) (Or.inl ⟨by rfl, ?_⟩) (by assumption) ?_
      rotate_left
      · (intro w hSw; (try dsimp only at hSw); go_simp; try with_reducible rfl)
      try simp only [Act.put, List.setIfInBounds_toArray, List.set_cons_zero, List.set_cons_succ]
      refine wpAnyH_take (i := 3) (oi := { dst := some 83, op := Op.move (Operand.tmp 5), type := 2, pos := "law.go:81", after := #[{ on := 2, ground := Ground.guard }], guard := some (2, true) }) (v := undef) rfl (by kernel_rfl) (by kernel_rfl) (by kernel_rfl) (fun _ _ _ h => h) (Or.inr ⟨by rfl, rfl⟩) (by assumption) ?_
      try simp only [Act.put, List.setIfInBounds_toArray, List.set_cons_zero, List.set_cons_succ]
      refine wpAnyH_take (i := 4) (oi := { dst := some 84, op := Op.binOp BinOp.neq 2 (Operand.tmp 83) (Operand.const (Value.int IntKind.i64 0)) 2, type := 4, pos := "law.go:81", after := #[{ on := 3, ground := Ground.data }, { on := 2, ground := Ground.guard }], guard := some (2, true) }) (v := undef) rfl (by kernel_rfl) (by kernel_rfl) (by kernel_rfl) (fun _ _ _ h => h) (Or.inr ⟨by rfl, rfl⟩) (by assumption) ?_
      try simp only [Act.put, List.setIfInBounds_toArray, List.set_cons_zero, List.set_cons_succ]
      refine wpAnyH_take (i := 5) (oi := { dst := some 85, op := Op.pick (Operand.tmp 82) (Operand.tmp 84) (Operand.const (Value.bool false)), type := 4, pos := "law.go:81", after := #[{ on := 2, ground := Ground.data }, { on := 4, ground := Ground.data }], guard := none }) (v := ?_) rfl (by kernel_rfl) (by kernel_rfl) (by kernel_rfl) (fun _ _ _ h => h) (Or.inl ⟨by rfl, ?_⟩) (by assumption) ?_
      rotate_left
      · (intro w hSw; (try dsimp only at hSw); go_simp; try with_reducible rfl)
      try simp only [Act.put, List.setIfInBounds_toArray, List.set_cons_zero, List.set_cons_succ]
      refine wpAnyH_take (i := 6) (oi := { dst := some 86, op := Op.move (Operand.tmp 85), type := 4, pos := "law.go:81", after := #[{ on := 5, ground := Ground.data }, { on := 2, ground := Ground.chain }], guard := none }) (v := ?_) rfl (by kernel_rfl) (by kernel_rfl) (by kernel_rfl) (fun _ _ _ h => h) (Or.inl ⟨by rfl, ?_⟩) (by assumption) ?_
      rotate_left
      · (intro w hSw; (try dsimp only at hSw); go_simp; try with_reducible rfl)
      try simp only [Act.put, List.setIfInBounds_toArray, List.set_cons_zero, List.set_cons_succ]
      refine wpAnyH_take (i := 7) (oi := { dst := some 87, op := Op.move (Operand.tmp 10), type := 3, pos := "law.go:81", after := #[{ on := 6, ground := Ground.guard }], guard := some (6, false) }) (v := ?_) rfl (by kernel_rfl) (by kernel_rfl) (by kernel_rfl) (fun _ _ _ h => h) (Or.inl ⟨by rfl, ?_⟩) (by assumption) ?_
      rotate_left
      · (intro w hSw; (try dsimp only at hSw); go_simp; try with_reducible rfl)
      try simp only [Act.put, List.setIfInBounds_toArray, List.set_cons_zero, List.set_cons_succ]
      refine wpAnyH_take (i := 8) (oi := { dst := some 88, op := Op.binOp BinOp.eql 3 (Operand.tmp 87) (Operand.const (Value.int IntKind.i64 0)) 3, type := 4, pos := "law.go:81", after := #[{ on := 7, ground := Ground.data }, { on := 6, ground := Ground.guard }], guard := some (6, false) }) (v := ?_) rfl (by kernel_rfl) (by kernel_rfl) (by kernel_rfl) (fun _ _ _ h => h) (Or.inl ⟨by rfl, ?_⟩) (by assumption) ?_
      rotate_left
      · (intro w hSw; (try dsimp only at hSw); go_simp; try with_reducible rfl)
      try simp only [Act.put, List.setIfInBounds_toArray, List.set_cons_zero, List.set_cons_succ]
      refine wpAnyH_take (i := 9) (oi := { dst := some 89, op := Op.move (Operand.tmp 88), type := 4, pos := "law.go:81", after := #[{ on := 8, ground := Ground.data }, { on := 6, ground := Ground.chain }, { on := 6, ground := Ground.guard }], guard := some (6, false) }) (v := ?_) rfl (by kernel_rfl) (by kernel_rfl) (by kernel_rfl) (fun _ _ _ h => h) (Or.inl ⟨by rfl, ?_⟩) (by assumption) ?_
      rotate_left
      · (intro w hSw; (try dsimp only at hSw); go_simp; try with_reducible rfl)
      try simp only [Act.put, List.setIfInBounds_toArray, List.set_cons_zero, List.set_cons_succ]
      refine wpAnyH_take (i := 10) (oi := { dst := some 90, op := Op.move (Operand.tmp 5), type := 2, pos := "law.go:81", after := #[{ on := 9, ground := Ground.guard }], guard := some (9, true) }) (v := ?_) rfl (by kernel_rfl) (by kernel_rfl) (by kernel_rfl) (fun _ _ _ h => h) (Or.inl ⟨by rfl, ?_⟩) (by assumption) ?_
      rotate_left
      · (intro w hSw; (try dsimp only at hSw); go_simp; try with_reducible rfl)
      try simp only [Act.put, List.setIfInBounds_toArray, List.set_cons_zero, List.set_cons_succ]
      refine wpAnyH_take (i := 12) (oi := { dst := some 92, op := Op.load 37 (Operand.tmp 9), type := 37, pos := "law.go:81", after := #[{ on := 9, ground := Ground.guard }], guard := some (9, true) }) (v := ?_) rfl (by kernel_rfl) (by kernel_rfl) (by kernel_rfl) (fun _ _ _ h => h) (Or.inl ⟨by rfl, ?_⟩) (by assumption) ?_
      rotate_left
      · (intro w hSw; (try dsimp only at hSw); go_simp; try with_reducible rfl)
      try simp only [Act.put, List.setIfInBounds_toArray, List.set_cons_zero, List.set_cons_succ]
      refine wpAnyH_ready (rs := [11]) (by kernel_rfl) (by simp) ?_
      refine AllReadyH.cons (o := { dst := some 91, op := Op.call { callee := Callee.value (Operand.func 18), args := #[Operand.tmp 90], argTypes := #[2] }, type := 37, pos := "law.go:81", after := #[{ on := 10, ground := Ground.data }, { on := 9, ground := Ground.chain }, { on := 9, ground := Ground.guard }], guard := some (9, true) }) rfl (fun K' hS' => ?_) AllReadyH.nil
      go_simp
      go_at_call 18; (with_reducible refine (cO _).mono ?_); rintro e wo ⟨vo, rfl, hVo, hbq⟩; have HVO := Lib.hid hVo; have hBq : Below w8.heap.size w8 wo := Below.trans hcur (hbq.mono hcur.size); clear hcur hVo; have hcur := hBq; clear hBq hbq
      (try go_wp2_with fail)
      refine hS'.out _ _ (HKS.out _ hcur) (fun hHeld => ?_)
      clear hS' K'
      try simp only [Act.put, List.setIfInBounds_toArray, List.set_cons_zero, List.set_cons_succ]
      refine wpAnyH_ready (rs := [13]) (by kernel_rfl) (by simp) ?_
      refine AllReadyH.cons (o := { dst := some 93, op := Op.call { callee := Callee.value (Operand.func 17), args := #[Operand.tmp 91, Operand.tmp 92], argTypes := #[37, 37] }, type := 4, pos := "law.go:81", after := #[{ on := 11, ground := Ground.data }, { on := 12, ground := Ground.data }, { on := 11, ground := Ground.chain }, { on := 9, ground := Ground.guard }], guard := some (9, true) }) rfl (fun K' hS' => ?_) AllReadyH.nil
      go_simp
      go_at_call 17; (with_reducible refine (cSm _ _ _ HVO.out (HV9.out.below hcur)).mono ?_); rintro e ws ⟨rfl, hbq⟩; have hBq : Below w8.heap.size w8 ws := Below.trans hcur (hbq.mono hcur.size); clear hcur; have hcur := hBq; clear hBq hbq
      (try go_wp2_with fail)
      refine hS'.out _ _ (HKS.out _ hcur) (fun hHeld => ?_)
      clear hS' K'
      try simp only [Act.put, List.setIfInBounds_toArray, List.set_cons_zero, List.set_cons_succ]
      refine wpAnyH_take (i := 14) (oi := { dst := some 94, op := Op.unOp UnOp.not 4 (Operand.tmp 93), type := 4, pos := "law.go:81", after := #[{ on := 13, ground := Ground.data }, { on := 9, ground := Ground.guard }], guard := some (9, true) }) (v := ?_) rfl (by kernel_rfl) (by kernel_rfl) (by kernel_rfl) (fun _ _ _ h => h) (Or.inl ⟨by rfl, ?_⟩) (by assumption) ?_
      rotate_left
      · (intro w hSw; (try dsimp only at hSw); go_simp; try with_reducible rfl)
      try simp only [Act.put, List.setIfInBounds_toArray, List.set_cons_zero, List.set_cons_succ]
      refine wpAnyH_take (i := 15) (oi := { dst := some 95, op := Op.pick (Operand.tmp 89) (Operand.tmp 94) (Operand.const (Value.bool false)), type := 4, pos := "law.go:81", after := #[{ on := 9, ground := Ground.data }, { on := 14, ground := Ground.data }, { on := 6, ground := Ground.guard }], guard := some (6, false) }) (v := ?_) rfl (by kernel_rfl) (by kernel_rfl) (by kernel_rfl) (fun _ _ _ h => h) (Or.inl ⟨by rfl, ?_⟩) (by assumption) ?_
      rotate_left
      · (intro w hSw; (try dsimp only at hSw); go_simp; try with_reducible rfl)
      try simp only [Act.put, List.setIfInBounds_toArray, List.set_cons_zero, List.set_cons_succ]
      refine wpAnyH_take (i := 16) (oi := { dst := some 96, op := Op.pick (Operand.tmp 86) (Operand.const (Value.bool true)) (Operand.tmp 95), type := 4, pos := "law.go:81", after := #[{ on := 6, ground := Ground.data }, { on := 15, ground := Ground.data }], guard := none }) (v := ?_) rfl (by kernel_rfl) (by kernel_rfl) (by kernel_rfl) (fun _ _ _ h => h) (Or.inl ⟨by rfl, ?_⟩) (by assumption) ?_
      rotate_left
      · (intro w hSw; (try dsimp only at hSw); go_simp; try with_reducible rfl)
      try simp only [Act.put, List.setIfInBounds_toArray, List.set_cons_zero, List.set_cons_succ]
      refine wpAnyH_done (by kernel_rfl) ?_ _
      refine NoPanic.normal ?_
      go_wp2_with fail
      go_meet
      exact ⟨rfl, hcur⟩
    case rest =>
      obtain ⟨rfl, hcut9⟩ := hcut
      have HB9 := Lib.hid hcut9
      clear hcut9 b0 b1
      go_upto_region 13 with (fail)
      have HKS := Lib.hid (fun (W : World) (hb : Below w8.heap.size w8 W) => (⟨(HK.out _ hb).1, (HK.out _ hb).2.1, (HK.out _ hb).2.2.1, (HK.out _ hb).2.2.2, hb⟩ : (fun W => W.cell? ⟨gT, 0, none⟩ = some (.int .i64 q) ∧ W.cell? ⟨gT, 1, none⟩ = some (.string ta) ∧ W.cell? ⟨gT, 2, none⟩ = some (.string tb) ∧ W.cell? ⟨gT, 3, none⟩ = some (.string tc) ∧ Below w8.heap.size w8 W) W))
      have hcur := HB9.out
      refine wp_region_noPanic ?_
      refine wp_region_held_drew (S := (fun W => W.cell? ⟨gT, 0, none⟩ = some (.int .i64 q) ∧ W.cell? ⟨gT, 1, none⟩ = some (.string ta) ∧ W.cell? ⟨gT, 2, none⟩ = some (.string tb) ∧ W.cell? ⟨gT, 3, none⟩ = some (.string tc) ∧ Below w8.heap.size w8 W)) (by kernel_rfl) (HKS.out _ (Below.drew hcur)) (fun hHeld => ?_)
      replace hcur := Below.drew hcur
      refine wpAnyH_ready (rs := [0]) (by kernel_rfl) (by simp) ?_
      refine AllReadyH.cons (o := { dst := some 97, op := Op.call { callee := Callee.value (Operand.func 12), args := #[Operand.const Value.nilIface], argTypes := #[28] }, type := 4, pos := "law.go:84", after := #[], guard := none }) rfl (fun K' hS' => ?_) AllReadyH.nil
      go_simp
      go_at_call 12; (with_reducible refine (nG _).mono ?_); rintro e wa ⟨rfl, hbq⟩; have hBq : Below w8.heap.size w8 wa := Below.trans hcur (hbq.mono hcur.size); clear hcur; have hcur := hBq; clear hBq hbq
      (try go_wp2_with fail)
      refine hS'.out _ _ (HKS.out _ hcur) (fun hHeld => ?_)
      clear hS' K'
      try simp only [Act.put, List.setIfInBounds_toArray, List.set_cons_zero, List.set_cons_succ]
      refine wpAnyH_take (i := 1) (oi := { dst := some 98, op := Op.unOp UnOp.not 4 (Operand.tmp 97), type := 4, pos := "law.go:84", after := #[{ on := 0, ground := Ground.data }], guard := none }) (v := ?_) rfl (by kernel_rfl) (by kernel_rfl) (by kernel_rfl) (fun _ _ _ h => h) (Or.inl ⟨by rfl, ?_⟩) (by assumption) ?_
      rotate_left
      · (intro w hSw; (try dsimp only at hSw); go_simp; try with_reducible rfl)
      try simp only [Act.put, List.setIfInBounds_toArray, List.set_cons_zero, List.set_cons_succ]
      refine wpAnyH_take (i := 2) (oi := { dst := some 99, op := Op.move (Operand.tmp 98), type := 4, pos := "law.go:84", after := #[{ on := 1, ground := Ground.data }, { on := 0, ground := Ground.chain }], guard := none }) (v := ?_) rfl (by kernel_rfl) (by kernel_rfl) (by kernel_rfl) (fun _ _ _ h => h) (Or.inl ⟨by rfl, ?_⟩) (by assumption) ?_
      rotate_left
      · (intro w hSw; (try dsimp only at hSw); go_simp; try with_reducible rfl)
      try simp only [Act.put, List.setIfInBounds_toArray, List.set_cons_zero, List.set_cons_succ]
      refine wpAnyH_ready (rs := [3]) (by kernel_rfl) (by simp) ?_
      refine AllReadyH.cons (o := { dst := some 100, op := Op.call { callee := Callee.value (Operand.func 14), args := #[Operand.const Value.nilIface], argTypes := #[28] }, type := 3, pos := "law.go:84", after := #[{ on := 2, ground := Ground.chain }, { on := 2, ground := Ground.guard }], guard := some (2, true) }) rfl (fun K' hS' => ?_) AllReadyH.nil
      go_simp
      go_at_call 14; (with_reducible refine (nK _).mono ?_); rintro e wk ⟨rfl, hbq⟩; have hBq : Below w8.heap.size w8 wk := Below.trans hcur (hbq.mono hcur.size); clear hcur; have hcur := hBq; clear hBq hbq
      (try go_wp2_with fail)
      refine hS'.out _ _ (HKS.out _ hcur) (fun hHeld => ?_)
      clear hS' K'
      try simp only [Act.put, List.setIfInBounds_toArray, List.set_cons_zero, List.set_cons_succ]
      refine wpAnyH_take (i := 4) (oi := { dst := some 101, op := Op.binOp BinOp.eql 3 (Operand.tmp 100) (Operand.const (Value.int IntKind.i64 3)) 3, type := 4, pos := "law.go:84", after := #[{ on := 3, ground := Ground.data }, { on := 2, ground := Ground.guard }], guard := some (2, true) }) (v := ?_) rfl (by kernel_rfl) (by kernel_rfl) (by kernel_rfl) (fun _ _ _ h => h) (Or.inl ⟨by rfl, ?_⟩) (by assumption) ?_
      rotate_left
      · (intro w hSw; (try dsimp only at hSw); go_simp; try with_reducible rfl)
      try simp only [Act.put, List.setIfInBounds_toArray, List.set_cons_zero, List.set_cons_succ]
      refine wpAnyH_take (i := 5) (oi := { dst := some 102, op := Op.pick (Operand.tmp 99) (Operand.tmp 101) (Operand.const (Value.bool false)), type := 4, pos := "law.go:84", after := #[{ on := 2, ground := Ground.data }, { on := 4, ground := Ground.data }], guard := none }) (v := ?_) rfl (by kernel_rfl) (by kernel_rfl) (by kernel_rfl) (fun _ _ _ h => h) (Or.inl ⟨by rfl, ?_⟩) (by assumption) ?_
      rotate_left
      · (intro w hSw; (try dsimp only at hSw); go_simp; try with_reducible rfl)
      try simp only [Act.put, List.setIfInBounds_toArray, List.set_cons_zero, List.set_cons_succ]
      refine wpAnyH_take (i := 6) (oi := { dst := some 103, op := Op.move (Operand.tmp 102), type := 4, pos := "law.go:84", after := #[{ on := 5, ground := Ground.data }, { on := 3, ground := Ground.chain }], guard := none }) (v := ?_) rfl (by kernel_rfl) (by kernel_rfl) (by kernel_rfl) (fun _ _ _ h => h) (Or.inl ⟨by rfl, ?_⟩) (by assumption) ?_
      rotate_left
      · (intro w hSw; (try dsimp only at hSw); go_simp; try with_reducible rfl)
      try simp only [Act.put, List.setIfInBounds_toArray, List.set_cons_zero, List.set_cons_succ]
      refine wpAnyH_take (i := 7) (oi := { dst := some 104, op := Op.fieldAddr 23 (Operand.tmp 3) 0, type := 0, pos := "law.go:84", after := #[{ on := 6, ground := Ground.guard }], guard := some (6, true) }) (v := ?_) rfl (by kernel_rfl) (by kernel_rfl) (by kernel_rfl) (fun _ _ _ h => h) (Or.inl ⟨by rfl, ?_⟩) (by assumption) ?_
      rotate_left
      · (intro w hSw; (try dsimp only at hSw); go_simp; try with_reducible rfl)
      try simp only [Act.put, List.setIfInBounds_toArray, List.set_cons_zero, List.set_cons_succ]
      refine wpAnyH_take (i := 8) (oi := { dst := some 105, op := Op.load 3 (Operand.tmp 104), type := 3, pos := "law.go:84", after := #[{ on := 7, ground := Ground.data }, { on := 6, ground := Ground.guard }], guard := some (6, true) }) (v := ?_) rfl (by kernel_rfl) (by kernel_rfl) (by kernel_rfl) (fun _ _ _ h => h) (Or.inl ⟨by rfl, ?_⟩) (by assumption) ?_
      rotate_left
      · (intro w hSw; (try dsimp only at hSw); go_simp; try with_reducible rfl)
      try simp only [Act.put, List.setIfInBounds_toArray, List.set_cons_zero, List.set_cons_succ]
      refine wpAnyH_take (i := 9) (oi := { dst := some 106, op := Op.binOp BinOp.neq 3 (Operand.tmp 105) (Operand.const (Value.int IntKind.i64 1)) 3, type := 4, pos := "law.go:84", after := #[{ on := 8, ground := Ground.data }, { on := 6, ground := Ground.guard }], guard := some (6, true) }) (v := ?_) rfl (by kernel_rfl) (by kernel_rfl) (by kernel_rfl) (fun _ _ _ h => h) (Or.inl ⟨by rfl, ?_⟩) (by assumption) ?_
      rotate_left
      · (intro w hSw; (try dsimp only at hSw); go_simp; try with_reducible rfl)
      try simp only [Act.put, List.setIfInBounds_toArray, List.set_cons_zero, List.set_cons_succ]
      refine wpAnyH_take (i := 10) (oi := { dst := some 107, op := Op.move (Operand.tmp 106), type := 4, pos := "law.go:84", after := #[{ on := 9, ground := Ground.data }, { on := 6, ground := Ground.chain }, { on := 6, ground := Ground.guard }], guard := some (6, true) }) (v := ?_) rfl (by kernel_rfl) (by kernel_rfl) (by kernel_rfl) (fun _ _ _ h => h) (Or.inl ⟨by rfl, ?_⟩) (by assumption) ?_
      rotate_left
      · (intro w hSw; (try dsimp only at hSw); go_simp; try with_reducible rfl)
      try simp only [Act.put, List.setIfInBounds_toArray, List.set_cons_zero, List.set_cons_succ]
      refine wpAnyH_take (i := 11) (oi := { dst := some 108, op := Op.move (Operand.tmp 4), type := 28, pos := "law.go:84", after := #[{ on := 10, ground := Ground.guard }], guard := some (10, false) }) (v := undef) rfl (by kernel_rfl) (by kernel_rfl) (by kernel_rfl) (fun _ _ _ h => h) (Or.inr ⟨by rfl, rfl⟩) (by assumption) ?_
      try simp only [Act.put, List.setIfInBounds_toArray, List.set_cons_zero, List.set_cons_succ]
      refine wpAnyH_take (i := 12) (oi := { dst := some 109, op := Op.call { callee := Callee.value (Operand.func 19), args := #[Operand.tmp 108], argTypes := #[28] }, type := 50, pos := "law.go:84", after := #[{ on := 11, ground := Ground.data }, { on := 10, ground := Ground.chain }, { on := 10, ground := Ground.guard }], guard := some (10, false) }) (v := undef) rfl (by kernel_rfl) (by kernel_rfl) (by kernel_rfl) (fun _ _ _ h => h) (Or.inr ⟨by rfl, rfl⟩) (by assumption) ?_
      try simp only [Act.put, List.setIfInBounds_toArray, List.set_cons_zero, List.set_cons_succ]
      refine wpAnyH_take (i := 13) (oi := { dst := some 110, op := Op.field 50 (Operand.tmp 109) 0, type := 9, pos := "law.go:84", after := #[{ on := 12, ground := Ground.data }, { on := 10, ground := Ground.guard }], guard := some (10, false) }) (v := undef) rfl (by kernel_rfl) (by kernel_rfl) (by kernel_rfl) (fun _ _ _ h => h) (Or.inr ⟨by rfl, rfl⟩) (by assumption) ?_
      try simp only [Act.put, List.setIfInBounds_toArray, List.set_cons_zero, List.set_cons_succ]
      refine wpAnyH_take (i := 14) (oi := { dst := some 111, op := Op.fieldAddr 23 (Operand.tmp 3) 1, type := 0, pos := "law.go:84", after := #[{ on := 10, ground := Ground.guard }], guard := some (10, false) }) (v := undef) rfl (by kernel_rfl) (by kernel_rfl) (by kernel_rfl) (fun _ _ _ h => h) (Or.inr ⟨by rfl, rfl⟩) (by assumption) ?_
      try simp only [Act.put, List.setIfInBounds_toArray, List.set_cons_zero, List.set_cons_succ]
      refine wpAnyH_take (i := 15) (oi := { dst := some 112, op := Op.load 9 (Operand.tmp 111), type := 9, pos := "law.go:84", after := #[{ on := 14, ground := Ground.data }, { on := 10, ground := Ground.guard }], guard := some (10, false) }) (v := undef) rfl (by kernel_rfl) (by kernel_rfl) (by kernel_rfl) (fun _ _ _ h => h) (Or.inr ⟨by rfl, rfl⟩) (by assumption) ?_
      try simp only [Act.put, List.setIfInBounds_toArray, List.set_cons_zero, List.set_cons_succ]
      refine wpAnyH_take (i := 16) (oi := { dst := some 113, op := Op.binOp BinOp.eql 9 (Operand.tmp 110) (Operand.tmp 112) 9, type := 4, pos := "law.go:84", after := #[{ on := 13, ground := Ground.data }, { on := 15, ground := Ground.data }, { on := 10, ground := Ground.guard }], guard := some (10, false) }) (v := undef) rfl (by kernel_rfl) (by kernel_rfl) (by kernel_rfl) (fun _ _ _ h => h) (Or.inr ⟨by rfl, rfl⟩) (by assumption) ?_
      try simp only [Act.put, List.setIfInBounds_toArray, List.set_cons_zero, List.set_cons_succ]
      refine wpAnyH_take (i := 17) (oi := { dst := some 114, op := Op.pick (Operand.tmp 107) (Operand.const (Value.bool true)) (Operand.tmp 113), type := 4, pos := "law.go:84", after := #[{ on := 10, ground := Ground.data }, { on := 16, ground := Ground.data }, { on := 6, ground := Ground.guard }], guard := some (6, true) }) (v := ?_) rfl (by kernel_rfl) (by kernel_rfl) (by kernel_rfl) (fun _ _ _ h => h) (Or.inl ⟨by rfl, ?_⟩) (by assumption) ?_
      rotate_left
      · (intro w hSw; (try dsimp only at hSw); go_simp; try with_reducible rfl)
      try simp only [Act.put, List.setIfInBounds_toArray, List.set_cons_zero, List.set_cons_succ]
      refine wpAnyH_take (i := 18) (oi := { dst := some 115, op := Op.pick (Operand.tmp 103) (Operand.tmp 114) (Operand.const (Value.bool false)), type := 4, pos := "law.go:84", after := #[{ on := 6, ground := Ground.data }, { on := 17, ground := Ground.data }], guard := none }) (v := ?_) rfl (by kernel_rfl) (by kernel_rfl) (by kernel_rfl) (fun _ _ _ h => h) (Or.inl ⟨by rfl, ?_⟩) (by assumption) ?_
      rotate_left
      · (intro w hSw; (try dsimp only at hSw); go_simp; try with_reducible rfl)
      try simp only [Act.put, List.setIfInBounds_toArray, List.set_cons_zero, List.set_cons_succ]
      refine wpAnyH_take (i := 19) (oi := { dst := some 2, op := Op.assign (Operand.tmp 115), type := 4, pos := "law.go:84", after := #[{ on := 18, ground := Ground.data }, { on := 12, ground := Ground.chain }, { on := 0, ground := Ground.phase }, { on := 1, ground := Ground.phase }, { on := 2, ground := Ground.phase }, { on := 3, ground := Ground.phase }, { on := 4, ground := Ground.phase }, { on := 5, ground := Ground.phase }, { on := 6, ground := Ground.phase }, { on := 7, ground := Ground.phase }, { on := 8, ground := Ground.phase }, { on := 9, ground := Ground.phase }, { on := 10, ground := Ground.phase }, { on := 11, ground := Ground.phase }, { on := 12, ground := Ground.phase }, { on := 13, ground := Ground.phase }, { on := 14, ground := Ground.phase }, { on := 15, ground := Ground.phase }, { on := 16, ground := Ground.phase }, { on := 17, ground := Ground.phase }, { on := 18, ground := Ground.phase }], guard := none }) (v := ?_) rfl (by kernel_rfl) (by kernel_rfl) (by kernel_rfl) (fun _ _ _ h => h) (Or.inl ⟨by rfl, ?_⟩) (by assumption) ?_
      rotate_left
      · (intro w hSw; (try dsimp only at hSw); go_simp; try with_reducible rfl)
      try simp only [Act.put, List.setIfInBounds_toArray, List.set_cons_zero, List.set_cons_succ]
      refine wpAnyH_done (by kernel_rfl) ?_ _
      refine NoPanic.normal ?_
      go_wp2
      go_ret
      exact ⟨rfl, HBW.out.trans (hcur.mono HBW.out.size)⟩
end Go.Proofs.YtaoelnfflkkeeaaGreatDoor
