/-
  TermOrders: terms that are short. (Out of tordu.py.)
-/
import Derived.Test.YtbecjlmbalcgeaaDoorTOrdSc
import Derived.Test.YtbecjlmbalcgeaaDoorTRefC
import Derived.Test.YtbecjlmbalcgeaaDoorTOrdQ
import Derived.Deep.CutBlock
namespace Go.Proofs.YtbecjlmbalcgeaaDoor
open Go.RowKit
set_option linter.unusedVariables false
set_option linter.unusedSimpArgs false

theorem tmOf_size2 (k : Int) (a b c : ByteArray) (h : a.size ≤ 5000) : (tmOf k a b c).la.size ≤ 5000 := by
  rcases tmOf_la k a b c with e | e
  · rw [e]; exact h
  · rw [e]; decide
theorem short_size {x y z : ByteArray} (h : shortB x y z = true) : x.size ≤ 5000 := by
  unfold shortB at h
  rw [Bool.and_eq_true] at h
  exact of_decide_eq_true h.1
theorem eqv_small (x y : Tm) : 0 ≤ eqv x y ∧ eqv x y ≤ 2 := by
  have ht : ∀ b e, 0 ≤ tru b e ∧ tru b e ≤ 2 := fun b e => by
    unfold tru
    repeat' split
    all_goals omega
  unfold eqv
  repeat' split
  all_goals first | omega | (unfold eqI; exact ht _ _) | (unfold eqB; exact ht _ _)
theorem kd_lt (t : Tm) (h : t.kind ≠ 3) : t.kind < 3 := by cases t <;> simp_all [Tm.kind]
set_option maxRecDepth 100000 in
set_option maxHeartbeats 64000000 in
theorem orders_short (k : Int) (a b c : ByteArray) (k' : Int) (a' b' c' : ByteArray) (k'' : Int) (a'' b'' c'' : ByteArray) (hk : -9223372036854775808 ≤ k ∧ k ≤ 9223372036854775807) (hk' : -9223372036854775808 ≤ k' ∧ k' ≤ 9223372036854775807) (hk'' : -9223372036854775808 ≤ k'' ∧ k'' ≤ 9223372036854775807)
    (h1 : shortB a b c = true) (h2 : shortB a' b' c' = true) (h3 : shortB a'' b'' c'' = true) (w : World) (hv : LV w) :
    Calls Tryd.prog 3 #[F4 k a b c, F4 k' a' b' c', F4 k'' a'' b'' c''] w fun e w' => e = .returned (.bool true) ∧ Below w.heap.size w w' := by
  have hS := Tx3.mk w (R4 k a b c) (R4 k' a' b' c') (R4 k'' a'' b'' c'')
  have cA : ∀ {W : World}, Tx3 w (R4 k a b c) (R4 k' a' b' c') (R4 k'' a'' b'' c'') W → Calls Tryd.prog 4 #[] W fun e w' => e = .returned (.bool true) ∧ Tx3 w (R4 k a b c) (R4 k' a' b' c') (R4 k'' a'' b'' c'') w' := fun {W} h => tx_of h (awake_ok W (hv.below h.1))
  have s1 : ∀ {W : World}, Tx3 w (R4 k a b c) (R4 k' a' b' c') (R4 k'' a'' b'' c'') W → Calls Tryd.prog 5 #[F4 k a b c] W fun e w' => e = .returned (.bool true) ∧ Tx3 w (R4 k a b c) (R4 k' a' b' c') (R4 k'' a'' b'' c'') w' := fun {W} h => tx_of h (by have := short_any k a b c W; rw [h1] at this; exact this)
  have s2 : ∀ {W : World}, Tx3 w (R4 k a b c) (R4 k' a' b' c') (R4 k'' a'' b'' c'') W → Calls Tryd.prog 5 #[F4 k' a' b' c'] W fun e w' => e = .returned (.bool true) ∧ Tx3 w (R4 k a b c) (R4 k' a' b' c') (R4 k'' a'' b'' c'') w' := fun {W} h => tx_of h (by have := short_any k' a' b' c' W; rw [h2] at this; exact this)
  have s3 : ∀ {W : World}, Tx3 w (R4 k a b c) (R4 k' a' b' c') (R4 k'' a'' b'' c'') W → Calls Tryd.prog 5 #[F4 k'' a'' b'' c''] W fun e w' => e = .returned (.bool true) ∧ Tx3 w (R4 k a b c) (R4 k' a' b' c') (R4 k'' a'' b'' c'') w' := fun {W} h => tx_of h (by have := short_any k'' a'' b'' c'' W; rw [h3] at this; exact this)
  have pl1 : ∀ W, Calls Tryd.prog 6 #[F4 k a b c] W fun e w' => e = .returned (T4 (tmOf k a b c)) ∧ ∃ o1 o2, w' = (W.alloc o1).alloc o2 := fun W => plainX_any k hk a b c W
  have pl2 : ∀ W, Calls Tryd.prog 6 #[F4 k' a' b' c'] W fun e w' => e = .returned (T4 (tmOf k' a' b' c')) ∧ ∃ o1 o2, w' = (W.alloc o1).alloc o2 := fun W => plainX_any k' hk' a' b' c' W
  have pl3 : ∀ W, Calls Tryd.prog 6 #[F4 k'' a'' b'' c''] W fun e w' => e = .returned (T4 (tmOf k'' a'' b'' c'')) ∧ ∃ o1 o2, w' = (W.alloc o1).alloc o2 := fun W => plainX_any k'' hk'' a'' b'' c'' W
  obtain ⟨t1, ht1⟩ : ∃ t, t = tmOf k a b c := ⟨_, rfl⟩
  rw [← ht1] at pl1
  obtain ⟨kind1, hkind1⟩ : ∃ v, v = t1.kind := ⟨_, rfl⟩
  obtain ⟨ta1, hta1⟩ : ∃ v, v = t1.ta := ⟨_, rfl⟩
  obtain ⟨tb1, htb1⟩ : ∃ v, v = t1.tb := ⟨_, rfl⟩
  obtain ⟨tc1, htc1⟩ : ∃ v, v = t1.tc := ⟨_, rfl⟩
  rw [show T4 t1 = F4 kind1 ta1 tb1 tc1 by rw [hkind1, hta1, htb1, htc1]] at pl1
  obtain ⟨t2, ht2⟩ : ∃ t, t = tmOf k' a' b' c' := ⟨_, rfl⟩
  rw [← ht2] at pl2
  obtain ⟨kind2, hkind2⟩ : ∃ v, v = t2.kind := ⟨_, rfl⟩
  obtain ⟨ta2, hta2⟩ : ∃ v, v = t2.ta := ⟨_, rfl⟩
  obtain ⟨tb2, htb2⟩ : ∃ v, v = t2.tb := ⟨_, rfl⟩
  obtain ⟨tc2, htc2⟩ : ∃ v, v = t2.tc := ⟨_, rfl⟩
  rw [show T4 t2 = F4 kind2 ta2 tb2 tc2 by rw [hkind2, hta2, htb2, htc2]] at pl2
  obtain ⟨t3, ht3⟩ : ∃ t, t = tmOf k'' a'' b'' c'' := ⟨_, rfl⟩
  rw [← ht3] at pl3
  obtain ⟨kind3, hkind3⟩ : ∃ v, v = t3.kind := ⟨_, rfl⟩
  obtain ⟨ta3, hta3⟩ : ∃ v, v = t3.ta := ⟨_, rfl⟩
  obtain ⟨tb3, htb3⟩ : ∃ v, v = t3.tb := ⟨_, rfl⟩
  obtain ⟨tc3, htc3⟩ : ∃ v, v = t3.tc := ⟨_, rfl⟩
  rw [show T4 t3 = F4 kind3 ta3 tb3 tc3 by rw [hkind3, hta3, htb3, htc3]] at pl3
  obtain ⟨v1, hv1⟩ : ∃ v, v = t1.val := ⟨_, rfl⟩
  obtain ⟨v2, hv2⟩ : ∃ v, v = t2.val := ⟨_, rfl⟩
  obtain ⟨v3, hv3⟩ : ∃ v, v = t3.val := ⟨_, rfl⟩
  obtain ⟨o12, ho12⟩ : ∃ v, v = ordB t1 t2 := ⟨_, rfl⟩
  obtain ⟨o21, ho21⟩ : ∃ v, v = ordB t2 t1 := ⟨_, rfl⟩
  obtain ⟨o23, ho23⟩ : ∃ v, v = ordB t2 t3 := ⟨_, rfl⟩
  obtain ⟨o13, ho13⟩ : ∃ v, v = ordB t1 t3 := ⟨_, rfl⟩
  obtain ⟨b12, hb12⟩ : ∃ v, v = lessM t1 t2 := ⟨_, rfl⟩
  obtain ⟨b21, hb21⟩ : ∃ v, v = lessM t2 t1 := ⟨_, rfl⟩
  obtain ⟨be, hbe⟩ : ∃ v, v = eqF t1 t2 := ⟨_, rfl⟩
  obtain ⟨bs, hbs⟩ : ∃ v, v = sameB t1 t2 := ⟨_, rfl⟩
  obtain ⟨q12, hq12⟩ : ∃ v, v = eqv t1 t2 := ⟨_, rfl⟩
  have PV : Hid (v1 = t1.val ∧ v2 = t2.val ∧ v3 = t3.val) := Lib.hid ⟨hv1, hv2, hv3⟩
  have PK1 : Hid (kind1 = t1.kind ∧ ta1 = t1.ta ∧ tb1 = t1.tb ∧ tc1 = t1.tc) := Lib.hid ⟨hkind1, hta1, htb1, htc1⟩
  have PK2 : Hid (kind2 = t2.kind ∧ ta2 = t2.ta ∧ tb2 = t2.tb ∧ tc2 = t2.tc) := Lib.hid ⟨hkind2, hta2, htb2, htc2⟩
  have PK3 : Hid (kind3 = t3.kind ∧ ta3 = t3.ta ∧ tb3 = t3.tb ∧ tc3 = t3.tc) := Lib.hid ⟨hkind3, hta3, htb3, htc3⟩
  have PT : Hid (t1 = tmOf k a b c ∧ t2 = tmOf k' a' b' c' ∧ t3 = tmOf k'' a'' b'' c'') := Lib.hid ⟨ht1, ht2, ht3⟩
  have PO : Hid (o12 = ordB t1 t2 ∧ o21 = ordB t2 t1 ∧ o23 = ordB t2 t3 ∧ o13 = ordB t1 t3) := Lib.hid ⟨ho12, ho21, ho23, ho13⟩
  have PB : Hid (b12 = lessM t1 t2 ∧ b21 = lessM t2 t1 ∧ be = eqF t1 t2 ∧ bs = sameB t1 t2 ∧ q12 = eqv t1 t2) := Lib.hid ⟨hb12, hb21, hbe, hbs, hq12⟩
  have PZ : Hid (t1.la.size ≤ 5000 ∧ t2.la.size ≤ 5000) := Lib.hid ⟨by rw [ht1]; exact tmOf_size2 k a b c (short_size h1), by rw [ht2]; exact tmOf_size2 k' a' b' c' (short_size h2)⟩
  have hLV := Lib.hid hv
  clear hv ht1 ht2 ht3 hkind1 hta1 htb1 htc1 hkind2 hta2 htb2 htc2 hkind3 hta3 htb3 htc3 h1 h2 h3 hk hk' hk'' hv1 hv2 hv3 ho12 ho21 ho23 ho13 hb12 hb21 hbe hbs hq12
  go_enter Tryd.func3, Tryd.ntmps3
  go_wp2_with (first | (go_at_call 4; (with_reducible refine (cA hS).mono ?_); rintro e w2 ⟨rfl, hS2⟩; obtain ⟨p0, p1, p2, p3, p4, p5, p6, p7, p8, p9, p10, p11, _⟩ := Tx3.all hS2; clear hS; have hS := hS2; clear hS2) | (go_at_call 5; (with_reducible refine (s1 hS).mono ?_); rintro e w2 ⟨rfl, hS2⟩; obtain ⟨p0, p1, p2, p3, p4, p5, p6, p7, p8, p9, p10, p11, _⟩ := Tx3.all hS2; clear hS; have hS := hS2; clear hS2) | (go_at_call 5; (with_reducible refine (s2 hS).mono ?_); rintro e w2 ⟨rfl, hS2⟩; obtain ⟨p0, p1, p2, p3, p4, p5, p6, p7, p8, p9, p10, p11, _⟩ := Tx3.all hS2; clear hS; have hS := hS2; clear hS2) | (go_at_call 5; (with_reducible refine (s3 hS).mono ?_); rintro e w3 ⟨rfl, hS2⟩; obtain ⟨p0, p1, p2, p3, p4, p5, p6, p7, p8, p9, p10, p11, _⟩ := Tx3.all hS2; clear hS; have hS := hS2; clear hS2))
  clear p0 p1 p2 p3 p4 p5 p6 p7 p8 p9 p10 p11 cA s1 s2 s3
  have hsz : w.heap.size + 1 + 1 + 1 ≤ w3.heap.size := by have := hS.2.2.2.lt; omega
  go_cut [7, 8, 9] from 33 (fun s7 s8 s9 wx => ∃ g7 g8 g9 : Nat, s7 = .pointer (some ⟨g7, 0, none⟩) ∧ s8 = .pointer (some ⟨g8, 0, none⟩) ∧ s9 = .pointer (some ⟨g9, 0, none⟩) ∧ Ky w g7 g8 g9 (R4 kind1 ta1 tb1 tc1) (R4 kind2 ta2 tb2 tc2) (R4 kind3 ta3 tb3 tc3) wx)
  case first =>
    refine wp_region_noPanic ?_
    refine wp_region_held_drew (S := (fun W => W.cell? ⟨w.heap.size, 0, none⟩ = some (.int .i64 k) ∧ W.cell? ⟨w.heap.size, 1, none⟩ = some (.string a) ∧ W.cell? ⟨w.heap.size, 2, none⟩ = some (.string b) ∧ W.cell? ⟨w.heap.size, 3, none⟩ = some (.string c) ∧ W.cell? ⟨w.heap.size + 1, 0, none⟩ = some (.int .i64 k') ∧ W.cell? ⟨w.heap.size + 1, 1, none⟩ = some (.string a') ∧ W.cell? ⟨w.heap.size + 1, 2, none⟩ = some (.string b') ∧ W.cell? ⟨w.heap.size + 1, 3, none⟩ = some (.string c') ∧ W.cell? ⟨w.heap.size + 1 + 1, 0, none⟩ = some (.int .i64 k'') ∧ W.cell? ⟨w.heap.size + 1 + 1, 1, none⟩ = some (.string a'') ∧ W.cell? ⟨w.heap.size + 1 + 1, 2, none⟩ = some (.string b'') ∧ W.cell? ⟨w.heap.size + 1 + 1, 3, none⟩ = some (.string c'') ∧ Tx3 w (R4 k a b c) (R4 k' a' b' c') (R4 k'' a'' b'' c'') W)) (by kernel_rfl) (Tx3.all (Tx3.drew hS)) (fun hHeld => ?_)
    refine wpAnyH_take (i := 0) (oi := { dst := some 33, op := Go.Op.load 23 (Go.Operand.tmp 3), type := 23, pos := "law.go:92", after := #[], guard := none }) (v := ?_) rfl (by kernel_rfl) (by kernel_rfl) (by kernel_rfl) (fun _ _ _ h => h) (Or.inl ⟨by rfl, ?_⟩) (by assumption) ?_
    rotate_left
    · (intro w hSw; (try dsimp only at hSw); go_simp; try with_reducible rfl)
    try simp only [Act.put, List.setIfInBounds_toArray, List.set_cons_zero, List.set_cons_succ]
    refine wpAnyH_take (i := 2) (oi := { dst := some 35, op := Go.Op.load 23 (Go.Operand.tmp 4), type := 23, pos := "law.go:92", after := #[], guard := none }) (v := ?_) rfl (by kernel_rfl) (by kernel_rfl) (by kernel_rfl) (fun _ _ _ h => h) (Or.inl ⟨by rfl, ?_⟩) (by assumption) ?_
    rotate_left
    · (intro w hSw; (try dsimp only at hSw); go_simp; try with_reducible rfl)
    try simp only [Act.put, List.setIfInBounds_toArray, List.set_cons_zero, List.set_cons_succ]
    refine wpAnyH_take (i := 4) (oi := { dst := some 37, op := Go.Op.load 23 (Go.Operand.tmp 5), type := 23, pos := "law.go:92", after := #[], guard := none }) (v := ?_) rfl (by kernel_rfl) (by kernel_rfl) (by kernel_rfl) (fun _ _ _ h => h) (Or.inl ⟨by rfl, ?_⟩) (by assumption) ?_
    rotate_left
    · (intro w hSw; (try dsimp only at hSw); go_simp; try with_reducible rfl)
    try simp only [Act.put, List.setIfInBounds_toArray, List.set_cons_zero, List.set_cons_succ]
    refine ost_0 pl1 pl2 pl3 (Lib.hid fun g7 g8 g9 W hk => ?_) (Tx3.drew hS)
    go_wp2_with fail
    go_meet
    exact ⟨g7, g8, g9, rfl, rfl, rfl, hk⟩
  case rest =>
    obtain ⟨g7, g8, g9, rfl, rfl, rfl, hK⟩ := hcut
    clear hS hsz pl1 pl2 pl3
    have hw := want_ord t1 t2
    rw [← PB.out.1, ← PB.out.2.1, ← PO.out.1] at hw
    have r1 : ∀ {W : World}, Ky w g7 g8 g9 (R4 kind1 ta1 tb1 tc1) (R4 kind2 ta2 tb2 tc2) (R4 kind3 ta3 tb3 tc3) W → Calls Tryd.prog 7 #[F4 kind1 ta1 tb1 tc1] W fun e w' => e = .returned (v1) ∧ Ky w g7 g8 g9 (R4 kind1 ta1 tb1 tc1) (R4 kind2 ta2 tb2 tc2) (R4 kind3 ta3 tb3 tc3) w' := fun {W} h => ky_of h (by rw [show F4 kind1 ta1 tb1 tc1 = T4 t1 from by rw [PK1.out.1, PK1.out.2.1, PK1.out.2.2.1, PK1.out.2.2.2], PV.out.1, PT.out.1]; exact realT_any k a b c W)
    have r2 : ∀ {W : World}, Ky w g7 g8 g9 (R4 kind1 ta1 tb1 tc1) (R4 kind2 ta2 tb2 tc2) (R4 kind3 ta3 tb3 tc3) W → Calls Tryd.prog 7 #[F4 kind2 ta2 tb2 tc2] W fun e w' => e = .returned (v2) ∧ Ky w g7 g8 g9 (R4 kind1 ta1 tb1 tc1) (R4 kind2 ta2 tb2 tc2) (R4 kind3 ta3 tb3 tc3) w' := fun {W} h => ky_of h (by rw [show F4 kind2 ta2 tb2 tc2 = T4 t2 from by rw [PK2.out.1, PK2.out.2.1, PK2.out.2.2.1, PK2.out.2.2.2], PV.out.2.1, PT.out.2.1]; exact realT_any k' a' b' c' W)
    have r3 : ∀ {W : World}, Ky w g7 g8 g9 (R4 kind1 ta1 tb1 tc1) (R4 kind2 ta2 tb2 tc2) (R4 kind3 ta3 tb3 tc3) W → Calls Tryd.prog 7 #[F4 kind3 ta3 tb3 tc3] W fun e w' => e = .returned (v3) ∧ Ky w g7 g8 g9 (R4 kind1 ta1 tb1 tc1) (R4 kind2 ta2 tb2 tc2) (R4 kind3 ta3 tb3 tc3) w' := fun {W} h => ky_of h (by rw [show F4 kind3 ta3 tb3 tc3 = T4 t3 from by rw [PK3.out.1, PK3.out.2.1, PK3.out.2.2.1, PK3.out.2.2.2], PV.out.2.2, PT.out.2.2]; exact realT_any k'' a'' b'' c'' W)
    have c12 : ∀ {W : World}, Ky w g7 g8 g9 (R4 kind1 ta1 tb1 tc1) (R4 kind2 ta2 tb2 tc2) (R4 kind3 ta3 tb3 tc3) W → Calls Tryd.prog 8 #[v1, v2] W fun e w' => e = .returned (.int .i64 o12) ∧ Ky w g7 g8 g9 (R4 kind1 ta1 tb1 tc1) (R4 kind2 ta2 tb2 tc2) (R4 kind3 ta3 tb3 tc3) w' := fun {W} h => ky_of h (by rw [PV.out.1, PV.out.2.1, PO.out.1]; exact order_any t1 t2 W)
    have c21 : ∀ {W : World}, Ky w g7 g8 g9 (R4 kind1 ta1 tb1 tc1) (R4 kind2 ta2 tb2 tc2) (R4 kind3 ta3 tb3 tc3) W → Calls Tryd.prog 8 #[v2, v1] W fun e w' => e = .returned (.int .i64 o21) ∧ Ky w g7 g8 g9 (R4 kind1 ta1 tb1 tc1) (R4 kind2 ta2 tb2 tc2) (R4 kind3 ta3 tb3 tc3) w' := fun {W} h => ky_of h (by rw [PV.out.2.1, PV.out.1, PO.out.2.1]; exact order_any t2 t1 W)
    have c23 : ∀ {W : World}, Ky w g7 g8 g9 (R4 kind1 ta1 tb1 tc1) (R4 kind2 ta2 tb2 tc2) (R4 kind3 ta3 tb3 tc3) W → Calls Tryd.prog 8 #[v2, v3] W fun e w' => e = .returned (.int .i64 o23) ∧ Ky w g7 g8 g9 (R4 kind1 ta1 tb1 tc1) (R4 kind2 ta2 tb2 tc2) (R4 kind3 ta3 tb3 tc3) w' := fun {W} h => ky_of h (by rw [PV.out.2.1, PV.out.2.2, PO.out.2.2.1]; exact order_any t2 t3 W)
    have c13 : ∀ {W : World}, Ky w g7 g8 g9 (R4 kind1 ta1 tb1 tc1) (R4 kind2 ta2 tb2 tc2) (R4 kind3 ta3 tb3 tc3) W → Calls Tryd.prog 8 #[v1, v3] W fun e w' => e = .returned (.int .i64 o13) ∧ Ky w g7 g8 g9 (R4 kind1 ta1 tb1 tc1) (R4 kind2 ta2 tb2 tc2) (R4 kind3 ta3 tb3 tc3) w' := fun {W} h => ky_of h (by rw [PV.out.1, PV.out.2.2, PO.out.2.2.2]; exact order_any t1 t3 W)
    have l12 : ∀ {W : World}, Ky w g7 g8 g9 (R4 kind1 ta1 tb1 tc1) (R4 kind2 ta2 tb2 tc2) (R4 kind3 ta3 tb3 tc3) W → Calls Tryd.prog 9 #[F4 kind1 ta1 tb1 tc1, F4 kind2 ta2 tb2 tc2] W fun e w' => e = .returned (.bool b12) ∧ Ky w g7 g8 g9 (R4 kind1 ta1 tb1 tc1) (R4 kind2 ta2 tb2 tc2) (R4 kind3 ta3 tb3 tc3) w' := fun {W} h => ky_of h (by rw [show F4 kind1 ta1 tb1 tc1 = T4 t1 from by rw [PK1.out.1, PK1.out.2.1, PK1.out.2.2.1, PK1.out.2.2.2], show F4 kind2 ta2 tb2 tc2 = T4 t2 from by rw [PK2.out.1, PK2.out.2.1, PK2.out.2.2.1, PK2.out.2.2.2], PB.out.1]; exact rless_any _ _ _ _ _ _ _ _ W)
    have l21 : ∀ {W : World}, Ky w g7 g8 g9 (R4 kind1 ta1 tb1 tc1) (R4 kind2 ta2 tb2 tc2) (R4 kind3 ta3 tb3 tc3) W → Calls Tryd.prog 9 #[F4 kind2 ta2 tb2 tc2, F4 kind1 ta1 tb1 tc1] W fun e w' => e = .returned (.bool b21) ∧ Ky w g7 g8 g9 (R4 kind1 ta1 tb1 tc1) (R4 kind2 ta2 tb2 tc2) (R4 kind3 ta3 tb3 tc3) w' := fun {W} h => ky_of h (by rw [show F4 kind2 ta2 tb2 tc2 = T4 t2 from by rw [PK2.out.1, PK2.out.2.1, PK2.out.2.2.1, PK2.out.2.2.2], show F4 kind1 ta1 tb1 tc1 = T4 t1 from by rw [PK1.out.1, PK1.out.2.1, PK1.out.2.2.1, PK1.out.2.2.2], PB.out.2.1]; exact rless_any _ _ _ _ _ _ _ _ W)
    have s12 : ∀ {W : World}, Ky w g7 g8 g9 (R4 kind1 ta1 tb1 tc1) (R4 kind2 ta2 tb2 tc2) (R4 kind3 ta3 tb3 tc3) W → Calls Tryd.prog 10 #[v1, v2] W fun e w' => e = .returned (.bool bs) ∧ Ky w g7 g8 g9 (R4 kind1 ta1 tb1 tc1) (R4 kind2 ta2 tb2 tc2) (R4 kind3 ta3 tb3 tc3) w' := fun {W} h => ky_of h (by rw [PV.out.1, PV.out.2.1, PB.out.2.2.2.1]; exact same_any t1 t2 W)
    have e12 : ∀ {W : World}, Ky w g7 g8 g9 (R4 kind1 ta1 tb1 tc1) (R4 kind2 ta2 tb2 tc2) (R4 kind3 ta3 tb3 tc3) W → Calls Tryd.prog 11 #[v1, v2] W fun e w' => e = .returned (.int .u8 q12) ∧ Ky w g7 g8 g9 (R4 kind1 ta1 tb1 tc1) (R4 kind2 ta2 tb2 tc2) (R4 kind3 ta3 tb3 tc3) w' := fun {W} h => ky_of h (by rw [PV.out.1, PV.out.2.1, PB.out.2.2.2.2]; exact equal_any t1 t2 (Nat.le_trans PZ.out.1 (by decide)) (Nat.le_trans PZ.out.2 (by decide)) W (hLV.out.below h.1))
    have e21 : ∀ {W : World}, Ky w g7 g8 g9 (R4 kind1 ta1 tb1 tc1) (R4 kind2 ta2 tb2 tc2) (R4 kind3 ta3 tb3 tc3) W → Calls Tryd.prog 11 #[v2, v1] W fun e w' => e = .returned (.int .u8 q12) ∧ Ky w g7 g8 g9 (R4 kind1 ta1 tb1 tc1) (R4 kind2 ta2 tb2 tc2) (R4 kind3 ta3 tb3 tc3) w' := fun {W} h => ky_of h (by rw [PV.out.1, PV.out.2.1, PB.out.2.2.2.2, eqv_comm]; exact equal_any t2 t1 (Nat.le_trans PZ.out.2 (by decide)) (Nat.le_trans PZ.out.1 (by decide)) W (hLV.out.below h.1))
    have e11 : kind1 ≠ 3 → ∀ {W : World}, Ky w g7 g8 g9 (R4 kind1 ta1 tb1 tc1) (R4 kind2 ta2 tb2 tc2) (R4 kind3 ta3 tb3 tc3) W → Calls Tryd.prog 11 #[v1, v1] W fun e w' => e = .returned (.int .u8 1) ∧ Ky w g7 g8 g9 (R4 kind1 ta1 tb1 tc1) (R4 kind2 ta2 tb2 tc2) (R4 kind3 ta3 tb3 tc3) w' := fun k1 {W} h => ky_of h (by rw [PV.out.1]; have := equal_any t1 t1 (Nat.le_trans PZ.out.1 (by decide)) (Nat.le_trans PZ.out.1 (by decide)) W (hLV.out.below h.1); rw [eqv_refl t1 (kd_lt t1 (by rw [← PK1.out.1]; exact k1))] at this; exact this)
    have rE : kind1 ≠ 3 → kind2 ≠ 3 → ∀ {W : World}, Ky w g7 g8 g9 (R4 kind1 ta1 tb1 tc1) (R4 kind2 ta2 tb2 tc2) (R4 kind3 ta3 tb3 tc3) W → Calls Tryd.prog 12 #[F4 kind1 ta1 tb1 tc1, F4 kind2 ta2 tb2 tc2] W fun e w' => e = .returned (.int .i64 q12) ∧ Ky w g7 g8 g9 (R4 kind1 ta1 tb1 tc1) (R4 kind2 ta2 tb2 tc2) (R4 kind3 ta3 tb3 tc3) w' := fun k1 k2 {W} h => ky_of h (by rw [show F4 kind1 ta1 tb1 tc1 = T4 t1 from by rw [PK1.out.1, PK1.out.2.1, PK1.out.2.2.1, PK1.out.2.2.2], show F4 kind2 ta2 tb2 tc2 = T4 t2 from by rw [PK2.out.1, PK2.out.2.1, PK2.out.2.2.1, PK2.out.2.2.2], PB.out.2.2.2.2]; exact req_any t1 t2 (Nat.le_trans PZ.out.1 (by decide)) (Nat.le_trans PZ.out.2 (by decide)) (by rw [← PK1.out.1]; exact k1) (by rw [← PK2.out.1]; exact k2) W)
    obtain ⟨p0, p1, p2, p3, p4, p5, p6, p7, p8, p9, p10, p11, _⟩ := Ky.all hK
    go_upto_region 4 with fail
    go_cut [10, 11, 12] from 39 (fun s10 s11 s12 wx => s10 = v1 ∧ s11 = v2 ∧ s12 = v3 ∧ Ky w g7 g8 g9 (R4 kind1 ta1 tb1 tc1) (R4 kind2 ta2 tb2 tc2) (R4 kind3 ta3 tb3 tc3) wx)
    case first =>
      clear p0 p1 p2 p3 p4 p5 p6 p7 p8 p9 p10 p11
      first
        | (go_region_held3 (fun W => W.cell? ⟨g7, 0, none⟩ = some (.int .i64 kind1) ∧ W.cell? ⟨g7, 1, none⟩ = some (.string ta1) ∧ W.cell? ⟨g7, 2, none⟩ = some (.string tb1) ∧ W.cell? ⟨g7, 3, none⟩ = some (.string tc1) ∧ W.cell? ⟨g8, 0, none⟩ = some (.int .i64 kind2) ∧ W.cell? ⟨g8, 1, none⟩ = some (.string ta2) ∧ W.cell? ⟨g8, 2, none⟩ = some (.string tb2) ∧ W.cell? ⟨g8, 3, none⟩ = some (.string tc2) ∧ W.cell? ⟨g9, 0, none⟩ = some (.int .i64 kind3) ∧ W.cell? ⟨g9, 1, none⟩ = some (.string ta3) ∧ W.cell? ⟨g9, 2, none⟩ = some (.string tb3) ∧ W.cell? ⟨g9, 3, none⟩ = some (.string tc3) ∧ Ky w g7 g8 g9 (R4 kind1 ta1 tb1 tc1) (R4 kind2 ta2 tb2 tc2) (R4 kind3 ta3 tb3 tc3) W)
            (first | exact Ky.all (by assumption) | exact Ky.all (Ky.drew (by assumption)))
            (first | (go_at_call 7; (with_reducible refine (r1 (by first | assumption | exact Ky.drew (by assumption))).mono ?_); rintro e w5 ⟨rfl, hK5⟩) | (go_at_call 7; (with_reducible refine (r2 (by first | assumption | exact Ky.drew (by assumption))).mono ?_); rintro e w5 ⟨rfl, hK5⟩) | (go_at_call 7; (with_reducible refine (r3 (by first | assumption | exact Ky.drew (by assumption))).mono ?_); rintro e w5 ⟨rfl, hK5⟩)))
        | fail
      all_goals (go_wp2_with fail; go_meet)
      all_goals exact ⟨rfl, rfl, rfl, by assumption⟩
    case rest =>
      obtain ⟨rfl, rfl, rfl, hK4⟩ := hcut
      clear hK p0 p1 p2 p3 p4 p5 p6 p7 p8 p9 p10 p11
      have hK := hK4
      clear hK4
      obtain ⟨p0, p1, p2, p3, p4, p5, p6, p7, p8, p9, p10, p11, _⟩ := Ky.all hK
      go_upto_block 0 with (go_at_call 8; (with_reducible refine (c12 hK).mono ?_); rintro e w5 ⟨rfl, hK5⟩; obtain ⟨p0, p1, p2, p3, p4, p5, p6, p7, p8, p9, p10, p11, _⟩ := Ky.all hK5; clear hK; have hK := hK5; clear hK5)
      go_cut [14] from 48 (fun s14 wx => s14 = .int .i64 o12 ∧ Ky w g7 g8 g9 (R4 kind1 ta1 tb1 tc1) (R4 kind2 ta2 tb2 tc2) (R4 kind3 ta3 tb3 tc3) wx)
      case first =>
        rcases hw with ⟨rfl, ho⟩ | ⟨rfl, rfl, ho⟩ | ⟨rfl, rfl, ho⟩ <;> have HO := Lib.hid ho <;> clear ho
        · go_wp2_with (first | (go_at_call 9; (with_reducible refine (l12 hK).mono ?_); rintro e w5 ⟨rfl, hK5⟩; obtain ⟨p0, p1, p2, p3, p4, p5, p6, p7, p8, p9, p10, p11, _⟩ := Ky.all hK5; clear hK; have hK := hK5; clear hK5) | (go_at_call 9; (with_reducible refine (l21 hK).mono ?_); rintro e w5 ⟨rfl, hK5⟩; obtain ⟨p0, p1, p2, p3, p4, p5, p6, p7, p8, p9, p10, p11, _⟩ := Ky.all hK5; clear hK; have hK := hK5; clear hK5))
          go_meet
          exact ⟨by rw [HO.out], by assumption⟩
        · go_wp2_with (first | (go_at_call 9; (with_reducible refine (l12 hK).mono ?_); rintro e w5 ⟨rfl, hK5⟩; obtain ⟨p0, p1, p2, p3, p4, p5, p6, p7, p8, p9, p10, p11, _⟩ := Ky.all hK5; clear hK; have hK := hK5; clear hK5) | (go_at_call 9; (with_reducible refine (l21 hK).mono ?_); rintro e w5 ⟨rfl, hK5⟩; obtain ⟨p0, p1, p2, p3, p4, p5, p6, p7, p8, p9, p10, p11, _⟩ := Ky.all hK5; clear hK; have hK := hK5; clear hK5))
          go_meet
          exact ⟨by rw [HO.out], by assumption⟩
        · go_wp2_with (first | (go_at_call 9; (with_reducible refine (l12 hK).mono ?_); rintro e w5 ⟨rfl, hK5⟩; obtain ⟨p0, p1, p2, p3, p4, p5, p6, p7, p8, p9, p10, p11, _⟩ := Ky.all hK5; clear hK; have hK := hK5; clear hK5) | (go_at_call 9; (with_reducible refine (l21 hK).mono ?_); rintro e w5 ⟨rfl, hK5⟩; obtain ⟨p0, p1, p2, p3, p4, p5, p6, p7, p8, p9, p10, p11, _⟩ := Ky.all hK5; clear hK; have hK := hK5; clear hK5))
          go_meet
          exact ⟨by rw [HO.out], by assumption⟩
      case rest =>
        obtain ⟨rfl, hK4⟩ := hcut
        clear hK p0 p1 p2 p3 p4 p5 p6 p7 p8 p9 p10 p11
        have hK := hK4
        clear hK4 r1 r2 r3 l12 l21 c12
        obtain ⟨p0, p1, p2, p3, p4, p5, p6, p7, p8, p9, p10, p11, _⟩ := Ky.all hK
        have ho3 : -1 ≤ o12 ∧ o12 ≤ 1 := by rcases hw with h | h | h <;> omega
        have hnn : o21 = -o12 := by rw [PO.out.1, PO.out.2.1]; exact ordB_anti t1 t2
        have hnb : (o12 == 0) = be := by rw [PO.out.1, PB.out.2.2.1]; exact eqF_ord t1 t2
        have hns : bs = (be && decide (kind1 < 3)) := by rw [PB.out.2.2.2.1, PB.out.2.2.1, PK1.out.1]; exact sameB_eqF t1 t2
        have hE : ∀ w, (binOp .eql 23 (F4 kind1 ta1 tb1 tc1) (F4 kind2 ta2 tb2 tc2)).run Tryd.prog w = .ok (.bool be) w := fun w => by
          rw [eql4T, PB.out.2.2.1, PK1.out.1, PK1.out.2.1, PK1.out.2.2.1, PK1.out.2.2.2, PK2.out.1, PK2.out.2.1, PK2.out.2.2.1, PK2.out.2.2.2]; rfl
        clear hw
        go_upto_region 11 with fail
        go_cut [88] from 56 (fun s88 wx => s88 = .bool false ∧ Ky w g7 g8 g9 (R4 kind1 ta1 tb1 tc1) (R4 kind2 ta2 tb2 tc2) (R4 kind3 ta3 tb3 tc3) wx)
        case first =>
          have w1 : wrap64 (-o12) = o21 := by rw [IntWalk.wrap64_in _ ⟨by omega, by omega⟩, hnn]
          have w2 : IntKind.i64.wrap (-o12) = o21 := by rw [IntKind.wrap_i64]; omega
          have d1 : (o12 != o12) = false := by simp
          have d2 : (o21 != o21) = false := by simp
          clear p0 p1 p2 p3 p4 p5 p6 p7 p8 p9 p10 p11
          cases be with
          | false =>
            have hbs : bs = false := by rw [hns]; rfl
            clear hns hnn ho3
            subst hbs
            refine wp_region_noPanic ?_
            refine wp_region_held_drew (S := (fun W => W.cell? ⟨g7, 0, none⟩ = some (.int .i64 kind1) ∧ W.cell? ⟨g7, 1, none⟩ = some (.string ta1) ∧ W.cell? ⟨g7, 2, none⟩ = some (.string tb1) ∧ W.cell? ⟨g7, 3, none⟩ = some (.string tc1) ∧ W.cell? ⟨g8, 0, none⟩ = some (.int .i64 kind2) ∧ W.cell? ⟨g8, 1, none⟩ = some (.string ta2) ∧ W.cell? ⟨g8, 2, none⟩ = some (.string tb2) ∧ W.cell? ⟨g8, 3, none⟩ = some (.string tc2) ∧ W.cell? ⟨g9, 0, none⟩ = some (.int .i64 kind3) ∧ W.cell? ⟨g9, 1, none⟩ = some (.string ta3) ∧ W.cell? ⟨g9, 2, none⟩ = some (.string tb3) ∧ W.cell? ⟨g9, 3, none⟩ = some (.string tc3) ∧ Ky w g7 g8 g9 (R4 kind1 ta1 tb1 tc1) (R4 kind2 ta2 tb2 tc2) (R4 kind3 ta3 tb3 tc3) W)) (by kernel_rfl) (Ky.all (Ky.drew hK)) (fun hHeld => ?_)
            replace hK := Ky.drew hK
            refine wpAnyH_take (i := 0) (oi := { dst := some 56, op := Go.Op.move (Go.Operand.tmp 13), type := 3, pos := "law.go:102", after := #[], guard := none }) (v := ?_) rfl (by kernel_rfl) (by kernel_rfl) (by kernel_rfl) (fun _ _ _ h => h) (Or.inl ⟨by rfl, ?_⟩) (by assumption) ?_
            rotate_left
            · (intro w hSw; (try dsimp only at hSw); go_simp; try with_reducible rfl)
            try simp only [Act.put, List.setIfInBounds_toArray, List.set_cons_zero, List.set_cons_succ]
            refine wpAnyH_take (i := 1) (oi := { dst := some 57, op := Go.Op.move (Go.Operand.tmp 14), type := 3, pos := "law.go:102", after := #[], guard := none }) (v := ?_) rfl (by kernel_rfl) (by kernel_rfl) (by kernel_rfl) (fun _ _ _ h => h) (Or.inl ⟨by rfl, ?_⟩) (by assumption) ?_
            rotate_left
            · (intro w hSw; (try dsimp only at hSw); go_simp; try with_reducible rfl)
            try simp only [Act.put, List.setIfInBounds_toArray, List.set_cons_zero, List.set_cons_succ]
            refine wpAnyH_take (i := 2) (oi := { dst := some 58, op := Go.Op.binOp Go.BinOp.neq 3 (Go.Operand.tmp 56) (Go.Operand.tmp 57) 3, type := 4, pos := "law.go:102", after := #[{ on := 0, ground := Go.Ground.data }, { on := 1, ground := Go.Ground.data }], guard := none }) (v := ?_) rfl (by kernel_rfl) (by kernel_rfl) (by kernel_rfl) (fun _ _ _ h => h) (Or.inl ⟨by rfl, ?_⟩) (by assumption) ?_
            rotate_left
            · (intro w hSw; (try dsimp only at hSw); go_simp; try with_reducible rfl)
            try simp only [Act.put, List.setIfInBounds_toArray, List.set_cons_zero, List.set_cons_succ]
            refine wpAnyH_take (i := 3) (oi := { dst := some 59, op := Go.Op.move (Go.Operand.tmp 58), type := 4, pos := "law.go:102", after := #[{ on := 2, ground := Go.Ground.data }], guard := none }) (v := ?_) rfl (by kernel_rfl) (by kernel_rfl) (by kernel_rfl) (fun _ _ _ h => h) (Or.inl ⟨by rfl, ?_⟩) (by assumption) ?_
            rotate_left
            · (intro w hSw; (try dsimp only at hSw); go_simp; try with_reducible rfl)
            try simp only [Act.put, List.setIfInBounds_toArray, List.set_cons_zero, List.set_cons_succ]
            refine wpAnyH_take (i := 4) (oi := { dst := some 60, op := Go.Op.move (Go.Operand.tmp 11), type := 28, pos := "law.go:102", after := #[{ on := 3, ground := Go.Ground.guard }], guard := some (3, false) }) (v := ?_) rfl (by kernel_rfl) (by kernel_rfl) (by kernel_rfl) (fun _ _ _ h => h) (Or.inl ⟨by rfl, ?_⟩) (by assumption) ?_
            rotate_left
            · (intro w hSw; (try dsimp only at hSw); go_simp; try with_reducible rfl)
            try simp only [Act.put, List.setIfInBounds_toArray, List.set_cons_zero, List.set_cons_succ]
            refine wpAnyH_take (i := 5) (oi := { dst := some 61, op := Go.Op.move (Go.Operand.tmp 10), type := 28, pos := "law.go:102", after := #[{ on := 3, ground := Go.Ground.guard }], guard := some (3, false) }) (v := ?_) rfl (by kernel_rfl) (by kernel_rfl) (by kernel_rfl) (fun _ _ _ h => h) (Or.inl ⟨by rfl, ?_⟩) (by assumption) ?_
            rotate_left
            · (intro w hSw; (try dsimp only at hSw); go_simp; try with_reducible rfl)
            try simp only [Act.put, List.setIfInBounds_toArray, List.set_cons_zero, List.set_cons_succ]
            refine wpAnyH_take (i := 7) (oi := { dst := some 63, op := Go.Op.move (Go.Operand.tmp 13), type := 3, pos := "law.go:102", after := #[{ on := 3, ground := Go.Ground.guard }], guard := some (3, false) }) (v := ?_) rfl (by kernel_rfl) (by kernel_rfl) (by kernel_rfl) (fun _ _ _ h => h) (Or.inl ⟨by rfl, ?_⟩) (by assumption) ?_
            rotate_left
            · (intro w hSw; (try dsimp only at hSw); go_simp; try with_reducible rfl)
            try simp only [Act.put, List.setIfInBounds_toArray, List.set_cons_zero, List.set_cons_succ]
            refine wpAnyH_take (i := 8) (oi := { dst := some 64, op := Go.Op.unOp Go.UnOp.neg 3 (Go.Operand.tmp 63), type := 3, pos := "law.go:102", after := #[{ on := 7, ground := Go.Ground.data }, { on := 3, ground := Go.Ground.guard }], guard := some (3, false) }) (v := ?_) rfl (by kernel_rfl) (by kernel_rfl) (by kernel_rfl) (fun _ _ _ h => h) (Or.inl ⟨by rfl, ?_⟩) (by assumption) ?_
            rotate_left
            · (intro w hSw; (try dsimp only at hSw); go_simp; try with_reducible rfl)
            try simp only [Act.put, List.setIfInBounds_toArray, List.set_cons_zero, List.set_cons_succ]
            refine wpAnyH_ready (rs := [6]) (by kernel_rfl) (by simp) ?_
            refine AllReadyH.cons (o := { dst := some 62, op := Go.Op.call { callee := Go.Callee.value (Go.Operand.func 8), args := #[Go.Operand.tmp 60, Go.Operand.tmp 61], argTypes := #[28, 28] }, type := 3, pos := "law.go:102", after := #[{ on := 4, ground := Go.Ground.data }, { on := 5, ground := Go.Ground.data }, { on := 3, ground := Go.Ground.chain }, { on := 3, ground := Go.Ground.guard }], guard := some (3, false) }) rfl (fun K' hS' => ?_) AllReadyH.nil
            go_simp
            go_at_call 8; (with_reducible refine (c21 (by first | assumption | exact Ky.drew (by assumption))).mono ?_); rintro e w5 ⟨rfl, hK5⟩
            (try go_wp2_with fail)
            refine hS'.out _ _ (Ky.all (by assumption)) (fun hHeld => ?_)
            clear hS' K'
            clear hK
            have hK := hK5
            clear hK5
            try simp only [Act.put, List.setIfInBounds_toArray, List.set_cons_zero, List.set_cons_succ]
            refine wpAnyH_take (i := 9) (oi := { dst := some 65, op := Go.Op.binOp Go.BinOp.neq 3 (Go.Operand.tmp 62) (Go.Operand.tmp 64) 3, type := 4, pos := "law.go:102", after := #[{ on := 6, ground := Go.Ground.data }, { on := 8, ground := Go.Ground.data }, { on := 3, ground := Go.Ground.guard }], guard := some (3, false) }) (v := ?_) rfl (by kernel_rfl) (by kernel_rfl) (by kernel_rfl) (fun _ _ _ h => h) (Or.inl ⟨by rfl, ?_⟩) (by assumption) ?_
            rotate_left
            · (intro w hSw; (try dsimp only at hSw); go_simp; try with_reducible rfl)
            try simp only [Act.put, List.setIfInBounds_toArray, List.set_cons_zero, List.set_cons_succ]
            refine wpAnyH_take (i := 10) (oi := { dst := some 66, op := Go.Op.pick (Go.Operand.tmp 59) (Go.Operand.const (Go.Value.bool true)) (Go.Operand.tmp 65), type := 4, pos := "law.go:102", after := #[{ on := 3, ground := Go.Ground.data }, { on := 9, ground := Go.Ground.data }], guard := none }) (v := ?_) rfl (by kernel_rfl) (by kernel_rfl) (by kernel_rfl) (fun _ _ _ h => h) (Or.inl ⟨by rfl, ?_⟩) (by assumption) ?_
            rotate_left
            · (intro w hSw; (try dsimp only at hSw); go_simp; try with_reducible rfl)
            try simp only [Act.put, List.setIfInBounds_toArray, List.set_cons_zero, List.set_cons_succ]
            refine wpAnyH_take (i := 11) (oi := { dst := some 67, op := Go.Op.move (Go.Operand.tmp 66), type := 4, pos := "law.go:102", after := #[{ on := 10, ground := Go.Ground.data }, { on := 6, ground := Go.Ground.chain }], guard := none }) (v := ?_) rfl (by kernel_rfl) (by kernel_rfl) (by kernel_rfl) (fun _ _ _ h => h) (Or.inl ⟨by rfl, ?_⟩) (by assumption) ?_
            rotate_left
            · (intro w hSw; (try dsimp only at hSw); go_simp; try with_reducible rfl)
            try simp only [Act.put, List.setIfInBounds_toArray, List.set_cons_zero, List.set_cons_succ]
            refine wpAnyH_take (i := 12) (oi := { dst := some 68, op := Go.Op.move (Go.Operand.tmp 10), type := 28, pos := "law.go:102", after := #[{ on := 11, ground := Go.Ground.guard }], guard := some (11, false) }) (v := ?_) rfl (by kernel_rfl) (by kernel_rfl) (by kernel_rfl) (fun _ _ _ h => h) (Or.inl ⟨by rfl, ?_⟩) (by assumption) ?_
            rotate_left
            · (intro w hSw; (try dsimp only at hSw); go_simp; try with_reducible rfl)
            try simp only [Act.put, List.setIfInBounds_toArray, List.set_cons_zero, List.set_cons_succ]
            refine wpAnyH_take (i := 13) (oi := { dst := some 69, op := Go.Op.move (Go.Operand.tmp 11), type := 28, pos := "law.go:102", after := #[{ on := 11, ground := Go.Ground.guard }], guard := some (11, false) }) (v := ?_) rfl (by kernel_rfl) (by kernel_rfl) (by kernel_rfl) (fun _ _ _ h => h) (Or.inl ⟨by rfl, ?_⟩) (by assumption) ?_
            rotate_left
            · (intro w hSw; (try dsimp only at hSw); go_simp; try with_reducible rfl)
            try simp only [Act.put, List.setIfInBounds_toArray, List.set_cons_zero, List.set_cons_succ]
            refine wpAnyH_take (i := 15) (oi := { dst := some 71, op := Go.Op.load 23 (Go.Operand.tmp 7), type := 23, pos := "law.go:102", after := #[{ on := 11, ground := Go.Ground.guard }], guard := some (11, false) }) (v := ?_) rfl (by kernel_rfl) (by kernel_rfl) (by kernel_rfl) (fun _ _ _ h => h) (Or.inl ⟨by rfl, ?_⟩) (by assumption) ?_
            rotate_left
            · (intro w hSw; (try dsimp only at hSw); go_simp; try with_reducible rfl)
            try simp only [Act.put, List.setIfInBounds_toArray, List.set_cons_zero, List.set_cons_succ]
            refine wpAnyH_take (i := 16) (oi := { dst := some 72, op := Go.Op.load 23 (Go.Operand.tmp 8), type := 23, pos := "law.go:102", after := #[{ on := 11, ground := Go.Ground.guard }], guard := some (11, false) }) (v := ?_) rfl (by kernel_rfl) (by kernel_rfl) (by kernel_rfl) (fun _ _ _ h => h) (Or.inl ⟨by rfl, ?_⟩) (by assumption) ?_
            rotate_left
            · (intro w hSw; (try dsimp only at hSw); go_simp; try with_reducible rfl)
            try simp only [Act.put, List.setIfInBounds_toArray, List.set_cons_zero, List.set_cons_succ]
            refine wpAnyH_take (i := 17) (oi := { dst := some 73, op := Go.Op.binOp Go.BinOp.eql 23 (Go.Operand.tmp 71) (Go.Operand.tmp 72) 23, type := 4, pos := "law.go:102", after := #[{ on := 15, ground := Go.Ground.data }, { on := 16, ground := Go.Ground.data }, { on := 11, ground := Go.Ground.guard }], guard := some (11, false) }) (v := ?_) rfl (by kernel_rfl) (by kernel_rfl) (by kernel_rfl) (fun _ _ _ h => h) (Or.inl ⟨by rfl, ?_⟩) (by assumption) ?_
            rotate_left
            · (intro w hSw; (try dsimp only at hSw); go_simp; try with_reducible rfl)
            try simp only [Act.put, List.setIfInBounds_toArray, List.set_cons_zero, List.set_cons_succ]
            refine wpAnyH_ready (rs := [14]) (by kernel_rfl) (by simp) ?_
            refine AllReadyH.cons (o := { dst := some 70, op := Go.Op.call { callee := Go.Callee.value (Go.Operand.func 10), args := #[Go.Operand.tmp 68, Go.Operand.tmp 69], argTypes := #[28, 28] }, type := 4, pos := "law.go:102", after := #[{ on := 12, ground := Go.Ground.data }, { on := 13, ground := Go.Ground.data }, { on := 11, ground := Go.Ground.chain }, { on := 11, ground := Go.Ground.guard }], guard := some (11, false) }) rfl (fun K' hS' => ?_) AllReadyH.nil
            go_simp
            go_at_call 10; (with_reducible refine (s12 (by first | assumption | exact Ky.drew (by assumption))).mono ?_); rintro e w5 ⟨rfl, hK5⟩
            (try go_wp2_with fail)
            refine hS'.out _ _ (Ky.all (by assumption)) (fun hHeld => ?_)
            clear hS' K'
            clear hK
            have hK := hK5
            clear hK5
            try simp only [Act.put, List.setIfInBounds_toArray, List.set_cons_zero, List.set_cons_succ]
            refine wpAnyH_take (i := 18) (oi := { dst := some 74, op := Go.Op.move (Go.Operand.tmp 73), type := 4, pos := "law.go:102", after := #[{ on := 17, ground := Go.Ground.data }, { on := 14, ground := Go.Ground.chain }, { on := 11, ground := Go.Ground.guard }], guard := some (11, false) }) (v := ?_) rfl (by kernel_rfl) (by kernel_rfl) (by kernel_rfl) (fun _ _ _ h => h) (Or.inl ⟨by rfl, ?_⟩) (by assumption) ?_
            rotate_left
            · (intro w hSw; (try dsimp only at hSw); go_simp; try with_reducible rfl)
            try simp only [Act.put, List.setIfInBounds_toArray, List.set_cons_zero, List.set_cons_succ]
            refine wpAnyH_take (i := 19) (oi := { dst := some 75, op := Go.Op.fieldAddr 23 (Go.Operand.tmp 7) 0, type := 0, pos := "law.go:102", after := #[{ on := 18, ground := Go.Ground.guard }], guard := some (18, true) }) (v := undef) rfl (by kernel_rfl) (by kernel_rfl) (by kernel_rfl) (fun _ _ _ h => h) (Or.inr ⟨by rfl, rfl⟩) (by assumption) ?_
            try simp only [Act.put, List.setIfInBounds_toArray, List.set_cons_zero, List.set_cons_succ]
            refine wpAnyH_take (i := 20) (oi := { dst := some 76, op := Go.Op.load 3 (Go.Operand.tmp 75), type := 3, pos := "law.go:102", after := #[{ on := 19, ground := Go.Ground.data }, { on := 18, ground := Go.Ground.guard }], guard := some (18, true) }) (v := undef) rfl (by kernel_rfl) (by kernel_rfl) (by kernel_rfl) (fun _ _ _ h => h) (Or.inr ⟨by rfl, rfl⟩) (by assumption) ?_
            try simp only [Act.put, List.setIfInBounds_toArray, List.set_cons_zero, List.set_cons_succ]
            refine wpAnyH_take (i := 21) (oi := { dst := some 77, op := Go.Op.binOp Go.BinOp.lss 3 (Go.Operand.tmp 76) (Go.Operand.const (Go.Value.int Go.IntKind.i64 3)) 3, type := 4, pos := "law.go:102", after := #[{ on := 20, ground := Go.Ground.data }, { on := 18, ground := Go.Ground.guard }], guard := some (18, true) }) (v := undef) rfl (by kernel_rfl) (by kernel_rfl) (by kernel_rfl) (fun _ _ _ h => h) (Or.inr ⟨by rfl, rfl⟩) (by assumption) ?_
            try simp only [Act.put, List.setIfInBounds_toArray, List.set_cons_zero, List.set_cons_succ]
            refine wpAnyH_take (i := 22) (oi := { dst := some 78, op := Go.Op.pick (Go.Operand.tmp 74) (Go.Operand.tmp 77) (Go.Operand.const (Go.Value.bool false)), type := 4, pos := "law.go:102", after := #[{ on := 18, ground := Go.Ground.data }, { on := 21, ground := Go.Ground.data }, { on := 11, ground := Go.Ground.guard }], guard := some (11, false) }) (v := ?_) rfl (by kernel_rfl) (by kernel_rfl) (by kernel_rfl) (fun _ _ _ h => h) (Or.inl ⟨by rfl, ?_⟩) (by assumption) ?_
            rotate_left
            · (intro w hSw; (try dsimp only at hSw); go_simp; try with_reducible rfl)
            try simp only [Act.put, List.setIfInBounds_toArray, List.set_cons_zero, List.set_cons_succ]
            refine wpAnyH_take (i := 23) (oi := { dst := some 79, op := Go.Op.binOp Go.BinOp.neq 4 (Go.Operand.tmp 70) (Go.Operand.tmp 78) 4, type := 4, pos := "law.go:102", after := #[{ on := 14, ground := Go.Ground.data }, { on := 22, ground := Go.Ground.data }, { on := 11, ground := Go.Ground.guard }], guard := some (11, false) }) (v := ?_) rfl (by kernel_rfl) (by kernel_rfl) (by kernel_rfl) (fun _ _ _ h => h) (Or.inl ⟨by rfl, ?_⟩) (by assumption) ?_
            rotate_left
            · (intro w hSw; (try dsimp only at hSw); go_simp; try with_reducible rfl)
            try simp only [Act.put, List.setIfInBounds_toArray, List.set_cons_zero, List.set_cons_succ]
            refine wpAnyH_take (i := 24) (oi := { dst := some 80, op := Go.Op.pick (Go.Operand.tmp 67) (Go.Operand.const (Go.Value.bool true)) (Go.Operand.tmp 79), type := 4, pos := "law.go:102", after := #[{ on := 11, ground := Go.Ground.data }, { on := 23, ground := Go.Ground.data }], guard := none }) (v := ?_) rfl (by kernel_rfl) (by kernel_rfl) (by kernel_rfl) (fun _ _ _ h => h) (Or.inl ⟨by rfl, ?_⟩) (by assumption) ?_
            rotate_left
            · (intro w hSw; (try dsimp only at hSw); go_simp; try with_reducible rfl)
            try simp only [Act.put, List.setIfInBounds_toArray, List.set_cons_zero, List.set_cons_succ]
            refine wpAnyH_take (i := 25) (oi := { dst := some 81, op := Go.Op.move (Go.Operand.tmp 80), type := 4, pos := "law.go:102", after := #[{ on := 24, ground := Go.Ground.data }, { on := 18, ground := Go.Ground.chain }], guard := none }) (v := ?_) rfl (by kernel_rfl) (by kernel_rfl) (by kernel_rfl) (fun _ _ _ h => h) (Or.inl ⟨by rfl, ?_⟩) (by assumption) ?_
            rotate_left
            · (intro w hSw; (try dsimp only at hSw); go_simp; try with_reducible rfl)
            try simp only [Act.put, List.setIfInBounds_toArray, List.set_cons_zero, List.set_cons_succ]
            refine wpAnyH_take (i := 26) (oi := { dst := some 82, op := Go.Op.move (Go.Operand.tmp 13), type := 3, pos := "law.go:102", after := #[{ on := 25, ground := Go.Ground.guard }], guard := some (25, false) }) (v := ?_) rfl (by kernel_rfl) (by kernel_rfl) (by kernel_rfl) (fun _ _ _ h => h) (Or.inl ⟨by rfl, ?_⟩) (by assumption) ?_
            rotate_left
            · (intro w hSw; (try dsimp only at hSw); go_simp; try with_reducible rfl)
            try simp only [Act.put, List.setIfInBounds_toArray, List.set_cons_zero, List.set_cons_succ]
            refine wpAnyH_take (i := 27) (oi := { dst := some 83, op := Go.Op.binOp Go.BinOp.eql 3 (Go.Operand.tmp 82) (Go.Operand.const (Go.Value.int Go.IntKind.i64 0)) 3, type := 4, pos := "law.go:102", after := #[{ on := 26, ground := Go.Ground.data }, { on := 25, ground := Go.Ground.guard }], guard := some (25, false) }) (v := ?_) rfl (by kernel_rfl) (by kernel_rfl) (by kernel_rfl) (fun _ _ _ h => h) (Or.inl ⟨by rfl, ?_⟩) (by assumption) ?_
            rotate_left
            · (intro w hSw; (try dsimp only at hSw); go_simp; try with_reducible rfl)
            try simp only [Act.put, List.setIfInBounds_toArray, List.set_cons_zero, List.set_cons_succ]
            refine wpAnyH_take (i := 28) (oi := { dst := some 84, op := Go.Op.load 23 (Go.Operand.tmp 7), type := 23, pos := "law.go:102", after := #[{ on := 25, ground := Go.Ground.guard }], guard := some (25, false) }) (v := ?_) rfl (by kernel_rfl) (by kernel_rfl) (by kernel_rfl) (fun _ _ _ h => h) (Or.inl ⟨by rfl, ?_⟩) (by assumption) ?_
            rotate_left
            · (intro w hSw; (try dsimp only at hSw); go_simp; try with_reducible rfl)
            try simp only [Act.put, List.setIfInBounds_toArray, List.set_cons_zero, List.set_cons_succ]
            refine wpAnyH_take (i := 29) (oi := { dst := some 85, op := Go.Op.load 23 (Go.Operand.tmp 8), type := 23, pos := "law.go:102", after := #[{ on := 25, ground := Go.Ground.guard }], guard := some (25, false) }) (v := ?_) rfl (by kernel_rfl) (by kernel_rfl) (by kernel_rfl) (fun _ _ _ h => h) (Or.inl ⟨by rfl, ?_⟩) (by assumption) ?_
            rotate_left
            · (intro w hSw; (try dsimp only at hSw); go_simp; try with_reducible rfl)
            try simp only [Act.put, List.setIfInBounds_toArray, List.set_cons_zero, List.set_cons_succ]
            refine wpAnyH_take (i := 30) (oi := { dst := some 86, op := Go.Op.binOp Go.BinOp.eql 23 (Go.Operand.tmp 84) (Go.Operand.tmp 85) 23, type := 4, pos := "law.go:102", after := #[{ on := 28, ground := Go.Ground.data }, { on := 29, ground := Go.Ground.data }, { on := 25, ground := Go.Ground.guard }], guard := some (25, false) }) (v := ?_) rfl (by kernel_rfl) (by kernel_rfl) (by kernel_rfl) (fun _ _ _ h => h) (Or.inl ⟨by rfl, ?_⟩) (by assumption) ?_
            rotate_left
            · (intro w hSw; (try dsimp only at hSw); go_simp; try with_reducible rfl)
            try simp only [Act.put, List.setIfInBounds_toArray, List.set_cons_zero, List.set_cons_succ]
            refine wpAnyH_take (i := 31) (oi := { dst := some 87, op := Go.Op.binOp Go.BinOp.neq 4 (Go.Operand.tmp 83) (Go.Operand.tmp 86) 4, type := 4, pos := "law.go:102", after := #[{ on := 27, ground := Go.Ground.data }, { on := 30, ground := Go.Ground.data }, { on := 25, ground := Go.Ground.guard }], guard := some (25, false) }) (v := ?_) rfl (by kernel_rfl) (by kernel_rfl) (by kernel_rfl) (fun _ _ _ h => h) (Or.inl ⟨by rfl, ?_⟩) (by assumption) ?_
            rotate_left
            · (intro w hSw; (try dsimp only at hSw); go_simp; try with_reducible rfl)
            try simp only [Act.put, List.setIfInBounds_toArray, List.set_cons_zero, List.set_cons_succ]
            refine wpAnyH_take (i := 32) (oi := { dst := some 88, op := Go.Op.pick (Go.Operand.tmp 81) (Go.Operand.const (Go.Value.bool true)) (Go.Operand.tmp 87), type := 4, pos := "law.go:102", after := #[{ on := 25, ground := Go.Ground.data }, { on := 31, ground := Go.Ground.data }], guard := none }) (v := ?_) rfl (by kernel_rfl) (by kernel_rfl) (by kernel_rfl) (fun _ _ _ h => h) (Or.inl ⟨by rfl, ?_⟩) (by assumption) ?_
            rotate_left
            · (intro w hSw; (try dsimp only at hSw); go_simp; try with_reducible rfl)
            try simp only [Act.put, List.setIfInBounds_toArray, List.set_cons_zero, List.set_cons_succ]
            refine wpAnyH_done (by kernel_rfl) ?_ _
            refine NoPanic.normal ?_
            go_wp2_with fail
            go_meet
            exact ⟨rfl, hK⟩
          | true =>
            by_cases hk3 : kind1 < 3
            · have dk : decide (kind1 < 3) = true := decide_eq_true hk3
              have hbs : bs = true := by rw [hns, dk]; rfl
              clear hns hnn ho3
              subst hbs
              first
                | (go_region_held3 (fun W => W.cell? ⟨g7, 0, none⟩ = some (.int .i64 kind1) ∧ W.cell? ⟨g7, 1, none⟩ = some (.string ta1) ∧ W.cell? ⟨g7, 2, none⟩ = some (.string tb1) ∧ W.cell? ⟨g7, 3, none⟩ = some (.string tc1) ∧ W.cell? ⟨g8, 0, none⟩ = some (.int .i64 kind2) ∧ W.cell? ⟨g8, 1, none⟩ = some (.string ta2) ∧ W.cell? ⟨g8, 2, none⟩ = some (.string tb2) ∧ W.cell? ⟨g8, 3, none⟩ = some (.string tc2) ∧ W.cell? ⟨g9, 0, none⟩ = some (.int .i64 kind3) ∧ W.cell? ⟨g9, 1, none⟩ = some (.string ta3) ∧ W.cell? ⟨g9, 2, none⟩ = some (.string tb3) ∧ W.cell? ⟨g9, 3, none⟩ = some (.string tc3) ∧ Ky w g7 g8 g9 (R4 kind1 ta1 tb1 tc1) (R4 kind2 ta2 tb2 tc2) (R4 kind3 ta3 tb3 tc3) W)
                    (first | exact Ky.all (by assumption) | exact Ky.all (Ky.drew (by assumption)))
                    (first | (go_at_call 8; (with_reducible refine (c21 (by first | assumption | exact Ky.drew (by assumption))).mono ?_); rintro e w5 ⟨rfl, hK5⟩) | (go_at_call 10; (with_reducible refine (s12 (by first | assumption | exact Ky.drew (by assumption))).mono ?_); rintro e w5 ⟨rfl, hK5⟩)))
                | fail
              all_goals (go_wp2_with fail; go_meet)
              all_goals exact ⟨rfl, by assumption⟩
            · have dk : decide (kind1 < 3) = false := decide_eq_false hk3
              have hbs : bs = false := by rw [hns, dk]; rfl
              clear hns hnn ho3
              subst hbs
              first
                | (go_region_held3 (fun W => W.cell? ⟨g7, 0, none⟩ = some (.int .i64 kind1) ∧ W.cell? ⟨g7, 1, none⟩ = some (.string ta1) ∧ W.cell? ⟨g7, 2, none⟩ = some (.string tb1) ∧ W.cell? ⟨g7, 3, none⟩ = some (.string tc1) ∧ W.cell? ⟨g8, 0, none⟩ = some (.int .i64 kind2) ∧ W.cell? ⟨g8, 1, none⟩ = some (.string ta2) ∧ W.cell? ⟨g8, 2, none⟩ = some (.string tb2) ∧ W.cell? ⟨g8, 3, none⟩ = some (.string tc2) ∧ W.cell? ⟨g9, 0, none⟩ = some (.int .i64 kind3) ∧ W.cell? ⟨g9, 1, none⟩ = some (.string ta3) ∧ W.cell? ⟨g9, 2, none⟩ = some (.string tb3) ∧ W.cell? ⟨g9, 3, none⟩ = some (.string tc3) ∧ Ky w g7 g8 g9 (R4 kind1 ta1 tb1 tc1) (R4 kind2 ta2 tb2 tc2) (R4 kind3 ta3 tb3 tc3) W)
                    (first | exact Ky.all (by assumption) | exact Ky.all (Ky.drew (by assumption)))
                    (first | (go_at_call 8; (with_reducible refine (c21 (by first | assumption | exact Ky.drew (by assumption))).mono ?_); rintro e w5 ⟨rfl, hK5⟩) | (go_at_call 10; (with_reducible refine (s12 (by first | assumption | exact Ky.drew (by assumption))).mono ?_); rintro e w5 ⟨rfl, hK5⟩)))
                | fail
              all_goals (go_wp2_with fail; go_meet)
              all_goals exact ⟨rfl, by assumption⟩
        case rest =>
          obtain ⟨rfl, hK5⟩ := hcut
          clear hK p0 p1 p2 p3 p4 p5 p6 p7 p8 p9 p10 p11
          have hK := hK5
          clear hK5 c21 s12 hnn hnb hns hE ho3
          obtain ⟨p0, p1, p2, p3, p4, p5, p6, p7, p8, p9, p10, p11, _⟩ := Ky.all hK
          go_upto_region 13 with fail
          go_cut [102] from 89 (fun s102 wx => s102 = .bool false ∧ Ky w g7 g8 g9 (R4 kind1 ta1 tb1 tc1) (R4 kind2 ta2 tb2 tc2) (R4 kind3 ta3 tb3 tc3) wx)
          case first =>
            by_cases g1 : o12 ≤ 0
            · have e1 : decide (o12 ≤ 0) = true := decide_eq_true g1
              by_cases g2 : o23 ≤ 0
              · have e2 : decide (o23 ≤ 0) = true := decide_eq_true g2
                have g3 : o13 ≤ 0 := by rw [PO.out.2.2.2]; exact ordB_trans t1 t2 t3 (by rw [← PO.out.1]; exact g1) (by rw [← PO.out.2.2.1]; exact g2)
                have e3 : decide (0 < o13) = false := decide_eq_false (by omega)
                clear g3
                go_wp2_with (first | (go_at_call 8; (with_reducible refine (c23 hK).mono ?_); rintro e w5 ⟨rfl, hK5⟩; obtain ⟨p0, p1, p2, p3, p4, p5, p6, p7, p8, p9, p10, p11, _⟩ := Ky.all hK5; clear hK; have hK := hK5; clear hK5) | (go_at_call 8; (with_reducible refine (c13 hK).mono ?_); rintro e w5 ⟨rfl, hK5⟩; obtain ⟨p0, p1, p2, p3, p4, p5, p6, p7, p8, p9, p10, p11, _⟩ := Ky.all hK5; clear hK; have hK := hK5; clear hK5))
                go_meet
                exact ⟨rfl, by assumption⟩
              · have e2 : decide (o23 ≤ 0) = false := decide_eq_false g2
                go_wp2_with (first | (go_at_call 8; (with_reducible refine (c23 hK).mono ?_); rintro e w5 ⟨rfl, hK5⟩; obtain ⟨p0, p1, p2, p3, p4, p5, p6, p7, p8, p9, p10, p11, _⟩ := Ky.all hK5; clear hK; have hK := hK5; clear hK5) | (go_at_call 8; (with_reducible refine (c13 hK).mono ?_); rintro e w5 ⟨rfl, hK5⟩; obtain ⟨p0, p1, p2, p3, p4, p5, p6, p7, p8, p9, p10, p11, _⟩ := Ky.all hK5; clear hK; have hK := hK5; clear hK5))
                go_meet
                exact ⟨rfl, by assumption⟩
            · have e1 : decide (o12 ≤ 0) = false := decide_eq_false g1
              go_wp2_with (first | (go_at_call 8; (with_reducible refine (c23 hK).mono ?_); rintro e w5 ⟨rfl, hK5⟩; obtain ⟨p0, p1, p2, p3, p4, p5, p6, p7, p8, p9, p10, p11, _⟩ := Ky.all hK5; clear hK; have hK := hK5; clear hK5) | (go_at_call 8; (with_reducible refine (c13 hK).mono ?_); rintro e w5 ⟨rfl, hK5⟩; obtain ⟨p0, p1, p2, p3, p4, p5, p6, p7, p8, p9, p10, p11, _⟩ := Ky.all hK5; clear hK; have hK := hK5; clear hK5))
              go_meet
              exact ⟨rfl, by assumption⟩
          case rest =>
            obtain ⟨rfl, hK6⟩ := hcut
            clear hK p0 p1 p2 p3 p4 p5 p6 p7 p8 p9 p10 p11
            have hK := hK6
            clear hK6 c23 c13
            obtain ⟨p0, p1, p2, p3, p4, p5, p6, p7, p8, p9, p10, p11, _⟩ := Ky.all hK
            go_upto_region 15 with fail
            by_cases k1 : kind1 = 3
            · have d1 : (kind1 == 3) = true := by rw [k1]; rfl
              have HK := Lib.hid hK.1
              clear hK k1
              go_wp2
              go_ret
              exact ⟨rfl, HK.out⟩
            have d1 : (kind1 == 3) = false := by rw [beq_eq_false_iff_ne]; exact k1
            by_cases k2 : kind2 = 3
            · have d2 : (kind2 == 3) = true := by rw [k2]; rfl
              have HK := Lib.hid hK.1
              clear hK k1 k2
              go_wp2
              go_ret
              exact ⟨rfl, HK.out⟩
            have d2 : (kind2 == 3) = false := by rw [beq_eq_false_iff_ne]; exact k2
            have e11 := @e11 k1
            have rE := @rE k1 k2
            go_upto_region 17 with fail
            clear d1 d2
            have hq1 : (q12 == q12) = true := by simp
            have hq2 : IntKind.i64.wrap q12 = q12 := by rw [IntKind.wrap_i64]; have := eqv_small t1 t2; rw [← PB.out.2.2.2.2] at this; omega
            have hq3 : wrap64 q12 = q12 := by have := eqv_small t1 t2; rw [← PB.out.2.2.2.2] at this; exact IntWalk.wrap64_in _ ⟨by omega, by omega⟩
            clear p0 p1 p2 p3 p4 p5 p6 p7 p8 p9 p10 p11 k1 k2
            first
              | (go_region_held3 (fun W => W.cell? ⟨g7, 0, none⟩ = some (.int .i64 kind1) ∧ W.cell? ⟨g7, 1, none⟩ = some (.string ta1) ∧ W.cell? ⟨g7, 2, none⟩ = some (.string tb1) ∧ W.cell? ⟨g7, 3, none⟩ = some (.string tc1) ∧ W.cell? ⟨g8, 0, none⟩ = some (.int .i64 kind2) ∧ W.cell? ⟨g8, 1, none⟩ = some (.string ta2) ∧ W.cell? ⟨g8, 2, none⟩ = some (.string tb2) ∧ W.cell? ⟨g8, 3, none⟩ = some (.string tc2) ∧ W.cell? ⟨g9, 0, none⟩ = some (.int .i64 kind3) ∧ W.cell? ⟨g9, 1, none⟩ = some (.string ta3) ∧ W.cell? ⟨g9, 2, none⟩ = some (.string tb3) ∧ W.cell? ⟨g9, 3, none⟩ = some (.string tc3) ∧ Ky w g7 g8 g9 (R4 kind1 ta1 tb1 tc1) (R4 kind2 ta2 tb2 tc2) (R4 kind3 ta3 tb3 tc3) W)
                  (first | exact Ky.all (by assumption) | exact Ky.all (Ky.drew (by assumption)))
                  (first | (go_at_call 11; (with_reducible refine (e12 (by first | assumption | exact Ky.drew (by assumption))).mono ?_); rintro e w5 ⟨rfl, hK5⟩) | (go_at_call 11; (with_reducible refine (e21 (by first | assumption | exact Ky.drew (by assumption))).mono ?_); rintro e w5 ⟨rfl, hK5⟩) | (go_at_call 11; (with_reducible refine (e11 (by first | assumption | exact Ky.drew (by assumption))).mono ?_); rintro e w5 ⟨rfl, hK5⟩) | (go_at_call 12; (with_reducible refine (rE (by first | assumption | exact Ky.drew (by assumption))).mono ?_); rintro e w5 ⟨rfl, hK5⟩)))
              | fail
            all_goals
              go_wp2
              go_ret
              exact ⟨rfl, (show Ky _ _ _ _ _ _ _ _ from by assumption).1⟩
end Go.Proofs.YtbecjlmbalcgeaaDoor
