/-
  MERGED (a claim has at most 60 files): NgRt, NgLW.
-/
import Derived.Test.YtghlajfalgdkfaaZ06
import Derived.Test.YtghlajfalgdkfaaZ14
import Derived.Deep.CutRange
import Derived.Deep.DeepCutAuto
/-
  Words of a path by where they may be parted: plain, as the reference asks.
-/
namespace Go.Proofs.Ytghlajfalgdkfaa
set_option linter.unusedVariables false

theorem seq_step (A : Lg) (As : List Lg) (w : List Sy) : Seql (A :: As) w ↔ ∃ k, k ≤ w.length ∧ A (w.take k) ∧ Seql As (w.drop k) := by
  constructor
  · rintro ⟨u, v, rfl, h1, h2⟩
    exact ⟨u.length, by simp, by simpa using h1, by simpa using h2⟩
  · rintro ⟨k, _, h1, h2⟩
    exact ⟨w.take k, w.drop k, (List.take_append_drop k w).symm, h1, h2⟩
theorem star_step {A : Lg} {w : List Sy} (hw : w ≠ []) : StarL A w ↔ ∃ k, 1 ≤ k ∧ k ≤ w.length ∧ A (w.take k) ∧ (k = w.length ∨ StarL A (w.drop k)) := by
  constructor
  · intro h
    induction h with
    | nil => exact absurd rfl hw
    | @app u v a b ih =>
      by_cases hu : u = []
      · subst hu
        exact ih hw
      · refine ⟨u.length, List.length_pos_iff.2 hu, by simp, by simpa using a, .inr (by simpa using b)⟩
  · rintro ⟨k, _, h2, h3, h4⟩
    have e := (List.take_append_drop k w).symm
    rw [e]
    refine .app h3 ?_
    rcases h4 with h4 | h4
    · rw [h4, List.drop_length]; exact .nil
    · exact h4
theorem plus_step {A : Lg} {w : List Sy} (hw : w ≠ []) : plusL A w ↔ ∃ k, 1 ≤ k ∧ k ≤ w.length ∧ A (w.take k) ∧ (k = w.length ∨ plusL A (w.drop k)) := by
  constructor
  · intro h
    obtain ⟨k, h1, h2, h3, h4⟩ := (star_step hw).1 ((starL_iff A w).2 (.inr h))
    refine ⟨k, h1, h2, h3, ?_⟩
    rcases h4 with h4 | h4
    · exact .inl h4
    · rcases (starL_iff A _).1 h4 with h5 | h5
      · left
        have := congrArg List.length h5
        simp at this
        omega
      · exact .inr h5
  · rintro ⟨k, _, h2, h3, h4⟩
    refine ⟨w.take k, w.drop k, (List.take_append_drop k w).symm, h3, ?_⟩
    rcases h4 with h4 | h4
    · rw [h4, List.drop_length]; exact .nil
    · exact (starL_iff A _).2 (.inr h4)
theorem plus_nil (A : Lg) : plusL A [] ↔ A [] := by
  constructor
  · rintro ⟨u, v, e, h1, _⟩
    have : u = [] := (List.append_eq_nil_iff.1 e.symm).1
    rw [this] at h1; exact h1
  · intro h
    exact ⟨[], [], rfl, h, .nil⟩
/-- What the law NfaStars asks, of words. -/
theorem star_or (A : Lg) (w : List Sy) : StarL A w ↔ (w = [] ∨ plusL A w) := starL_iff A w
theorem plus_seq (A : Lg) (w : List Sy) : plusL A w ↔ CatL A (StarL A) w := Iff.rfl
/-- Of two, one behind the other: where the word is parted. -/
theorem cat_cut (A B : Lg) (w : List Sy) : CatL A B w ↔ ∃ k, k ≤ w.length ∧ A (w.take k) ∧ B (w.drop k) := by
  constructor
  · rintro ⟨u, v, rfl, h1, h2⟩
    exact ⟨u.length, by simp, by simpa using h1, by simpa using h2⟩
  · rintro ⟨k, _, h1, h2⟩
    exact ⟨w.take k, w.drop k, (List.take_append_drop k w).symm, h1, h2⟩
end Go.Proofs.Ytghlajfalgdkfaa

/-
  NfaTwo: its walk.
-/
namespace Go.Proofs.Ytghlajfalgdkfaa
open Go.RowKit
set_option linter.unusedVariables false
set_option linter.unusedSimpArgs false
set_option maxRecDepth 100000

def TwR (w14 : World) (ws : List Sy) (X Y : Lg) (gk : Nat) (s21 s22 : Value) (wr : World) : Prop := ∃ (k : Nat) (b : Bool), k + gk = ws.length + 1 ∧ s22 = .int .i64 (k : Int) ∧ s21 = .bool b ∧ (b = true ↔ ∃ i, i < k ∧ X (ws.take i) ∧ Y (ws.drop i)) ∧ Below w14.heap.size w14 wr
theorem tw_more {ws : List Sy} {X Y : Lg} {k : Nat} {b b' : Bool} (hb : b = true ↔ ∃ i, i < k ∧ X (ws.take i) ∧ Y (ws.drop i)) (hb' : b' = true ↔ b = true ∨ (X (ws.take k) ∧ Y (ws.drop k))) : b' = true ↔ ∃ i, i < k + 1 ∧ X (ws.take i) ∧ Y (ws.drop i) := by
  rw [hb', hb]
  constructor
  · rintro (⟨i, h1, h2⟩ | h)
    · exact ⟨i, by omega, h2⟩
    · exact ⟨k, by omega, h⟩
  · rintro ⟨i, h1, h2⟩
    rcases Nat.lt_or_ge i k with h | h
    · exact .inl ⟨i, h, h2⟩
    · have : i = k := by omega
      subst this
      exact .inr h2
theorem bool_of (P : Prop) : ∃ b : Bool, b = true ↔ P := by
  by_cases h : P
  · exact ⟨true, by simp [h]⟩
  · exact ⟨false, by simp [h]⟩
set_option pp.deepTerms true in
set_option pp.maxSteps 1000000 in
set_option maxHeartbeats 64000000 in
theorem two_walk (A : Option Addr) (len cap : Nat) (hl : len ≤ cap) (hm : cap ≤ maxLen) (B : Option Addr) (lenB capB : Nat) (hlB : lenB ≤ capB) (hmB : capB ≤ maxLen) (A1 : Option Addr) (l : List Int) (cap1 : Nat) (hl1 : l.length ≤ cap1) (hm1 : cap1 ≤ maxLen) (ok1 : ∀ x ∈ l, 0 ≤ x ∧ x < 256) (W : World) (hn : NdI W A len) (hnB : NdI W B lenB) (hBy : Byt W A1 l) : Calls Try.prog 8 #[.slice A len cap, .slice B lenB capB, .slice A1 l.length cap1] W (LtQ W) := by
  have l0 : (0 : Int) ≤ (len : Int) := by omega
  have l1 : (len : Int) ≤ (cap : Int) := by omega
  have l2 : (cap : Int) ≤ 9223372036854775807 := by unfold maxLen at hm; omega
  have k0 : (0 : Int) ≤ (lenB : Int) := by omega
  have k1 : (lenB : Int) ≤ (capB : Int) := by omega
  have k2 : (capB : Int) ≤ 9223372036854775807 := by unfold maxLen at hmB; omega
  have HN := Lib.hid hn
  have HNB := Lib.hid hnB
  have HWd := Lib.hid (fun (w : World) (hb : Below W.heap.size W w) => word_q (hBy.below hb) ok1 hl1 hm1)
  have HM := Lib.hid (show 5 ≤ maxLen by unfold maxLen; omega)
  obtain ⟨nl, hnl⟩ : ∃ nl, nl = l.length := ⟨_, rfl⟩
  rw [← hnl] at HWd ⊢
  have HBA := Lib.hid (Below.refl W.heap.size W)
  clear hl hm hn hnB hlB hmB hBy ok1 hl1 hm1 hnl
  go_enter Try.func8, Try.ntmps8
  go_upto_if 27 with (go_at_call 10; (with_reducible refine (fawake_any _).mono ?_); rintro e w1 ⟨rfl, hb1⟩; have HBA := Lib.hid (HBA.out.trans (hb1.mono HBA.out.size)); clear hb1)
  go_cut [0] (fun s0 wx => Five W A cap s0 wx)
  case first =>
    by_cases h5 : 5 < len
    · have z1 : (5 : Int) < (len : Int) := by omega
      have z1' : decide ((5 : Int) < (len : Int)) = true := decide_eq_true z1
      have z2' : decide (5 < len) = true := decide_eq_true h5
      have z3 : (5 : Int) ≤ (cap : Int) := by omega
      have HL := Lib.hid h5
      go_wp2
      go_meet
      exact ⟨5, by omega, rfl, HN.out.less (by have := HL.out; omega), HBA.out⟩
    · have z1 : ¬ ((5 : Int) < (len : Int)) := by omega
      have z1' : decide ((5 : Int) < (len : Int)) = false := decide_eq_false z1
      have z2' : decide (5 < len) = false := decide_eq_false h5
      have HL := Lib.hid h5
      clear h5
      go_wp2
      go_meet
      exact ⟨len, by have := HL.out; omega, rfl, HN.out, HBA.out⟩
  case rest =>
    obtain ⟨n, hn5, rfl, hN5, hbc⟩ := hcut
    have HBA := Lib.hid hbc
    have HN5 := Lib.hid (And.intro hn5 hN5)
    clear hn5 hN5 hbc HN l0 l1 l2
    go_upto_if 32 with fail
    go_cut [1] (fun s1 wx => Five W B capB s1 wx)
    case first =>
      by_cases h5 : 5 < lenB
      · have z1 : (5 : Int) < (lenB : Int) := by omega
        have z1' : decide ((5 : Int) < (lenB : Int)) = true := decide_eq_true z1
        have z2' : decide (5 < lenB) = true := decide_eq_true h5
        have z3 : (5 : Int) ≤ (capB : Int) := by omega
        have HL := Lib.hid h5
        go_wp2
        go_meet
        exact ⟨5, by omega, rfl, HNB.out.less (by have := HL.out; omega), HBA.out⟩
      · have z1 : ¬ ((5 : Int) < (lenB : Int)) := by omega
        have z1' : decide ((5 : Int) < (lenB : Int)) = false := decide_eq_false z1
        have z2' : decide (5 < lenB) = false := decide_eq_false h5
        have HL := Lib.hid h5
        clear h5
        go_wp2
        go_meet
        exact ⟨lenB, by have := HL.out; omega, rfl, HNB.out, HBA.out⟩
    case rest =>
      obtain ⟨nB, hnB5, rfl, hNB5, hbc⟩ := hcut
      have cF := fix_q (c := cap) (HN5.out.2.below hbc) (Nat.le_trans HN5.out.1 HM.out)
      have HB := Lib.hid hbc
      have HNB5 := Lib.hid (And.intro hnB5 hNB5)
      clear hnB5 hNB5 hbc HNB k0 k1 k2 HBA
      go_upto_region 8 with (first
        | (go_at_call 12; (with_reducible refine cF.mono ?_); rintro e w2 ⟨A2, m2, c2, ns, rfl, hm2, hm8, hq, hF, hb2⟩; have cT := tree_l (c := c2) hm2 hq (by omega); have HFx := Lib.hid (And.intro hm2 (And.intro hm8 hF)); have HB := Lib.hid (HB.out.trans (hb2.mono HB.out.size)); clear hm2 hm8 hq hF hb2)
        | (go_at_call 11; (with_reducible refine cT.mono ?_); rintro e w5 ⟨g, L, kd, nn, As, ls, cs, t, rfl, hL, hR, ht, hp, hb5⟩; have HO := Lib.hid (ft_good (by have := HFx.out.1; have := HFx.out.2.1; have := HN5.out.1; omega) HFx.out.2.2 ht); have HP := Lib.hid hp; have HB := Lib.hid (HB.out.trans (hb5.mono HB.out.size)); clear hL hR ht hp hb5))
      obtain ⟨w6, hw6⟩ : ∃ w6, w6 = w5.alloc (.cells #[.int .i64 kd, .int .i64 nn, .slice As ls cs] 28) := ⟨_, rfl⟩
      rw [← hw6]
      have hb6 : Below w5.heap.size w5 w6 := by rw [hw6]; exact (Below.refl _ _).alloc (Nat.le_refl _) _
      have hF6 : Fb w6 w5.heap.size 28 #[.int .i64 kd, .int .i64 nn, .slice As ls cs] := by rw [hw6]; exact Fb.new _ _ _
      have HB6 := Lib.hid (HB.out.trans (hb6.mono HB.out.size))
      have HF6 := Lib.hid hF6
      have HP6 := Lib.hid (HP.out.below hb6)
      obtain ⟨gp, hgp⟩ : ∃ gp, gp = w5.heap.size := ⟨_, rfl⟩
      rw [← hgp] at HF6 ⊢
      have cF2 := fix_q (c := capB) (HNB5.out.2.below HB6.out) (Nat.le_trans HNB5.out.1 HM.out)
      have HB := Lib.hid (Below.refl w6.heap.size w6)
      clear hw6 hb6 hF6 cF cT HFx hgp
      go_upto_region 9 with (first
        | (go_at_call 12; (with_reducible refine cF2.mono ?_); rintro e w7 ⟨A3, m3, c3, ns3, rfl, hm2, hm8, hq, hF, hb2⟩; have cT := tree_l (c := c3) hm2 hq (by omega); have HFx := Lib.hid (And.intro hm2 (And.intro hm8 hF)); have HB := Lib.hid (HB.out.trans (hb2.mono HB.out.size)); clear hm2 hm8 hq hF hb2)
        | (go_at_call 11; (with_reducible refine cT.mono ?_); rintro e w8 ⟨g', L', kd', nn', As', ls', cs', u, rfl, hL, hR, ht, hp, hb5⟩; have HO' := Lib.hid (ft_good (by have := HFx.out.1; have := HFx.out.2.1; have := HNB5.out.1; omega) HFx.out.2.2 ht); have HP' := Lib.hid hp; have HB := Lib.hid (HB.out.trans (hb5.mono HB.out.size)); clear hL hR ht hp hb5))
      obtain ⟨w9, hw9⟩ : ∃ w9, w9 = w8.alloc (.cells #[.int .i64 kd', .int .i64 nn', .slice As' ls' cs'] 28) := ⟨_, rfl⟩
      rw [← hw9]
      have hb9 : Below w8.heap.size w8 w9 := by rw [hw9]; exact (Below.refl _ _).alloc (Nat.le_refl _) _
      have hF9 : Fb w9 w8.heap.size 28 #[.int .i64 kd', .int .i64 nn', .slice As' ls' cs'] := by rw [hw9]; exact Fb.new _ _ _
      have hB9 : Below w6.heap.size w6 w9 := HB.out.trans (hb9.mono HB.out.size)
      have HB9 := Lib.hid (HB6.out.trans (hB9.mono HB6.out.size))
      have hF6 := HF6.out.below hB9
      have HF := Lib.hid (fun (w : World) (hb : Below w9.heap.size w9 w) => (⟨(hF6.below hb).cell 0, (hF6.below hb).cell 1, (hF6.below hb).cell 2⟩ : w.cell? ⟨gp, 0, none⟩ = some (.int .i64 kd) ∧ w.cell? ⟨gp, 1, none⟩ = some (.int .i64 nn) ∧ w.cell? ⟨gp, 2, none⟩ = some (.slice As ls cs)))
      have HPt := Lib.hid (fun (w : World) (hb : Below w9.heap.size w9 w) => (HP6.out.below hB9).below hb)
      obtain ⟨gq, hgq⟩ : ∃ gq, gq = w8.heap.size := ⟨_, rfl⟩
      rw [← hgq] at hF9 ⊢
      have HG := Lib.hid (fun (w : World) (hb : Below w9.heap.size w9 w) => (⟨(hF9.below hb).cell 0, (hF9.below hb).cell 1, (hF9.below hb).cell 2⟩ : w.cell? ⟨gq, 0, none⟩ = some (.int .i64 kd') ∧ w.cell? ⟨gq, 1, none⟩ = some (.int .i64 nn') ∧ w.cell? ⟨gq, 2, none⟩ = some (.slice As' ls' cs')))
      have HPu := Lib.hid (fun (w : World) (hb : Below w9.heap.size w9 w) => (HP'.out.below hb9).below hb)
      have cW := HWd.out w9 HB9.out
      have HCt := Lib.hid (fun (w : World) (hb : Below w9.heap.size w9 w) => compile_okp HO.out (by decide) (by decide) (HPt.out w hb))
      have HCu := Lib.hid (fun (w : World) (hb : Below w9.heap.size w9 w) => compile_okp HO'.out (by decide) (by decide) (HPu.out w hb))
      have HC3 := Lib.hid (fun (w : World) (v : Option Addr) (hp : Pth w (.mk 3 0 [t, u]) ⟨3, 0, .slice v 2 2⟩) => compile_okp (HO.out.two HO'.out (k := 3) (.inr rfl)) (by decide) (by decide) hp)
      have HC2 := Lib.hid (fun (w : World) (v : Option Addr) (hp : Pth w (.mk 2 0 [t, u]) ⟨2, 0, .slice v 2 2⟩) => compile_okp (HO.out.two HO'.out (k := 2) (.inl rfl)) (by decide) (by decide) hp)
      clear hw9 hb9 hF9 hF6 hB9 cF2 cT HFx hgq
      go_upto_region 10 with (go_at_call 15; (with_reducible refine cW.mono ?_); rintro e w10 ⟨Aa, Ab, na, ca, nb, cb, ws, rfl, hws, hSa, hSb, hna, hnb, hw5, hb7⟩; have HW7 := Lib.hid (And.intro hSb (And.intro hw5 hnb)); have HB10 := Lib.hid hb7; obtain ⟨q0, q1, q2⟩ := HF.out w10 hb7; clear hws hSa hSb hna hnb hw5 hb7)
      go_upto_region 11 with (go_at_call 13; (with_reducible refine (HCt.out _ HB10.out).mono ?_); rintro e w11 ⟨d1, rfl, hM1, hb9⟩; have HB11 := Lib.hid (HB10.out.trans (hb9.mono HB10.out.size)); have HU11 := Lib.hid hb9; have HM1 := Lib.hid (fun (w : World) (hb : Below w11.heap.size w11 w) => hM1.below hb); obtain ⟨r0, r1, r2⟩ := HG.out w11 HB11.out; clear hb9 hM1)
      clear q0 q1 q2 cW
      go_upto_region 12 with (go_at_call 13; (with_reducible refine (HCu.out _ HB11.out).mono ?_); rintro e w12 ⟨d2, rfl, hM1, hb9⟩; have HB12 := Lib.hid (HB11.out.trans (hb9.mono HB11.out.size)); have HU12 := Lib.hid hb9; have HM2 := Lib.hid (fun (w : World) (hb : Below w12.heap.size w12 w) => hM1.below hb); clear hb9 hM1)
      clear r0 r1 r2
      obtain ⟨q0, q1, q2⟩ := HF.out w12 HB12.out
      obtain ⟨r0, r1, r2⟩ := HG.out w12 HB12.out
      have HP12 : Hid (Pth (w12.alloc (.cells #[.int .i64 kd, .int .i64 nn, .slice As ls cs, .int .i64 kd', .int .i64 nn', .slice As' ls' cs'] 28)) (.mk 3 0 [t, u]) ⟨3, 0, .slice (some ⟨w12.heap.size, 0, none⟩) 2 2⟩) := Lib.hid (pth_two (Fb.new _ _ _) (HPt.out _ (HB12.out.alloc HB12.out.size _)) (HPu.out _ (HB12.out.alloc HB12.out.size _)) 3)
      have cC := HC3.out _ _ HP12.out
      go_upto_region 13 with (go_at_call 13; (with_reducible refine cC.mono ?_); rintro e w13 ⟨d3, rfl, hM1, hb9⟩; have HU13 := Lib.hid (al_call hb9).2; have HB13 := Lib.hid (HB12.out.trans (HU13.out.mono HB12.out.size)); have HM3 := Lib.hid (fun (w : World) (hb : Below w13.heap.size w13 w) => hM1.below hb); clear hb9 hM1)
      clear q0 q1 q2 r0 r1 r2 cC HP12
      obtain ⟨q0, q1, q2⟩ := HF.out w13 HB13.out
      obtain ⟨r0, r1, r2⟩ := HG.out w13 HB13.out
      have HP13 : Hid (Pth (w13.alloc (.cells #[.int .i64 kd, .int .i64 nn, .slice As ls cs, .int .i64 kd', .int .i64 nn', .slice As' ls' cs'] 28)) (.mk 2 0 [t, u]) ⟨2, 0, .slice (some ⟨w13.heap.size, 0, none⟩) 2 2⟩) := Lib.hid (pth_two (Fb.new _ _ _) (HPt.out _ (HB13.out.alloc HB13.out.size _)) (HPu.out _ (HB13.out.alloc HB13.out.size _)) 2)
      have cC := HC2.out _ _ HP13.out
      go_upto_region 16 with (go_at_call 13; (with_reducible refine cC.mono ?_); rintro e w14 ⟨d4, rfl, hM1, hb9⟩; have HU14 := Lib.hid (al_call hb9).2; have HB14 := Lib.hid (HB13.out.trans (HU14.out.mono HB13.out.size)); have HM4 := Lib.hid (fun (w : World) (hb : Below w14.heap.size w14 w) => hM1.below hb); clear hb9 hM1)
      clear q0 q1 q2 r0 r1 r2 cC HP13
      have u12 := Lib.hid (HU13.out.trans (HU14.out.mono HU13.out.size))
      have u11 := Lib.hid (HU12.out.trans (u12.out.mono HU12.out.size))
      have u10 := Lib.hid (HU11.out.trans (u11.out.mono HU11.out.size))
      have HWd14 := Lib.hid (fun (w : World) (hb : Below w14.heap.size w14 w) => HW7.out.1.wd.below (u10.out.trans (hb.mono u10.out.size)))
      have b0 : (0 : Int) ≤ (nb : Int) := by omega
      rcases syr_cut HW7.out.1 HW7.out.2.2 with ⟨rfl, hn0, hc0, hw0⟩ | ⟨gw, rfl, hnc, hcm, hcut⟩
      · subst hn0 hc0
        have HW0 := Lib.hid hw0
        clear hw0
        go_wp2
        go_loopg [21, 22] (ws.length + 1) (fun gk s21 s22 wr => TwR w14 ws (lang t) (lang u) gk s21 s22 wr)
        case atStart => exact ⟨0, false, by omega, rfl, rfl, by simp, Below.refl _ _⟩
        case round =>
          obtain ⟨k, b, hk, rfl, rfl, hb, hbw⟩ := hrel
          have HBx := Lib.hid hbw
          obtain ⟨b0, hb0⟩ : ∃ b0, b0 = b := ⟨_, rfl⟩
          have HB0 := Lib.hid hb0
          have HKb := Lib.hid (show b0 = true ↔ ∃ i, i < k ∧ lang t (ws.take i) ∧ lang u (ws.drop i) by rw [hb0]; exact hb)
          clear hb0
          have k0 : (0 : Int) ≤ (k : Int) := by omega
          have k9 : (k : Int) ≤ 100 := by have := HW7.out.2.1; omega
          by_cases hkn : k ≤ 0
          · have hk0 : k = 0 := by omega
            subst hk0
            have kn' : decide ((0 : Int) ≤ (0 : Int)) = true := by decide
            have HK := Lib.hid (And.intro hk (Nat.zero_le ws.length))
            obtain ⟨bp, hbp⟩ := bool_of (lang t [])
            obtain ⟨bq, hbq⟩ := bool_of (lang u [])
            have CP := Lib.hid (fun (w : World) (hb : Below w14.heap.size w14 w) => takes_lit (HM1.out w (u11.out.trans (hb.mono u11.out.size))) (wd_nil w) (by simp) bp hbp)
            have CQ := Lib.hid (fun (w : World) (hb : Below w14.heap.size w14 w) => takes_lit (HM2.out w (u12.out.trans (hb.mono u12.out.size))) (wd_nil w) (by simp) bq hbq)
            have HPQ : Hid ((bp = true ↔ lang t (ws.take 0)) ∧ (bq = true ↔ lang u (ws.drop 0))) := Lib.hid (by rw [HW0.out]; exact And.intro hbp hbq)
            clear hb hbw hbp hbq hk hkn
            cases b with
            | true =>
              go_wp2
              go_roundg (ws.length + 1 - (0 + 1))
              case measure => have := HK.out; omega
              case rel => exact ⟨0 + 1, true, by have := HK.out; omega, by rfl, rfl, tw_more HKb.out (by have h0 := HB0.out; rw [h0]; simp), HBx.out⟩
            | false =>
              cases bp with
              | false =>
                go_wp2_with (go_at_call 17; (with_reducible refine (CP.out _ HBx.out).mono ?_); rintro e wn ⟨rfl, hbn⟩; have HBx := Lib.hid (HBx.out.trans (hbn.mono HBx.out.size)); clear hbn)
                go_roundg (ws.length + 1 - (0 + 1))
                case measure => have := HK.out; omega
                case rel => exact ⟨0 + 1, false, by have := HK.out; omega, by rfl, rfl, tw_more HKb.out (by have h0 := HB0.out; have := HPQ.out.1; simp at this; rw [h0]; simp [this]), HBx.out⟩
              | true =>
                go_wp2_with (first
                  | (go_at_call 17; (with_reducible refine (CP.out _ HBx.out).mono ?_); rintro e wn ⟨rfl, hbn⟩; have HBx := Lib.hid (HBx.out.trans (hbn.mono HBx.out.size)); clear hbn)
                  | (go_at_call 17; (with_reducible refine (CQ.out _ HBx.out).mono ?_); rintro e wn ⟨rfl, hbn⟩; have HBx := Lib.hid (HBx.out.trans (hbn.mono HBx.out.size)); clear hbn))
                go_roundg (ws.length + 1 - (0 + 1))
                case measure => have := HK.out; omega
                case rel => exact ⟨0 + 1, bq, by have := HK.out; omega, by rfl, rfl, tw_more HKb.out (by have h0 := HB0.out; have h1 := HPQ.out.1; have h2 := HPQ.out.2; simp at h1; rw [h2, h0]; simp [h1]), HBx.out⟩
          · have kn : ¬ (k : Int) ≤ (0 : Int) := by omega
            have kn' : decide ((k : Int) ≤ (0 : Int)) = false := decide_eq_false kn
            have kn'' : decide (k ≤ 0) = false := decide_eq_false hkn
            have hke : k = ws.length + 1 := by have := HW7.out.2.2; omega
            have HQ := Lib.hid (show b = true ↔ lang (.mk 2 0 [t, u]) ws from by
              rw [hb, lang_seq]
              refine Iff.trans ?_ (Iff.trans (cat_cut (lang t) (lang u) ws).symm (catL_congr (fun _ => Iff.rfl) (fun w => (seql_one _ w).symm) ws))
              constructor
              · rintro ⟨i, h1, h2⟩; exact ⟨i, by omega, h2⟩
              · rintro ⟨i, h1, h2⟩; exact ⟨i, by omega, h2⟩)
            obtain ⟨bA, hbA⟩ := bool_of (lang t ws)
            obtain ⟨bB, hbB⟩ := bool_of (lang u ws)
            have CA := Lib.hid (fun (w : World) (hb : Below w14.heap.size w14 w) => takes_lit (HM1.out w (u11.out.trans (hb.mono u11.out.size))) (HWd14.out w hb) (by have := HW7.out.2.1; omega) bA hbA)
            have CB := Lib.hid (fun (w : World) (hb : Below w14.heap.size w14 w) => takes_lit (HM2.out w (u12.out.trans (hb.mono u12.out.size))) (HWd14.out w hb) (by have := HW7.out.2.1; omega) bB hbB)
            have CO := Lib.hid (fun (w : World) (hb : Below w14.heap.size w14 w) => takes_lit (HM3.out w (HU14.out.trans (hb.mono HU14.out.size))) (HWd14.out w hb) (by have := HW7.out.2.1; omega) (bA || bB) (by rw [lang_alt]; simp [langs, Altl, hbA, hbB]))
            have CS := Lib.hid (fun (w : World) (hb : Below w14.heap.size w14 w) => takes_lit (HM4.out w hb) (HWd14.out w hb) (by have := HW7.out.2.1; omega) b HQ.out)
            clear hb hbw hk hke hbA hbB hkn
            cases bA with
            | true =>
              have z : (true || bB) = true := rfl
              rw [z] at CO
              clear z
              go_wp2_with (first
                | (go_at_call 17; (with_reducible refine (CO.out _ HBx.out).mono ?_); rintro e wn ⟨rfl, hbn⟩; have HBx := Lib.hid (HBx.out.trans (hbn.mono HBx.out.size)); clear hbn)
                | (go_at_call 17; (with_reducible refine (CA.out _ HBx.out).mono ?_); rintro e wn ⟨rfl, hbn⟩; have HBx := Lib.hid (HBx.out.trans (hbn.mono HBx.out.size)); clear hbn)
                | (go_at_call 17; (with_reducible refine (CB.out _ HBx.out).mono ?_); rintro e wn ⟨rfl, hbn⟩; have HBx := Lib.hid (HBx.out.trans (hbn.mono HBx.out.size)); clear hbn)
                | (go_at_call 17; (with_reducible refine (CS.out _ HBx.out).mono ?_); rintro e wn ⟨rfl, hbn⟩; have HBx := Lib.hid (HBx.out.trans (hbn.mono HBx.out.size)); clear hbn))
              go_ret
              exact ⟨rfl, HB9.out.trans ((HB14.out.trans (HBx.out.mono HB14.out.size)).mono HB9.out.size)⟩
            | false =>
              have z : (false || bB) = bB := rfl
              rw [z] at CO
              clear z
              go_wp2_with (first
                | (go_at_call 17; (with_reducible refine (CO.out _ HBx.out).mono ?_); rintro e wn ⟨rfl, hbn⟩; have HBx := Lib.hid (HBx.out.trans (hbn.mono HBx.out.size)); clear hbn)
                | (go_at_call 17; (with_reducible refine (CA.out _ HBx.out).mono ?_); rintro e wn ⟨rfl, hbn⟩; have HBx := Lib.hid (HBx.out.trans (hbn.mono HBx.out.size)); clear hbn)
                | (go_at_call 17; (with_reducible refine (CB.out _ HBx.out).mono ?_); rintro e wn ⟨rfl, hbn⟩; have HBx := Lib.hid (HBx.out.trans (hbn.mono HBx.out.size)); clear hbn)
                | (go_at_call 17; (with_reducible refine (CS.out _ HBx.out).mono ?_); rintro e wn ⟨rfl, hbn⟩; have HBx := Lib.hid (HBx.out.trans (hbn.mono HBx.out.size)); clear hbn))
              go_ret
              exact ⟨rfl, HB9.out.trans ((HB14.out.trans (HBx.out.mono HB14.out.size)).mono HB9.out.size)⟩
      · have b1 : (nb : Int) ≤ (cb : Int) := by omega
        have b2 : (cb : Int) ≤ 9223372036854775807 := by unfold maxLen at hcm; omega
        have HCut := Lib.hid hcut
        clear hcut hcm
        go_wp2
        go_loopg [21, 22] (ws.length + 1) (fun gk s21 s22 wr => TwR w14 ws (lang t) (lang u) gk s21 s22 wr)
        case atStart => exact ⟨0, false, by omega, rfl, rfl, by simp, Below.refl _ _⟩
        case round =>
          obtain ⟨k, b, hk, rfl, rfl, hb, hbw⟩ := hrel
          have HBx := Lib.hid hbw
          obtain ⟨b0, hb0⟩ : ∃ b0, b0 = b := ⟨_, rfl⟩
          have HB0 := Lib.hid hb0
          have HKb := Lib.hid (show b0 = true ↔ ∃ i, i < k ∧ lang t (ws.take i) ∧ lang u (ws.drop i) by rw [hb0]; exact hb)
          clear hb0
          have k0 : (0 : Int) ≤ (k : Int) := by omega
          have k9 : (k : Int) ≤ 100 := by have := HW7.out.2.1; omega
          by_cases hkn : k ≤ nb
          · have kn : (k : Int) ≤ (nb : Int) := by omega
            have kn' : decide ((k : Int) ≤ (nb : Int)) = true := decide_eq_true kn
            have kn'' : decide (k ≤ nb) = true := decide_eq_true hkn
            have kc : (k : Int) ≤ (cb : Int) := by omega
            have HK := Lib.hid (show k + gk = ws.length + 1 ∧ k ≤ ws.length from ⟨hk, by have := HW7.out.2.2; omega⟩)
            obtain ⟨bp, hbp⟩ := bool_of (lang t (ws.take k))
            obtain ⟨bq, hbq⟩ := bool_of (lang u (ws.drop k))
            have CP := Lib.hid (fun (w : World) (hb : Below w14.heap.size w14 w) => takes_lit (HM1.out w (u11.out.trans (hb.mono u11.out.size))) (HCut.out w (u10.out.trans (hb.mono u10.out.size)) k hkn).1 (by rw [List.length_take]; have := HW7.out.2.1; omega) bp hbp)
            have CQ := Lib.hid (fun (w : World) (hb : Below w14.heap.size w14 w) => takes_lit (HM2.out w (u12.out.trans (hb.mono u12.out.size))) (HCut.out w (u10.out.trans (hb.mono u10.out.size)) k hkn).2 (by rw [List.length_drop]; have := HW7.out.2.1; omega) bq hbq)
            have HPQ := Lib.hid (And.intro hbp hbq)
            clear hb hbw hbp hbq hk
            cases b with
            | true =>
              go_wp2
              go_roundg (ws.length + 1 - (k + 1))
              case measure => have := HK.out; omega
              case rel => exact ⟨k + 1, true, by have := HK.out; omega, by rw [Int.natCast_add]; rfl, rfl, tw_more HKb.out (by have h0 := HB0.out; rw [h0]; simp), HBx.out⟩
            | false =>
              cases bp with
              | false =>
                go_wp2_with (go_at_call 17; (with_reducible refine (CP.out _ HBx.out).mono ?_); rintro e wn ⟨rfl, hbn⟩; have HBx := Lib.hid (HBx.out.trans (hbn.mono HBx.out.size)); clear hbn)
                go_roundg (ws.length + 1 - (k + 1))
                case measure => have := HK.out; omega
                case rel => exact ⟨k + 1, false, by have := HK.out; omega, by rw [Int.natCast_add]; rfl, rfl, tw_more HKb.out (by have h0 := HB0.out; have := HPQ.out.1; simp at this; rw [h0]; simp [this]), HBx.out⟩
              | true =>
                by_cases hkc : k = cb
                · have hnk : nb = k := by omega
                  have CQ' := Lib.hid (fun (w : World) (hb : Below w14.heap.size w14 w) => takes_lit (Aw := some ⟨gw, 0, none⟩) (nw := 0) (cw := 0) (HM2.out w (u12.out.trans (hb.mono u12.out.size))) (show WdA w (.slice (some ⟨gw, 0, none⟩) 0 0) (ws.drop k) from by
                    have e : ws.drop k = [] := List.drop_eq_nil_of_le (by have := HW7.out.2.2; omega)
                    rw [e]
                    exact ⟨_, 0, rfl, fun j s h => by simp at h⟩) (by rw [List.length_drop]; have := HW7.out.2.1; omega) bq HPQ.out.2)
                  subst hkc
                  subst hnk
                  clear CQ
                  go_wp2_with (first
                    | (go_at_call 17; (with_reducible refine (CP.out _ HBx.out).mono ?_); rintro e wn ⟨rfl, hbn⟩; have HBx := Lib.hid (HBx.out.trans (hbn.mono HBx.out.size)); clear hbn)
                    | (go_at_call 17; (with_reducible refine (CQ'.out _ HBx.out).mono ?_); rintro e wn ⟨rfl, hbn⟩; have HBx := Lib.hid (HBx.out.trans (hbn.mono HBx.out.size)); clear hbn))
                  go_roundg (ws.length + 1 - (nb + 1))
                  case measure => have := HK.out; omega
                  case rel => exact ⟨nb + 1, bq, by have := HK.out; omega, by rw [Int.natCast_add]; rfl, rfl, tw_more HKb.out (by have h0 := HB0.out; have h1 := HPQ.out.1; have h2 := HPQ.out.2; simp at h1; rw [h2, h0]; simp [h1]), HBx.out⟩
                · have hkc' : k < cb := by omega
                  have hkc2 : (k : Int) < (cb : Int) := by omega
                  have hkc3 : ¬ cb = k := by omega
                  have hkc4 : ¬ cb - k = 0 := by omega
                  have hkc5 : ¬ cb ≤ k := by omega
                  go_wp2_with (first
                    | (go_at_call 17; (with_reducible refine (CP.out _ HBx.out).mono ?_); rintro e wn ⟨rfl, hbn⟩; have HBx := Lib.hid (HBx.out.trans (hbn.mono HBx.out.size)); clear hbn)
                    | (go_at_call 17; (with_reducible refine (CQ.out _ HBx.out).mono ?_); rintro e wn ⟨rfl, hbn⟩; have HBx := Lib.hid (HBx.out.trans (hbn.mono HBx.out.size)); clear hbn))
                  go_roundg (ws.length + 1 - (k + 1))
                  case measure => have := HK.out; omega
                  case rel => exact ⟨k + 1, bq, by have := HK.out; omega, by rw [Int.natCast_add]; rfl, rfl, tw_more HKb.out (by have h0 := HB0.out; have h1 := HPQ.out.1; have h2 := HPQ.out.2; simp at h1; rw [h2, h0]; simp [h1]), HBx.out⟩
          · have kn : ¬ (k : Int) ≤ (nb : Int) := by omega
            have kn' : decide ((k : Int) ≤ (nb : Int)) = false := decide_eq_false kn
            have kn'' : decide (k ≤ nb) = false := decide_eq_false hkn
            have hke : k = ws.length + 1 := by have := HW7.out.2.2; omega
            have HQ := Lib.hid (show b = true ↔ lang (.mk 2 0 [t, u]) ws from by
              rw [hb, lang_seq]
              refine Iff.trans ?_ (Iff.trans (cat_cut (lang t) (lang u) ws).symm (catL_congr (fun _ => Iff.rfl) (fun w => (seql_one _ w).symm) ws))
              constructor
              · rintro ⟨i, h1, h2⟩; exact ⟨i, by omega, h2⟩
              · rintro ⟨i, h1, h2⟩; exact ⟨i, by omega, h2⟩)
            obtain ⟨bA, hbA⟩ := bool_of (lang t ws)
            obtain ⟨bB, hbB⟩ := bool_of (lang u ws)
            have CA := Lib.hid (fun (w : World) (hb : Below w14.heap.size w14 w) => takes_lit (HM1.out w (u11.out.trans (hb.mono u11.out.size))) (HWd14.out w hb) (by have := HW7.out.2.1; omega) bA hbA)
            have CB := Lib.hid (fun (w : World) (hb : Below w14.heap.size w14 w) => takes_lit (HM2.out w (u12.out.trans (hb.mono u12.out.size))) (HWd14.out w hb) (by have := HW7.out.2.1; omega) bB hbB)
            have CO := Lib.hid (fun (w : World) (hb : Below w14.heap.size w14 w) => takes_lit (HM3.out w (HU14.out.trans (hb.mono HU14.out.size))) (HWd14.out w hb) (by have := HW7.out.2.1; omega) (bA || bB) (by rw [lang_alt]; simp [langs, Altl, hbA, hbB]))
            have CS := Lib.hid (fun (w : World) (hb : Below w14.heap.size w14 w) => takes_lit (HM4.out w hb) (HWd14.out w hb) (by have := HW7.out.2.1; omega) b HQ.out)
            clear hb hbw hk hke hbA hbB hkn
            cases bA with
            | true =>
              have z : (true || bB) = true := rfl
              rw [z] at CO
              clear z
              go_wp2_with (first
                | (go_at_call 17; (with_reducible refine (CO.out _ HBx.out).mono ?_); rintro e wn ⟨rfl, hbn⟩; have HBx := Lib.hid (HBx.out.trans (hbn.mono HBx.out.size)); clear hbn)
                | (go_at_call 17; (with_reducible refine (CA.out _ HBx.out).mono ?_); rintro e wn ⟨rfl, hbn⟩; have HBx := Lib.hid (HBx.out.trans (hbn.mono HBx.out.size)); clear hbn)
                | (go_at_call 17; (with_reducible refine (CB.out _ HBx.out).mono ?_); rintro e wn ⟨rfl, hbn⟩; have HBx := Lib.hid (HBx.out.trans (hbn.mono HBx.out.size)); clear hbn)
                | (go_at_call 17; (with_reducible refine (CS.out _ HBx.out).mono ?_); rintro e wn ⟨rfl, hbn⟩; have HBx := Lib.hid (HBx.out.trans (hbn.mono HBx.out.size)); clear hbn))
              go_ret
              exact ⟨rfl, HB9.out.trans ((HB14.out.trans (HBx.out.mono HB14.out.size)).mono HB9.out.size)⟩
            | false =>
              have z : (false || bB) = bB := rfl
              rw [z] at CO
              clear z
              go_wp2_with (first
                | (go_at_call 17; (with_reducible refine (CO.out _ HBx.out).mono ?_); rintro e wn ⟨rfl, hbn⟩; have HBx := Lib.hid (HBx.out.trans (hbn.mono HBx.out.size)); clear hbn)
                | (go_at_call 17; (with_reducible refine (CA.out _ HBx.out).mono ?_); rintro e wn ⟨rfl, hbn⟩; have HBx := Lib.hid (HBx.out.trans (hbn.mono HBx.out.size)); clear hbn)
                | (go_at_call 17; (with_reducible refine (CB.out _ HBx.out).mono ?_); rintro e wn ⟨rfl, hbn⟩; have HBx := Lib.hid (HBx.out.trans (hbn.mono HBx.out.size)); clear hbn)
                | (go_at_call 17; (with_reducible refine (CS.out _ HBx.out).mono ?_); rintro e wn ⟨rfl, hbn⟩; have HBx := Lib.hid (HBx.out.trans (hbn.mono HBx.out.size)); clear hbn))
              go_ret
              exact ⟨rfl, HB9.out.trans ((HB14.out.trans (HBx.out.mono HB14.out.size)).mono HB9.out.size)⟩
end Go.Proofs.Ytghlajfalgdkfaa
