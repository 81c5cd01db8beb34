/-
  MERGED (a claim has at most 60 files): QText, QPrt.
-/
import Derived.Test.YtpnfjjgihkmjmaaGreatDoorZ22
import Derived.Test.YtpnfjjgihkmjmaaGreatDoorZ36
import Derived.Test.YtpnfjjgihkmjmaaGreatDoorZ30
import Derived.Test.YtpnfjjgihkmjmaaGreatDoorZ29
/-
  THE DOCUMENT's 'Text' of a term.
-/
namespace Go.Proofs.YtpnfjjgihkmjmaaGreatDoor
open Go.RowKit
set_option linter.unusedVariables false
set_option linter.unusedSimpArgs false

set_option maxRecDepth 100000 in
set_option maxHeartbeats 4000000 in
theorem qtext_any (t : Tm) (hg : goodT t = true) (hf : t.few) (w : World) :
    Calls Tryz.prog 49 #[T4 t] w fun e w' => e = .returned (.string (textOf (tS t))) ∧ Below w.heap.size w w' := by
  obtain ⟨z, hz⟩ : ∃ z, z = textOf (tS t) := ⟨_, rfl⟩
  rw [← hz]
  cases t with
  | iri s =>
    have e := sg_text (iri_signs (s := s) hg).1
    have hs : s.size ≤ 1000000 := by have := hf.1; simp only [Tm.ta] at this; omega
    have hz2 : z = (⟨#[60]⟩ ++ s) ++ ⟨#[62]⟩ := by
      rw [hz]; unfold tS; rw [text_cons, textOf_app, e, ← ByteArray.append_assoc]; rfl
    obtain ⟨y, hy⟩ : ∃ y : ByteArray, y = ⟨#[60]⟩ ++ s := ⟨_, rfl⟩
    have hys : y.size = 1 + s.size := by rw [hy, ByteArray.size_append]; rfl
    have a1 : ∀ W, (Op.stringOp .add ⟨#[60]⟩ s).run Tryz.prog W = .ok (.string y) W := fun W => by rw [hy]; exact add_any _ _ (by show 1 + s.size ≤ _; omega) W
    have a2 : ∀ W, (Op.stringOp .add y ⟨#[62]⟩).run Tryz.prog W = .ok (.string z) W := fun W => by rw [hz2, ← hy]; exact add_any _ _ (by show y.size + 1 ≤ _; omega) W
    simp only [T4, Tm.kind, Tm.ta, Tm.tb, Tm.tc]
    clear hz hz2 hg hf hs e hy hys
    go_enter Tryz.func49, Tryz.ntmps49
    go_wp2
    go_ret
    exact ⟨rfl, (Below.refl _ _).alloc (Nat.le_refl _) _⟩
  | blank s =>
    have e := sg_text (label_signs (s := s) hg).1
    have hs : s.size ≤ 1000000 := by have := hf.1; simp only [Tm.ta] at this; omega
    have hz2 : z = ⟨#[95, 58]⟩ ++ s := by
      rw [hz]; unfold tS
      have e3 : textOf (95 :: 58 :: (sgP s).1) = textOf [95, 58] ++ textOf (sgP s).1 := by rw [← textOf_app]; rfl
      rw [e3, e]; rfl
    have a1 : ∀ W, (Op.stringOp .add ⟨#[95, 58]⟩ s).run Tryz.prog W = .ok (.string z) W := fun W => by rw [hz2]; exact add_any _ _ (by show 2 + s.size ≤ _; omega) W
    simp only [T4, Tm.kind, Tm.ta, Tm.tb, Tm.tc]
    clear hz hz2 hg hf hs e
    go_enter Tryz.func49, Tryz.ntmps49
    go_wp2
    go_ret
    exact ⟨rfl, (Below.refl _ _).alloc (Nat.le_refl _) _⟩
  | lit a b c =>
    have hg' : litG a b c = true := hg
    unfold litG at hg'
    rw [Bool.and_eq_true] at hg'
    have ea : (sgP a).2 = [] := by
      have := hg'.1
      unfold textG at this
      rw [Bool.and_eq_true, decide_eq_true_eq, decide_eq_true_eq] at this
      exact this.2
    have ha : a.size ≤ 1000000 := by have := hf.1; simp only [Tm.ta] at this; omega
    have hb : b.size ≤ 1000000 := by have := hf.2.1; simp only [Tm.tb] at this; omega
    have hc : c.size ≤ 1000000 := by have := hf.2.2; simp only [Tm.tc] at this; omega
    have hpa := sgP_parts a
    rw [ea] at hpa
    obtain ⟨l, hl⟩ : ∃ l, l = (sgP a).1 := ⟨_, rfl⟩
    rw [← hl] at hpa
    have hlen : l.length ≤ 1000000 := by have := hpa.size; have := encL_len l; omega
    have cS : ∀ W, Calls Tryz.prog 14 #[.string a] W (SignsPost W l (decide (([] : List UInt8) = []))) := fun W => signs_any a l [] hpa (by omega) W
    have hd : decide (([] : List UInt8) = []) = true := rfl
    rw [hd] at cS
    have hq2 : quo l = textOf (quoS l) := by unfold quo; apply bx; rw [textOf_list, quoS_bytes]
    obtain ⟨x, hx⟩ : ∃ x, x = quo l := ⟨_, rfl⟩
    have cQ : ∀ {B W v}, Ints B W v l → Calls Tryz.prog 76 #[v] W fun e w' => e = .returned (.string x) ∧ Below W.heap.size W w' := fun {B W v} h => by
      rw [hx]
      obtain ⟨ao, cap, rfl, hcc⟩ := ints_open h
      by_cases h0 : 0 < l.length
      · obtain ⟨g, rfl, hlt, hcell⟩ := hcc h0
        exact rquote_any l hpa.all hlen _ g 0 cap W (fun _ => ⟨rfl, hlt⟩) hcell
      · have e0 : l = [] := List.length_eq_zero_iff.1 (by omega)
        rw [e0]
        exact rquote_any [] allS_nil (by simp) ao 0 0 cap W (fun hp => absurd hp (by simp)) (fun j x hx => by simp at hx)
    have hxs : x.size ≤ 50000000 := by
      have h1 := text_size (quoS l)
      have h2 := body_six l
      rw [quoS_len] at h1
      rw [hx, hq2]; omega
    have hzx : z = x ++ textOf (tailS b c) := by rw [hz, hx, hq2, hl]; unfold tS; exact textOf_app _ _
    have hN0 : Ny w w.heap.size #[.int .i64 2, .string a, .string b, .string c] (w.alloc (.cells #[.int .i64 2, .string a, .string b, .string c] 36)) := Ny.mk (Below.refl _ _) _
    unfold tailS at hzx
    simp only [T4, Tm.kind, Tm.ta, Tm.tb, Tm.tc]
    by_cases h0 : c.size = 0
    · rw [if_pos h0] at hzx hg'
      have hcm := mt_of h0
      subst hcm
      by_cases hbx : b = XS
      · rw [if_pos hbx] at hzx
        subst hbx
        have hzz : z = x := by rw [hzx]; apply bx; rw [ByteArray.data_append, Array.toList_append]; exact List.append_nil _
        subst hzz
        clear hz hg hg' hf ea ha hb hc hpa hl hlen hd hq2 hx hxs hzx h0
        go_enter Tryz.func49, Tryz.ntmps49
        go_wp2_with (first
          | (go_at_call 14; (with_reducible refine (cS _).mono ?_); rintro e w4 ⟨vI, rfl, hI4, hb4⟩; obtain ⟨aoI, capI, rfl⟩ := ints_shape hI4; have hN4 := hN0.below hb4)
          | (go_at_call 76; (with_reducible refine (ny_of hN4 (cQ hI4)).mono ?_); rintro e w5 ⟨rfl, hN5⟩; obtain ⟨y0, y1, y2, y3⟩ := hN5.cells))
        go_ret
        exact ⟨rfl, hN5.1⟩
      · rw [if_neg hbx] at hzx
        rw [Bool.and_eq_true] at hg'
        have e := sg_text (iri_signs hg'.2.2).1
        have e3 : textOf (94 :: 94 :: 60 :: ((sgP b).1 ++ [62])) = (textOf [94, 94, 60] ++ textOf (sgP b).1) ++ textOf [62] := by rw [← textOf_app, ← textOf_app]; rfl
        rw [e3, e] at hzx
        obtain ⟨y, hy⟩ : ∃ y : ByteArray, y = x ++ ⟨#[94, 94, 60]⟩ := ⟨_, rfl⟩
        have hys : y.size = x.size + 3 := by rw [hy, ByteArray.size_append]; rfl
        obtain ⟨y', hy'⟩ : ∃ y' : ByteArray, y' = y ++ b := ⟨_, rfl⟩
        have hys' : y'.size = y.size + b.size := by rw [hy', ByteArray.size_append]
        have hzy : z = y' ++ ⟨#[62]⟩ := by rw [hzx, hy', hy, ← ByteArray.append_assoc, ← ByteArray.append_assoc]; rfl
        have a1 : ∀ W, (Op.stringOp .add x ⟨#[94, 94, 60]⟩).run Tryz.prog W = .ok (.string y) W := fun W => by rw [hy]; exact add_any _ _ (by show x.size + 3 ≤ _; omega) W
        have a2 : ∀ W, (Op.stringOp .add y b).run Tryz.prog W = .ok (.string y') W := fun W => by rw [hy']; exact add_any _ _ (by omega) W
        have a3 : ∀ W, (Op.stringOp .add y' ⟨#[62]⟩).run Tryz.prog W = .ok (.string z) W := fun W => by rw [hzy]; exact add_any _ _ (by show y'.size + 1 ≤ _; omega) W
        have hn : (b.toList == lS) = false := by
          rw [beq_eq_false_iff_ne]
          intro e
          apply hbx
          rw [ByteArray.toList_eq] at e
          obtain ⟨⟨m⟩⟩ := b
          have : m = lS := e
          subst this
          rfl
        clear hz hg hg' hf ea ha hb hc hpa hl hlen hd hq2 hx hxs hzx h0 e e3 hy hys hy' hys' hzy
        go_enter Tryz.func49, Tryz.ntmps49
        go_wp2_with (first
          | (go_at_call 14; (with_reducible refine (cS _).mono ?_); rintro e w4 ⟨vI, rfl, hI4, hb4⟩; obtain ⟨aoI, capI, rfl⟩ := ints_shape hI4; have hN4 := hN0.below hb4)
          | (go_at_call 76; (with_reducible refine (ny_of hN4 (cQ hI4)).mono ?_); rintro e w5 ⟨rfl, hN5⟩; obtain ⟨y0, y1, y2, y3⟩ := hN5.cells))
        go_ret
        exact ⟨rfl, hN5.1⟩
    · rw [if_neg h0] at hzx hg'
      rw [Bool.and_eq_true] at hg'
      have e := sg_text (lang_signs hg'.2.2).1
      rw [text_cons, e] at hzx
      obtain ⟨y, hy⟩ : ∃ y : ByteArray, y = x ++ ⟨#[64]⟩ := ⟨_, rfl⟩
      have hys : y.size = x.size + 1 := by rw [hy, ByteArray.size_append]; rfl
      have hzy : z = y ++ c := by rw [hzx, hy, ← ByteArray.append_assoc]; rfl
      have a1 : ∀ W, (Op.stringOp .add x ⟨#[64]⟩).run Tryz.prog W = .ok (.string y) W := fun W => by rw [hy]; exact add_any _ _ (by show x.size + 1 ≤ _; omega) W
      have a2 : ∀ W, (Op.stringOp .add y c).run Tryz.prog W = .ok (.string z) W := fun W => by rw [hzy]; exact add_any _ _ (by omega) W
      have hn : (c.toList == []) = false := by
        rw [beq_eq_false_iff_ne]
        intro e
        apply h0
        rw [ByteArray.toList_eq] at e
        obtain ⟨⟨m⟩⟩ := c
        have : m = [] := e
        subst this
        rfl
      have hn2 : ¬ c = mt := fun e => h0 (by rw [e]; rfl)
      clear hz hg hg' hf ea ha hb hc hpa hl hlen hd hq2 hx hxs hzx e hy hys hzy
      go_enter Tryz.func49, Tryz.ntmps49
      go_wp2_with (first
        | (go_at_call 14; (with_reducible refine (cS _).mono ?_); rintro e w4 ⟨vI, rfl, hI4, hb4⟩; obtain ⟨aoI, capI, rfl⟩ := ints_shape hI4; have hN4 := hN0.below hb4)
        | (go_at_call 76; (with_reducible refine (ny_of hN4 (cQ hI4)).mono ?_); rintro e w5 ⟨rfl, hN5⟩; obtain ⟨y0, y1, y2, y3⟩ := hN5.cells))
      go_ret
      exact ⟨rfl, hN5.1⟩
  | odd n => cases hg
  | none => cases hg
end Go.Proofs.YtpnfjjgihkmjmaaGreatDoor

/-
  THE DOCUMENT's Print: lines of triples.
-/
namespace Go.Proofs.YtpnfjjgihkmjmaaGreatDoor
open Go.RowKit
set_option linter.unusedVariables false
set_option linter.unusedSimpArgs false

def QpI (w : World) (L : List (List Tm)) (g : Nat) (s3 s7 : Value) (wr : World) : Prop := ∃ i : Nat, i + g = L.length ∧ s7 = .int .i64 i ∧ s3 = .string (textOf (lnsS (L.take i))) ∧ Below w.heap.size w wr
def c12 (ts : List Tm) : List Value := ts.flatMap c4
theorem ln_bytes (P : List Int) (a b c : Tm) : textOf (P ++ lnS [a, b, c]) = (((((textOf P ++ textOf (tS a)) ++ ⟨#[32]⟩) ++ textOf (tS b)) ++ ⟨#[32]⟩) ++ textOf (tS c)) ++ ⟨#[32, 46, 10]⟩ := by
  have e : P ++ lnS [a, b, c] = (((((P ++ tS a) ++ [32]) ++ tS b) ++ [32]) ++ tS c) ++ [32, 46, 10] := by simp [lnS]
  rw [e]
  simp only [textOf_app]
  rfl
set_option maxRecDepth 100000 in
set_option maxHeartbeats 8000000 in
theorem qprint_any (L : List (List Tm)) (hL : ∀ ts ∈ L, Sm ts ∧ Gd ts) (hn : L.length ≤ 30) (A : Option Addr) (cap : Nat) (w : World) (hs : SlAt w A 12 (L.map c12)) :
    Calls Tryz.prog 13 #[.slice A L.length cap] w fun e w' => e = .returned (.string (textOf (lnsS L))) ∧ Below w.heap.size w w' := by
  have HS := Lib.hid hs
  have HL := Lib.hid hL
  have HN := Lib.hid hn
  clear hs hL hn
  go_enter Tryz.func13, Tryz.ntmps13
  go_wp2
  go_loopg [3, 7] L.length (fun g s3 s7 wr => QpI w L g s3 s7 wr)
  case atStart => exact ⟨0, by omega, rfl, rfl, Below.refl _ _⟩
  case round =>
    obtain ⟨i, hig, rfl, rfl, hB⟩ := hrel
    cases gk with
    | zero =>
      have hin : ¬ (i : Int) < (L.length : Int) := by omega
      have e : L.take i = L := List.take_of_length_le (by omega)
      rw [e]
      clear hig e
      go_wp2
      go_ret
      exact ⟨rfl, hB⟩
    | succ g =>
      have hin : (i : Int) < (L.length : Int) := by omega
      have hi0 : (0 : Int) ≤ (i : Int) := by omega
      obtain ⟨ts, hts⟩ : ∃ ts, L[i]? = some ts := ⟨_, List.getElem?_eq_getElem (by omega)⟩
      obtain ⟨hsm, hgd⟩ := HL.out ts (List.mem_of_getElem? hts)
      have hfw := hsm.few
      have hls := ln_size hsm hgd
      obtain ⟨x0, x1, x2, rfl, hg, hm⟩ := hgd
      obtain ⟨ga, oa, rfl, hga, hq⟩ := HS.out i (c12 [x0, x1, x2]) (by rw [List.getElem?_map, hts]; rfl)
      have c0 := qtext_any x0 hg.1 (hfw x0 (by simp))
      have c1 := qtext_any x1 hg.2.1 (hfw x1 (by simp))
      have c2 := qtext_any x2 hg.2.2 (hfw x2 (by simp))
      have hpre := lns_size (L.take i) fun x hx => HL.out x (List.mem_of_mem_take hx)
      have hlt : (L.take i).length ≤ 30 := by rw [List.length_take]; have := HN.out; omega
      have hnx : textOf (lnsS (L.take (i + 1))) = textOf (lnsS (L.take i) ++ lnS [x0, x1, x2]) := by
        rw [List.take_add_one, hts]
        show textOf (lnsS (L.take i ++ [[x0, x1, x2]])) = _
        rw [lnsS_app, lnsS_cons]
        simp [lnsS]
      have hsum := hls
      rw [ln_bytes] at hnx
      have hb3 := ln_bytes [] x0 x1 x2
      rw [List.nil_append] at hb3
      rw [hb3] at hsum
      simp only [ByteArray.size_append] at hsum
      clear hb3 hls
      unfold T4 at c0 c1 c2
      generalize textOf (lnsS (L.take i)) = s at hpre hnx ⊢
      generalize textOf (tS x0) = z0 at c0 hnx hsum
      generalize textOf (tS x1) = z1 at c1 hnx hsum
      generalize textOf (tS x2) = z2 at c2 hnx hsum
      have m1 : (⟨#[32]⟩ : ByteArray).size = 1 := rfl
      have m2 : (⟨#[32, 46, 10]⟩ : ByteArray).size = 3 := rfl
      rw [m1, m2] at hsum
      obtain ⟨s1, h1⟩ : ∃ y, y = s ++ z0 := ⟨_, rfl⟩
      obtain ⟨s2, h2⟩ : ∃ y, y = s1 ++ (⟨#[32]⟩ : ByteArray) := ⟨_, rfl⟩
      obtain ⟨s3, h3⟩ : ∃ y, y = s2 ++ z1 := ⟨_, rfl⟩
      obtain ⟨s4, h4⟩ : ∃ y, y = s3 ++ (⟨#[32]⟩ : ByteArray) := ⟨_, rfl⟩
      obtain ⟨s5, h5⟩ : ∃ y, y = s4 ++ z2 := ⟨_, rfl⟩
      obtain ⟨s6, h6⟩ : ∃ y, y = s5 ++ (⟨#[32, 46, 10]⟩ : ByteArray) := ⟨_, rfl⟩
      have n1 : s1.size = s.size + z0.size := by rw [h1, ByteArray.size_append]
      have n2 : s2.size = s1.size + 1 := by rw [h2, ByteArray.size_append, m1]
      have n3 : s3.size = s2.size + z1.size := by rw [h3, ByteArray.size_append]
      have n4 : s4.size = s3.size + 1 := by rw [h4, ByteArray.size_append, m1]
      have n5 : s5.size = s4.size + z2.size := by rw [h5, ByteArray.size_append]
      have A1 : ∀ W, (Op.stringOp .add s z0).run Tryz.prog W = .ok (.string s1) W := fun W => by rw [h1]; exact add_any _ _ (by omega) W
      have A2 : ∀ W, (Op.stringOp .add s1 ⟨#[32]⟩).run Tryz.prog W = .ok (.string s2) W := fun W => by rw [h2]; exact add_any _ _ (by rw [m1]; omega) W
      have a3 : ∀ W, (Op.stringOp .add s2 z1).run Tryz.prog W = .ok (.string s3) W := fun W => by rw [h3]; exact add_any _ _ (by omega) W
      have a4 : ∀ W, (Op.stringOp .add s3 ⟨#[32]⟩).run Tryz.prog W = .ok (.string s4) W := fun W => by rw [h4]; exact add_any _ _ (by rw [m1]; omega) W
      have a5 : ∀ W, (Op.stringOp .add s4 z2).run Tryz.prog W = .ok (.string s5) W := fun W => by rw [h5]; exact add_any _ _ (by omega) W
      have a6 : ∀ W, (Op.stringOp .add s5 ⟨#[32, 46, 10]⟩).run Tryz.prog W = .ok (.string s6) W := fun W => by rw [h6]; exact add_any _ _ (by rw [m2]; omega) W
      rw [← h1, ← h2, ← h3, ← h4, ← h5, ← h6] at hnx
      obtain ⟨k0, yk0⟩ : ∃ y, y = x0.kind := ⟨_, rfl⟩
      obtain ⟨a0, ya0⟩ : ∃ y, y = x0.ta := ⟨_, rfl⟩
      obtain ⟨b0, yb0⟩ : ∃ y, y = x0.tb := ⟨_, rfl⟩
      obtain ⟨d0, yd0⟩ : ∃ y, y = x0.tc := ⟨_, rfl⟩
      rw [← yk0, ← ya0, ← yb0, ← yd0] at c0
      obtain ⟨k1, yk1⟩ : ∃ y, y = x1.kind := ⟨_, rfl⟩
      obtain ⟨a1, ya1⟩ : ∃ y, y = x1.ta := ⟨_, rfl⟩
      obtain ⟨b1, yb1⟩ : ∃ y, y = x1.tb := ⟨_, rfl⟩
      obtain ⟨d1, yd1⟩ : ∃ y, y = x1.tc := ⟨_, rfl⟩
      rw [← yk1, ← ya1, ← yb1, ← yd1] at c1
      obtain ⟨k2, yk2⟩ : ∃ y, y = x2.kind := ⟨_, rfl⟩
      obtain ⟨a2, ya2⟩ : ∃ y, y = x2.ta := ⟨_, rfl⟩
      obtain ⟨b2, yb2⟩ : ∃ y, y = x2.tb := ⟨_, rfl⟩
      obtain ⟨d2, yd2⟩ : ∃ y, y = x2.tc := ⟨_, rfl⟩
      rw [← yk2, ← ya2, ← yb2, ← yd2] at c2
      have q0 : w.cell? ⟨ga, oa + i * 12, none⟩ = some (.int .i64 k0) := by rw [yk0]; exact hq 0 _ rfl
      have q1 : w.cell? ⟨ga, oa + i * 12 + 1, none⟩ = some (.string a0) := by rw [ya0]; exact hq 1 _ rfl
      have q2 : w.cell? ⟨ga, oa + i * 12 + 2, none⟩ = some (.string b0) := by rw [yb0]; exact hq 2 _ rfl
      have q3 : w.cell? ⟨ga, oa + i * 12 + 3, none⟩ = some (.string d0) := by rw [yd0]; exact hq 3 _ rfl
      have q4 : w.cell? ⟨ga, oa + i * 12 + 4, none⟩ = some (.int .i64 k1) := by rw [yk1]; exact hq 4 _ rfl
      have q5 : w.cell? ⟨ga, oa + i * 12 + 5, none⟩ = some (.string a1) := by rw [ya1]; exact hq 5 _ rfl
      have q6 : w.cell? ⟨ga, oa + i * 12 + 6, none⟩ = some (.string b1) := by rw [yb1]; exact hq 6 _ rfl
      have q7 : w.cell? ⟨ga, oa + i * 12 + 7, none⟩ = some (.string d1) := by rw [yd1]; exact hq 7 _ rfl
      have q8 : w.cell? ⟨ga, oa + i * 12 + 8, none⟩ = some (.int .i64 k2) := by rw [yk2]; exact hq 8 _ rfl
      have q9 : w.cell? ⟨ga, oa + i * 12 + 9, none⟩ = some (.string a2) := by rw [ya2]; exact hq 9 _ rfl
      have q10 : w.cell? ⟨ga, oa + i * 12 + 10, none⟩ = some (.string b2) := by rw [yb2]; exact hq 10 _ rfl
      have q11 : w.cell? ⟨ga, oa + i * 12 + 11, none⟩ = some (.string d2) := by rw [yd2]; exact hq 11 _ rfl
      have K : ∀ W, Below w.heap.size w W → W.cell? ⟨ga, oa + i * 12, none⟩ = some (.int .i64 k0) ∧ W.cell? ⟨ga, oa + i * 12 + 1, none⟩ = some (.string a0) ∧ W.cell? ⟨ga, oa + i * 12 + 2, none⟩ = some (.string b0) ∧ W.cell? ⟨ga, oa + i * 12 + 3, none⟩ = some (.string d0) ∧ W.cell? ⟨ga, oa + i * 12 + 4, none⟩ = some (.int .i64 k1) ∧ W.cell? ⟨ga, oa + i * 12 + 5, none⟩ = some (.string a1) ∧ W.cell? ⟨ga, oa + i * 12 + 6, none⟩ = some (.string b1) ∧ W.cell? ⟨ga, oa + i * 12 + 7, none⟩ = some (.string d1) ∧ W.cell? ⟨ga, oa + i * 12 + 8, none⟩ = some (.int .i64 k2) ∧ W.cell? ⟨ga, oa + i * 12 + 9, none⟩ = some (.string a2) ∧ W.cell? ⟨ga, oa + i * 12 + 10, none⟩ = some (.string b2) ∧ W.cell? ⟨ga, oa + i * 12 + 11, none⟩ = some (.string d2) := fun W hb =>
        ⟨(hb.cell (p := ⟨ga, oa + i * 12, none⟩) hga).trans q0, (hb.cell (p := ⟨ga, oa + i * 12 + 1, none⟩) hga).trans q1, (hb.cell (p := ⟨ga, oa + i * 12 + 2, none⟩) hga).trans q2, (hb.cell (p := ⟨ga, oa + i * 12 + 3, none⟩) hga).trans q3, (hb.cell (p := ⟨ga, oa + i * 12 + 4, none⟩) hga).trans q4, (hb.cell (p := ⟨ga, oa + i * 12 + 5, none⟩) hga).trans q5, (hb.cell (p := ⟨ga, oa + i * 12 + 6, none⟩) hga).trans q6, (hb.cell (p := ⟨ga, oa + i * 12 + 7, none⟩) hga).trans q7, (hb.cell (p := ⟨ga, oa + i * 12 + 8, none⟩) hga).trans q8, (hb.cell (p := ⟨ga, oa + i * 12 + 9, none⟩) hga).trans q9, (hb.cell (p := ⟨ga, oa + i * 12 + 10, none⟩) hga).trans q10, (hb.cell (p := ⟨ga, oa + i * 12 + 11, none⟩) hga).trans q11⟩
      have C0 : ∀ {W : World}, Below w.heap.size w W → Calls Tryz.prog 49 #[F4 k0 a0 b0 d0] W fun e w' => e = .returned (.string z0) ∧ Below w.heap.size w w' := fun {W} hb => (c0 W).mono fun _ _ ⟨x, y⟩ => ⟨x, hb.trans (y.mono hb.size)⟩
      have C1 : ∀ {W : World}, Below w.heap.size w W → Calls Tryz.prog 49 #[F4 k1 a1 b1 d1] W fun e w' => e = .returned (.string z1) ∧ Below w.heap.size w w' := fun {W} hb => (c1 W).mono fun _ _ ⟨x, y⟩ => ⟨x, hb.trans (y.mono hb.size)⟩
      have C2 : ∀ {W : World}, Below w.heap.size w W → Calls Tryz.prog 49 #[F4 k2 a2 b2 d2] W fun e w' => e = .returned (.string z2) ∧ Below w.heap.size w w' := fun {W} hb => (c2 W).mono fun _ _ ⟨x, y⟩ => ⟨x, hb.trans (y.mono hb.size)⟩
      have HIG := Lib.hid hig
      have HNX := Lib.hid hnx
      clear hig hnx hsum hpre hlt hfw hsm hg hm hts hq c0 c1 c2 h1 h2 h3 h4 h5 h6 n1 n2 n3 n4 n5 m1 m2 hga q0 q1 q2 q3 q4 q5 q6 q7 q8 q9 q10 q11 yk0 ya0 yb0 yd0 yk1 ya1 yb1 yd1 yk2 ya2 yb2 yd2
      go_wp2
      go_region_held3 (fun W => W.cell? ⟨ga, oa + i * 12, none⟩ = some (.int .i64 k0) ∧ W.cell? ⟨ga, oa + i * 12 + 1, none⟩ = some (.string a0) ∧ W.cell? ⟨ga, oa + i * 12 + 2, none⟩ = some (.string b0) ∧ W.cell? ⟨ga, oa + i * 12 + 3, none⟩ = some (.string d0) ∧ W.cell? ⟨ga, oa + i * 12 + 4, none⟩ = some (.int .i64 k1) ∧ W.cell? ⟨ga, oa + i * 12 + 5, none⟩ = some (.string a1) ∧ W.cell? ⟨ga, oa + i * 12 + 6, none⟩ = some (.string b1) ∧ W.cell? ⟨ga, oa + i * 12 + 7, none⟩ = some (.string d1) ∧ W.cell? ⟨ga, oa + i * 12 + 8, none⟩ = some (.int .i64 k2) ∧ W.cell? ⟨ga, oa + i * 12 + 9, none⟩ = some (.string a2) ∧ W.cell? ⟨ga, oa + i * 12 + 10, none⟩ = some (.string b2) ∧ W.cell? ⟨ga, oa + i * 12 + 11, none⟩ = some (.string d2))
        (first | exact K _ (by assumption) | exact K _ (Below.drew (by assumption)))
        (first
          | (go_at_call 49; (with_reducible refine (C0 (by first | assumption | exact Below.drew (by assumption))).mono ?_); rintro e wa ⟨rfl, hBa⟩)
          | (go_at_call 49; (with_reducible refine (C1 (by first | assumption | exact Below.drew (by assumption))).mono ?_); rintro e wb ⟨rfl, hBb⟩)
          | (go_at_call 49; (with_reducible refine (C2 (by first | assumption | exact Below.drew (by assumption))).mono ?_); rintro e wc ⟨rfl, hBc⟩))
      all_goals
        go_wp2
        go_roundg g
        case measure => exact Nat.lt_succ_self g
        case rel => exact ⟨i + 1, by have := HIG.out; omega, by have h9 : i < 30 := (by have := HIG.out; have := HN.out; omega); first | rfl | (rw [IntWalk.wrap64_in _ ⟨by omega, by omega⟩, Int.natCast_succ]), by rw [HNX.out], by assumption⟩
end Go.Proofs.YtpnfjjgihkmjmaaGreatDoor
