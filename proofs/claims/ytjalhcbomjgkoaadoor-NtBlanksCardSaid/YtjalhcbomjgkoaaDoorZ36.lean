/-
  MERGED (a claim has at most 60 files): QPrt.
-/
import Derived.Test.YtjalhcbomjgkoaaDoorZ33
import Derived.Test.YtjalhcbomjgkoaaDoorZ35
/-
  THE DOCUMENT's Print: lines of triples.
-/
namespace Go.Proofs.YtjalhcbomjgkoaaDoor
open Go.RowKit
set_option linter.unusedVariables false
set_option linter.unusedSimpArgs false

def QpI (w : World) (L : List (List Tm)) (g : Nat) (s3 s7 : Value) (wr : World) : Prop := ∃ i : Nat, i + g = L.length ∧ s7 = .int .i64 i ∧ s3 = .string (textOf (lnsS (L.take i))) ∧ Below w.heap.size w wr
def c12 (ts : List Tm) : List Value := ts.flatMap c4
theorem ln_bytes (P : List Int) (a b c : Tm) : textOf (P ++ lnS [a, b, c]) = (((((textOf P ++ textOf (tS a)) ++ ⟨#[32]⟩) ++ textOf (tS b)) ++ ⟨#[32]⟩) ++ textOf (tS c)) ++ ⟨#[32, 46, 10]⟩ := by
  have e : P ++ lnS [a, b, c] = (((((P ++ tS a) ++ [32]) ++ tS b) ++ [32]) ++ tS c) ++ [32, 46, 10] := by simp [lnS]
  rw [e]
  simp only [textOf_app]
  rfl
set_option maxRecDepth 100000 in
set_option maxHeartbeats 8000000 in
theorem qprint_any (L : List (List Tm)) (hL : ∀ ts ∈ L, Sm ts ∧ Gd ts) (hn : L.length ≤ 30) (A : Option Addr) (cap : Nat) (w : World) (hs : SlAt w A 12 (L.map c12)) :
    Calls Tryd.prog 40 #[.slice A L.length cap] w fun e w' => e = .returned (.string (textOf (lnsS L))) ∧ Below w.heap.size w w' := by
  have HS := Lib.hid hs
  have HL := Lib.hid hL
  have HN := Lib.hid hn
  clear hs hL hn
  go_enter Tryd.func40, Tryd.ntmps40
  go_wp2
  go_loopg [3, 7] L.length (fun g s3 s7 wr => QpI w L g s3 s7 wr)
  case atStart => exact ⟨0, by omega, rfl, rfl, Below.refl _ _⟩
  case round =>
    obtain ⟨i, hig, rfl, rfl, hB⟩ := hrel
    cases gk with
    | zero =>
      have hin : ¬ (i : Int) < (L.length : Int) := by omega
      have e : L.take i = L := List.take_of_length_le (by omega)
      rw [e]
      clear hig e
      go_wp2
      go_ret
      exact ⟨rfl, hB⟩
    | succ g =>
      have hin : (i : Int) < (L.length : Int) := by omega
      have hi0 : (0 : Int) ≤ (i : Int) := by omega
      obtain ⟨ts, hts⟩ : ∃ ts, L[i]? = some ts := ⟨_, List.getElem?_eq_getElem (by omega)⟩
      obtain ⟨hsm, hgd⟩ := HL.out ts (List.mem_of_getElem? hts)
      have hfw := hsm.few
      have hls := ln_size hsm hgd
      obtain ⟨x0, x1, x2, rfl, hg, hm⟩ := hgd
      obtain ⟨ga, oa, rfl, hga, hq⟩ := HS.out i (c12 [x0, x1, x2]) (by rw [List.getElem?_map, hts]; rfl)
      have c0 := qtext_any x0 hg.1 (hfw x0 (by simp))
      have c1 := qtext_any x1 hg.2.1 (hfw x1 (by simp))
      have c2 := qtext_any x2 hg.2.2 (hfw x2 (by simp))
      have hpre := lns_size (L.take i) fun x hx => HL.out x (List.mem_of_mem_take hx)
      have hlt : (L.take i).length ≤ 30 := by rw [List.length_take]; have := HN.out; omega
      have hnx : textOf (lnsS (L.take (i + 1))) = textOf (lnsS (L.take i) ++ lnS [x0, x1, x2]) := by
        rw [List.take_add_one, hts]
        show textOf (lnsS (L.take i ++ [[x0, x1, x2]])) = _
        rw [lnsS_app, lnsS_cons]
        simp [lnsS]
      have hsum := hls
      rw [ln_bytes] at hnx
      have hb3 := ln_bytes [] x0 x1 x2
      rw [List.nil_append] at hb3
      rw [hb3] at hsum
      simp only [ByteArray.size_append] at hsum
      clear hb3 hls
      unfold T4 at c0 c1 c2
      generalize textOf (lnsS (L.take i)) = s at hpre hnx ⊢
      generalize textOf (tS x0) = z0 at c0 hnx hsum
      generalize textOf (tS x1) = z1 at c1 hnx hsum
      generalize textOf (tS x2) = z2 at c2 hnx hsum
      have m1 : (⟨#[32]⟩ : ByteArray).size = 1 := rfl
      have m2 : (⟨#[32, 46, 10]⟩ : ByteArray).size = 3 := rfl
      rw [m1, m2] at hsum
      obtain ⟨s1, h1⟩ : ∃ y, y = s ++ z0 := ⟨_, rfl⟩
      obtain ⟨s2, h2⟩ : ∃ y, y = s1 ++ (⟨#[32]⟩ : ByteArray) := ⟨_, rfl⟩
      obtain ⟨s3, h3⟩ : ∃ y, y = s2 ++ z1 := ⟨_, rfl⟩
      obtain ⟨s4, h4⟩ : ∃ y, y = s3 ++ (⟨#[32]⟩ : ByteArray) := ⟨_, rfl⟩
      obtain ⟨s5, h5⟩ : ∃ y, y = s4 ++ z2 := ⟨_, rfl⟩
      obtain ⟨s6, h6⟩ : ∃ y, y = s5 ++ (⟨#[32, 46, 10]⟩ : ByteArray) := ⟨_, rfl⟩
      have n1 : s1.size = s.size + z0.size := by rw [h1, ByteArray.size_append]
      have n2 : s2.size = s1.size + 1 := by rw [h2, ByteArray.size_append, m1]
      have n3 : s3.size = s2.size + z1.size := by rw [h3, ByteArray.size_append]
      have n4 : s4.size = s3.size + 1 := by rw [h4, ByteArray.size_append, m1]
      have n5 : s5.size = s4.size + z2.size := by rw [h5, ByteArray.size_append]
      have A1 : ∀ W, (Op.stringOp .add s z0).run Tryd.prog W = .ok (.string s1) W := fun W => by rw [h1]; exact add_any _ _ (by omega) W
      have A2 : ∀ W, (Op.stringOp .add s1 ⟨#[32]⟩).run Tryd.prog W = .ok (.string s2) W := fun W => by rw [h2]; exact add_any _ _ (by rw [m1]; omega) W
      have a3 : ∀ W, (Op.stringOp .add s2 z1).run Tryd.prog W = .ok (.string s3) W := fun W => by rw [h3]; exact add_any _ _ (by omega) W
      have a4 : ∀ W, (Op.stringOp .add s3 ⟨#[32]⟩).run Tryd.prog W = .ok (.string s4) W := fun W => by rw [h4]; exact add_any _ _ (by rw [m1]; omega) W
      have a5 : ∀ W, (Op.stringOp .add s4 z2).run Tryd.prog W = .ok (.string s5) W := fun W => by rw [h5]; exact add_any _ _ (by omega) W
      have a6 : ∀ W, (Op.stringOp .add s5 ⟨#[32, 46, 10]⟩).run Tryd.prog W = .ok (.string s6) W := fun W => by rw [h6]; exact add_any _ _ (by rw [m2]; omega) W
      rw [← h1, ← h2, ← h3, ← h4, ← h5, ← h6] at hnx
      obtain ⟨k0, yk0⟩ : ∃ y, y = x0.kind := ⟨_, rfl⟩
      obtain ⟨a0, ya0⟩ : ∃ y, y = x0.ta := ⟨_, rfl⟩
      obtain ⟨b0, yb0⟩ : ∃ y, y = x0.tb := ⟨_, rfl⟩
      obtain ⟨d0, yd0⟩ : ∃ y, y = x0.tc := ⟨_, rfl⟩
      rw [← yk0, ← ya0, ← yb0, ← yd0] at c0
      obtain ⟨k1, yk1⟩ : ∃ y, y = x1.kind := ⟨_, rfl⟩
      obtain ⟨a1, ya1⟩ : ∃ y, y = x1.ta := ⟨_, rfl⟩
      obtain ⟨b1, yb1⟩ : ∃ y, y = x1.tb := ⟨_, rfl⟩
      obtain ⟨d1, yd1⟩ : ∃ y, y = x1.tc := ⟨_, rfl⟩
      rw [← yk1, ← ya1, ← yb1, ← yd1] at c1
      obtain ⟨k2, yk2⟩ : ∃ y, y = x2.kind := ⟨_, rfl⟩
      obtain ⟨a2, ya2⟩ : ∃ y, y = x2.ta := ⟨_, rfl⟩
      obtain ⟨b2, yb2⟩ : ∃ y, y = x2.tb := ⟨_, rfl⟩
      obtain ⟨d2, yd2⟩ : ∃ y, y = x2.tc := ⟨_, rfl⟩
      rw [← yk2, ← ya2, ← yb2, ← yd2] at c2
      have q0 : w.cell? ⟨ga, oa + i * 12, none⟩ = some (.int .i64 k0) := by rw [yk0]; exact hq 0 _ rfl
      have q1 : w.cell? ⟨ga, oa + i * 12 + 1, none⟩ = some (.string a0) := by rw [ya0]; exact hq 1 _ rfl
      have q2 : w.cell? ⟨ga, oa + i * 12 + 2, none⟩ = some (.string b0) := by rw [yb0]; exact hq 2 _ rfl
      have q3 : w.cell? ⟨ga, oa + i * 12 + 3, none⟩ = some (.string d0) := by rw [yd0]; exact hq 3 _ rfl
      have q4 : w.cell? ⟨ga, oa + i * 12 + 4, none⟩ = some (.int .i64 k1) := by rw [yk1]; exact hq 4 _ rfl
      have q5 : w.cell? ⟨ga, oa + i * 12 + 5, none⟩ = some (.string a1) := by rw [ya1]; exact hq 5 _ rfl
      have q6 : w.cell? ⟨ga, oa + i * 12 + 6, none⟩ = some (.string b1) := by rw [yb1]; exact hq 6 _ rfl
      have q7 : w.cell? ⟨ga, oa + i * 12 + 7, none⟩ = some (.string d1) := by rw [yd1]; exact hq 7 _ rfl
      have q8 : w.cell? ⟨ga, oa + i * 12 + 8, none⟩ = some (.int .i64 k2) := by rw [yk2]; exact hq 8 _ rfl
      have q9 : w.cell? ⟨ga, oa + i * 12 + 9, none⟩ = some (.string a2) := by rw [ya2]; exact hq 9 _ rfl
      have q10 : w.cell? ⟨ga, oa + i * 12 + 10, none⟩ = some (.string b2) := by rw [yb2]; exact hq 10 _ rfl
      have q11 : w.cell? ⟨ga, oa + i * 12 + 11, none⟩ = some (.string d2) := by rw [yd2]; exact hq 11 _ rfl
      have K : ∀ W, Below w.heap.size w W → W.cell? ⟨ga, oa + i * 12, none⟩ = some (.int .i64 k0) ∧ W.cell? ⟨ga, oa + i * 12 + 1, none⟩ = some (.string a0) ∧ W.cell? ⟨ga, oa + i * 12 + 2, none⟩ = some (.string b0) ∧ W.cell? ⟨ga, oa + i * 12 + 3, none⟩ = some (.string d0) ∧ W.cell? ⟨ga, oa + i * 12 + 4, none⟩ = some (.int .i64 k1) ∧ W.cell? ⟨ga, oa + i * 12 + 5, none⟩ = some (.string a1) ∧ W.cell? ⟨ga, oa + i * 12 + 6, none⟩ = some (.string b1) ∧ W.cell? ⟨ga, oa + i * 12 + 7, none⟩ = some (.string d1) ∧ W.cell? ⟨ga, oa + i * 12 + 8, none⟩ = some (.int .i64 k2) ∧ W.cell? ⟨ga, oa + i * 12 + 9, none⟩ = some (.string a2) ∧ W.cell? ⟨ga, oa + i * 12 + 10, none⟩ = some (.string b2) ∧ W.cell? ⟨ga, oa + i * 12 + 11, none⟩ = some (.string d2) := fun W hb =>
        ⟨(hb.cell (p := ⟨ga, oa + i * 12, none⟩) hga).trans q0, (hb.cell (p := ⟨ga, oa + i * 12 + 1, none⟩) hga).trans q1, (hb.cell (p := ⟨ga, oa + i * 12 + 2, none⟩) hga).trans q2, (hb.cell (p := ⟨ga, oa + i * 12 + 3, none⟩) hga).trans q3, (hb.cell (p := ⟨ga, oa + i * 12 + 4, none⟩) hga).trans q4, (hb.cell (p := ⟨ga, oa + i * 12 + 5, none⟩) hga).trans q5, (hb.cell (p := ⟨ga, oa + i * 12 + 6, none⟩) hga).trans q6, (hb.cell (p := ⟨ga, oa + i * 12 + 7, none⟩) hga).trans q7, (hb.cell (p := ⟨ga, oa + i * 12 + 8, none⟩) hga).trans q8, (hb.cell (p := ⟨ga, oa + i * 12 + 9, none⟩) hga).trans q9, (hb.cell (p := ⟨ga, oa + i * 12 + 10, none⟩) hga).trans q10, (hb.cell (p := ⟨ga, oa + i * 12 + 11, none⟩) hga).trans q11⟩
      have C0 : ∀ {W : World}, Below w.heap.size w W → Calls Tryd.prog 75 #[F4 k0 a0 b0 d0] W fun e w' => e = .returned (.string z0) ∧ Below w.heap.size w w' := fun {W} hb => (c0 W).mono fun _ _ ⟨x, y⟩ => ⟨x, hb.trans (y.mono hb.size)⟩
      have C1 : ∀ {W : World}, Below w.heap.size w W → Calls Tryd.prog 75 #[F4 k1 a1 b1 d1] W fun e w' => e = .returned (.string z1) ∧ Below w.heap.size w w' := fun {W} hb => (c1 W).mono fun _ _ ⟨x, y⟩ => ⟨x, hb.trans (y.mono hb.size)⟩
      have C2 : ∀ {W : World}, Below w.heap.size w W → Calls Tryd.prog 75 #[F4 k2 a2 b2 d2] W fun e w' => e = .returned (.string z2) ∧ Below w.heap.size w w' := fun {W} hb => (c2 W).mono fun _ _ ⟨x, y⟩ => ⟨x, hb.trans (y.mono hb.size)⟩
      have HIG := Lib.hid hig
      have HNX := Lib.hid hnx
      clear hig hnx hsum hpre hlt hfw hsm hg hm hts hq c0 c1 c2 h1 h2 h3 h4 h5 h6 n1 n2 n3 n4 n5 m1 m2 hga q0 q1 q2 q3 q4 q5 q6 q7 q8 q9 q10 q11 yk0 ya0 yb0 yd0 yk1 ya1 yb1 yd1 yk2 ya2 yb2 yd2
      go_wp2
      go_region_held3 (fun W => W.cell? ⟨ga, oa + i * 12, none⟩ = some (.int .i64 k0) ∧ W.cell? ⟨ga, oa + i * 12 + 1, none⟩ = some (.string a0) ∧ W.cell? ⟨ga, oa + i * 12 + 2, none⟩ = some (.string b0) ∧ W.cell? ⟨ga, oa + i * 12 + 3, none⟩ = some (.string d0) ∧ W.cell? ⟨ga, oa + i * 12 + 4, none⟩ = some (.int .i64 k1) ∧ W.cell? ⟨ga, oa + i * 12 + 5, none⟩ = some (.string a1) ∧ W.cell? ⟨ga, oa + i * 12 + 6, none⟩ = some (.string b1) ∧ W.cell? ⟨ga, oa + i * 12 + 7, none⟩ = some (.string d1) ∧ W.cell? ⟨ga, oa + i * 12 + 8, none⟩ = some (.int .i64 k2) ∧ W.cell? ⟨ga, oa + i * 12 + 9, none⟩ = some (.string a2) ∧ W.cell? ⟨ga, oa + i * 12 + 10, none⟩ = some (.string b2) ∧ W.cell? ⟨ga, oa + i * 12 + 11, none⟩ = some (.string d2))
        (first | exact K _ (by assumption) | exact K _ (Below.drew (by assumption)))
        (first
          | (go_at_call 75; (with_reducible refine (C0 (by first | assumption | exact Below.drew (by assumption))).mono ?_); rintro e wa ⟨rfl, hBa⟩)
          | (go_at_call 75; (with_reducible refine (C1 (by first | assumption | exact Below.drew (by assumption))).mono ?_); rintro e wb ⟨rfl, hBb⟩)
          | (go_at_call 75; (with_reducible refine (C2 (by first | assumption | exact Below.drew (by assumption))).mono ?_); rintro e wc ⟨rfl, hBc⟩))
      all_goals
        go_wp2
        go_roundg g
        case measure => exact Nat.lt_succ_self g
        case rel => exact ⟨i + 1, by have := HIG.out; omega, by have h9 : i < 30 := (by have := HIG.out; have := HN.out; omega); first | rfl | (rw [IntWalk.wrap64_in _ ⟨by omega, by omega⟩, Int.natCast_succ]), by rw [HNX.out], by assumption⟩
end Go.Proofs.YtjalhcbomjgkoaaDoor
