/-
  MERGED (a claim has at most 60 files): NBlanksW.
-/
import Derived.Test.YtjalhcbomjgkoaaDoorZ33
import Derived.Test.YtjalhcbomjgkoaaDoorZ35
import Derived.Test.YtjalhcbomjgkoaaDoorZ36
/-
  NtBlanks's walk.
-/
namespace Go.Proofs.YtjalhcbomjgkoaaDoor
open Go.RowKit
set_option linter.unusedVariables false
set_option linter.unusedSimpArgs false

theorem gap7_len (x : Int) : (gap7 x).length ≤ 8 := by unfold gap7; split <;> simp
theorem gapOf_len (gs : List Int) (i : Nat) : (gapOf gs i).length ≤ 8 := by
  unfold gapOf
  split
  · exact gap7_len _
  · simp
theorem segs_size (gs : List Int) : ∀ (L : List (List Tm)) (i : Nat), (∀ ts ∈ L, Sm ts) → (textOf (segs gs i L)).size ≤ 2860 * L.length
  | [], i, _ => by
    have h : (textOf (segs gs i [])).size = 0 := rfl
    rw [h]; omega
  | ts :: L, i, h => by
    have ih := segs_size gs L (i + 1) fun x hx => h x (List.mem_cons_of_mem _ hx)
    rw [segs, textOf_app, ByteArray.size_append, List.length_cons]
    by_cases hk : okL ts = true
    · rw [if_pos hk, textOf_app, ByteArray.size_append]
      have h1 := ln_size (h ts List.mem_cons_self) (ok_gd hk)
      have h2 := text_size (gapOf gs i)
      have h3 := gapOf_len gs i
      omega
    · rw [if_neg hk]
      have h0 : (textOf []).size = 0 := rfl
      rw [h0]; omega
theorem sl_one {W : World} {ts : List Tm} {cs : List Value} (h : cs = ts.flatMap c4) : SlAt (W.alloc (.cells cs.toArray 59)) (some ⟨W.heap.size, 0, none⟩) 12 ([ts].map c12) := fun j c hj => by
  subst h
  have hj0 : j = 0 := by have := (List.getElem?_eq_some_iff.1 hj).1; simp at this; exact this
  subst hj0
  obtain rfl : c12 ts = c := by simpa using hj
  refine ⟨W.heap.size, 0, rfl, by simp, fun i v hv => ?_⟩
  rw [show 0 + 0 * 12 + i = i by omega, (Fb.new W 59 (ts.flatMap c4).toArray).cell i]
  unfold c12 at hv
  simpa using hv
def NbLoop (W0 : World) (gs : List Int) (La : List (List Tm)) (g : Nat) (s7 s8 s31 : Value) (wr : World) : Prop :=
  ∃ (i : Nat) (A : Option Addr) (c : Nat), i + g = La.length ∧ s31 = .int .i64 i ∧ s7 = .slice A (goodL (La.take i)).length c ∧ s8 = .string (textOf (segs gs 0 (La.take i))) ∧ J0 W0 W0.heap.size (.slice A (goodL (La.take i)).length c) (goodL (La.take i)) (.slice none 0 0) [] (.slice none 0 0) [] wr
theorem bl_bad {W0 : World} {gs : List Int} {La : List (List Tm)} {g i : Nat} {ts : List Tm} (hig : i + (g + 1) = La.length) (hts : La[i]? = some ts) (hok : okL ts = false) {A : Option Addr} {c : Nat} {s31 : Value} {W : World}
    (hs : s31 = .int .i64 ((i + 1 : Nat) : Int)) (h : J0 W0 W0.heap.size (.slice A (goodL (La.take i)).length c) (goodL (La.take i)) (.slice none 0 0) [] (.slice none 0 0) [] W) :
    NbLoop W0 gs La g (.slice A (goodL (La.take i)).length c) (.string (textOf (segs gs 0 (La.take i)))) s31 W := by
  have e0 : La.take (i + 1) = La.take i ++ [ts] := by rw [List.take_add_one, hts]; rfl
  have e : goodL (La.take (i + 1)) = goodL (La.take i) := by rw [e0, goodL_snoc, if_neg (by rw [hok]; decide)]
  have e2 : segs gs 0 (La.take (i + 1)) = segs gs 0 (La.take i) := by rw [e0, segs_snoc, if_neg (by rw [hok]; decide), List.append_nil]
  refine ⟨i + 1, A, c, by omega, hs, ?_, ?_, ?_⟩
  · rw [e]
  · rw [e2]
  · rw [e]; exact h
theorem bl_good {W0 : World} {gs : List Int} {La : List (List Tm)} {g i : Nat} {ts : List Tm} (hig : i + (g + 1) = La.length) (hts : La[i]? = some ts) (hok : okL ts = true) {A : Option Addr} {c : Nat} {s31 : Value} {W : World}
    (hs : s31 = .int .i64 ((i + 1 : Nat) : Int)) (h : J0 W0 W0.heap.size (.slice A ((goodL (La.take i)).length + 1) c) (goodL (La.take i) ++ [ts]) (.slice none 0 0) [] (.slice none 0 0) [] W) :
    NbLoop W0 gs La g (.slice A ((goodL (La.take i)).length + 1) c) (.string (textOf (segs gs 0 (La.take i) ++ (gapOf gs i ++ lnS ts)))) s31 W := by
  have e0 : La.take (i + 1) = La.take i ++ [ts] := by rw [List.take_add_one, hts]; rfl
  have e : goodL (La.take (i + 1)) = goodL (La.take i) ++ [ts] := by rw [e0, goodL_snoc, if_pos hok]
  have hl : (La.take i).length = i := by rw [List.length_take]; omega
  have e2 : segs gs 0 (La.take (i + 1)) = segs gs 0 (La.take i) ++ (gapOf gs i ++ lnS ts) := by rw [e0, segs_snoc, if_pos hok, hl, Nat.zero_add]
  have e3 : (goodL (La.take (i + 1))).length = (goodL (La.take i)).length + 1 := by rw [e, List.length_append]; rfl
  refine ⟨i + 1, A, c, by omega, hs, ?_, ?_, ?_⟩
  · rw [e3]
  · rw [e2]
  · rw [e3, e]; exact h
set_option maxHeartbeats 64000000 in
set_option maxRecDepth 100000 in
theorem ntblanks_walk (l : List Dt) (hl : ∀ t ∈ l, t.ok) (A : Option Addr) (cap : Nat) (hc : l.length ≤ cap) (hm : cap ≤ maxLen) (gs : List Int) (hgo : ∀ x ∈ gs, 0 ≤ x ∧ x ≤ 255) (A2 : Option Addr) (cap2 : Nat) (hc2 : gs.length ≤ cap2) (hm2 : cap2 ≤ maxLen)
    (w : World) (hs : SlAt w A 12 (l.map Dt.cells)) (hs2 : SlAt w A2 1 (gs.map u8c)) (t : TypeId) (fr : Nat × Nat) (htab : w.heap[0]? = some (.cells escCells t fr)) :
    Calls Tryd.prog 7 #[.slice A l.length cap, .slice A2 gs.length cap2] w fun e w' => e = .returned (.bool true) ∧ Below w.heap.size w w' := by
  have hlt0 : 0 < w.heap.size := (Array.getElem?_eq_some_iff.1 htab).1
  have cA : ∀ {W : World}, Below w.heap.size w W → Calls Tryd.prog 32 #[] W fun e w' => e = .returned (.bool true) ∧ Below w.heap.size w w' := fun {W} hb => (nawake_ok W t fr (tab_below htab hb hlt0)).mono fun _ _ ⟨x, y⟩ => ⟨x, hb.trans (y.mono hb.size)⟩
  have hB0 : Below w.heap.size w w := Below.refl _ _
  have HTAB := Lib.hid htab
  have HLT := Lib.hid hlt0
  have HS := Lib.hid hs
  have HGS := Lib.hid hs2
  have HL := Lib.hid hl
  have HGO := Lib.hid hgo
  have HC := Lib.hid hc
  have HM := Lib.hid hm
  clear htab hlt0 hs hs2 hl hgo hc hc2 hm hm2
  by_cases h20 : 20 < gs.length
  · have h20I : (20 : Int) < (gs.length : Int) := by omega
    clear h20
    go_enter Tryd.func7, Tryd.ntmps7
    go_wp2_with (first
      | (go_at_call 32; (with_reducible refine (cA hB0).mono ?_); rintro e w1 ⟨rfl, hB1⟩)
      | (go_at_call 32; (with_reducible refine (cA hB1).mono ?_); rintro e w2 ⟨rfl, hB2⟩))
    go_ret
    exact ⟨rfl, by assumption⟩
  have h20I : ¬ (20 : Int) < (gs.length : Int) := by omega
  cases hf : fewB l with
  | false =>
    have HF := Lib.hid hf
    clear hf h20
    go_enter Tryd.func7, Tryd.ntmps7
    go_wp2_with (first
      | (go_at_call 32; (with_reducible refine (cA hB0).mono ?_); rintro e w1 ⟨rfl, hB1⟩)
      | (go_at_call 33; (with_reducible refine (few_false HF.out HL.out A cap HC.out HM.out w HS.out hB1).mono ?_); rintro e w2 ⟨v2, rfl, hb2⟩; have hB2 := hB1.trans (hb2.mono hB1.size)))
    go_ret
    exact ⟨rfl, hB2⟩
  | true =>
    obtain ⟨iD, hD0, hD1, hD2, hD3⟩ := info_parts rtripInfo
    have c1 : ∀ {W : World}, Below w.heap.size w W → Calls Tryd.prog 33 #[.slice A l.length cap] W fun e w' => ∃ A' c', e = .returned (.tuple #[.slice A' (fewL l).length c', .bool true]) ∧ DtV W.heap.size w' (.slice A' (fewL l).length c') (fewL l) ∧ Below W.heap.size W w' := fun {W} hb => few_true hf HL.out A cap HC.out HM.out w HS.out hb
    have hSa := few_sm hf
    have hna := few_len l
    generalize fewL l = La at c1 hSa hna
    have HSA := Lib.hid hSa
    have HNA := Lib.hid hna
    have H20 := Lib.hid h20
    clear hf hSa hna h20
    go_enter Tryd.func7, Tryd.ntmps7
    go_wp2_with (first
      | (go_at_call 32; (with_reducible refine (cA hB0).mono ?_); rintro e w1 ⟨rfl, hB1⟩)
      | (go_at_call 33; (with_reducible refine (c1 hB1).mono ?_); rintro e w3 ⟨A3, c3, rfl, hd2, hb2⟩; have hB3 := hB1.trans (hb2.mono hB1.size)))
    have HDA := Lib.hid hd2
    have HB3 := Lib.hid hB3
    have HST := Lib.hid (j0_start w3)
    clear hd2 hb2 hB0 hB1 hB3 c1 cA HS HL HC HM
    go_loopg [7, 8, 31] La.length (fun g s7 s8 s31 wr => NbLoop w3 gs La g s7 s8 s31 wr)
    case atStart => exact ⟨0, none, 0, by omega, rfl, rfl, rfl, HST.out⟩
    case round =>
      clear HST
      obtain ⟨i, A5, c5, hig, rfl, rfl, rfl, hJ⟩ := hrel
      cases gk with
      | zero =>
        have hin : ¬ (i : Int) < (La.length : Int) := by omega
        have eF : goodL (La.take i) = goodL La := by rw [List.take_of_length_le (by omega)]
        have eT : La.take i = La := List.take_of_length_le (by omega)
        have hsz := segs_size gs La 0 HSA.out
        have hna := HNA.out
        have hsf := goodL_sm HSA.out
        have hnf : (goodL La).length ≤ 10 := Nat.le_trans (goodL_len La) HNA.out
        obtain ⟨r, hr⟩ : ∃ r : Nat, (gs.length : Int).tmod 3 = r := ⟨((gs.length : Int).tmod 3).toNat, by have := Int.tmod_nonneg 3 (show (0 : Int) ≤ (gs.length : Int) by omega); omega⟩
        have hr3 : r < 3 := by have := Int.tmod_lt_of_pos (gs.length : Int) (show (0 : Int) < 3 by decide); omega
        have hps := prs_segs gs La (r : Int)
        have hal : AllS (segs gs 0 La ++ tail3 (r : Int)) := allS_app (segs_all gs La 0) (tail3_all _)
        have htl : (tail3 (r : Int)).length ≤ 6 := by unfold tail3; split <;> simp
        have hz : textOf (segs gs 0 La) ++ textOf (tail3 (r : Int)) = textOf (segs gs 0 La ++ tail3 (r : Int)) := (textOf_app _ _).symm
        have hts := text_size (tail3 (r : Int))
        have hix : ∀ w', (Instr.index 80 (.agg #[.string ⟨#[]⟩, .string ⟨#[32, 35, 32, 101, 110, 100]⟩, .string ⟨#[9]⟩]) (.int .i64 (r : Int))).run Tryd.prog w' = .ok (.string (textOf (tail3 (r : Int)))) w' := fun w' => by
          obtain rfl | rfl | rfl : r = 0 ∨ r = 1 ∨ r = 2 := by omega
          all_goals kernel_rfl
        have hr0 : (0 : Int) ≤ (r : Int) := by omega
        have htW : ∀ {W : World}, Below w3.heap.size w3 W → W.heap[0]? = some (.cells escCells t fr) := fun {W} hb => tab_below (tab_below HTAB.out HB3.out HLT.out) hb (Nat.lt_of_lt_of_le HLT.out HB3.out.size)
        rw [eT] at hJ ⊢
        have CI : ∀ {A : Option Addr} {c B : Nat} {W : World}, TrsV B W (.slice A (goodL La).length c) (goodL La) → J0 w3 w3.heap.size (.slice A5 (goodL La).length c5) (goodL La) (.slice none 0 0) [] (.slice none 0 0) [] W → Calls Tryd.prog 39 #[.slice A (goodL La).length c, .slice A5 (goodL La).length c5] W fun e w' => e = .returned (.bool true) ∧ Below w3.heap.size w3 w' :=
          fun {A c B W} h1 h => (nis_same (goodL La) (fun ts ht => by
            obtain ⟨a, b, d, rfl, hk⟩ := hsf ts ht
            exact ⟨rfl, fun u hu => (hk u hu).1⟩) (by omega) W h1 h.all).mono fun e w' ⟨e1, h2⟩ => ⟨e1, h.b.trans (h2.mono h.b.size)⟩
        have CPa : ∀ {W : World}, J0 w3 w3.heap.size (.slice A5 (goodL La).length c5) (goodL La) (.slice none 0 0) [] (.slice none 0 0) [] W → Calls Tryd.prog 37 #[.string (textOf (segs gs 0 La ++ tail3 (r : Int)))] W fun e w' => ∃ A c, e = .returned (.tuple #[.slice A (goodL La).length c, .int .i64 0, .int .i64 0]) ∧ TrsV W.heap.size w' (.slice A (goodL La).length c) (goodL La) ∧ J0 w3 w3.heap.size (.slice A5 (goodL La).length c5) (goodL La) (.slice none 0 0) [] (.slice none 0 0) [] w' :=
          fun {W} h => by
            have hp := nparse_any (textOf (segs gs 0 La ++ tail3 (r : Int))) (segs gs 0 La ++ tail3 (r : Int)) [] (parts_text hal) (by rw [← hz, ByteArray.size_append]; omega) W t fr (htW h.b)
            rw [hps] at hp
            exact hp.mono fun e w' ⟨v, e1, h1, h2⟩ => by
              obtain ⟨A, c, rfl⟩ := h1.shape
              exact ⟨A, c, e1, h1, h.below h2⟩
        generalize textOf (segs gs 0 La ++ tail3 (r : Int)) = z at hz CPa
        generalize textOf (segs gs 0 La) = s0 at hz hsz ⊢
        generalize textOf (tail3 (r : Int)) = tl at hz hts hix
        have a1 : ∀ W, (Op.stringOp .add s0 tl).run Tryd.prog W = .ok (.string z) W := fun W => by rw [← hz]; exact add_any _ _ (by omega) W
        generalize goodL La = M at hJ CI CPa ⊢
        clear hig eF eT hsz hna hsf hnf hps hal htl hz hts htW
        go_wp2_with (first
          | (go_at_call 37; (with_reducible refine (CPa hJ).mono ?_); rintro e w7 ⟨A8, c8, rfl, hT7, hJ7⟩)
          | (go_at_call 39; (with_reducible refine (CI hT7 hJ7).mono ?_); rintro e w8 ⟨rfl, hB8⟩))
        go_ret
        exact ⟨rfl, HB3.out.trans (hB8.mono HB3.out.size)⟩
      | succ g =>
        have hin : (i : Int) < (La.length : Int) := by omega
        have hi0 : (0 : Int) ≤ (i : Int) := by omega
        obtain ⟨ts, hts⟩ : ∃ ts, La[i]? = some ts := ⟨_, List.getElem?_eq_getElem (by omega)⟩
        have hsm := HSA.out ts (List.mem_of_getElem? hts)
        have h10 := HNA.out
        obtain ⟨gb, cb, eb, hgb, hq⟩ := dtV_at HDA.out (fun ts h => (HSA.out ts h).len) hts
        injection eb with eb1 eb2 eb3
        subst eb1 eb3
        have hz := segs_size gs (La.take i) 0 (fun x hx => HSA.out x (List.mem_of_mem_take hx))
        have hti : (La.take i).length = i := by rw [List.length_take]; omega
        have n7 : (goodL (La.take i)).length ≤ 10 := by have := goodL_len (La.take i); omega
        have hbad := fun (hk : okL ts = false) (s31 : Value) (W : World) (hs : s31 = .int .i64 ((i + 1 : Nat) : Int)) => bl_bad (W0 := w3) (gs := gs) (A := A5) (c := c5) (W := W) hig hts hk hs
        have hgood := fun (hk : okL ts = true) (A : Option Addr) (c : Nat) (s31 : Value) (W : World) (hs : s31 = .int .i64 ((i + 1 : Nat) : Int)) => bl_good (W0 := w3) (gs := gs) (A := A) (c := c) (W := W) hig hts hk hs
        have hi9 : i < 10 := by omega
        obtain ⟨x0, x1, x2, rfl, hx⟩ := hsm
        have f0 := hx x0 (by simp)
        have f1 := hx x1 (by simp)
        have f2 := hx x2 (by simp)
        have cG := qgood_any x0 x1 x2 ⟨by omega, by omega, by omega⟩ ⟨by omega, by omega, by omega⟩ ⟨by omega, by omega, by omega⟩
        have hnD : [.int .i64 x0.kind, .string x0.ta, .string x0.tb, .string x0.tc, .int .i64 x1.kind, .string x1.ta, .string x1.tb, .string x1.tc, .int .i64 x2.kind, .string x2.ta, .string x2.tb, .string x2.tc] = [x0, x1, x2].flatMap c4 := rfl
        unfold T12 at cG
        obtain ⟨k0, yk0⟩ : ∃ y, y = x0.kind := ⟨_, rfl⟩
        obtain ⟨a0, ya0⟩ : ∃ y, y = x0.ta := ⟨_, rfl⟩
        obtain ⟨b0, yb0⟩ : ∃ y, y = x0.tb := ⟨_, rfl⟩
        obtain ⟨d0, yd0⟩ : ∃ y, y = x0.tc := ⟨_, rfl⟩
        rw [← yk0, ← ya0, ← yb0, ← yd0] at cG hnD
        obtain ⟨k1, yk1⟩ : ∃ y, y = x1.kind := ⟨_, rfl⟩
        obtain ⟨a1, ya1⟩ : ∃ y, y = x1.ta := ⟨_, rfl⟩
        obtain ⟨b1, yb1⟩ : ∃ y, y = x1.tb := ⟨_, rfl⟩
        obtain ⟨d1, yd1⟩ : ∃ y, y = x1.tc := ⟨_, rfl⟩
        rw [← yk1, ← ya1, ← yb1, ← yd1] at cG hnD
        obtain ⟨k2, yk2⟩ : ∃ y, y = x2.kind := ⟨_, rfl⟩
        obtain ⟨a2, ya2⟩ : ∃ y, y = x2.ta := ⟨_, rfl⟩
        obtain ⟨b2, yb2⟩ : ∃ y, y = x2.tb := ⟨_, rfl⟩
        obtain ⟨d2, yd2⟩ : ∃ y, y = x2.tc := ⟨_, rfl⟩
        rw [← yk2, ← ya2, ← yb2, ← yd2] at cG hnD
        have q0 : wr.cell? ⟨gb, i * 12, none⟩ = some (.int .i64 k0) := by rw [yk0]; exact (hJ.b.cell (p := ⟨gb, i * 12, none⟩) hgb).trans (hq 0 _ rfl)
        have q1 : wr.cell? ⟨gb, i * 12 + 1, none⟩ = some (.string a0) := by rw [ya0]; exact (hJ.b.cell (p := ⟨gb, i * 12 + 1, none⟩) hgb).trans (hq 1 _ rfl)
        have q2 : wr.cell? ⟨gb, i * 12 + 2, none⟩ = some (.string b0) := by rw [yb0]; exact (hJ.b.cell (p := ⟨gb, i * 12 + 2, none⟩) hgb).trans (hq 2 _ rfl)
        have q3 : wr.cell? ⟨gb, i * 12 + 3, none⟩ = some (.string d0) := by rw [yd0]; exact (hJ.b.cell (p := ⟨gb, i * 12 + 3, none⟩) hgb).trans (hq 3 _ rfl)
        have q4 : wr.cell? ⟨gb, i * 12 + 4, none⟩ = some (.int .i64 k1) := by rw [yk1]; exact (hJ.b.cell (p := ⟨gb, i * 12 + 4, none⟩) hgb).trans (hq 4 _ rfl)
        have q5 : wr.cell? ⟨gb, i * 12 + 5, none⟩ = some (.string a1) := by rw [ya1]; exact (hJ.b.cell (p := ⟨gb, i * 12 + 5, none⟩) hgb).trans (hq 5 _ rfl)
        have q6 : wr.cell? ⟨gb, i * 12 + 6, none⟩ = some (.string b1) := by rw [yb1]; exact (hJ.b.cell (p := ⟨gb, i * 12 + 6, none⟩) hgb).trans (hq 6 _ rfl)
        have q7 : wr.cell? ⟨gb, i * 12 + 7, none⟩ = some (.string d1) := by rw [yd1]; exact (hJ.b.cell (p := ⟨gb, i * 12 + 7, none⟩) hgb).trans (hq 7 _ rfl)
        have q8 : wr.cell? ⟨gb, i * 12 + 8, none⟩ = some (.int .i64 k2) := by rw [yk2]; exact (hJ.b.cell (p := ⟨gb, i * 12 + 8, none⟩) hgb).trans (hq 8 _ rfl)
        have q9 : wr.cell? ⟨gb, i * 12 + 9, none⟩ = some (.string a2) := by rw [ya2]; exact (hJ.b.cell (p := ⟨gb, i * 12 + 9, none⟩) hgb).trans (hq 9 _ rfl)
        have q10 : wr.cell? ⟨gb, i * 12 + 10, none⟩ = some (.string b2) := by rw [yb2]; exact (hJ.b.cell (p := ⟨gb, i * 12 + 10, none⟩) hgb).trans (hq 10 _ rfl)
        have q11 : wr.cell? ⟨gb, i * 12 + 11, none⟩ = some (.string d2) := by rw [yd2]; exact (hJ.b.cell (p := ⟨gb, i * 12 + 11, none⟩) hgb).trans (hq 11 _ rfl)
        cases hk : okL [x0, x1, x2] with
        | false =>
          have hB := hbad hk
          obtain ⟨L7, hL7⟩ : ∃ L, L = goodL (La.take i) := ⟨_, rfl⟩
          rw [← hL7] at hB hJ ⊢
          generalize textOf (segs gs 0 (La.take i)) = s0 at hB ⊢
          have hJ0 := hJ.boxed #[.int .i64 k0, .string a0, .string b0, .string d0, .int .i64 k1, .string a1, .string b1, .string d1, .int .i64 k2, .string a2, .string b2, .string d2]
          have CG : ∀ {W : World}, Jw w3 w3.heap.size wr.heap.size #[.int .i64 k0, .string a0, .string b0, .string d0, .int .i64 k1, .string a1, .string b1, .string d1, .int .i64 k2, .string a2, .string b2, .string d2] (.slice A5 L7.length c5) L7 (.slice none 0 0) [] (.slice none 0 0) [] W → Calls Tryd.prog 36 #[.agg #[.int .i64 k0, .string a0, .string b0, .string d0, .int .i64 k1, .string a1, .string b1, .string d1, .int .i64 k2, .string a2, .string b2, .string d2]] W fun e w' => e = .returned (.bool false) ∧ Jw w3 w3.heap.size wr.heap.size #[.int .i64 k0, .string a0, .string b0, .string d0, .int .i64 k1, .string a1, .string b1, .string d1, .int .i64 k2, .string a2, .string b2, .string d2] (.slice A5 L7.length c5) L7 (.slice none 0 0) [] (.slice none 0 0) [] w' := fun h => by
            have := jw_of h (cG _)
            rw [show okR x0 x1 x2 0 = false from hk] at this
            exact this
          have HI9 := Lib.hid hi9
          have HB := Lib.hid hB
          clear hbad hgood hk hnD cG hJ hq hgb hts hig h10 hx f0 f1 f2 hL7 n7 hi9 hz hti hB yk0 ya0 yb0 yd0 yk1 ya1 yb1 yd1 yk2 ya2 yb2 yd2
          go_wp2_with (go_at_call 36; (with_reducible refine (CG hJ0).mono ?_); rintro e w5 ⟨rfl, hJ1⟩)
          go_roundg g
          case measure => exact Nat.lt_succ_self g
          case rel => exact HB.out _ _ (by have := HI9.out; first | rfl | (rw [IntWalk.wrap64_in _ ⟨by omega, by omega⟩, Int.natCast_succ])) hJ1.j0
        | true =>
          have hgd := ok_gd (ts := [x0, x1, x2]) hk
          have hls := ln_size ⟨x0, x1, x2, rfl, hx⟩ hgd
          have hGx := hgood hk
          have hgs : AllS (gapOf gs i) := gapOf_all gs i
          have hgl := gapOf_len gs i
          have CQ : ∀ {v : Value} {L : List (List Tm)} {W : World}, Jw w3 w3.heap.size wr.heap.size #[.int .i64 k0, .string a0, .string b0, .string d0, .int .i64 k1, .string a1, .string b1, .string d1, .int .i64 k2, .string a2, .string b2, .string d2] v L (.slice none 0 0) [] (.slice none 0 0) [] W → Calls Tryd.prog 40 #[.slice (some ⟨W.heap.size, 0, none⟩) 1 1] (W.alloc (.cells #[.int .i64 k0, .string a0, .string b0, .string d0, .int .i64 k1, .string a1, .string b1, .string d1, .int .i64 k2, .string a2, .string b2, .string d2] 59)) fun e w' => e = .returned (.string (textOf (lnS [x0, x1, x2]))) ∧ Jw w3 w3.heap.size wr.heap.size #[.int .i64 k0, .string a0, .string b0, .string d0, .int .i64 k1, .string a1, .string b1, .string d1, .int .i64 k2, .string a2, .string b2, .string d2] v L (.slice none 0 0) [] (.slice none 0 0) [] w' := fun {v L W} h => by
            have hc := qprint_any [[x0, x1, x2]] (fun ts ht => by
              obtain rfl : ts = [x0, x1, x2] := by simpa using ht
              exact ⟨⟨x0, x1, x2, rfl, hx⟩, hgd⟩) (by simp) (some ⟨W.heap.size, 0, none⟩) 1 (W.alloc (.cells #[.int .i64 k0, .string a0, .string b0, .string d0, .int .i64 k1, .string a1, .string b1, .string d1, .int .i64 k2, .string a2, .string b2, .string d2] 59)) (sl_one hnD)
            have e1 : lnsS [[x0, x1, x2]] = lnS [x0, x1, x2] := by rw [lnsS_cons]; simp [lnsS]
            rw [e1] at hc
            exact jw_of (h.alloc _) hc
          have hg1 : textOf (segs gs 0 (La.take i)) ++ textOf (gapOf gs i) = textOf (segs gs 0 (La.take i) ++ gapOf gs i) := (textOf_app _ _).symm
          have hg2 : textOf (segs gs 0 (La.take i) ++ gapOf gs i) ++ textOf (lnS [x0, x1, x2]) = textOf (segs gs 0 (La.take i) ++ (gapOf gs i ++ lnS [x0, x1, x2])) := by rw [← textOf_app, List.append_assoc]
          have hgz : (textOf (gapOf gs i)).size ≤ 32 := by have := text_size (gapOf gs i); omega
          have hgap : textOf (gapOf gs i) = match gs[i]? with | some x => textOf (gap7 (x.tmod 7)) | none => ⟨#[]⟩ := by
            unfold gapOf
            cases gs[i]? <;> rfl
          rw [hti] at hz
          generalize textOf (segs gs 0 (La.take i) ++ (gapOf gs i ++ lnS [x0, x1, x2])) = s2 at hGx hg2
          generalize textOf (segs gs 0 (La.take i) ++ gapOf gs i) = s1 at hg1 hg2
          generalize textOf (segs gs 0 (La.take i)) = s0 at hz hg1 ⊢
          generalize textOf (gapOf gs i) = Gt at hg1 hgz hgap
          generalize textOf (lnS [x0, x1, x2]) = Pt at hls hg2 CQ
          have n1 : s1.size = s0.size + Gt.size := by rw [← hg1, ByteArray.size_append]
          have B1 : ∀ W, (Op.stringOp .add s0 Gt).run Tryd.prog W = .ok (.string s1) W := fun W => by rw [← hg1]; exact add_any _ _ (by omega) W
          have B2 : ∀ W, (Op.stringOp .add s1 Pt).run Tryd.prog W = .ok (.string s2) W := fun W => by rw [← hg2]; exact add_any _ _ (by omega) W
          obtain ⟨L7, hL7⟩ : ∃ L, L = goodL (La.take i) := ⟨_, rfl⟩
          rw [← hL7] at hGx hJ n7 ⊢
          have hJ0 := hJ.boxed #[.int .i64 k0, .string a0, .string b0, .string d0, .int .i64 k1, .string a1, .string b1, .string d1, .int .i64 k2, .string a2, .string b2, .string d2]
          have CG : ∀ {W : World}, Jw w3 w3.heap.size wr.heap.size #[.int .i64 k0, .string a0, .string b0, .string d0, .int .i64 k1, .string a1, .string b1, .string d1, .int .i64 k2, .string a2, .string b2, .string d2] (.slice A5 L7.length c5) L7 (.slice none 0 0) [] (.slice none 0 0) [] W → Calls Tryd.prog 36 #[.agg #[.int .i64 k0, .string a0, .string b0, .string d0, .int .i64 k1, .string a1, .string b1, .string d1, .int .i64 k2, .string a2, .string b2, .string d2]] W fun e w' => e = .returned (.bool true) ∧ Jw w3 w3.heap.size wr.heap.size #[.int .i64 k0, .string a0, .string b0, .string d0, .int .i64 k1, .string a1, .string b1, .string d1, .int .i64 k2, .string a2, .string b2, .string d2] (.slice A5 L7.length c5) L7 (.slice none 0 0) [] (.slice none 0 0) [] w' := fun h => by
            have := jw_of h (cG _)
            rw [show okR x0 x1 x2 0 = true from hk] at this
            exact this
          have HND := Lib.hid hnD
          have HN7 := Lib.hid n7
          have HI9 := Lib.hid hi9
          have HG := Lib.hid hGx
          by_cases hgi : i < gs.length
          · have hgiI : (i : Int) < (gs.length : Int) := by omega
            obtain ⟨x, hxx⟩ : ∃ x, gs[i]? = some x := ⟨_, List.getElem?_eq_getElem hgi⟩
            have hxb := HGO.out x (List.mem_of_getElem? hxx)
            rw [hxx] at hgap
            dsimp only at hgap
            obtain ⟨gg, og, rfl, hgg, hgc⟩ := (HGS.out.below (HB3.out.trans (hJ.b.mono HB3.out.size))) i (u8c x) (by rw [List.getElem?_map, hxx]; rfl)
            have pg0 : wr.cell? ⟨gg, og + i, none⟩ = some (.int .u8 x) := by have := hgc 0 _ rfl; simpa using this
            obtain ⟨q, hq7⟩ : ∃ q : Nat, x.tmod 7 = q := ⟨(x.tmod 7).toNat, by have := Int.tmod_nonneg 7 hxb.1; omega⟩
            have hq9 : q < 7 := by have := Int.tmod_lt_of_pos x (show (0 : Int) < 7 by decide); omega
            rw [hq7] at hgap
            have hix : ∀ w', (Instr.index 78 (.agg #[.string ⟨#[]⟩, .string ⟨#[10]⟩, .string ⟨#[32, 9]⟩, .string ⟨#[35, 32, 60, 117, 58, 97, 62, 10]⟩, .string ⟨#[32, 13, 10]⟩, .string ⟨#[10, 10, 32, 32, 35, 10, 9]⟩, .string ⟨#[35, 13, 10]⟩]) (.int .u8 (q : Int))).run Tryd.prog w' = .ok (.string Gt) w' := fun w' => by
              rw [hgap]
              obtain rfl | rfl | rfl | rfl | rfl | rfl | rfl : q = 0 ∨ q = 1 ∨ q = 2 ∨ q = 3 ∨ q = 4 ∨ q = 5 ∨ q = 6 := by omega
              all_goals kernel_rfl
            have hq0 : (0 : Int) ≤ (q : Int) := by omega
            have PG : ∀ {W : World}, Below w3.heap.size w3 W → W.cell? ⟨gg, og + i, none⟩ = some (.int .u8 x) := fun {W} hb => by
              obtain ⟨gg', og', e9, hgg9, hgc9⟩ := (HGS.out.below (HB3.out.trans (hb.mono HB3.out.size))) i (u8c x) (by rw [List.getElem?_map, hxx]; rfl)
              injection e9 with e9
              injection e9 with e9 e10
              subst e9 e10
              have := hgc9 0 _ rfl
              simpa using this
            clear hgap hbad hgood hk hnD cG hJ hq hgb hts hig h10 hx f0 f1 f2 hL7 n7 hi9 hgi hls hgs hgl hg1 hg2 hgz n1 hz hti hgd hGx hgg hgc pg0 hxx yk0 ya0 yb0 yd0 yk1 ya1 yb1 yd1 yk2 ya2 yb2 yd2
            go_wp2_with (first
              | (go_at_call 36; (with_reducible refine (CG hJ0).mono ?_); rintro e w5 ⟨rfl, hJ1⟩; obtain ⟨x0, x1, x2, x3, x4, x5, x6, x7, x8, x9, xa, xb⟩ := Fb.c12 hJ1.box)
              | (at_builtin; refine wpList_append_lies _ rfl _ _ 60 rfl w3.heap.size 59 iD (.agg #[.int .i64 0, .string ⟨#[]⟩, .string ⟨#[]⟩, .string ⟨#[]⟩, .int .i64 0, .string ⟨#[]⟩, .string ⟨#[]⟩, .string ⟨#[]⟩, .int .i64 0, .string ⟨#[]⟩, .string ⟨#[]⟩, .string ⟨#[]⟩]) 12 168 Tryd.underlying60 hD0 hD1 hD2 hD3 rfl (by decide) _ _ _ rfl (Jw.alloc hJ1 _).all ⟨w5.heap.size, 0, none⟩ 1 1 [.int .i64 k0, .string a0, .string b0, .string d0, .int .i64 k1, .string a1, .string b1, .string d1, .int .i64 k2, .string a2, .string b2, .string d2] rfl rfl (cells_new _ _ _) (oc12 _ _ _ _ _ _ _ _ _ _ _ _) (by decide) (by have := HN7.out; unfold maxLen; omega) (by have := HN7.out; omega) ((Jw.alloc hJ1 _).b.size) _ rfl ?_; intro g5 c7 w6 hown hgrow hloc hg5; have hJ2 := Jw.app9 (Jw.alloc hJ1 _) rfl HND.out hown hgrow hloc; have pg := PG hJ2.b; obtain ⟨z0, z1, z2, z3, z4, z5, z6, z7, z8, z9, za, zb⟩ := Fb.c12 hJ2.box)
              | (go_at_call 40; (with_reducible refine (CQ hJ2).mono ?_); rintro e w7 ⟨rfl, hJ3⟩))
            go_roundg g
            case measure => exact Nat.lt_succ_self g
            case rel => exact HG.out _ _ _ _ (by have := HI9.out; first | rfl | (rw [IntWalk.wrap64_in _ ⟨by omega, by omega⟩, Int.natCast_succ])) hJ3.j0
          · have hgiI : ¬ (i : Int) < (gs.length : Int) := by omega
            rw [List.getElem?_eq_none (by omega)] at hgap
            dsimp only at hgap
            have hs10 : s1 = s0 := by rw [← hg1, hgap]; exact ByteArray.append_empty
            subst hs10
            clear hgap hbad hgood hk hnD cG hJ hq hgb hts hig h10 hx f0 f1 f2 hL7 n7 hi9 hgi hls hgs hgl hg1 hg2 hgz n1 hz hti hgd hGx B1 yk0 ya0 yb0 yd0 yk1 ya1 yb1 yd1 yk2 ya2 yb2 yd2
            go_wp2_with (first
              | (go_at_call 36; (with_reducible refine (CG hJ0).mono ?_); rintro e w5 ⟨rfl, hJ1⟩; obtain ⟨x0, x1, x2, x3, x4, x5, x6, x7, x8, x9, xa, xb⟩ := Fb.c12 hJ1.box)
              | (at_builtin; refine wpList_append_lies _ rfl _ _ 60 rfl w3.heap.size 59 iD (.agg #[.int .i64 0, .string ⟨#[]⟩, .string ⟨#[]⟩, .string ⟨#[]⟩, .int .i64 0, .string ⟨#[]⟩, .string ⟨#[]⟩, .string ⟨#[]⟩, .int .i64 0, .string ⟨#[]⟩, .string ⟨#[]⟩, .string ⟨#[]⟩]) 12 168 Tryd.underlying60 hD0 hD1 hD2 hD3 rfl (by decide) _ _ _ rfl (Jw.alloc hJ1 _).all ⟨w5.heap.size, 0, none⟩ 1 1 [.int .i64 k0, .string a0, .string b0, .string d0, .int .i64 k1, .string a1, .string b1, .string d1, .int .i64 k2, .string a2, .string b2, .string d2] rfl rfl (cells_new _ _ _) (oc12 _ _ _ _ _ _ _ _ _ _ _ _) (by decide) (by have := HN7.out; unfold maxLen; omega) (by have := HN7.out; omega) ((Jw.alloc hJ1 _).b.size) _ rfl ?_; intro g5 c7 w6 hown hgrow hloc hg5; have hJ2 := Jw.app9 (Jw.alloc hJ1 _) rfl HND.out hown hgrow hloc; obtain ⟨z0, z1, z2, z3, z4, z5, z6, z7, z8, z9, za, zb⟩ := Fb.c12 hJ2.box)
              | (go_at_call 40; (with_reducible refine (CQ hJ2).mono ?_); rintro e w7 ⟨rfl, hJ3⟩))
            go_roundg g
            case measure => exact Nat.lt_succ_self g
            case rel => exact HG.out _ _ _ _ (by have := HI9.out; first | rfl | (rw [IntWalk.wrap64_in _ ⟨by omega, by omega⟩, Int.natCast_succ])) hJ3.j0
end Go.Proofs.YtjalhcbomjgkoaaDoor
