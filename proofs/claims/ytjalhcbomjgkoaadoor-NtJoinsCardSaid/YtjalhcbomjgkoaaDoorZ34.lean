/-
  MERGED (a claim has at most 60 files): NJoinsW.
-/
import Derived.Test.YtjalhcbomjgkoaaDoorZ33
/-
  NtJoins's walk.
-/
namespace Go.Proofs.YtjalhcbomjgkoaaDoor
open Go.RowKit
set_option linter.unusedVariables false
set_option linter.unusedSimpArgs false

theorem oc3 (t0 : TypeId) (v0 : Value) (t1 : TypeId) (v1 : Value) (t2 : TypeId) (v2 : Value) : ∀ u ∈ [Value.iface t0 v0, .iface t1 v1, .iface t2 v2], u.oneCell' = true := fun u hu => by
  simp only [List.mem_cons, List.not_mem_nil, or_false] at hu
  rcases hu with rfl | rfl | rfl <;> rfl
set_option maxHeartbeats 64000000 in
set_option maxRecDepth 100000 in
theorem ntjoins_walk (l : List Dt) (hl : ∀ t ∈ l, t.ok) (A : Option Addr) (cap : Nat) (hc : l.length ≤ cap) (hm : cap ≤ maxLen) (m : List Dt) (hl2 : ∀ t ∈ m, t.ok) (A2 : Option Addr) (cap2 : Nat) (hc2 : m.length ≤ cap2) (hm2 : cap2 ≤ maxLen)
    (w : World) (hs : SlAt w A 12 (l.map Dt.cells)) (hs2 : SlAt w A2 12 (m.map Dt.cells)) (t : TypeId) (fr : Nat × Nat) (htab : w.heap[0]? = some (.cells escCells t fr)) :
    Calls Tryd.prog 6 #[.slice A l.length cap, .slice A2 m.length cap2] w fun e w' => e = .returned (.bool true) ∧ Below w.heap.size w w' := by
  have hlt0 : 0 < w.heap.size := (Array.getElem?_eq_some_iff.1 htab).1
  have cA : Calls Tryd.prog 32 #[] w fun e w' => e = .returned (.bool true) ∧ Below w.heap.size w w' := nawake_ok w t fr htab
  have HTAB := Lib.hid htab
  have HLT := Lib.hid hlt0
  have HS := Lib.hid hs
  have HS2 := Lib.hid hs2
  have HL := Lib.hid hl
  have HL2 := Lib.hid hl2
  have HC := Lib.hid hc
  have HC2 := Lib.hid hc2
  have HM := Lib.hid hm
  have HM2 := Lib.hid hm2
  clear htab hlt0 hs hs2 hl hl2 hc hc2 hm hm2
  cases hf : fewB l with
  | false =>
    have HF := Lib.hid hf
    clear hf
    go_enter Tryd.func6, Tryd.ntmps6
    go_wp2_with (first
      | (go_at_call 32; (with_reducible refine cA.mono ?_); rintro e w1 ⟨rfl, hB1⟩)
      | (go_at_call 33; (with_reducible refine (few_false HF.out HL.out A cap HC.out HM.out w HS.out hB1).mono ?_); rintro e w2 ⟨v2, rfl, hb2⟩; have hB2 := hB1.trans (hb2.mono hB1.size))
      | (go_at_call 33; (with_reducible refine (few_any HL2.out A2 cap2 HC2.out HM2.out w HS2.out hB2).mono ?_); rintro e w3 ⟨v3, rfl, hb3⟩; have hB3 := hB2.trans (hb3.mono hB2.size)))
    go_ret
    exact ⟨rfl, hB3⟩
  | true =>
    cases hf2 : fewB m with
    | false =>
      have HF := Lib.hid hf
      have HF2 := Lib.hid hf2
      clear hf hf2
      go_enter Tryd.func6, Tryd.ntmps6
      go_wp2_with (first
        | (go_at_call 32; (with_reducible refine cA.mono ?_); rintro e w1 ⟨rfl, hB1⟩)
        | (go_at_call 33; (with_reducible refine (few_true HF.out HL.out A cap HC.out HM.out w HS.out hB1).mono ?_); rintro e w2 ⟨A3, c3, rfl, hd2, hb2⟩; have hB2 := hB1.trans (hb2.mono hB1.size))
        | (go_at_call 33; (with_reducible refine (few_false HF2.out HL2.out A2 cap2 HC2.out HM2.out w HS2.out hB2).mono ?_); rintro e w3 ⟨v3, rfl, hb3⟩; have hB3 := hB2.trans (hb3.mono hB2.size)))
      go_ret
      exact ⟨rfl, hB3⟩
    | true =>
      obtain ⟨iD, hD0, hD1, hD2, hD3⟩ := info_parts rtripInfo
      obtain ⟨iT, hT0, hT1, hT2, hT3⟩ := info_parts tripInfo
      have c1 : ∀ {W : World}, Below w.heap.size w W → Calls Tryd.prog 33 #[.slice A l.length cap] W fun e w' => ∃ A' c', e = .returned (.tuple #[.slice A' (fewL l).length c', .bool true]) ∧ DtV W.heap.size w' (.slice A' (fewL l).length c') (fewL l) ∧ Below W.heap.size W w' := fun {W} hb => few_true hf HL.out A cap HC.out HM.out w HS.out hb
      have c2 : ∀ {W : World}, Below w.heap.size w W → Calls Tryd.prog 33 #[.slice A2 m.length cap2] W fun e w' => ∃ A' c', e = .returned (.tuple #[.slice A' (fewL m).length c', .bool true]) ∧ DtV W.heap.size w' (.slice A' (fewL m).length c') (fewL m) ∧ Below W.heap.size W w' := fun {W} hb => few_true hf2 HL2.out A2 cap2 HC2.out HM2.out w HS2.out hb
      have hSa := few_sm hf
      have hSb := few_sm hf2
      have hna := few_len l
      have hnb := few_len m
      generalize fewL l = La at c1 hSa hna
      generalize fewL m = Lb at c2 hSb hnb
      have HSA := Lib.hid hSa
      have HSB := Lib.hid hSb
      have HNA := Lib.hid hna
      have HNB := Lib.hid hnb
      clear hf hf2 hSa hSb hna hnb
      go_enter Tryd.func6, Tryd.ntmps6
      go_wp2_with (first
        | (go_at_call 32; (with_reducible refine cA.mono ?_); rintro e w1 ⟨rfl, hB1⟩)
        | (go_at_call 33; (with_reducible refine (c1 hB1).mono ?_); rintro e w2 ⟨A3, c3, rfl, hd2, hb2⟩; have hB2 := hB1.trans (hb2.mono hB1.size))
        | (go_at_call 33; (with_reducible refine (c2 hB2).mono ?_); rintro e w3 ⟨A4, c9, rfl, hd3, hb3⟩; have hB3 := hB2.trans (hb3.mono hB2.size)))
      have HDA := Lib.hid (hd2.below hb3)
      have HDB := Lib.hid hd3
      have HB3 := Lib.hid hB3
      have HST := Lib.hid (j0_start w3)
      clear hd2 hd3 hb2 hb3 hB1 hB2 hB3 c1 c2 cA HS HS2 HL HL2 HC HC2 HM HM2
      go_loopg [9, 10, 39] La.length (fun g s9 s10 s39 wr => LpI w3 w3.heap.size [] La (.slice none 0 0) [] g s9 s10 s39 wr)
      case atStart => exact ⟨0, none, 0, none, 0, by omega, rfl, rfl, rfl, HST.out⟩
      case round =>
        clear HST
        obtain ⟨i, A5, c5, A6, c6, hig, rfl, rfl, rfl, hJ⟩ := hrel
        cases gk with
        | zero =>
          have hin : ¬ (i : Int) < (La.length : Int) := by omega
          have eF : goodL (La.take i) = goodL La := by rw [List.take_of_length_le (by omega)]
          have hgf := goodL_gd (L := La)
          have hsf := goodL_sm HSA.out
          have hnf : (goodL La).length ≤ 10 := Nat.le_trans (goodL_len La) HNA.out
          simp only [List.nil_append, eF] at hJ ⊢
          generalize goodL La = F at hJ hgf hsf hnf ⊢
          obtain ⟨n1, hn1, hJT⟩ : ∃ n1, n1 = wr.heap.size ∧ J0 w3 n1 (.slice A5 F.length c5) F (.slice A6 F.length c6) F (.slice none 0 0) [] wr := ⟨_, rfl, hJ.turn⟩
          have HJT := Lib.hid hJT
          have HGF := Lib.hid (fun ts h => (⟨hsf ts h, hgf ts h⟩ : Sm ts ∧ Gd ts))
          have HNF := Lib.hid hnf
          clear hig eF hgf hsf hnf hJ hn1 hJT
          go_wp2
          go_loopg [9, 11, 57] Lb.length (fun g s9 s11 s57 wr2 => LpI w3 n1 F Lb (.slice A6 F.length c6) F g s9 s11 s57 wr2)
          case atStart => exact ⟨0, A5, c5, none, 0, by omega, rfl, by rw [show goodL (Lb.take 0) = [] from rfl, List.append_nil], rfl, by rw [show goodL (Lb.take 0) = [] from rfl, List.append_nil]; exact HJT.out⟩
          case round =>
            clear HJT
            obtain ⟨i, A5, c5, A7, c7, hig, rfl, rfl, rfl, hJ⟩ := hrel
            cases gk with
            | zero =>
              have hin : ¬ (i : Int) < (Lb.length : Int) := by omega
              have eF : goodL (Lb.take i) = goodL Lb := by rw [List.take_of_length_le (by omega)]
              have hgf := goodL_gd (L := Lb)
              have hsf := goodL_sm HSB.out
              have hnf : (goodL Lb).length ≤ 10 := Nat.le_trans (goodL_len Lb) HNB.out
              simp only [eF] at hJ ⊢
              generalize goodL Lb = G at hJ hgf hsf hnf ⊢
              have hF := HGF.out
              have hG : ∀ ts ∈ G, Sm ts ∧ Gd ts := fun ts h => ⟨hsf ts h, hgf ts h⟩
              have hFG : ∀ ts ∈ F ++ G, Sm ts ∧ Gd ts := fun ts h => by
                rcases List.mem_append.1 h with h | h
                · exact hF ts h
                · exact hG ts h
              have hnF := HNF.out
              have hnFG : (F ++ G).length ≤ 30 := by rw [List.length_append]; omega
              have hx := lns_size F hF
              have hy := lns_size G hG
              have hz : textOf (lnsS F) ++ textOf (lnsS G) = textOf (lnsS (F ++ G)) := by rw [lnsS_app, textOf_app]
              have htW : ∀ {W : World}, Below w3.heap.size w3 W → W.heap[0]? = some (.cells escCells t fr) := fun {W} hb => tab_below (tab_below HTAB.out HB3.out HLT.out) hb (Nat.lt_of_lt_of_le HLT.out HB3.out.size)
              generalize hM : F ++ G = M at hJ hFG hnFG hz ⊢
              clear hM
              have CP1 : ∀ {W : World}, J0 w3 n1 (.slice A5 M.length c5) M (.slice A6 F.length c6) F (.slice A7 G.length c7) G W → Calls Tryd.prog 38 #[.slice A6 F.length c6] W fun e w' => e = .returned (.string (textOf (lnsS F))) ∧ J0 w3 n1 (.slice A5 M.length c5) M (.slice A6 F.length c6) F (.slice A7 G.length c7) G w' :=
                fun {W} h => j0_of h (nprint_any F (fun ts ht => ⟨(hF ts ht).2, (hF ts ht).1.few⟩) (by omega) W h.done t fr (htW h.b))
              have CP2 : ∀ {W : World}, J0 w3 n1 (.slice A5 M.length c5) M (.slice A6 F.length c6) F (.slice A7 G.length c7) G W → Calls Tryd.prog 38 #[.slice A7 G.length c7] W fun e w' => e = .returned (.string (textOf (lnsS G))) ∧ J0 w3 n1 (.slice A5 M.length c5) M (.slice A6 F.length c6) F (.slice A7 G.length c7) G w' :=
                fun {W} h => j0_of h (nprint_any G (fun ts ht => ⟨(hG ts ht).2, (hG ts ht).1.few⟩) (by omega) W h.row t fr (htW h.b))
              generalize textOf (lnsS F) = x at hx hz CP1
              generalize textOf (lnsS G) = y at hy hz CP2
              have a1 : ∀ W, (Op.stringOp .add x y).run Tryd.prog W = .ok (.string (textOf (lnsS M))) W := fun W => by rw [← hz]; exact add_any _ _ (by omega) W
              have CPa : ∀ {W : World}, J0 w3 n1 (.slice A5 M.length c5) M (.slice A6 F.length c6) F (.slice A7 G.length c7) G W → Calls Tryd.prog 37 #[.string (textOf (lnsS M))] W fun e w' => ∃ A c, e = .returned (.tuple #[.slice A M.length c, .int .i64 0, .int .i64 0]) ∧ TrsV W.heap.size w' (.slice A M.length c) M ∧ J0 w3 n1 (.slice A5 M.length c5) M (.slice A6 F.length c6) F (.slice A7 G.length c7) G w' :=
                fun {W} h => (parse_lines hFG hnFG rfl W t fr (htW h.b)).mono fun e w' ⟨A, c, e1, h1, h2⟩ => ⟨A, c, e1, h1, h.below h2⟩
              have CI : ∀ {A : Option Addr} {c B : Nat} {W : World}, TrsV B W (.slice A M.length c) M → J0 w3 n1 (.slice A5 M.length c5) M (.slice A6 F.length c6) F (.slice A7 G.length c7) G W → Calls Tryd.prog 39 #[.slice A M.length c, .slice A5 M.length c5] W fun e w' => e = .returned (.bool true) ∧ Below w3.heap.size w3 w' :=
                fun {A c B W} h1 h => (nis_same M (fun ts ht => by
                  obtain ⟨a, b, d, rfl, hk⟩ := (hFG ts ht).1
                  exact ⟨rfl, fun u hu => (hk u hu).1⟩) (by omega) W h1 h.all).mono fun e w' ⟨e1, h2⟩ => ⟨e1, h.b.trans (h2.mono h.b.size)⟩
              generalize textOf (lnsS M) = z at a1 CPa
              clear hig eF hgf hsf hnf hF hG hFG hnF hnFG hx hy hz htW
              go_wp2_with (first
                | (go_at_call 38; (with_reducible refine (CP1 hJ).mono ?_); rintro e w5 ⟨rfl, hJ5⟩)
                | (go_at_call 38; (with_reducible refine (CP2 hJ5).mono ?_); rintro e w6 ⟨rfl, hJ6⟩)
                | (go_at_call 37; (with_reducible refine (CPa hJ6).mono ?_); rintro e w7 ⟨A8, c8, rfl, hT7, hJ7⟩)
                | (go_at_call 39; (with_reducible refine (CI hT7 hJ7).mono ?_); rintro e w8 ⟨rfl, hB8⟩))
              go_ret
              exact ⟨rfl, HB3.out.trans (hB8.mono HB3.out.size)⟩
            | succ g =>
              have hin : (i : Int) < (Lb.length : Int) := by omega
              have hi0 : (0 : Int) ≤ (i : Int) := by omega
              obtain ⟨ts, hts⟩ : ∃ ts, Lb[i]? = some ts := ⟨_, List.getElem?_eq_getElem (by omega)⟩
              have hsm := HSB.out ts (List.mem_of_getElem? hts)
              have h10 := HNB.out
              obtain ⟨gb, cb, eb, hgb, hq⟩ := dtV_at HDB.out (fun ts h => (HSB.out ts h).len) hts
              injection eb with eb1 eb2 eb3
              subst eb1 eb3
              obtain ⟨L9, hL9⟩ : ∃ L, L = F ++ goodL (Lb.take i) := ⟨_, rfl⟩
              obtain ⟨L10, hL10⟩ : ∃ L, L = goodL (Lb.take i) := ⟨_, rfl⟩
              have n10 : L10.length ≤ 10 := by rw [hL10]; have := goodL_len (Lb.take i); rw [List.length_take] at this; omega
              have n9 : L9.length ≤ 20 := by rw [hL9, List.length_append, ← hL10]; have := HNF.out; omega
              have hbad := fun (hk : okL ts = false) (s39 : Value) (W : World) (hs : s39 = .int .i64 ((i + 1 : Nat) : Int)) => lp_bad (W0 := w3) (N1 := n1) (P := F) (vf := (.slice A6 F.length c6)) (F := F) (A := A5) (A' := A7) (c := c5) (c' := c7) (W := W) hig hts hk hs
              have hgood := fun (hk : okL ts = true) (A A' : Option Addr) (c c' : Nat) (s39 : Value) (W : World) (hs : s39 = .int .i64 ((i + 1 : Nat) : Int)) => lp_good (W0 := w3) (N1 := n1) (P := F) (vf := (.slice A6 F.length c6)) (F := F) (A := A) (A' := A') (c := c) (c' := c') (W := W) hig hts hk hs
              rw [← hL9, ← hL10] at hbad hgood hJ
              rw [← hL9, ← hL10]
              have hi9 : i < 10 := by omega
              obtain ⟨x0, x1, x2, rfl, hx⟩ := hsm
              have f0 := hx x0 (by simp)
              have f1 := hx x1 (by simp)
              have f2 := hx x2 (by simp)
              have cG := qgood_any x0 x1 x2 ⟨by omega, by omega, by omega⟩ ⟨by omega, by omega, by omega⟩ ⟨by omega, by omega, by omega⟩
              have cR := nreal_any x0 x1 x2 f0.1 f1.1 f2.1
              obtain ⟨t0, v0, e0⟩ := iface_of f0.1
              obtain ⟨t1, v1, e1⟩ := iface_of f1.1
              obtain ⟨t2, v2, e2⟩ := iface_of f2.1
              have hnT : [.iface t0 v0, .iface t1 v1, .iface t2 v2] = [x0, x1, x2].map Tm.val := by rw [← e0, ← e1, ← e2]; rfl
              rw [e0, e1, e2] at cR
              have hnD : [.int .i64 x0.kind, .string x0.ta, .string x0.tb, .string x0.tc, .int .i64 x1.kind, .string x1.ta, .string x1.tb, .string x1.tc, .int .i64 x2.kind, .string x2.ta, .string x2.tb, .string x2.tc] = [x0, x1, x2].flatMap c4 := rfl
              unfold T12 at cG cR
              obtain ⟨k0, yk0⟩ : ∃ y, y = x0.kind := ⟨_, rfl⟩
              obtain ⟨a0, ya0⟩ : ∃ y, y = x0.ta := ⟨_, rfl⟩
              obtain ⟨b0, yb0⟩ : ∃ y, y = x0.tb := ⟨_, rfl⟩
              obtain ⟨d0, yd0⟩ : ∃ y, y = x0.tc := ⟨_, rfl⟩
              rw [← yk0, ← ya0, ← yb0, ← yd0] at cG cR hnD
              obtain ⟨k1, yk1⟩ : ∃ y, y = x1.kind := ⟨_, rfl⟩
              obtain ⟨a1, ya1⟩ : ∃ y, y = x1.ta := ⟨_, rfl⟩
              obtain ⟨b1, yb1⟩ : ∃ y, y = x1.tb := ⟨_, rfl⟩
              obtain ⟨d1, yd1⟩ : ∃ y, y = x1.tc := ⟨_, rfl⟩
              rw [← yk1, ← ya1, ← yb1, ← yd1] at cG cR hnD
              obtain ⟨k2, yk2⟩ : ∃ y, y = x2.kind := ⟨_, rfl⟩
              obtain ⟨a2, ya2⟩ : ∃ y, y = x2.ta := ⟨_, rfl⟩
              obtain ⟨b2, yb2⟩ : ∃ y, y = x2.tb := ⟨_, rfl⟩
              obtain ⟨d2, yd2⟩ : ∃ y, y = x2.tc := ⟨_, rfl⟩
              rw [← yk2, ← ya2, ← yb2, ← yd2] at cG cR hnD
              have q0 : wr.cell? ⟨gb, i * 12, none⟩ = some (.int .i64 k0) := by rw [yk0]; exact (hJ.b.cell (p := ⟨gb, i * 12, none⟩) hgb).trans (hq 0 _ rfl)
              have q1 : wr.cell? ⟨gb, i * 12 + 1, none⟩ = some (.string a0) := by rw [ya0]; exact (hJ.b.cell (p := ⟨gb, i * 12 + 1, none⟩) hgb).trans (hq 1 _ rfl)
              have q2 : wr.cell? ⟨gb, i * 12 + 2, none⟩ = some (.string b0) := by rw [yb0]; exact (hJ.b.cell (p := ⟨gb, i * 12 + 2, none⟩) hgb).trans (hq 2 _ rfl)
              have q3 : wr.cell? ⟨gb, i * 12 + 3, none⟩ = some (.string d0) := by rw [yd0]; exact (hJ.b.cell (p := ⟨gb, i * 12 + 3, none⟩) hgb).trans (hq 3 _ rfl)
              have q4 : wr.cell? ⟨gb, i * 12 + 4, none⟩ = some (.int .i64 k1) := by rw [yk1]; exact (hJ.b.cell (p := ⟨gb, i * 12 + 4, none⟩) hgb).trans (hq 4 _ rfl)
              have q5 : wr.cell? ⟨gb, i * 12 + 5, none⟩ = some (.string a1) := by rw [ya1]; exact (hJ.b.cell (p := ⟨gb, i * 12 + 5, none⟩) hgb).trans (hq 5 _ rfl)
              have q6 : wr.cell? ⟨gb, i * 12 + 6, none⟩ = some (.string b1) := by rw [yb1]; exact (hJ.b.cell (p := ⟨gb, i * 12 + 6, none⟩) hgb).trans (hq 6 _ rfl)
              have q7 : wr.cell? ⟨gb, i * 12 + 7, none⟩ = some (.string d1) := by rw [yd1]; exact (hJ.b.cell (p := ⟨gb, i * 12 + 7, none⟩) hgb).trans (hq 7 _ rfl)
              have q8 : wr.cell? ⟨gb, i * 12 + 8, none⟩ = some (.int .i64 k2) := by rw [yk2]; exact (hJ.b.cell (p := ⟨gb, i * 12 + 8, none⟩) hgb).trans (hq 8 _ rfl)
              have q9 : wr.cell? ⟨gb, i * 12 + 9, none⟩ = some (.string a2) := by rw [ya2]; exact (hJ.b.cell (p := ⟨gb, i * 12 + 9, none⟩) hgb).trans (hq 9 _ rfl)
              have q10 : wr.cell? ⟨gb, i * 12 + 10, none⟩ = some (.string b2) := by rw [yb2]; exact (hJ.b.cell (p := ⟨gb, i * 12 + 10, none⟩) hgb).trans (hq 10 _ rfl)
              have q11 : wr.cell? ⟨gb, i * 12 + 11, none⟩ = some (.string d2) := by rw [yd2]; exact (hJ.b.cell (p := ⟨gb, i * 12 + 11, none⟩) hgb).trans (hq 11 _ rfl)
              have hJ0 := hJ.boxed #[.int .i64 k0, .string a0, .string b0, .string d0, .int .i64 k1, .string a1, .string b1, .string d1, .int .i64 k2, .string a2, .string b2, .string d2]
              have CG : ∀ {g13 : Nat} {W : World}, Jw w3 n1 g13 #[.int .i64 k0, .string a0, .string b0, .string d0, .int .i64 k1, .string a1, .string b1, .string d1, .int .i64 k2, .string a2, .string b2, .string d2] (.slice A5 L9.length c5) L9 (.slice A6 F.length c6) F (.slice A7 L10.length c7) L10 W → Calls Tryd.prog 36 #[.agg #[.int .i64 k0, .string a0, .string b0, .string d0, .int .i64 k1, .string a1, .string b1, .string d1, .int .i64 k2, .string a2, .string b2, .string d2]] W fun e w' => e = .returned (.bool (okR x0 x1 x2 0)) ∧ Jw w3 n1 g13 #[.int .i64 k0, .string a0, .string b0, .string d0, .int .i64 k1, .string a1, .string b1, .string d1, .int .i64 k2, .string a2, .string b2, .string d2] (.slice A5 L9.length c5) L9 (.slice A6 F.length c6) F (.slice A7 L10.length c7) L10 w' := fun h => jw_of h (cG _)
              have CR : ∀ {g13 : Nat} {v9 v10 : Value} {M9 M10 : List (List Tm)} {W : World}, Jw w3 n1 g13 #[.int .i64 k0, .string a0, .string b0, .string d0, .int .i64 k1, .string a1, .string b1, .string d1, .int .i64 k2, .string a2, .string b2, .string d2] v9 M9 (.slice A6 F.length c6) F v10 M10 W → Calls Tryd.prog 35 #[.agg #[.int .i64 k0, .string a0, .string b0, .string d0, .int .i64 k1, .string a1, .string b1, .string d1, .int .i64 k2, .string a2, .string b2, .string d2]] W fun e w' => e = .returned (.agg #[.iface t0 v0, .iface t1 v1, .iface t2 v2]) ∧ Jw w3 n1 g13 #[.int .i64 k0, .string a0, .string b0, .string d0, .int .i64 k1, .string a1, .string b1, .string d1, .int .i64 k2, .string a2, .string b2, .string d2] v9 M9 (.slice A6 F.length c6) F v10 M10 w' := fun h => jw_of h (cR _)
              have HND := Lib.hid hnD
              have HNT := Lib.hid hnT
              have HN9 := Lib.hid n9
              have HN10 := Lib.hid n10
              have HI9 := Lib.hid hi9
              cases hk : okR x0 x1 x2 0 with
              | false =>
                have HB := Lib.hid (hbad hk)
                rw [hk] at CG
                clear CR HND HNT hbad hgood hk hnD hnT cG cR hJ hq hgb hts hig h10 hx f0 f1 f2 e0 e1 e2 hL9 hL10 n9 n10 hi9 yk0 ya0 yb0 yd0 yk1 ya1 yb1 yd1 yk2 ya2 yb2 yd2
                go_wp2_with (go_at_call 36; (with_reducible refine (CG hJ0).mono ?_); rintro e w5 ⟨rfl, hJ1⟩)
                go_roundg g
                case measure => exact Nat.lt_succ_self g
                case rel => exact HB.out _ _ (by have := HI9.out; first | rfl | (rw [IntWalk.wrap64_in _ ⟨by omega, by omega⟩, Int.natCast_succ])) hJ1.j0
              | true =>
                have HG := Lib.hid (hgood hk)
                rw [hk] at CG
                clear hbad hgood hk hnD hnT cG cR hJ hq hgb hts hig h10 hx f0 f1 f2 e0 e1 e2 hL9 hL10 n9 n10 hi9 yk0 ya0 yb0 yd0 yk1 ya1 yb1 yd1 yk2 ya2 yb2 yd2
                go_wp2_with (go_at_call 36; (with_reducible refine (CG hJ0).mono ?_); rintro e w5 ⟨rfl, hJ1⟩)
                clear hJ0 q0 q1 q2 q3 q4 q5 q6 q7 q8 q9 q10 q11 CG
                generalize wr.heap.size = g13 at hJ1 ⊢
                have hJd := Jw.drew hJ1
                go_region_held3 (fun W => W.cell? ⟨g13, 0, none⟩ = some (.int .i64 k0) ∧ W.cell? ⟨g13, 1, none⟩ = some (.string a0) ∧ W.cell? ⟨g13, 2, none⟩ = some (.string b0) ∧ W.cell? ⟨g13, 3, none⟩ = some (.string d0) ∧ W.cell? ⟨g13, 4, none⟩ = some (.int .i64 k1) ∧ W.cell? ⟨g13, 5, none⟩ = some (.string a1) ∧ W.cell? ⟨g13, 6, none⟩ = some (.string b1) ∧ W.cell? ⟨g13, 7, none⟩ = some (.string d1) ∧ W.cell? ⟨g13, 8, none⟩ = some (.int .i64 k2) ∧ W.cell? ⟨g13, 9, none⟩ = some (.string a2) ∧ W.cell? ⟨g13, 10, none⟩ = some (.string b2) ∧ W.cell? ⟨g13, 11, none⟩ = some (.string d2))
                  (first | exact Fb.c12 (Jw.box (by assumption)) | exact Fb.c12 (Jw.box (Jw.drew (by assumption))) | exact Fb.c12 (Jw.box (Jw.alloc (by assumption) _)))
                  (first
                    | (refine step_append_lies _ rfl _ _ 60 rfl w3.heap.size 59 iD (.agg #[.int .i64 0, .string ⟨#[]⟩, .string ⟨#[]⟩, .string ⟨#[]⟩, .int .i64 0, .string ⟨#[]⟩, .string ⟨#[]⟩, .string ⟨#[]⟩, .int .i64 0, .string ⟨#[]⟩, .string ⟨#[]⟩, .string ⟨#[]⟩]) 12 168 Tryd.underlying60 hD0 hD1 hD2 hD3 rfl (by decide) _ _ _ rfl (Jw.alloc hJd _).all ⟨w5.drew.heap.size, 0, none⟩ 1 1 [.int .i64 k0, .string a0, .string b0, .string d0, .int .i64 k1, .string a1, .string b1, .string d1, .int .i64 k2, .string a2, .string b2, .string d2] rfl rfl (cells_new _ _ _) (oc12 _ _ _ _ _ _ _ _ _ _ _ _) (by decide) (by have := HN9.out; unfold maxLen; omega) (by have := HN9.out; omega) ((Jw.alloc hJd _).b.size) _ rfl ?_; intro g5 c17 w6 hown hgrow hloc hg5; have hJ2 := Jw.app9 (Jw.alloc hJd _) rfl HND.out hown hgrow hloc)
                    | (go_at_call 35; (with_reducible refine (CR hJ2).mono ?_); rintro e w7 ⟨rfl, hJ3⟩)
                    | (refine step_append_lies _ rfl _ _ 70 rfl n1 67 iT (.agg #[.nilIface, .nilIface, .nilIface]) 3 48 Tryd.underlying70 hT0 hT1 hT2 hT3 rfl (by decide) _ _ _ rfl (Jw.alloc hJ3 _).row ⟨w7.heap.size, 0, none⟩ 1 1 [.iface t0 v0, .iface t1 v1, .iface t2 v2] rfl rfl (cells_new _ _ _) (oc3 _ _ _ _ _ _) (by decide) (by have := HN10.out; unfold maxLen; omega) (by have := HN10.out; omega) ((Jw.alloc hJ3 _).n1) _ rfl ?_; intro g6 c8 w8 hown2 hgrow2 hloc2 hg6; have hJ4 := Jw.app10 (Jw.alloc hJ3 _) rfl HNT.out hown2 hgrow2))
                all_goals
                  clear hJ1 hJd hJ2 hJ3 hown hgrow hloc hg5 hown2 hgrow2 hloc2 hg6 CR
                  go_wp2
                  go_roundg g
                  case measure => exact Nat.lt_succ_self g
                  case rel => exact HG.out _ _ _ _ _ _ (by have := HI9.out; first | rfl | (rw [IntWalk.wrap64_in _ ⟨by omega, by omega⟩, Int.natCast_succ])) hJ4.j0

        | succ g =>
          have hin : (i : Int) < (La.length : Int) := by omega
          have hi0 : (0 : Int) ≤ (i : Int) := by omega
          obtain ⟨ts, hts⟩ : ∃ ts, La[i]? = some ts := ⟨_, List.getElem?_eq_getElem (by omega)⟩
          have hsm := HSA.out ts (List.mem_of_getElem? hts)
          have h10 := HNA.out
          obtain ⟨gb, cb, eb, hgb, hq⟩ := dtV_at HDA.out (fun ts h => (HSA.out ts h).len) hts
          injection eb with eb1 eb2 eb3
          subst eb1 eb3
          obtain ⟨L9, hL9⟩ : ∃ L, L = [] ++ goodL (La.take i) := ⟨_, rfl⟩
          obtain ⟨L10, hL10⟩ : ∃ L, L = goodL (La.take i) := ⟨_, rfl⟩
          have n10 : L10.length ≤ 10 := by rw [hL10]; have := goodL_len (La.take i); rw [List.length_take] at this; omega
          have n9 : L9.length ≤ 20 := by rw [hL9, List.length_append, ← hL10]; simp only [List.length_nil]; omega
          have hbad := fun (hk : okL ts = false) (s39 : Value) (W : World) (hs : s39 = .int .i64 ((i + 1 : Nat) : Int)) => lp_bad (W0 := w3) (N1 := w3.heap.size) (P := []) (vf := (.slice none 0 0)) (F := []) (A := A5) (A' := A6) (c := c5) (c' := c6) (W := W) hig hts hk hs
          have hgood := fun (hk : okL ts = true) (A A' : Option Addr) (c c' : Nat) (s39 : Value) (W : World) (hs : s39 = .int .i64 ((i + 1 : Nat) : Int)) => lp_good (W0 := w3) (N1 := w3.heap.size) (P := []) (vf := (.slice none 0 0)) (F := []) (A := A) (A' := A') (c := c) (c' := c') (W := W) hig hts hk hs
          rw [← hL9, ← hL10] at hbad hgood hJ
          rw [← hL9, ← hL10]
          have hi9 : i < 10 := by omega
          obtain ⟨x0, x1, x2, rfl, hx⟩ := hsm
          have f0 := hx x0 (by simp)
          have f1 := hx x1 (by simp)
          have f2 := hx x2 (by simp)
          have cG := qgood_any x0 x1 x2 ⟨by omega, by omega, by omega⟩ ⟨by omega, by omega, by omega⟩ ⟨by omega, by omega, by omega⟩
          have cR := nreal_any x0 x1 x2 f0.1 f1.1 f2.1
          obtain ⟨t0, v0, e0⟩ := iface_of f0.1
          obtain ⟨t1, v1, e1⟩ := iface_of f1.1
          obtain ⟨t2, v2, e2⟩ := iface_of f2.1
          have hnT : [.iface t0 v0, .iface t1 v1, .iface t2 v2] = [x0, x1, x2].map Tm.val := by rw [← e0, ← e1, ← e2]; rfl
          rw [e0, e1, e2] at cR
          have hnD : [.int .i64 x0.kind, .string x0.ta, .string x0.tb, .string x0.tc, .int .i64 x1.kind, .string x1.ta, .string x1.tb, .string x1.tc, .int .i64 x2.kind, .string x2.ta, .string x2.tb, .string x2.tc] = [x0, x1, x2].flatMap c4 := rfl
          unfold T12 at cG cR
          obtain ⟨k0, yk0⟩ : ∃ y, y = x0.kind := ⟨_, rfl⟩
          obtain ⟨a0, ya0⟩ : ∃ y, y = x0.ta := ⟨_, rfl⟩
          obtain ⟨b0, yb0⟩ : ∃ y, y = x0.tb := ⟨_, rfl⟩
          obtain ⟨d0, yd0⟩ : ∃ y, y = x0.tc := ⟨_, rfl⟩
          rw [← yk0, ← ya0, ← yb0, ← yd0] at cG cR hnD
          obtain ⟨k1, yk1⟩ : ∃ y, y = x1.kind := ⟨_, rfl⟩
          obtain ⟨a1, ya1⟩ : ∃ y, y = x1.ta := ⟨_, rfl⟩
          obtain ⟨b1, yb1⟩ : ∃ y, y = x1.tb := ⟨_, rfl⟩
          obtain ⟨d1, yd1⟩ : ∃ y, y = x1.tc := ⟨_, rfl⟩
          rw [← yk1, ← ya1, ← yb1, ← yd1] at cG cR hnD
          obtain ⟨k2, yk2⟩ : ∃ y, y = x2.kind := ⟨_, rfl⟩
          obtain ⟨a2, ya2⟩ : ∃ y, y = x2.ta := ⟨_, rfl⟩
          obtain ⟨b2, yb2⟩ : ∃ y, y = x2.tb := ⟨_, rfl⟩
          obtain ⟨d2, yd2⟩ : ∃ y, y = x2.tc := ⟨_, rfl⟩
          rw [← yk2, ← ya2, ← yb2, ← yd2] at cG cR hnD
          have q0 : wr.cell? ⟨gb, i * 12, none⟩ = some (.int .i64 k0) := by rw [yk0]; exact (hJ.b.cell (p := ⟨gb, i * 12, none⟩) hgb).trans (hq 0 _ rfl)
          have q1 : wr.cell? ⟨gb, i * 12 + 1, none⟩ = some (.string a0) := by rw [ya0]; exact (hJ.b.cell (p := ⟨gb, i * 12 + 1, none⟩) hgb).trans (hq 1 _ rfl)
          have q2 : wr.cell? ⟨gb, i * 12 + 2, none⟩ = some (.string b0) := by rw [yb0]; exact (hJ.b.cell (p := ⟨gb, i * 12 + 2, none⟩) hgb).trans (hq 2 _ rfl)
          have q3 : wr.cell? ⟨gb, i * 12 + 3, none⟩ = some (.string d0) := by rw [yd0]; exact (hJ.b.cell (p := ⟨gb, i * 12 + 3, none⟩) hgb).trans (hq 3 _ rfl)
          have q4 : wr.cell? ⟨gb, i * 12 + 4, none⟩ = some (.int .i64 k1) := by rw [yk1]; exact (hJ.b.cell (p := ⟨gb, i * 12 + 4, none⟩) hgb).trans (hq 4 _ rfl)
          have q5 : wr.cell? ⟨gb, i * 12 + 5, none⟩ = some (.string a1) := by rw [ya1]; exact (hJ.b.cell (p := ⟨gb, i * 12 + 5, none⟩) hgb).trans (hq 5 _ rfl)
          have q6 : wr.cell? ⟨gb, i * 12 + 6, none⟩ = some (.string b1) := by rw [yb1]; exact (hJ.b.cell (p := ⟨gb, i * 12 + 6, none⟩) hgb).trans (hq 6 _ rfl)
          have q7 : wr.cell? ⟨gb, i * 12 + 7, none⟩ = some (.string d1) := by rw [yd1]; exact (hJ.b.cell (p := ⟨gb, i * 12 + 7, none⟩) hgb).trans (hq 7 _ rfl)
          have q8 : wr.cell? ⟨gb, i * 12 + 8, none⟩ = some (.int .i64 k2) := by rw [yk2]; exact (hJ.b.cell (p := ⟨gb, i * 12 + 8, none⟩) hgb).trans (hq 8 _ rfl)
          have q9 : wr.cell? ⟨gb, i * 12 + 9, none⟩ = some (.string a2) := by rw [ya2]; exact (hJ.b.cell (p := ⟨gb, i * 12 + 9, none⟩) hgb).trans (hq 9 _ rfl)
          have q10 : wr.cell? ⟨gb, i * 12 + 10, none⟩ = some (.string b2) := by rw [yb2]; exact (hJ.b.cell (p := ⟨gb, i * 12 + 10, none⟩) hgb).trans (hq 10 _ rfl)
          have q11 : wr.cell? ⟨gb, i * 12 + 11, none⟩ = some (.string d2) := by rw [yd2]; exact (hJ.b.cell (p := ⟨gb, i * 12 + 11, none⟩) hgb).trans (hq 11 _ rfl)
          have hJ0 := hJ.boxed #[.int .i64 k0, .string a0, .string b0, .string d0, .int .i64 k1, .string a1, .string b1, .string d1, .int .i64 k2, .string a2, .string b2, .string d2]
          have CG : ∀ {g13 : Nat} {W : World}, Jw w3 w3.heap.size g13 #[.int .i64 k0, .string a0, .string b0, .string d0, .int .i64 k1, .string a1, .string b1, .string d1, .int .i64 k2, .string a2, .string b2, .string d2] (.slice A5 L9.length c5) L9 (.slice none 0 0) [] (.slice A6 L10.length c6) L10 W → Calls Tryd.prog 36 #[.agg #[.int .i64 k0, .string a0, .string b0, .string d0, .int .i64 k1, .string a1, .string b1, .string d1, .int .i64 k2, .string a2, .string b2, .string d2]] W fun e w' => e = .returned (.bool (okR x0 x1 x2 0)) ∧ Jw w3 w3.heap.size g13 #[.int .i64 k0, .string a0, .string b0, .string d0, .int .i64 k1, .string a1, .string b1, .string d1, .int .i64 k2, .string a2, .string b2, .string d2] (.slice A5 L9.length c5) L9 (.slice none 0 0) [] (.slice A6 L10.length c6) L10 w' := fun h => jw_of h (cG _)
          have CR : ∀ {g13 : Nat} {v9 v10 : Value} {M9 M10 : List (List Tm)} {W : World}, Jw w3 w3.heap.size g13 #[.int .i64 k0, .string a0, .string b0, .string d0, .int .i64 k1, .string a1, .string b1, .string d1, .int .i64 k2, .string a2, .string b2, .string d2] v9 M9 (.slice none 0 0) [] v10 M10 W → Calls Tryd.prog 35 #[.agg #[.int .i64 k0, .string a0, .string b0, .string d0, .int .i64 k1, .string a1, .string b1, .string d1, .int .i64 k2, .string a2, .string b2, .string d2]] W fun e w' => e = .returned (.agg #[.iface t0 v0, .iface t1 v1, .iface t2 v2]) ∧ Jw w3 w3.heap.size g13 #[.int .i64 k0, .string a0, .string b0, .string d0, .int .i64 k1, .string a1, .string b1, .string d1, .int .i64 k2, .string a2, .string b2, .string d2] v9 M9 (.slice none 0 0) [] v10 M10 w' := fun h => jw_of h (cR _)
          have HND := Lib.hid hnD
          have HNT := Lib.hid hnT
          have HN9 := Lib.hid n9
          have HN10 := Lib.hid n10
          have HI9 := Lib.hid hi9
          cases hk : okR x0 x1 x2 0 with
          | false =>
            have HB := Lib.hid (hbad hk)
            rw [hk] at CG
            clear CR HND HNT hbad hgood hk hnD hnT cG cR hJ hq hgb hts hig h10 hx f0 f1 f2 e0 e1 e2 hL9 hL10 n9 n10 hi9 yk0 ya0 yb0 yd0 yk1 ya1 yb1 yd1 yk2 ya2 yb2 yd2
            go_wp2_with (go_at_call 36; (with_reducible refine (CG hJ0).mono ?_); rintro e w5 ⟨rfl, hJ1⟩)
            go_roundg g
            case measure => exact Nat.lt_succ_self g
            case rel => exact HB.out _ _ (by have := HI9.out; first | rfl | (rw [IntWalk.wrap64_in _ ⟨by omega, by omega⟩, Int.natCast_succ])) hJ1.j0
          | true =>
            have HG := Lib.hid (hgood hk)
            rw [hk] at CG
            clear hbad hgood hk hnD hnT cG cR hJ hq hgb hts hig h10 hx f0 f1 f2 e0 e1 e2 hL9 hL10 n9 n10 hi9 yk0 ya0 yb0 yd0 yk1 ya1 yb1 yd1 yk2 ya2 yb2 yd2
            go_wp2_with (go_at_call 36; (with_reducible refine (CG hJ0).mono ?_); rintro e w5 ⟨rfl, hJ1⟩)
            clear hJ0 q0 q1 q2 q3 q4 q5 q6 q7 q8 q9 q10 q11 CG
            generalize wr.heap.size = g13 at hJ1 ⊢
            have hJd := Jw.drew hJ1
            go_region_held3 (fun W => W.cell? ⟨g13, 0, none⟩ = some (.int .i64 k0) ∧ W.cell? ⟨g13, 1, none⟩ = some (.string a0) ∧ W.cell? ⟨g13, 2, none⟩ = some (.string b0) ∧ W.cell? ⟨g13, 3, none⟩ = some (.string d0) ∧ W.cell? ⟨g13, 4, none⟩ = some (.int .i64 k1) ∧ W.cell? ⟨g13, 5, none⟩ = some (.string a1) ∧ W.cell? ⟨g13, 6, none⟩ = some (.string b1) ∧ W.cell? ⟨g13, 7, none⟩ = some (.string d1) ∧ W.cell? ⟨g13, 8, none⟩ = some (.int .i64 k2) ∧ W.cell? ⟨g13, 9, none⟩ = some (.string a2) ∧ W.cell? ⟨g13, 10, none⟩ = some (.string b2) ∧ W.cell? ⟨g13, 11, none⟩ = some (.string d2))
              (first | exact Fb.c12 (Jw.box (by assumption)) | exact Fb.c12 (Jw.box (Jw.drew (by assumption))) | exact Fb.c12 (Jw.box (Jw.alloc (by assumption) _)))
              (first
                | (refine step_append_lies _ rfl _ _ 60 rfl w3.heap.size 59 iD (.agg #[.int .i64 0, .string ⟨#[]⟩, .string ⟨#[]⟩, .string ⟨#[]⟩, .int .i64 0, .string ⟨#[]⟩, .string ⟨#[]⟩, .string ⟨#[]⟩, .int .i64 0, .string ⟨#[]⟩, .string ⟨#[]⟩, .string ⟨#[]⟩]) 12 168 Tryd.underlying60 hD0 hD1 hD2 hD3 rfl (by decide) _ _ _ rfl (Jw.alloc hJd _).all ⟨w5.drew.heap.size, 0, none⟩ 1 1 [.int .i64 k0, .string a0, .string b0, .string d0, .int .i64 k1, .string a1, .string b1, .string d1, .int .i64 k2, .string a2, .string b2, .string d2] rfl rfl (cells_new _ _ _) (oc12 _ _ _ _ _ _ _ _ _ _ _ _) (by decide) (by have := HN9.out; unfold maxLen; omega) (by have := HN9.out; omega) ((Jw.alloc hJd _).b.size) _ rfl ?_; intro g5 c7 w6 hown hgrow hloc hg5; have hJ2 := Jw.app9 (Jw.alloc hJd _) rfl HND.out hown hgrow hloc)
                | (go_at_call 35; (with_reducible refine (CR hJ2).mono ?_); rintro e w7 ⟨rfl, hJ3⟩)
                | (refine step_append_lies _ rfl _ _ 70 rfl w3.heap.size 67 iT (.agg #[.nilIface, .nilIface, .nilIface]) 3 48 Tryd.underlying70 hT0 hT1 hT2 hT3 rfl (by decide) _ _ _ rfl (Jw.alloc hJ3 _).row ⟨w7.heap.size, 0, none⟩ 1 1 [.iface t0 v0, .iface t1 v1, .iface t2 v2] rfl rfl (cells_new _ _ _) (oc3 _ _ _ _ _ _) (by decide) (by have := HN10.out; unfold maxLen; omega) (by have := HN10.out; omega) ((Jw.alloc hJ3 _).n1) _ rfl ?_; intro g6 c8 w8 hown2 hgrow2 hloc2 hg6; have hJ4 := Jw.app10 (Jw.alloc hJ3 _) rfl HNT.out hown2 hgrow2))
            all_goals
              clear hJ1 hJd hJ2 hJ3 hown hgrow hloc hg5 hown2 hgrow2 hloc2 hg6 CR
              go_wp2
              go_roundg g
              case measure => exact Nat.lt_succ_self g
              case rel => exact HG.out _ _ _ _ _ _ (by have := HI9.out; first | rfl | (rw [IntWalk.wrap64_in _ ⟨by omega, by omega⟩, Int.natCast_succ])) hJ4.j0

end Go.Proofs.YtjalhcbomjgkoaaDoor
