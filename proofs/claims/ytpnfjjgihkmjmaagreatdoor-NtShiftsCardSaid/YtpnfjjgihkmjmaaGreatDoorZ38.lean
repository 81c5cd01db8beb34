/-
  MERGED (a claim has at most 60 files): NShiftsW.
-/
import Derived.Test.YtpnfjjgihkmjmaaGreatDoorZ36
import Derived.Test.YtpnfjjgihkmjmaaGreatDoorZ29
import Derived.Test.YtpnfjjgihkmjmaaGreatDoorZ35
import Derived.Test.YtpnfjjgihkmjmaaGreatDoorZ37
/-
  NtShifts's walk.
-/
namespace Go.Proofs.YtpnfjjgihkmjmaaGreatDoor
open Go.RowKit
set_option linter.unusedVariables false
set_option linter.unusedSimpArgs false

theorem prsC_place (sl : List Int) (hs : AllS sl) : ∀ (g k : Nat) (acc : List (List Tm)), k ≤ sl.length → (prsC sl g k acc).2.1 ≤ sl.length
  | 0, k, acc, h => Nat.zero_le _
  | g + 1, k, acc, h => by
    have ho := overP_le sl k h
    have ht := triP_le sl hs (overP sl k).1 ho.1
    unfold prsC
    split
    · exact Nat.zero_le _
    split
    · exact prsC_place sl hs g _ acc ho.1
    · cases hu : (triP sl (overP sl k).1).1 with
      | none => exact ht.1
      | some ts =>
        have ho2 := overP_le sl _ ht.1
        dsimp only
        split
        · exact prsC_place sl hs g _ _ ho2.1
        · exact ho2.1
theorem prsB_place {sl : List Int} (hs : AllS sl) (rest : List UInt8) : (prsB sl rest).2.1 ≤ sl.length := by
  unfold prsB
  split
  · exact prsC_place sl hs _ _ _ (Nat.zero_le _)
  · exact Nat.le_refl _
/-- A text of signs, and behind it another. -/
theorem parts_behind {a : List Int} (ha : AllS a) {s : ByteArray} {sl : List Int} {rest : List UInt8} (hp : Parts s.data.toList sl rest) : Parts (textOf a ++ s).data.toList (a ++ sl) rest := by
  refine ⟨?_, allS_app ha hp.all, hp.bad⟩
  rw [ByteArray.data_append, Array.toList_append, textOf_list, hp.eq, encL_append, List.append_assoc]
theorem dtv_sl {B : Nat} {W : World} {A : Option Addr} {n c : Nat} {L : List (List Tm)} (h : DtV B W (.slice A n c) L) (h3 : ∀ ts ∈ L, ts.length = 3) : SlAt W A 12 (L.map c12) := fun j cs hj => by
  rw [List.getElem?_map] at hj
  cases hL : L[j]? with
  | none => rw [hL] at hj; cases hj
  | some ts =>
    rw [hL] at hj
    obtain rfl : c12 ts = cs := by simpa using hj
    obtain ⟨g, cap, e, hg, hq⟩ := dtV_at h h3 hL
    injection e with e _ _
    refine ⟨g, 0, e, hg, fun d v hv => ?_⟩
    have := hq d v hv
    rw [show 0 + j * 12 + d = j * 12 + d by omega]
    exact this
set_option maxRecDepth 100000 in
/-- Rows of the document's triples, one behind the other. -/
theorem app_dtv {W : World} {B B' : Nat} {v u : Value} {M R : List (List Tm)} (hM : DtV B W v M) (hR : DtV B' W u R) (hn : M.length + R.length ≤ 1000) (hB : B ≤ W.heap.size) :
    ∃ A' c' W6, (∀ ty, (Builtin.append_ #[27, 27] ty #[v, u]).run Tryz.prog W = .ok (.slice A' (M.length + R.length) c') W6) ∧ DtV B W6 (.slice A' (M.length + R.length) c') (M ++ R) ∧ W.grownBy W6 v.ownBlock := by
  obtain ⟨iD, hD0, hD1, hD2, hD3⟩ := info_parts rtripInfo
  rcases id hR.2 with ⟨hu, hl⟩ | ⟨g, cap, cur, hu, hge, hg, hnc, hcm, hsz, htk⟩
  · have hR0 : R = [] := List.length_eq_zero_iff.1 hl
    subst hR0 hu
    obtain ⟨A, c, rfl⟩ := hM.shape
    refine ⟨A, c, W, fun ty => ?_, ?_, ⟨rfl, rfl, rfl, Nat.le_refl _, fun _ _ _ => rfl⟩⟩
    · rcases id hM.2 with ⟨hv, hl0⟩ | ⟨g, cap, cur, hv, _, _, hnc, _⟩
      · injection hv with h1 h2 h3
        subst h1 h3
        rw [hl0]
        simp [Builtin.append_, run_underlying Tryz.underlying27, sizeOf, typeInfo, hD0, Builtin.lenOf, Builtin.firstCells, loadCells, loadCellsFrom]
      · injection hv with h1 h2 h3
        subst h1 h3
        simp [Builtin.append_, run_underlying Tryz.underlying27, sizeOf, typeInfo, hD0, Builtin.lenOf, Builtin.firstCells, loadCells, loadCellsFrom, storeCells, hnc]
    · rw [List.append_nil]; exact hM
  · subst hu
    have hnews : ∀ j x, (cellsD R)[j]? = some x → W.cell? ((⟨g, 0, none⟩ : Addr).add j) = some x := World.ownsRow.cells hR rfl
    have h1 : ∀ x ∈ cellsD R, x.oneCell' = true := fun x hx => by
      unfold cellsD at hx
      obtain ⟨ts, _, hx⟩ := List.mem_flatMap.1 hx
      obtain ⟨t, _, hx⟩ := List.mem_flatMap.1 hx
      unfold c4 at hx
      simp at hx
      rcases hx with rfl | rfl | rfl | rfl <;> rfl
    have key := fun ty => run_append_own_at (P := Tryz.prog) W B 27 ty 38 iD (.agg #[.int .i64 0, .string ⟨#[]⟩, .string ⟨#[]⟩, .string ⟨#[]⟩, .int .i64 0, .string ⟨#[]⟩, .string ⟨#[]⟩, .string ⟨#[]⟩, .int .i64 0, .string ⟨#[]⟩, .string ⟨#[]⟩, .string ⟨#[]⟩]) 12 168 Tryz.underlying27 hD0 hD1 hD2 hD3 rfl (by decide) v M.length (cellsD M) hM ⟨g, 0, none⟩ R.length cap (cellsD R) hR.1 hnews h1 (by unfold maxLen; omega) (by omega) hB
    obtain ⟨v', W6, hr, hown, hgr, _⟩ := key 0
    have hsh : ∃ A' c', v' = .slice A' (M.length + R.length) c' := by
      rcases id hown.2 with ⟨hv, hl⟩ | ⟨g, cap, cur, hv, _⟩
      · exact ⟨none, 0, by rw [hv, hl]⟩
      · exact ⟨_, cap, hv⟩
    obtain ⟨A', c', rfl⟩ := hsh
    refine ⟨A', c', W6, fun ty => ?_, ?_, hgr⟩
    · have : (Builtin.append_ #[27, 27] ty #[v, .slice (some ⟨g, 0, none⟩) R.length cap]).run Tryz.prog W = (Builtin.append_ #[27, 27] 0 #[v, .slice (some ⟨g, 0, none⟩) R.length cap]).run Tryz.prog W := rfl
      rw [this]; exact hr
    · unfold DtV
      rw [List.length_append]
      have e : cellsD (M ++ R) = cellsD M ++ cellsD R := by unfold cellsD; rw [List.flatMap_append]
      rw [e]
      exact hown
theorem wp_append_run {P : Program} {w : World} {o : Oper} {a : Act} {K : Act → World → Prop} {Q : Exit → Act → World → Prop} (s x : Operand) (t : TypeId) (ho : o.op = .call { callee := .builtin .append, args := #[s, x], argTypes := #[t, t] })
    (vs vx : Value) (hs : a.eval s = vs) (hx : a.eval x = vx) (v' : Value) (w' : World) (hr : ∀ ty, (Builtin.append_ #[t, t] ty #[vs, vx]).run P w = .ok v' w') (h : K (a.put o.dst v') w') : o.wp P a w K Q := by
  unfold Oper.wp execOp
  simp only [ho, resolve, invoke, builtin, Sem.run_bind, Sem.run_pure, Result.andThen_ok, List.map_toArray, List.map_cons, List.map_nil, hs, hx, hr]
  exact h
def LsI (W0 : World) (La : List (List Tm)) (g : Nat) (s7 s36 : Value) (wr : World) : Prop :=
  ∃ (i : Nat) (A : Option Addr) (c : Nat), i + g = La.length ∧ s36 = .int .i64 i ∧ s7 = .slice A (goodL (La.take i)).length c ∧ J0 W0 W0.heap.size (.slice A (goodL (La.take i)).length c) (goodL (La.take i)) (.slice none 0 0) [] (.slice none 0 0) [] wr
theorem ls_bad {W0 : World} {La : List (List Tm)} {g i : Nat} {ts : List Tm} (hig : i + (g + 1) = La.length) (hts : La[i]? = some ts) (hok : okL ts = false) {A : Option Addr} {c : Nat} {s36 : Value} {W : World}
    (hs : s36 = .int .i64 ((i + 1 : Nat) : Int)) (h : J0 W0 W0.heap.size (.slice A (goodL (La.take i)).length c) (goodL (La.take i)) (.slice none 0 0) [] (.slice none 0 0) [] W) : LsI W0 La g (.slice A (goodL (La.take i)).length c) s36 W := by
  have e0 : La.take (i + 1) = La.take i ++ [ts] := by rw [List.take_add_one, hts]; rfl
  have e : goodL (La.take (i + 1)) = goodL (La.take i) := by rw [e0, goodL_snoc, if_neg (by rw [hok]; decide)]
  refine ⟨i + 1, A, c, by omega, hs, ?_, ?_⟩
  · rw [e]
  · rw [e]; exact h
theorem ls_good {W0 : World} {La : List (List Tm)} {g i : Nat} {ts : List Tm} (hig : i + (g + 1) = La.length) (hts : La[i]? = some ts) (hok : okL ts = true) {A : Option Addr} {c : Nat} {s36 : Value} {W : World}
    (hs : s36 = .int .i64 ((i + 1 : Nat) : Int)) (h : J0 W0 W0.heap.size (.slice A ((goodL (La.take i)).length + 1) c) (goodL (La.take i) ++ [ts]) (.slice none 0 0) [] (.slice none 0 0) [] W) : LsI W0 La g (.slice A ((goodL (La.take i)).length + 1) c) s36 W := by
  have e0 : La.take (i + 1) = La.take i ++ [ts] := by rw [List.take_add_one, hts]; rfl
  have e : goodL (La.take (i + 1)) = goodL (La.take i) ++ [ts] := by rw [e0, goodL_snoc, if_pos hok]
  have e3 : (goodL (La.take (i + 1))).length = (goodL (La.take i)).length + 1 := by rw [e, List.length_append]; rfl
  refine ⟨i + 1, A, c, by omega, hs, ?_, ?_⟩
  · rw [e3]
  · rw [e3, e]; exact h
set_option maxHeartbeats 64000000 in
set_option maxRecDepth 100000 in
theorem ntshifts_walk (l : List Dt) (hl : ∀ t ∈ l, t.ok) (A : Option Addr) (cap : Nat) (hc : l.length ≤ cap) (hm : cap ≤ maxLen) (s : ByteArray) (_hs : s.size ≤ maxLen)
    (w : World) (hs : SlAt w A 12 (l.map Dt.cells)) (t : TypeId) (fr : Nat × Nat) (htab : w.heap[0]? = some (.cells escCells t fr)) :
    Calls Tryz.prog 4 #[.slice A l.length cap, .string s] w fun e w' => e = .returned (.bool true) ∧ Below w.heap.size w w' := by
  have hlt0 : 0 < w.heap.size := (Array.getElem?_eq_some_iff.1 htab).1
  have hTW : ∀ {W : World}, Below w.heap.size w W → W.heap[0]? = some (.cells escCells t fr) := fun {W} hb => tab_below htab hb hlt0
  have cA : ∀ {W : World}, Below w.heap.size w W → Calls Tryz.prog 6 #[] W fun e w' => e = .returned (.bool true) ∧ Below w.heap.size w w' := fun {W} hb => (nawake_ok W t fr (hTW hb)).mono fun _ _ ⟨x, y⟩ => ⟨x, hb.trans (y.mono hb.size)⟩
  have hB0 : Below w.heap.size w w := Below.refl _ _
  have HTW := Lib.hid (show ∀ W : World, Below w.heap.size w W → W.heap[0]? = some (.cells escCells t fr) from fun W hb => hTW hb)
  have HS := Lib.hid hs
  have HL := Lib.hid hl
  have HC := Lib.hid hc
  have HM := Lib.hid hm
  clear htab hlt0 hs hl hc hm hTW _hs
  by_cases h20 : 300 < s.size
  · have h20I : (300 : Int) < (s.size : Int) := by omega
    clear h20
    go_enter Tryz.func4, Tryz.ntmps4
    go_wp2_with (first
      | (go_at_call 6; (with_reducible refine (cA hB0).mono ?_); rintro e w1 ⟨rfl, hB1⟩)
      | (go_at_call 6; (with_reducible refine (cA hB1).mono ?_); rintro e w2 ⟨rfl, hB2⟩))
    go_ret
    exact ⟨rfl, by assumption⟩
  have h20I : ¬ (300 : Int) < (s.size : Int) := by omega
  cases hf : fewB l with
  | false =>
    have HF := Lib.hid hf
    clear hf h20
    go_enter Tryz.func4, Tryz.ntmps4
    go_wp2_with (first
      | (go_at_call 6; (with_reducible refine (cA hB0).mono ?_); rintro e w1 ⟨rfl, hB1⟩)
      | (go_at_call 11; (with_reducible refine (few_false HF.out HL.out A cap HC.out HM.out w HS.out hB1).mono ?_); rintro e w2 ⟨v2, rfl, hb2⟩; have hB2 := hB1.trans (hb2.mono hB1.size)))
    go_ret
    exact ⟨rfl, hB2⟩
  | true =>
    obtain ⟨iD, hD0, hD1, hD2, hD3⟩ := info_parts rtripInfo
    have c1 : ∀ {W : World}, Below w.heap.size w W → Calls Tryz.prog 11 #[.slice A l.length cap] W fun e w' => ∃ A' c', e = .returned (.tuple #[.slice A' (fewL l).length c', .bool true]) ∧ DtV W.heap.size w' (.slice A' (fewL l).length c') (fewL l) ∧ Below W.heap.size W w' := fun {W} hb => few_true hf HL.out A cap HC.out HM.out w HS.out hb
    have hSa := few_sm hf
    have hna := few_len l
    generalize fewL l = La at c1 hSa hna
    have HSA := Lib.hid hSa
    have HNA := Lib.hid hna
    have H20 := Lib.hid h20
    clear hf hSa hna h20
    go_enter Tryz.func4, Tryz.ntmps4
    go_wp2_with (first
      | (go_at_call 6; (with_reducible refine (cA hB0).mono ?_); rintro e w1 ⟨rfl, hB1⟩)
      | (go_at_call 11; (with_reducible refine (c1 hB1).mono ?_); rintro e w3 ⟨A3, c3, rfl, hd2, hb2⟩; have hB3 := hB1.trans (hb2.mono hB1.size)))
    have HDA := Lib.hid hd2
    have HB3 := Lib.hid hB3
    have HST := Lib.hid (j0_start w3)
    clear hd2 hb2 hB0 hB1 hB3 c1 cA HS HL HC HM
    go_loopg [7, 36] La.length (fun g s7 s36 wr => LsI w3 La g s7 s36 wr)
    case atStart => exact ⟨0, none, 0, by omega, rfl, rfl, HST.out⟩
    case round =>
      clear HST
      obtain ⟨i, A5, c5, hig, rfl, rfl, hJ⟩ := hrel
      cases gk with
      | zero =>
        have hin : ¬ (i : Int) < (La.length : Int) := by omega
        have eT : La.take i = La := List.take_of_length_le (by omega)
        have hna := HNA.out
        have h20 := H20.out
        have hsf := goodL_sm HSA.out
        have hgf : ∀ ts ∈ goodL La, Gd ts := goodL_gd
        have hnf : (goodL La).length ≤ 10 := Nat.le_trans (goodL_len La) HNA.out
        rw [eT] at hJ ⊢
        have h3M : ∀ ts ∈ goodL La, ts.length = 3 := fun ts h => (hsf ts h).len
        have hkM : ∀ ts ∈ goodL La, ts.length = 3 ∧ ∀ u ∈ ts, u.kind < 3 := fun ts ht => by
          obtain ⟨a, b, d, rfl, hk⟩ := hsf ts ht
          exact ⟨rfl, fun u hu => (hk u hu).1⟩
        have hszM := lns_size (goodL La) fun ts h => ⟨hsf ts h, hgf ts h⟩
        generalize goodL La = M at hJ hsf hgf hnf h3M hkM hszM ⊢
        have htW : ∀ {W : World}, Below w3.heap.size w3 W → W.heap[0]? = some (.cells escCells t fr) := fun {W} hb => HTW.out W (HB3.out.trans (hb.mono HB3.out.size))
        obtain ⟨sl, rest, hp⟩ := parts_of s.data.toList
        have hsl : sl.length ≤ 300 := by
          have h1 := len_of s _ hp.eq
          have h2 := (encL_len sl).1
          simp at h1
          omega
        have hfew := prsB_few hp.all (by omega) rest
        have hjoin := prsB_join M hgf sl hp.all rest
        have hpl := prsB_place hp.all rest
        have cQP : ∀ {W : World}, DtV w3.heap.size W (.slice A5 M.length c5) M → Calls Tryz.prog 13 #[.slice A5 M.length c5] W fun e w' => e = .returned (.string (textOf (lnsS M))) ∧ Below W.heap.size W w' := fun {W} h => qprint_any M (fun ts h => ⟨hsf ts h, hgf ts h⟩) (by omega) A5 c5 W (dtv_sl h h3M)
        have cS : ∀ {W : World}, Calls Tryz.prog 14 #[.string (textOf (lnsS M))] W fun e w' => ∃ A c b, e = .returned (.tuple #[.slice A (lnsS M).length c, .bool b]) ∧ Below W.heap.size W w' := fun {W} => (signs_any (textOf (lnsS M)) (lnsS M) [] (parts_text (lnsS_all M)) (by omega) W).mono fun e w' ⟨v, e1, h1, h2⟩ => by
          obtain ⟨A, c, rfl, _⟩ := Lq.of h1
          exact ⟨A, c, _, e1, h2⟩
        have cQ : ∀ {W : World}, Calls Tryz.prog 8 #[.string s] W fun e w' => ∃ A c, e = .returned (.tuple #[.slice A (prsB sl rest).1.length c, .int .i64 (prsB sl rest).2.1, .int .i64 (prsB sl rest).2.2]) ∧ DtV W.heap.size w' (.slice A (prsB sl rest).1.length c) (prsB sl rest).1 ∧ Below W.heap.size W w' := fun {W} =>
          (qparse_any s sl rest hp (by omega) W).mono fun e w' ⟨v, e1, h1, h2⟩ => by
            obtain ⟨A, c, rfl⟩ := h1.shape
            exact ⟨A, c, e1, h1, h2⟩
        have cP : ∀ {W : World}, Below w3.heap.size w3 W → Calls Tryz.prog 7 #[.string (textOf (lnsS M) ++ s)] W fun e w' => ∃ A c, e = .returned (.tuple #[.slice A (joinP (lnsS M).length M (prsB sl rest)).1.length c, .int .i64 (joinP (lnsS M).length M (prsB sl rest)).2.1, .int .i64 (joinP (lnsS M).length M (prsB sl rest)).2.2]) ∧ TrsV W.heap.size w' (.slice A (joinP (lnsS M).length M (prsB sl rest)).1.length c) (joinP (lnsS M).length M (prsB sl rest)).1 ∧ Below W.heap.size W w' := fun {W} hb => by
          have h := nparse_any (textOf (lnsS M) ++ s) (lnsS M ++ sl) rest (parts_behind (lnsS_all M) hp) (by rw [ByteArray.size_append]; omega) W t fr (htW hb)
          rw [hjoin] at h
          exact h.mono fun e w' ⟨v, e1, h1, h2⟩ => by
            obtain ⟨A, c, rfl⟩ := h1.shape
            exact ⟨A, c, e1, h1, h2⟩
        have hadd : ∀ W, (Op.stringOp .add (textOf (lnsS M)) s).run Tryz.prog W = .ok (.string (textOf (lnsS M) ++ s)) W := fun W => add_any _ _ (by omega) W
        generalize prsB sl rest = r at hfew cQ cP hpl
        obtain ⟨R, E, C⟩ := r
        dsimp only at hfew cQ hpl
        have hEz : E ≤ 300 := by omega
        obtain ⟨hT, hnR, _⟩ := hfew
        have hkR := trs_kind hT
        unfold joinP at cP
        dsimp only at cP
        generalize textOf (lnsS M) ++ s = z at hadd cP
        have hn0 : (lnsS M).length ≤ 100000 := by have := hszM; have h2 := (encL_len (lnsS M)).1; rw [← textOf_list] at h2; rw [Lib.size_eq] at this; omega
        generalize (lnsS M).length = n at cS cP hn0
        generalize textOf (lnsS M) = P0 at hadd cQP cS
        have hJall := hJ.all
        have hJb := hJ.b
        by_cases hC0 : C = 0
        · subst hC0
          rw [if_pos rfl] at cP
          have hlen : (M ++ R).length = M.length + R.length := List.length_append
          dsimp only at cP
          rw [hlen] at cP
          have hkMR : ∀ ts ∈ M ++ R, ts.length = 3 ∧ ∀ u ∈ ts, u.kind < 3 := fun ts h => by
            rcases List.mem_append.1 h with h | h
            · exact hkM ts h
            · exact hkR ts h
          have HAP := Lib.hid (show ∀ (W : World) (B' : Nat) (A' : Option Addr) (c' : Nat), Below w3.heap.size w3 W → DtV w3.heap.size W (.slice A5 M.length c5) M → DtV B' W (.slice A' R.length c') R → _ from fun W B' A' c' hb h1 h2 => app_dtv h1 h2 (by omega) hb.size)
          have HIS := Lib.hid (show ∀ (W : World) (B B' : Nat) (A A' : Option Addr) (c c' : Nat), TrsV B W (.slice A (M.length + R.length) c) (M ++ R) → DtV B' W (.slice A' (M.length + R.length) c') (M ++ R) → Calls Tryz.prog 9 #[.slice A (M.length + R.length) c, .slice A' (M.length + R.length) c'] W fun e w' => e = .returned (.bool true) ∧ Below W.heap.size W w' from fun W B B' A A' c c' h1 h2 => nis_same (M ++ R) hkMR (by omega) W h1 h2)
          clear hpl hEz hsf hgf hnf h3M hkM hszM htW hp hsl hjoin hT hnR hkR hlen hkMR hig eT hna h20 hn0 hJ
          go_wp2_with (first
            | (go_at_call 13; (with_reducible refine (cQP hJall).mono ?_); rintro e w5 ⟨rfl, hb5⟩; have hD5 := hJall.below hb5; have hB5 := hJb.trans (hb5.mono hJb.size))
            | (go_at_call 14; (with_reducible refine cS.mono ?_); rintro e w6 ⟨A6, c6, b6, rfl, hb6⟩; have hD6 := hD5.below hb6; have hB6 := hB5.trans (hb6.mono hB5.size))
            | (go_at_call 8; (with_reducible refine cQ.mono ?_); rintro e w7 ⟨A7, c7, rfl, hR7, hb7⟩; have hD7 := hD6.below hb7; have hB7 := hB6.trans (hb7.mono hB6.size))
            | (go_at_call 7; (with_reducible refine (cP hB7).mono ?_); rintro e w8 ⟨A8, c8, rfl, hT8, hb8⟩; have hD8 := hD7.below hb8; have hR8 := hR7.below hb8; have hB8 := hB7.trans (hb8.mono hB7.size); obtain ⟨A9, c9, w9, happ, hD9, hg9⟩ := HAP.out _ _ _ _ hB8 hD8 hR8; have hT9 : TrsV _ w9 _ (M ++ R) := World.ownsRow.kept hT8 hg9 (rows_apart hT8 hD8 types_ne); have hB9 : Below w3.heap.size w3 w9 := hB8.grown hg9 hB8.size (fun j hj => (World.ownsRow.lt hD8 j hj).1))
            | (at_builtin; refine wpList_step (fun K hK => ?_); rw [if_pos (by rfl)]; refine wp_append_run _ _ _ rfl _ _ rfl rfl _ _ happ ?_; refine hK _ _ ?_)
            | (go_at_call 9; (with_reducible refine (HIS.out _ _ _ _ _ _ _ hT9 hD9).mono ?_); rintro e wa ⟨rfl, hba⟩; have hBa := hB9.trans (hba.mono hB9.size)))
          go_ret
          exact ⟨rfl, HB3.out.trans (hBa.mono HB3.out.size)⟩
        · rw [if_neg hC0] at cP
          dsimp only at cP
          rw [Int.natCast_add] at cP
          have hEi : (E : Int) ≤ 300 := by omega
          have hEi0 : (0 : Int) ≤ (E : Int) := by omega
          have hni : (n : Int) ≤ 100000 := by omega
          have hni0 : (0 : Int) ≤ (n : Int) := by omega
          clear hsf hgf hnf h3M hkM hszM htW hp hsl hjoin hT hnR hkR hig eT hna h20 hJ hpl hEz hn0
          go_wp2_with (first
            | (go_at_call 13; (with_reducible refine (cQP hJall).mono ?_); rintro e w5 ⟨rfl, hb5⟩; have hD5 := hJall.below hb5; have hB5 := hJb.trans (hb5.mono hJb.size))
            | (go_at_call 14; (with_reducible refine cS.mono ?_); rintro e w6 ⟨A6, c6, b6, rfl, hb6⟩; have hD6 := hD5.below hb6; have hB6 := hB5.trans (hb6.mono hB5.size))
            | (go_at_call 8; (with_reducible refine cQ.mono ?_); rintro e w7 ⟨A7, c7, rfl, hR7, hb7⟩; have hB7 := hB6.trans (hb7.mono hB6.size))
            | (go_at_call 7; (with_reducible refine (cP hB7).mono ?_); rintro e w8 ⟨A8, c8, rfl, hT8, hb8⟩; have hB8 := hB7.trans (hb8.mono hB7.size)))
          go_ret
          exact ⟨rfl, HB3.out.trans (hB8.mono HB3.out.size)⟩
      | succ g =>
        have hin : (i : Int) < (La.length : Int) := by omega
        have hi0 : (0 : Int) ≤ (i : Int) := by omega
        obtain ⟨ts, hts⟩ : ∃ ts, La[i]? = some ts := ⟨_, List.getElem?_eq_getElem (by omega)⟩
        have hsm := HSA.out ts (List.mem_of_getElem? hts)
        have h10 := HNA.out
        obtain ⟨gb, cb, eb, hgb, hq⟩ := dtV_at HDA.out (fun ts h => (HSA.out ts h).len) hts
        injection eb with eb1 eb2 eb3
        subst eb1 eb3
        have hti : (La.take i).length = i := by rw [List.length_take]; omega
        have n7 : (goodL (La.take i)).length ≤ 10 := by have := goodL_len (La.take i); omega
        have hbad := fun (hk : okL ts = false) (s36 : Value) (W : World) (hs : s36 = .int .i64 ((i + 1 : Nat) : Int)) => ls_bad (W0 := w3) (A := A5) (c := c5) (W := W) hig hts hk hs
        have hgood := fun (hk : okL ts = true) (A : Option Addr) (c : Nat) (s36 : Value) (W : World) (hs : s36 = .int .i64 ((i + 1 : Nat) : Int)) => ls_good (W0 := w3) (A := A) (c := c) (W := W) hig hts hk hs
        have hi9 : i < 10 := by omega
        obtain ⟨x0, x1, x2, rfl, hx⟩ := hsm
        have f0 := hx x0 (by simp)
        have f1 := hx x1 (by simp)
        have f2 := hx x2 (by simp)
        have cG := qgood_any x0 x1 x2 ⟨by omega, by omega, by omega⟩ ⟨by omega, by omega, by omega⟩ ⟨by omega, by omega, by omega⟩
        have hnD : [.int .i64 x0.kind, .string x0.ta, .string x0.tb, .string x0.tc, .int .i64 x1.kind, .string x1.ta, .string x1.tb, .string x1.tc, .int .i64 x2.kind, .string x2.ta, .string x2.tb, .string x2.tc] = [x0, x1, x2].flatMap c4 := rfl
        unfold T12 at cG
        obtain ⟨k0, yk0⟩ : ∃ y, y = x0.kind := ⟨_, rfl⟩
        obtain ⟨a0, ya0⟩ : ∃ y, y = x0.ta := ⟨_, rfl⟩
        obtain ⟨b0, yb0⟩ : ∃ y, y = x0.tb := ⟨_, rfl⟩
        obtain ⟨d0, yd0⟩ : ∃ y, y = x0.tc := ⟨_, rfl⟩
        rw [← yk0, ← ya0, ← yb0, ← yd0] at cG hnD
        obtain ⟨k1, yk1⟩ : ∃ y, y = x1.kind := ⟨_, rfl⟩
        obtain ⟨a1, ya1⟩ : ∃ y, y = x1.ta := ⟨_, rfl⟩
        obtain ⟨b1, yb1⟩ : ∃ y, y = x1.tb := ⟨_, rfl⟩
        obtain ⟨d1, yd1⟩ : ∃ y, y = x1.tc := ⟨_, rfl⟩
        rw [← yk1, ← ya1, ← yb1, ← yd1] at cG hnD
        obtain ⟨k2, yk2⟩ : ∃ y, y = x2.kind := ⟨_, rfl⟩
        obtain ⟨a2, ya2⟩ : ∃ y, y = x2.ta := ⟨_, rfl⟩
        obtain ⟨b2, yb2⟩ : ∃ y, y = x2.tb := ⟨_, rfl⟩
        obtain ⟨d2, yd2⟩ : ∃ y, y = x2.tc := ⟨_, rfl⟩
        rw [← yk2, ← ya2, ← yb2, ← yd2] at cG hnD
        have q0 : wr.cell? ⟨gb, i * 12, none⟩ = some (.int .i64 k0) := by rw [yk0]; exact (hJ.b.cell (p := ⟨gb, i * 12, none⟩) hgb).trans (hq 0 _ rfl)
        have q1 : wr.cell? ⟨gb, i * 12 + 1, none⟩ = some (.string a0) := by rw [ya0]; exact (hJ.b.cell (p := ⟨gb, i * 12 + 1, none⟩) hgb).trans (hq 1 _ rfl)
        have q2 : wr.cell? ⟨gb, i * 12 + 2, none⟩ = some (.string b0) := by rw [yb0]; exact (hJ.b.cell (p := ⟨gb, i * 12 + 2, none⟩) hgb).trans (hq 2 _ rfl)
        have q3 : wr.cell? ⟨gb, i * 12 + 3, none⟩ = some (.string d0) := by rw [yd0]; exact (hJ.b.cell (p := ⟨gb, i * 12 + 3, none⟩) hgb).trans (hq 3 _ rfl)
        have q4 : wr.cell? ⟨gb, i * 12 + 4, none⟩ = some (.int .i64 k1) := by rw [yk1]; exact (hJ.b.cell (p := ⟨gb, i * 12 + 4, none⟩) hgb).trans (hq 4 _ rfl)
        have q5 : wr.cell? ⟨gb, i * 12 + 5, none⟩ = some (.string a1) := by rw [ya1]; exact (hJ.b.cell (p := ⟨gb, i * 12 + 5, none⟩) hgb).trans (hq 5 _ rfl)
        have q6 : wr.cell? ⟨gb, i * 12 + 6, none⟩ = some (.string b1) := by rw [yb1]; exact (hJ.b.cell (p := ⟨gb, i * 12 + 6, none⟩) hgb).trans (hq 6 _ rfl)
        have q7 : wr.cell? ⟨gb, i * 12 + 7, none⟩ = some (.string d1) := by rw [yd1]; exact (hJ.b.cell (p := ⟨gb, i * 12 + 7, none⟩) hgb).trans (hq 7 _ rfl)
        have q8 : wr.cell? ⟨gb, i * 12 + 8, none⟩ = some (.int .i64 k2) := by rw [yk2]; exact (hJ.b.cell (p := ⟨gb, i * 12 + 8, none⟩) hgb).trans (hq 8 _ rfl)
        have q9 : wr.cell? ⟨gb, i * 12 + 9, none⟩ = some (.string a2) := by rw [ya2]; exact (hJ.b.cell (p := ⟨gb, i * 12 + 9, none⟩) hgb).trans (hq 9 _ rfl)
        have q10 : wr.cell? ⟨gb, i * 12 + 10, none⟩ = some (.string b2) := by rw [yb2]; exact (hJ.b.cell (p := ⟨gb, i * 12 + 10, none⟩) hgb).trans (hq 10 _ rfl)
        have q11 : wr.cell? ⟨gb, i * 12 + 11, none⟩ = some (.string d2) := by rw [yd2]; exact (hJ.b.cell (p := ⟨gb, i * 12 + 11, none⟩) hgb).trans (hq 11 _ rfl)
        obtain ⟨L7, hL7⟩ : ∃ L, L = goodL (La.take i) := ⟨_, rfl⟩
        cases hk : okL [x0, x1, x2] with
        | false =>
          have hB := hbad hk
          rw [← hL7] at hB hJ ⊢
          have hJ0 := hJ.boxed #[.int .i64 k0, .string a0, .string b0, .string d0, .int .i64 k1, .string a1, .string b1, .string d1, .int .i64 k2, .string a2, .string b2, .string d2]
          have CG : ∀ {W : World}, Jw w3 w3.heap.size wr.heap.size #[.int .i64 k0, .string a0, .string b0, .string d0, .int .i64 k1, .string a1, .string b1, .string d1, .int .i64 k2, .string a2, .string b2, .string d2] (.slice A5 L7.length c5) L7 (.slice none 0 0) [] (.slice none 0 0) [] W → Calls Tryz.prog 12 #[.agg #[.int .i64 k0, .string a0, .string b0, .string d0, .int .i64 k1, .string a1, .string b1, .string d1, .int .i64 k2, .string a2, .string b2, .string d2]] W fun e w' => e = .returned (.bool false) ∧ Jw w3 w3.heap.size wr.heap.size #[.int .i64 k0, .string a0, .string b0, .string d0, .int .i64 k1, .string a1, .string b1, .string d1, .int .i64 k2, .string a2, .string b2, .string d2] (.slice A5 L7.length c5) L7 (.slice none 0 0) [] (.slice none 0 0) [] w' := fun h => by
            have := jw_of h (cG _)
            rw [show okR x0 x1 x2 0 = false from hk] at this
            exact this
          have HI9 := Lib.hid hi9
          have HB := Lib.hid hB
          clear hti hbad hgood hk hnD cG hJ hq hgb hts hig h10 hx f0 f1 f2 hL7 n7 hi9 hB yk0 ya0 yb0 yd0 yk1 ya1 yb1 yd1 yk2 ya2 yb2 yd2
          go_wp2_with (go_at_call 12; (with_reducible refine (CG hJ0).mono ?_); rintro e w5 ⟨rfl, hJ1⟩)
          go_roundg g
          case measure => exact Nat.lt_succ_self g
          case rel => exact HB.out _ _ (by have := HI9.out; first | rfl | (rw [IntWalk.wrap64_in _ ⟨by omega, by omega⟩, Int.natCast_succ])) hJ1.j0
        | true =>
          have hGx := hgood hk
          rw [← hL7] at hGx hJ n7 ⊢
          have hJ0 := hJ.boxed #[.int .i64 k0, .string a0, .string b0, .string d0, .int .i64 k1, .string a1, .string b1, .string d1, .int .i64 k2, .string a2, .string b2, .string d2]
          have CG : ∀ {W : World}, Jw w3 w3.heap.size wr.heap.size #[.int .i64 k0, .string a0, .string b0, .string d0, .int .i64 k1, .string a1, .string b1, .string d1, .int .i64 k2, .string a2, .string b2, .string d2] (.slice A5 L7.length c5) L7 (.slice none 0 0) [] (.slice none 0 0) [] W → Calls Tryz.prog 12 #[.agg #[.int .i64 k0, .string a0, .string b0, .string d0, .int .i64 k1, .string a1, .string b1, .string d1, .int .i64 k2, .string a2, .string b2, .string d2]] W fun e w' => e = .returned (.bool true) ∧ Jw w3 w3.heap.size wr.heap.size #[.int .i64 k0, .string a0, .string b0, .string d0, .int .i64 k1, .string a1, .string b1, .string d1, .int .i64 k2, .string a2, .string b2, .string d2] (.slice A5 L7.length c5) L7 (.slice none 0 0) [] (.slice none 0 0) [] w' := fun h => by
            have := jw_of h (cG _)
            rw [show okR x0 x1 x2 0 = true from hk] at this
            exact this
          have HND := Lib.hid hnD
          have HN7 := Lib.hid n7
          have HI9 := Lib.hid hi9
          have HG := Lib.hid hGx
          clear hti hbad hgood hk hnD cG hJ hq hgb hts hig h10 hx f0 f1 f2 hL7 n7 hi9 hGx yk0 ya0 yb0 yd0 yk1 ya1 yb1 yd1 yk2 ya2 yb2 yd2
          go_wp2_with (first
            | (go_at_call 12; (with_reducible refine (CG hJ0).mono ?_); rintro e w5 ⟨rfl, hJ1⟩; obtain ⟨x0, x1, x2, x3, x4, x5, x6, x7, x8, x9, xa, xb⟩ := Fb.c12 hJ1.box)
            | (at_builtin; refine wpList_append_lies _ rfl _ _ 27 rfl w3.heap.size 38 iD (.agg #[.int .i64 0, .string ⟨#[]⟩, .string ⟨#[]⟩, .string ⟨#[]⟩, .int .i64 0, .string ⟨#[]⟩, .string ⟨#[]⟩, .string ⟨#[]⟩, .int .i64 0, .string ⟨#[]⟩, .string ⟨#[]⟩, .string ⟨#[]⟩]) 12 168 Tryz.underlying27 hD0 hD1 hD2 hD3 rfl (by decide) _ _ _ rfl (Jw.alloc hJ1 _).all ⟨w5.heap.size, 0, none⟩ 1 1 [.int .i64 k0, .string a0, .string b0, .string d0, .int .i64 k1, .string a1, .string b1, .string d1, .int .i64 k2, .string a2, .string b2, .string d2] rfl rfl (cells_new _ _ _) (oc12 _ _ _ _ _ _ _ _ _ _ _ _) (by decide) (by have := HN7.out; unfold maxLen; omega) (by have := HN7.out; omega) ((Jw.alloc hJ1 _).b.size) _ rfl ?_; intro g5 c7 w6 hown hgrow hloc hg5; have hJ2 := Jw.app9 (Jw.alloc hJ1 _) rfl HND.out hown hgrow hloc))
          go_roundg g
          case measure => exact Nat.lt_succ_self g
          case rel => exact HG.out _ _ _ _ (by have := HI9.out; first | rfl | (rw [IntWalk.wrap64_in _ ⟨by omega, by omega⟩, Int.natCast_succ])) hJ2.j0
end Go.Proofs.YtpnfjjgihkmjmaaGreatDoor
