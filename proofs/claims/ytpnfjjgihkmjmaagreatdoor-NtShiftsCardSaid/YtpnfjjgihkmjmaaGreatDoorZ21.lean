/-
  MERGED (a claim has at most 60 files): NLines, NSh, NArg.
-/
import Derived.Test.YtpnfjjgihkmjmaaGreatDoorZ19
import Derived.Test.YtpnfjjgihkmjmaaGreatDoorZ20
import Derived.Test.YtpnfjjgihkmjmaaGreatDoorZ12
import Derived.Test.YtpnfjjgihkmjmaaGreatDoorRows
import Derived.WalkKit
import Derived.ProofKit
import Derived.OpenShut
import Derived.Deep.Slices
import Derived.Lib.SmallJoins
/-
  PLAIN LEAN, NO RUN: the lines of good triples, sign by sign; parsed they are the triples.
-/
namespace Go.Proofs.YtpnfjjgihkmjmaaGreatDoor
set_option linter.unusedVariables false
set_option linter.unusedSimpArgs false

theorem gap_none {sl : List Int} {k : Nat} {c : Int} (h : sl[k]? = some c) (hc : gpc c = false) : gapP sl k = k :=
  while_stop gpc sl k fun d hd => by rw [h] at hd; cases hd; exact hc
theorem gap_one {sl : List Int} {k : Nat} {c : Int} (h : sl[k]? = some 32) (h1 : sl[k + 1]? = some c) (hc : gpc c = false) : gapP sl k = k + 1 := by
  have := while_step gpc sl k 32 h (by decide)
  have h2 := gap_none h1 hc
  unfold gapP at h2 ⊢
  omega
theorem tS_head (t : Tm) (hg : goodT t = true) : ∃ c l, tS t = c :: l ∧ gpc c = false ∧ c ≠ 35 ∧ c ≠ 10 ∧ c ≠ 13 := by
  cases t with
  | iri s => exact ⟨60, _, rfl, by decide, by decide, by decide, by decide⟩
  | blank s => exact ⟨95, _, rfl, by decide, by decide, by decide, by decide⟩
  | lit a b c => exact ⟨34, _, rfl, by decide, by decide, by decide, by decide⟩
  | odd n => cases hg
  | none => cases hg
theorem tS_at {sl r : List Int} {k : Nat} {t : Tm} (hg : goodT t = true) (h : sl.drop k = tS t ++ r) : ∃ c, sl[k]? = some c ∧ gpc c = false ∧ c ≠ 35 ∧ c ≠ 10 ∧ c ≠ 13 := by
  obtain ⟨c, l, e, hc⟩ := tS_head t hg
  refine ⟨c, ?_, hc⟩
  rw [e] at h
  exact (drop_two (show sl.drop k = c :: (l ++ r) from h)).1
theorem partP_here (sl r : List Int) (k : Nat) (t : Tm) (part : Nat) (hg : goodT t = true) (hm : mayB t part = true) (j : Nat) (hj : gapP sl j = k) (h : sl.drop k = tS t ++ 32 :: r) : partP sl j part = (some t, k + (tS t).length, 0) := by
  have hr := readP_text sl r k t hg h
  unfold partP
  rw [hj, hr]
  dsimp only
  rw [if_pos hm]
theorem partP_first (sl r : List Int) (k : Nat) (t : Tm) (part : Nat) (hg : goodT t = true) (hm : mayB t part = true) (h : sl.drop k = tS t ++ 32 :: r) : partP sl k part = (some t, k + (tS t).length, 0) := by
  obtain ⟨c, h1, h2, _⟩ := tS_at hg h
  exact partP_here sl r k t part hg hm k (gap_none h1 h2) h
theorem partP_next (sl r : List Int) (k : Nat) (t : Tm) (part : Nat) (hg : goodT t = true) (hm : mayB t part = true) (h : sl.drop k = 32 :: (tS t ++ 32 :: r)) : partP sl k part = (some t, k + 1 + (tS t).length, 0) := by
  obtain ⟨h0, h1⟩ := drop_two h
  obtain ⟨c, h2, h3, _⟩ := tS_at hg h1
  exact partP_here sl r (k + 1) t part hg hm k (gap_one h0 h2 h3) h1
/-- Three terms that may be a triple. -/
def Gd (ts : List Tm) : Prop := ∃ a b c, ts = [a, b, c] ∧ (goodT a = true ∧ goodT b = true ∧ goodT c = true) ∧ (mayB a 0 = true ∧ mayB b 1 = true ∧ mayB c 2 = true)
theorem triP_text (sl r : List Int) (k : Nat) (a b c : Tm) (hg : goodT a = true ∧ goodT b = true ∧ goodT c = true) (hm : mayB a 0 = true ∧ mayB b 1 = true ∧ mayB c 2 = true)
    (h : sl.drop k = tS a ++ 32 :: (tS b ++ 32 :: (tS c ++ 32 :: 46 :: r))) :
    triP sl k = (some [a, b, c], k + (tS a).length + 1 + (tS b).length + 1 + (tS c).length + 2, 0) := by
  have p1 := partP_first sl _ k a 0 hg.1 hm.1 h
  have d1 := drop_more h
  have p2 := partP_next sl _ _ b 1 hg.2.1 hm.2.1 d1
  have d2 := drop_more (drop_two d1).2
  have p3 := partP_next sl _ _ c 2 hg.2.2 hm.2.2 d2
  have d3 := drop_more (drop_two d2).2
  obtain ⟨e1, e2⟩ := drop_two d3
  obtain ⟨e3, e4⟩ := drop_two e2
  have hgap := gap_one e1 e3 (by decide)
  unfold triP
  simp only [triC, p1, p2, p3, hgap, e3, if_true, List.nil_append, List.cons_append]
/-- A triple's line. -/
noncomputable def lnS : List Tm → List Int
  | [a, b, c] => tS a ++ 32 :: (tS b ++ 32 :: (tS c ++ [32, 46, 10]))
  | _ => []
noncomputable def lnsS (l : List (List Tm)) : List Int := l.flatMap lnS
theorem lnS_all (ts : List Tm) : AllS (lnS ts) := by
  unfold lnS
  split
  · exact allS_app (tS_all _) (allS_cons (by decide) (allS_app (tS_all _) (allS_cons (by decide) (allS_app (tS_all _) (allS_cons (by decide) (allS_cons (by decide) (allS_cons (by decide) allS_nil)))))))
  · exact allS_nil
theorem lnsS_all : ∀ l : List (List Tm), AllS (lnsS l)
  | [] => allS_nil
  | ts :: l => by unfold lnsS; rw [List.flatMap_cons]; exact allS_app (lnS_all ts) (lnsS_all l)
theorem lnsS_cons (ts : List Tm) (l : List (List Tm)) : lnsS (ts :: l) = lnS ts ++ lnsS l := by unfold lnsS; rw [List.flatMap_cons]
theorem lnsS_app (l m : List (List Tm)) : lnsS (l ++ m) = lnsS l ++ lnsS m := by unfold lnsS; rw [List.flatMap_append]
theorem over_term {sl r : List Int} {k : Nat} {t : Tm} (hg : goodT t = true) (h : sl.drop k = tS t ++ r) : overP sl k = (k, false) := by
  obtain ⟨c, h1, h2, h3, h4, h5⟩ := tS_at hg h
  have hk := (List.getElem?_eq_some_iff.1 h1).1
  unfold overP noteP
  rw [gap_none h1 h2, if_neg (by rw [h1]; intro e; cases e; exact h3 rfl)]
  unfold overE
  rw [if_neg (by omega), if_neg (by rw [h1]; intro e; cases e; exact h4 rfl), if_neg (by rw [h1]; intro e; have := e.1; cases this; exact h5 rfl)]
theorem over_end {sl r : List Int} {k : Nat} (h : sl.drop k = 10 :: r) : overP sl k = (k + 1, true) := by
  obtain ⟨h1, _⟩ := drop_two h
  have hk := (List.getElem?_eq_some_iff.1 h1).1
  unfold overP noteP
  rw [gap_none h1 (by decide), if_neg (by rw [h1]; decide)]
  unfold overE
  rw [if_neg (by omega), if_pos h1]
theorem prsC_line (sl r : List Int) (g k : Nat) (acc : List (List Tm)) (ts : List Tm) (hd : Gd ts) (h : sl.drop k = lnS ts ++ r) : prsC sl (g + 1) k acc = prsC sl g (k + (lnS ts).length) (acc ++ [ts]) := by
  obtain ⟨a, b, c, rfl, hg, hm⟩ := hd
  have h' : sl.drop k = tS a ++ 32 :: (tS b ++ 32 :: (tS c ++ 32 :: 46 :: (10 :: r))) := by rw [h]; simp [lnS]
  have ho := over_term hg.1 h'
  obtain ⟨x, hx, _⟩ := tS_at hg.1 h'
  have hk := (List.getElem?_eq_some_iff.1 hx).1
  have ht := triP_text sl _ k a b c hg hm h'
  have d1 := drop_more h'
  have d2 := drop_more (drop_two d1).2
  have d3 := drop_more (drop_two d2).2
  have d4 := (drop_two (drop_two d3).2).2
  have he := over_end d4
  have hp : k + (tS a).length + 1 + (tS b).length + 1 + (tS c).length + 1 + 1 = k + (tS a).length + 1 + (tS b).length + 1 + (tS c).length + 2 := rfl
  rw [hp] at he
  have hn : k + (lnS [a, b, c]).length = k + (tS a).length + 1 + (tS b).length + 1 + (tS c).length + 2 + 1 := by simp [lnS]; omega
  rw [hn]
  conv => lhs; unfold prsC
  rw [if_neg (by omega), ho]
  dsimp only
  rw [if_neg (by decide), ht]
  dsimp only
  rw [he]
  dsimp only
  rw [if_pos rfl]
theorem prsC_lines (sl r : List Int) : ∀ (l : List (List Tm)) (g k : Nat) (acc : List (List Tm)), (∀ ts ∈ l, Gd ts) → sl.drop k = lnsS l ++ r → prsC sl (g + l.length) k acc = prsC sl g (k + (lnsS l).length) (acc ++ l)
  | [], g, k, acc, _, _ => by simp [lnsS]
  | ts :: l, g, k, acc, hd, h => by
    rw [lnsS_cons, List.append_assoc] at h
    rw [List.length_cons, show g + (l.length + 1) = (g + l.length) + 1 by omega, prsC_line sl _ _ k acc ts (hd ts List.mem_cons_self) h, prsC_lines sl r l g _ _ (fun x hx => hd x (List.mem_cons_of_mem _ hx)) (drop_more h)]
    rw [lnsS_cons, List.length_append, List.append_assoc]
    congr 1
    omega
theorem prsC_end (sl : List Int) (g : Nat) (acc : List (List Tm)) : prsC sl g sl.length acc = (acc, 0, 0) := by
  cases g with
  | zero => rfl
  | succ g => unfold prsC; rw [if_pos rfl]
theorem lnS_pos {ts : List Tm} (h : Gd ts) : 1 ≤ (lnS ts).length := by obtain ⟨a, b, c, rfl, _⟩ := h; simp [lnS]; omega
theorem lns_len : ∀ l : List (List Tm), (∀ ts ∈ l, Gd ts) → l.length ≤ (lnsS l).length
  | [], _ => by simp
  | ts :: l, h => by rw [lnsS_cons, List.length_append, List.length_cons]; have := lnS_pos (h ts List.mem_cons_self); have := lns_len l (fun x hx => h x (List.mem_cons_of_mem _ hx)); omega
/-- Lines of good triples, parsed, are the triples. -/
theorem prsB_lines (l : List (List Tm)) (h : ∀ ts ∈ l, Gd ts) : prsB (lnsS l) [] = (l, 0, 0) := by
  have hl := lns_len l h
  unfold prsB
  rw [if_pos rfl]
  have := prsC_lines (lnsS l) [] l ((lnsS l).length - l.length) 0 [] h (by simp)
  rw [show (lnsS l).length - l.length + l.length = (lnsS l).length by omega, Nat.zero_add, prsC_end] at this
  rw [this]; rfl
end Go.Proofs.YtpnfjjgihkmjmaaGreatDoor

/-
  PLAIN LEAN, NO RUN: behind a text that stands ahead all is read as it is alone, so much farther.
-/
namespace Go.Proofs.YtpnfjjgihkmjmaaGreatDoor
set_option linter.unusedVariables false
set_option linter.unusedSimpArgs false

section
variable (pre sl : List Int)
theorem at_sh (k : Nat) : (pre ++ sl)[pre.length + k]? = sl[k]? := by
  rw [List.getElem?_append_right (by omega), Nat.add_sub_cancel_left]
theorem drop_sh (k : Nat) : (pre ++ sl).drop (pre.length + k) = sl.drop k := by rw [← List.drop_drop, List.drop_left]
theorem rd_sh (n : Nat) : ∀ (m : Nat) (S : Int) (l : List Int) (p : Nat), 1 ≤ p → rd m S l (n + p) = (n + (rd m S l p).1, (rd m S l p).2)
  | 0, S, l, p, h => by
    rw [rd_zero, rd_zero]
    split
    · rfl
    · rw [show n + p - 1 = n + (p - 1) by omega]
  | m + 1, S, [], p, h => rfl
  | m + 1, S, d :: l, p, h => by
    rw [rd_cons, rd_cons]
    split
    · rfl
    · exact rd_sh n m _ l (p + 1) (by omega)
theorem ef_sh (p : Nat) : ef (pre ++ sl) (pre.length + p) = (pre.length + (ef sl p).1, (ef sl p).2) := by
  unfold ef
  rw [at_sh, Nat.add_assoc, drop_sh, rd_sh pre.length 4 0 (sl.drop (p + 1)) (p + 1) (by omega), rd_sh pre.length 8 0 (sl.drop (p + 1)) (p + 1) (by omega)]
  cases sl[p]? with
  | none => rfl
  | some c => dsimp only; split <;> (try split) <;> (try split) <;> rfl
theorem nef_sh (p : Nat) : nef (pre ++ sl) (pre.length + p) = (pre.length + (nef sl p).1, (nef sl p).2) := by
  unfold nef
  rw [at_sh, Nat.add_assoc, drop_sh, rd_sh pre.length 4 0 (sl.drop (p + 1)) (p + 1) (by omega), rd_sh pre.length 8 0 (sl.drop (p + 1)) (p + 1) (by omega)]
  split <;> (try split) <;> rfl
theorem qf_sh : ∀ (f p : Nat) (acc : List Int), qf (pre ++ sl) f (pre.length + p) acc = (pre.length + (qf sl f p acc).1, (qf sl f p acc).2)
  | 0, p, acc => rfl
  | f + 1, p, acc => by
    unfold qf
    rw [at_sh, Nat.add_assoc, ef_sh]
    cases sl[p]? with
    | none => rfl
    | some c =>
      dsimp only
      split
      · rfl
      split
      · rfl
      split
      · cases (ef sl (p + 1)).2 with
        | none => rfl
        | some n => exact qf_sh f _ _
      · exact qf_sh f _ _
theorem irf_sh : ∀ (f p : Nat) (acc : List Int), irf (pre ++ sl) f (pre.length + p) acc = (pre.length + (irf sl f p acc).1, (irf sl f p acc).2)
  | 0, p, acc => rfl
  | f + 1, p, acc => by
    unfold irf
    rw [at_sh, Nat.add_assoc, nef_sh]
    cases sl[p]? with
    | none => rfl
    | some c =>
      dsimp only
      split
      · rfl
      split
      · rfl
      split
      · cases (nef sl (p + 1)).2 with
        | none => rfl
        | some n => exact irf_sh f _ _
      · exact irf_sh f _ _
theorem len_sh (k : Nat) : (pre ++ sl).length - (pre.length + k + 1) = sl.length - (k + 1) := by rw [List.length_append]; omega
theorem qd_sh (k : Nat) : qd (pre ++ sl) (pre.length + k) = (pre.length + (qd sl k).1, (qd sl k).2) := by
  unfold qd
  rw [at_sh, len_sh, Nat.add_assoc, qf_sh]
  split <;> rfl
theorem irP_sh (k : Nat) : irP (pre ++ sl) (pre.length + k) = (pre.length + (irP sl k).1, (irP sl k).2) := by
  unfold irP
  rw [at_sh, len_sh, Nat.add_assoc, irf_sh]
  split <;> rfl
theorem while_sh (f : Int → Bool) (k : Nat) : pre.length + k + (((pre ++ sl).drop (pre.length + k)).takeWhile f).length = pre.length + (k + ((sl.drop k).takeWhile f).length) := by rw [drop_sh, Nat.add_assoc]
theorem gapP_sh (k : Nat) : gapP (pre ++ sl) (pre.length + k) = pre.length + gapP sl k := while_sh pre sl _ k
theorem noteP_sh (k : Nat) : noteP (pre ++ sl) (pre.length + k) = pre.length + noteP sl k := by
  unfold noteP noteF
  rw [at_sh, while_sh]
  split <;> rfl
theorem overE_sh (k : Nat) : overE (pre ++ sl) (pre.length + k) = (pre.length + (overE sl k).1, (overE sl k).2) := by
  unfold overE
  rw [at_sh, Nat.add_assoc pre.length k 1, at_sh, List.length_append]
  by_cases hk : k = sl.length
  · rw [if_pos hk, if_pos (by omega)]
  · rw [if_neg hk, if_neg (by omega)]
    split
    · rfl
    split
    · rfl
    · rfl
theorem overP_sh (k : Nat) : overP (pre ++ sl) (pre.length + k) = (pre.length + (overP sl k).1, (overP sl k).2) := by
  unfold overP
  rw [gapP_sh, noteP_sh, overE_sh]
theorem tailP_sh (l : List Int) (p : Nat) : tailP (pre ++ sl) l (pre.length + p) = (pre.length + (tailP sl l p).1, (tailP sl l p).2) := by
  unfold tailP
  rw [at_sh, Nat.add_assoc pre.length p 1, at_sh, Nat.add_assoc pre.length p 2, irP_sh, drop_sh]
  split
  · rfl
  split
  · simp only [Nat.add_assoc]
  · rfl
theorem litP_sh (k : Nat) : litP (pre ++ sl) (pre.length + k) = (pre.length + (litP sl k).1, (litP sl k).2) := by
  unfold litP
  rw [qd_sh]
  cases h : (qd sl k).2 with
  | none => simp only [h]
  | some l => simp only [h]; exact tailP_sh pre sl l _
theorem formP_sh (k : Nat) : formP (pre ++ sl) (pre.length + k) = (pre.length + (formP sl k).1, (formP sl k).2) := by
  unfold formP
  rw [at_sh, Nat.add_assoc pre.length k 1, at_sh, Nat.add_assoc pre.length k 2, irP_sh, drop_sh, litP_sh]
  split
  · rfl
  split
  · rfl
  split
  · split
    · simp only [Nat.add_assoc]
    · rfl
  · rfl
theorem readP_sh (k : Nat) : readP (pre ++ sl) (pre.length + k) = ((readP sl k).1, pre.length + (readP sl k).2.1, (readP sl k).2.2) := by
  unfold readP
  rw [formP_sh]
  cases h : (formP sl k).2 with
  | none => simp only [h]
  | some t =>
    simp only [h]
    split <;> rfl
theorem partP_sh (k part : Nat) : partP (pre ++ sl) (pre.length + k) part = ((partP sl k part).1, pre.length + (partP sl k part).2.1, (partP sl k part).2.2) := by
  unfold partP
  rw [gapP_sh, readP_sh]
  cases h : (readP sl (gapP sl k)).1 with
  | none => simp only [h]
  | some t =>
    simp only [h]
    split <;> rfl
theorem triC_sh : ∀ (g part p : Nat) (ts : List Tm), triC (pre ++ sl) g part (pre.length + p) ts = ((triC sl g part p ts).1, pre.length + (triC sl g part p ts).2.1, (triC sl g part p ts).2.2)
  | 0, part, p, ts => by
    unfold triC
    rw [gapP_sh, at_sh, Nat.add_assoc]
    split <;> rfl
  | g + 1, part, p, ts => by
    unfold triC
    rw [partP_sh]
    cases h : (partP sl p part).1 with
    | none => simp only [h]
    | some t => simp only [h]; exact triC_sh g _ _ _
theorem triP_sh (k : Nat) : triP (pre ++ sl) (pre.length + k) = ((triP sl k).1, pre.length + (triP sl k).2.1, (triP sl k).2.2) := triC_sh pre sl 3 0 k []
end
/-- What is parsed of the whole, by what is parsed of the rest alone. -/
def joinP (n : Nat) (A : List (List Tm)) (r : List (List Tm) × Nat × Int) : List (List Tm) × Nat × Int := if r.2.2 = 0 then (A ++ r.1, 0, 0) else ([], n + r.2.1, r.2.2)
theorem prsC_sh (pre sl : List Int) (hs : AllS sl) (A : List (List Tm)) : ∀ (g k : Nat) (acc : List (List Tm)), k ≤ sl.length → prsC (pre ++ sl) g (pre.length + k) (A ++ acc) = joinP pre.length A (prsC sl g k acc)
  | 0, k, acc, h => rfl
  | g + 1, k, acc, h => by
    have ho := overP_le sl k h
    unfold prsC
    rw [overP_sh, List.length_append]
    by_cases hk : k = sl.length
    · rw [if_pos hk, if_pos (by omega)]; rfl
    · rw [if_neg hk, if_neg (by omega)]
      by_cases h1 : (overP sl k).2 = true
      · rw [if_pos h1, if_pos h1]
        exact prsC_sh pre sl hs A g _ acc ho.1
      · rw [if_neg h1, if_neg h1]
        dsimp only
        rw [triP_sh]
        have ht := triP_le sl hs (overP sl k).1 ho.1
        cases hu : (triP sl (overP sl k).1).1 with
        | none =>
          have hc := triP_code hs ho.1 hu
          simp only [hu]
          unfold joinP
          dsimp only
          rw [if_neg hc]
        | some ts =>
          simp only [hu]
          rw [overP_sh]
          have ho2 := overP_le sl _ ht.1
          by_cases h2 : (overP sl (triP sl (overP sl k).1).2.1).2 = true
          · rw [if_pos h2, if_pos h2, List.append_assoc]
            exact prsC_sh pre sl hs A g _ (acc ++ [ts]) ho2.1
          · rw [if_neg h2, if_neg h2]
            rfl
/-- More steps than signs count for nothing. -/
theorem prsC_fuel (sl : List Int) (hs : AllS sl) : ∀ (g g' k : Nat) (acc : List (List Tm)), k ≤ sl.length → sl.length - k ≤ g → sl.length - k ≤ g' → prsC sl g k acc = prsC sl g' k acc
  | 0, g', k, acc, h, h1, h2 => by
    obtain rfl : k = sl.length := by omega
    cases g' with
    | zero => rfl
    | succ g' => unfold prsC; rw [if_pos rfl]
  | g + 1, g', k, acc, h, h1, h2 => by
    by_cases hk : k = sl.length
    · subst hk
      cases g' with
      | zero => unfold prsC; rw [if_pos rfl]
      | succ g' => unfold prsC; rw [if_pos rfl, if_pos rfl]
    · obtain ⟨g'', rfl⟩ : ∃ n, g' = n + 1 := ⟨g' - 1, by omega⟩
      have ho := overP_le sl k h
      unfold prsC
      rw [if_neg hk, if_neg hk]
      by_cases hb : (overP sl k).2 = true
      · rw [if_pos hb, if_pos hb]
        have := ho.2.2 hb (by omega)
        exact prsC_fuel sl hs g g'' _ acc ho.1 (by omega) (by omega)
      · rw [if_neg hb, if_neg hb]
        have ht := triP_le sl hs (overP sl k).1 ho.1
        cases hu : (triP sl (overP sl k).1).1 with
        | none => rfl
        | some ts =>
          have h3 := (ht.2.2 ts hu).2.2
          have ho2 := overP_le sl _ ht.1
          dsimp only
          split
          · exact prsC_fuel sl hs g g'' _ _ ho2.1 (by omega) (by omega)
          · rfl
/-- Behind lines that are right. -/
theorem prsB_join (F : List (List Tm)) (hF : ∀ ts ∈ F, Gd ts) (sl : List Int) (hs : AllS sl) (rest : List UInt8) : prsB (lnsS F ++ sl) rest = joinP (lnsS F).length F (prsB sl rest) := by
  unfold prsB
  by_cases hr : rest = []
  · rw [if_pos hr, if_pos hr]
    have hl := lns_len F hF
    have h1 := prsC_lines (lnsS F ++ sl) sl F ((lnsS F ++ sl).length - F.length) 0 [] hF (by simp)
    rw [show (lnsS F ++ sl).length - F.length + F.length = (lnsS F ++ sl).length by rw [List.length_append]; omega] at h1
    rw [h1, Nat.zero_add, List.nil_append]
    have h2 := prsC_sh (lnsS F) sl hs F ((lnsS F ++ sl).length - F.length) 0 [] (Nat.zero_le _)
    rw [Nat.add_zero, List.append_nil] at h2
    rw [h2, prsC_fuel sl hs ((lnsS F ++ sl).length - F.length) sl.length 0 [] (Nat.zero_le _) (by rw [List.length_append]; omega) (by omega)]
  · rw [if_neg hr, if_neg hr]
    unfold joinP
    dsimp only
    rw [if_neg (by decide), List.length_append]
end Go.Proofs.YtpnfjjgihkmjmaaGreatDoor

/-
  A SLICE AS THE CALL GETS IT, CELL BY CELL; terms and triples of the document's, as they come.
-/
namespace Go.Proofs.YtpnfjjgihkmjmaaGreatDoor
open Go.ChangeShapes Go.WideShapes Go.ChangeAt Go.RowKit
set_option linter.unusedVariables false
set_option maxRecDepth 100000

/-- A slice's elements, n cells each. -/
def SlAt (W : World) (A : Option Addr) (n : Nat) (l : List (List Value)) : Prop := ∀ (j : Nat) (cs : List Value), l[j]? = some cs → ∃ g o, A = some ⟨g, o, none⟩ ∧ g < W.heap.size ∧ ∀ (i : Nat) (v : Value), cs[i]? = some v → W.cell? ⟨g, o + j * n + i, none⟩ = some v
theorem SlAt.below {W W' : World} {A : Option Addr} {n : Nat} {l : List (List Value)} (h : SlAt W A n l) (hb : Below W.heap.size W W') : SlAt W' A n l := fun j cs hj => by
  obtain ⟨g, o, e, hg, hc⟩ := h j cs hj
  exact ⟨g, o, e, Nat.lt_of_lt_of_le hg hb.size, fun i v hv => (hb.cell (p := ⟨g, o + j * n + i, none⟩) hg).trans (hc i v hv)⟩
theorem at_add (g o j : Nat) : (⟨g, o, none⟩ : Addr).add j = ⟨g, o + j, none⟩ := by
  by_cases h : j = 0
  · subst h; simp [Addr.add]
  · simp [Addr.add, h]
theorem cells_map {α : Type} {p : α → Prop} {f : α → List Value} : ∀ l : List (List Value), (∀ cs ∈ l, ∃ t, p t ∧ cs = f t) → ∃ ts : List α, l = ts.map f ∧ ∀ t ∈ ts, p t
  | [], _ => ⟨[], rfl, fun t h => by cases h⟩
  | c :: l, h => by
    obtain ⟨t, h1, h2⟩ := h c List.mem_cons_self
    obtain ⟨ts, h3, h4⟩ := cells_map l fun cs hc => h cs (List.mem_cons_of_mem _ hc)
    refine ⟨t :: ts, by rw [h2, h3]; rfl, fun u hu => ?_⟩
    rcases List.mem_cons.1 hu with rfl | hu
    · exact h1
    · exact h4 u hu
section
variable {H : Type} {enc : TypeId × Value → H} {W : World}
theorem slice_opened {t e : TypeId} {n0 : Nat} {fuel : Nat} {v : Value} {y : DataW H × List MemPlace} (ht : Tryz.prog.underlying t = some (.slice e)) (hn : Tryz.prog.cellsOf e = n0) (hpos : 0 < n0)
    (h : DataW.trod enc Tryz.prog W 0 (fun _ => true) true fuel t [v] = some y) (hlt : ∀ z ∈ y.2, z.block < W.heap.size) :
    ∃ A l cap, v = .slice A (List.length (α := List Value) l) cap ∧ l.length ≤ cap ∧ cap ≤ maxLen ∧ SlAt W A n0 l ∧ ∀ cs ∈ l, ∃ fu z, DataW.trod enc Tryz.prog W 0 (fun _ => true) true fu e cs = some z := by
  rcases Go.Deep.open_slice ht h with ⟨hcs, hx⟩ | ⟨a, len, cap, m, n, D, Pl, hcs, _, hl, hm, hmm, hx, hi⟩
  · simp at hcs
    exact ⟨none, [], 0, hcs, Nat.le_refl _, by decide, fun j x hx => by simp at hx, fun cs h => by cases h⟩
  · simp at hcs
    simp only [if_true] at hmm
    rw [hn] at hx hi
    subst hmm
    by_cases h0 : len = 0
    · subst h0
      exact ⟨some a, [], m, hcs, by simp, hm, fun j x hx => by simp at hx, fun cs h => by cases h⟩
    · obtain ⟨g, o, spot⟩ := a
      obtain ⟨cs0, hc0, _⟩ := hi 0 (by omega)
      have hz := (World.cells?_some hc0).2.2 0 hpos
      have hl0 := (World.cells?_some hc0).2.1
      obtain ⟨u, hu⟩ : ∃ u, cs0[0]? = some u := ⟨_, List.getElem?_eq_getElem (by omega)⟩
      rw [hu] at hz
      have hspot : spot = none := by simpa [Addr.add] using World.cell?_spot hz
      subst hspot
      have hg : g < W.heap.size := hlt (.cell g o) (by rw [hx]; exact List.mem_append_left _ (MemPlace.mem_row.2 ⟨0, Nat.mul_pos (by omega) hpos, by simp⟩))
      have each : ∀ i, i < len → ∃ cs, (∀ (d : Nat) (v : Value), cs[d]? = some v → W.cell? ⟨g, o + i * n0 + d, none⟩ = some v) ∧ ∃ z, DataW.trod enc Tryz.prog W 0 (fun _ => true) true n e cs = some z := fun i him => by
        obtain ⟨cs', hc', ht'⟩ := hi i (by omega)
        rw [at_add] at hc'
        have hcl := (World.cells?_some hc').2.1
        refine ⟨cs', fun d v hv => ?_, _, ht'⟩
        have hd := (List.getElem?_eq_some_iff.1 hv).1
        have := (World.cells?_some hc').2.2 d (by omega)
        rw [at_add] at this
        rw [this, hv]
      obtain ⟨V, hV⟩ := Go.Deep.choose_lt (α := List Value) (p := fun i cs => (∀ (d : Nat) (v : Value), cs[d]? = some v → W.cell? ⟨g, o + i * n0 + d, none⟩ = some v) ∧ ∃ z, DataW.trod enc Tryz.prog W 0 (fun _ => true) true n e cs = some z) each
      refine ⟨some ⟨g, o, none⟩, (List.range len).map V, m, by rw [hcs]; simp, by simpa using hl, hm, fun j a ha => ?_, fun cs hcs => ?_⟩
      · have hj : j < len := by have := (List.getElem?_eq_some_iff.1 ha).1; simpa using this
        refine ⟨g, o, rfl, hg, ?_⟩
        rw [List.getElem?_map, List.getElem?_range hj] at ha
        obtain rfl : V j = a := by simpa using ha
        exact (hV j hj).1
      · obtain ⟨i, hi, rfl⟩ := List.mem_map.1 hcs
        exact ⟨n, (hV i (List.mem_range.1 hi)).2⟩
end
/-! ### Terms and triples -/
structure Dw where
  k : Int
  a : ByteArray
  b : ByteArray
  c : ByteArray
def Dw.ok (r : Dw) : Prop := (-9223372036854775808 ≤ r.k ∧ r.k ≤ 9223372036854775807) ∧ r.a.size ≤ maxLen ∧ r.b.size ≤ maxLen ∧ r.c.size ≤ maxLen
def Dw.cells (r : Dw) : List Value := [.int .i64 r.k, .string r.a, .string r.b, .string r.c]
structure Dt where
  s : Dw
  p : Dw
  o : Dw
def Dt.ok (t : Dt) : Prop := t.s.ok ∧ t.p.ok ∧ t.o.ok
def Dt.cells (t : Dt) : List Value := t.s.cells ++ (t.p.cells ++ t.o.cells)
theorem cellsT_four : Tryz.prog.cellsOf 36 = 4 := by kernel_rfl
theorem cellsR_twelve : Tryz.prog.cellsOf 38 = 12 := by kernel_rfl
section
variable {H : Type} {enc : TypeId × Value → H} {W : World}
set_option maxRecDepth 100000 in
theorem rw_opened {fuel : Nat} {cs : List Value} {z : DataW H × List MemPlace} (h : DataW.trod enc Tryz.prog W 0 (fun _ => true) true fuel 36 cs = some z) : ∃ r : Dw, r.ok ∧ cs = r.cells := by
  obtain ⟨xs, n, _, hx, hlen, hxl, hf⟩ := DataW.trod_struct Tryz.underlying36 h
  rw [cellsT_four] at hlen
  match xs, hxl with
  | [y0, y1, y2, y3], _ =>
    match cs, hlen with
    | [v0, v1, v2, v3], _ =>
      have t0 := hf 0 _ rfl
      have t1 := hf 1 _ rfl
      have t2 := hf 2 _ rfl
      have t3 := hf 3 _ rfl
      have hI : Tryz.prog.cellsOf 3 = 1 := by kernel_rfl
      have hS : Tryz.prog.cellsOf 9 = 1 := by kernel_rfl
      simp [hI, hS] at t0 t1 t2 t3
      obtain ⟨k, e0, _, w0⟩ := DataW.trod_int Tryz.underlying3 t0
      obtain ⟨a, e1, _, w1⟩ := DataW.trod_string Tryz.underlying9 t1
      obtain ⟨b, e2, _, w2⟩ := DataW.trod_string Tryz.underlying9 t2
      obtain ⟨c, e3, _, w3⟩ := DataW.trod_string Tryz.underlying9 t3
      simp at e0 e1 e2 e3
      subst e0 e1 e2 e3
      exact ⟨⟨k, a, b, c⟩, ⟨bounds_i64 w0, w1, w2, w3⟩, rfl⟩
set_option maxRecDepth 100000 in
theorem rt_opened {fuel : Nat} {cs : List Value} {z : DataW H × List MemPlace} (h : DataW.trod enc Tryz.prog W 0 (fun _ => true) true fuel 38 cs = some z) : ∃ r : Dt, r.ok ∧ cs = r.cells := by
  obtain ⟨xs, n, _, hx, hlen, hxl, hf⟩ := DataW.trod_struct Tryz.underlying38 h
  rw [cellsR_twelve] at hlen
  match xs, hxl with
  | [y0, y1, y2], _ =>
    have t0 : DataW.trod enc Tryz.prog W 0 (fun _ => true) true n 36 ((cs.drop 0).take 4) = some y0 := by
      have h := hf 0 _ rfl
      simpa [cellsT_four] using h
    have t1 : DataW.trod enc Tryz.prog W 0 (fun _ => true) true n 36 ((cs.drop 4).take 4) = some y1 := by
      have h := hf 1 _ rfl
      simpa [cellsT_four] using h
    have t2 : DataW.trod enc Tryz.prog W 0 (fun _ => true) true n 36 ((cs.drop 8).take 4) = some y2 := by
      have h := hf 2 _ rfl
      simpa [cellsT_four] using h
    obtain ⟨r0, o0, e0⟩ := rw_opened t0
    obtain ⟨r1, o1, e1⟩ := rw_opened t1
    obtain ⟨r2, o2, e2⟩ := rw_opened t2
    refine ⟨⟨r0, r1, r2⟩, ⟨o0, o1, o2⟩, ?_⟩
    show cs = r0.cells ++ (r1.cells ++ r2.cells)
    rw [← e0, ← e1, ← e2]
    match cs, hlen with
    | [v0, v1, v2, v3, v4, v5, v6, v7, v8, v9, v10, v11], _ => rfl
set_option maxRecDepth 100000 in
theorem rts_opened {fuel : Nat} {v : Value} {y : DataW H × List MemPlace} (h : DataW.trod enc Tryz.prog W 0 (fun _ => true) true fuel 27 [v] = some y) (hlt : ∀ z ∈ y.2, z.block < W.heap.size) :
    ∃ A l cap, v = .slice A (List.length (α := Dt) l) cap ∧ l.length ≤ cap ∧ cap ≤ maxLen ∧ SlAt W A 12 (l.map Dt.cells) ∧ ∀ t ∈ l, t.ok := by
  obtain ⟨A, l, cap, hv, h1, h2, h3, h4⟩ := slice_opened Tryz.underlying27 cellsR_twelve (by decide) h hlt
  obtain ⟨ts, rfl, hok⟩ := cells_map (p := Dt.ok) (f := Dt.cells) l fun cs hc => by
    obtain ⟨fu, z, hz⟩ := h4 cs hc
    exact rt_opened hz
  rw [List.length_map] at hv h1
  exact ⟨A, ts, cap, hv, h1, h2, h3, hok⟩
def u8c (x : Int) : List Value := [.int .u8 x]
set_option maxRecDepth 100000 in
theorem u8s_opened {fuel : Nat} {v : Value} {y : DataW H × List MemPlace} (h : DataW.trod enc Tryz.prog W 0 (fun _ => true) true fuel 92 [v] = some y) (hlt : ∀ z ∈ y.2, z.block < W.heap.size) :
    ∃ A l cap, v = .slice A (List.length (α := Int) l) cap ∧ l.length ≤ cap ∧ cap ≤ maxLen ∧ SlAt W A 1 (l.map u8c) ∧ ∀ x ∈ l, 0 ≤ x ∧ x ≤ 255 := by
  have hU : Tryz.prog.cellsOf 5 = 1 := by kernel_rfl
  obtain ⟨A, l, cap, hv, h1, h2, h3, h4⟩ := slice_opened Tryz.underlying92 hU (by decide) h hlt
  obtain ⟨ts, rfl, hok⟩ := cells_map (p := fun x : Int => 0 ≤ x ∧ x ≤ 255) (f := u8c) l fun cs hc => by
    obtain ⟨fu, z, hz⟩ := h4 cs hc
    obtain ⟨k, e0, _, w0⟩ := DataW.trod_int Tryz.underlying5 hz
    exact ⟨k, bounds_u8 w0, e0⟩
  rw [List.length_map] at hv h1
  exact ⟨A, ts, cap, hv, h1, h2, h3, hok⟩
set_option maxRecDepth 100000 in
/-- A triple by value. -/
theorem rt_value {b0 : Nat} {v : Value} {d : DataW H} {ps : List MemPlace} (hv : Value.okWide Tryz.prog W .any b0 38 v) (h : DataW.Trod enc Tryz.prog W 0 (fun _ => true) true 38 v d ps) :
    ∃ r : Dt, r.ok ∧ v = .agg r.cells.toArray := by
  obtain ⟨cs, rfl, _⟩ := okWide_struct Tryz.underlying38 hv
  obtain ⟨fuel, hf⟩ := h
  obtain ⟨r, h1, h2⟩ := rt_opened (cs := cs.toList) (by simpa [Value.cells] using hf)
  exact ⟨r, h1, by rw [← h2]⟩
end
end Go.Proofs.YtpnfjjgihkmjmaaGreatDoor
