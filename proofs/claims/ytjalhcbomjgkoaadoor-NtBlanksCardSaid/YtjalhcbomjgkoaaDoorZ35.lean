/-
  MERGED (a claim has at most 60 files): NBl, RQuote, QLib, QText.
-/
import Derived.Test.YtjalhcbomjgkoaaDoorZ33
import Derived.Test.YtjalhcbomjgkoaaDoorZ10
import Derived.Test.YtjalhcbomjgkoaaDoorZ08
import Derived.Deep.AppendLies
import Derived.Test.YtjalhcbomjgkoaaDoorZ24
import Derived.Test.YtjalhcbomjgkoaaDoorZ26
/-
  PLAIN LEAN, NO RUN: blank lines, notes and blanks ahead of lines of good triples change nothing of what is parsed.
-/
namespace Go.Proofs.YtjalhcbomjgkoaaDoor
set_option linter.unusedVariables false
set_option linter.unusedSimpArgs false

theorem gap_pre {sl pre r : List Int} {k : Nat} {c : Int} (h : sl.drop k = pre ++ c :: r) (hp : pre.all gpc = true) (hc : gpc c = false) : gapP sl k = k + pre.length := by
  unfold gapP
  rw [h, List.takeWhile_append_of_pos (fun a ha => List.all_eq_true.1 hp a ha), List.takeWhile_cons, if_neg (by rw [hc]; decide), List.append_nil]
theorem gap_end {sl pre : List Int} {k : Nat} (h : sl.drop k = pre) (hp : pre.all gpc = true) : gapP sl k = k + pre.length := by
  unfold gapP
  have : pre.takeWhile gpc = pre := by
    have := List.takeWhile_append_of_pos (p := gpc) (l₁ := pre) (l₂ := []) (fun a ha => List.all_eq_true.1 hp a ha)
    simpa using this
  rw [h, this]
theorem note_at {sl nt r : List Int} {k : Nat} (h : sl.drop k = 35 :: (nt ++ 10 :: r)) (hn : nt.all notN = true) : noteP sl k = k + 1 + nt.length := by
  unfold noteP noteF
  rw [if_pos (drop_two h).1, h, List.takeWhile_cons, if_pos (by decide), List.takeWhile_append_of_pos (fun a ha => List.all_eq_true.1 hn a ha), List.takeWhile_cons, if_neg (by decide), List.append_nil, List.length_cons]
  omega
theorem note_end {sl nt : List Int} {k : Nat} (h : sl.drop k = 35 :: nt) (hn : nt.all notN = true) : noteP sl k = k + 1 + nt.length := by
  have e : nt.takeWhile notN = nt := by
    have := List.takeWhile_append_of_pos (p := notN) (l₁ := nt) (l₂ := []) (fun a ha => List.all_eq_true.1 hn a ha)
    simpa using this
  unfold noteP noteF
  rw [if_pos (drop_two h).1, h, List.takeWhile_cons, if_pos (by decide), e, List.length_cons]
  omega
theorem note_no {sl r : List Int} {k : Nat} {c : Int} (h : sl.drop k = c :: r) (hc : c ≠ 35) : noteP sl k = k := by
  unfold noteP
  rw [if_neg (by rw [(drop_two h).1]; intro e; cases e; exact hc rfl)]
theorem drop_in {sl r : List Int} {k : Nat} {c : Int} (h : sl.drop k = c :: r) : k < sl.length := (List.getElem?_eq_some_iff.1 (drop_two h).1).1
theorem over_lf {sl pre r : List Int} {k : Nat} (h : sl.drop k = pre ++ 10 :: r) (hp : pre.all gpc = true) : overP sl k = (k + pre.length + 1, true) := by
  have h2 := drop_more h
  have hi := drop_in h2
  unfold overP
  rw [gap_pre h hp (by decide), note_no h2 (by decide)]
  unfold overE
  rw [if_neg (by omega), if_pos (drop_two h2).1]
theorem over_crlf {sl pre r : List Int} {k : Nat} (h : sl.drop k = pre ++ 13 :: 10 :: r) (hp : pre.all gpc = true) : overP sl k = (k + pre.length + 2, true) := by
  have h2 := drop_more h
  have hi := drop_in h2
  unfold overP
  rw [gap_pre h hp (by decide), note_no h2 (by decide)]
  unfold overE
  rw [if_neg (by omega), if_neg (by rw [(drop_two h2).1]; decide), if_pos ⟨(drop_two h2).1, (drop_two (drop_two h2).2).1⟩]
theorem over_note {sl pre nt r : List Int} {k : Nat} (h : sl.drop k = pre ++ 35 :: (nt ++ 10 :: r)) (hp : pre.all gpc = true) (hn : nt.all notN = true) : overP sl k = (k + pre.length + 1 + nt.length + 1, true) := by
  have h2 := drop_more h
  have h3 := drop_more (drop_two h2).2
  have hi := drop_in h3
  unfold overP
  rw [gap_pre h hp (by decide), note_at h2 hn]
  unfold overE
  rw [if_neg (by omega), if_pos (drop_two h3).1]
theorem over_gap {sl pre r : List Int} {k : Nat} {t : Tm} (hg : goodT t = true) (h : sl.drop k = pre ++ (tS t ++ r)) (hp : pre.all gpc = true) : overP sl k = (k + pre.length, false) := by
  obtain ⟨c, l, e, h2, h3, h4, h5⟩ := tS_head t hg
  rw [e] at h
  have h' : sl.drop k = pre ++ c :: (l ++ r) := h
  have hd := drop_more h'
  have hi := drop_in hd
  unfold overP
  rw [gap_pre h' hp h2, note_no hd h3]
  unfold overE
  rw [if_neg (by omega), if_neg (by rw [(drop_two hd).1]; intro e; cases e; exact h4 rfl), if_neg (by rw [(drop_two hd).1]; intro e; have := e.1; cases this; exact h5 rfl)]
/-- From a place to another one L is parsed. -/
def Gw (sl : List Int) (k p : Nat) (L : List (List Tm)) : Prop := ∃ n, k + n ≤ p ∧ ∀ g acc, prsC sl (g + n) k acc = prsC sl g p (acc ++ L)
theorem Gw.refl (sl : List Int) (k : Nat) : Gw sl k k [] := ⟨0, Nat.le_refl _, fun g acc => by rw [Nat.add_zero, List.append_nil]⟩
theorem Gw.trans {sl : List Int} {k p q : Nat} {L M : List (List Tm)} (h : Gw sl k p L) (h' : Gw sl p q M) : Gw sl k q (L ++ M) := by
  obtain ⟨n, h1, h2⟩ := h
  obtain ⟨m, h3, h4⟩ := h'
  exact ⟨m + n, by omega, fun g acc => by rw [← Nat.add_assoc, h2, h4, List.append_assoc]⟩
theorem gw_blank {sl : List Int} {k p : Nat} (h : overP sl k = (p, true)) (hk : k < sl.length) (hp : k < p) : Gw sl k p [] := ⟨1, by omega, fun g acc => by
  rw [List.append_nil]
  conv => lhs; unfold prsC
  rw [if_neg (by omega), h]
  dsimp only
  rw [if_pos rfl]⟩
theorem gw_line {sl pre r : List Int} {k : Nat} {ts : List Tm} (hd : Gd ts) (h : sl.drop k = pre ++ (lnS ts ++ r)) (hp : pre.all gpc = true) : Gw sl k (k + pre.length + (lnS ts).length) [ts] := by
  obtain ⟨a, b, c, rfl, hg, hm⟩ := hd
  refine ⟨1, by have := lnS_pos (ts := [a, b, c]) ⟨a, b, c, rfl, hg, hm⟩; omega, fun g acc => ?_⟩
  have h0 : sl.drop k = pre ++ (tS a ++ 32 :: (tS b ++ 32 :: (tS c ++ 32 :: 46 :: (10 :: r)))) := by rw [h]; simp [lnS]
  have ho := over_gap hg.1 h0 hp
  have h' := drop_more h0
  obtain ⟨x, hx, _⟩ := tS_at hg.1 h'
  have hk := (List.getElem?_eq_some_iff.1 hx).1
  have ht := triP_text sl _ (k + pre.length) a b c hg hm h'
  have d1 := drop_more h'
  have d2 := drop_more (drop_two d1).2
  have d3 := drop_more (drop_two d2).2
  have d4 := (drop_two (drop_two d3).2).2
  have he := over_end d4
  have hp2 : k + pre.length + (tS a).length + 1 + (tS b).length + 1 + (tS c).length + 1 + 1 = k + pre.length + (tS a).length + 1 + (tS b).length + 1 + (tS c).length + 2 := rfl
  rw [hp2] at he
  have hn : k + pre.length + (lnS [a, b, c]).length = k + pre.length + (tS a).length + 1 + (tS b).length + 1 + (tS c).length + 2 + 1 := by simp [lnS]; omega
  rw [hn]
  conv => lhs; unfold prsC
  rw [if_neg (by omega), ho]
  dsimp only
  rw [if_neg (by decide), ht]
  dsimp only
  rw [he]
  dsimp only
  rw [if_pos rfl]
/-! ### Gaps -/
def gap7 : Int → List Int
  | 1 => [10]
  | 2 => [32, 9]
  | 3 => [35, 32, 60, 117, 58, 97, 62, 10]
  | 4 => [32, 13, 10]
  | 5 => [10, 10, 32, 32, 35, 10, 9]
  | 6 => [35, 13, 10]
  | _ => []
theorem gw_seg {sl r : List Int} {k : Nat} {ts : List Tm} (x : Int) (hd : Gd ts) (h : sl.drop k = gap7 x ++ (lnS ts ++ r)) : Gw sl k (k + (gap7 x ++ lnS ts).length) [ts] := by
  have hl : 1 ≤ (lnS ts).length := lnS_pos hd
  by_cases h1 : x = 1
  · subst h1
    have g1 := gw_blank (over_lf (pre := []) (r := lnS ts ++ r) h rfl) (drop_in (c := 10) h) (by simp only [List.length_nil, List.length_cons]; omega)
    have g2 := gw_line (pre := []) hd (drop_two (c := 10) h).2 rfl
    have := g1.trans g2
    have e : k + (gap7 1 ++ lnS ts).length = k + ([] : List Int).length + 1 + ([] : List Int).length + (lnS ts).length := by simp [gap7] <;> omega
    rw [e]; exact this
  by_cases h2 : x = 2
  · subst h2
    have g := gw_line (pre := [32, 9]) hd h rfl
    have e : k + (gap7 2 ++ lnS ts).length = k + [32, 9].length + (lnS ts).length := by simp [gap7] <;> omega
    rw [e]; exact g
  by_cases h3 : x = 3
  · subst h3
    have h' : sl.drop k = [] ++ 35 :: ([32, 60, 117, 58, 97, 62] ++ 10 :: (lnS ts ++ r)) := h
    have g1 := gw_blank (over_note h' rfl (by decide)) (drop_in (c := 35) h) (by simp only [List.length_nil, List.length_cons]; omega)
    have hd2 : sl.drop (k + ([] : List Int).length + 1 + [32, 60, 117, 58, 97, 62].length + 1) = [] ++ (lnS ts ++ r) := by
      have := drop_more (a := gap7 3) h
      exact this
    have g2 := gw_line (pre := []) hd hd2 rfl
    have := g1.trans g2
    have e : k + (gap7 3 ++ lnS ts).length = k + ([] : List Int).length + 1 + [32, 60, 117, 58, 97, 62].length + 1 + ([] : List Int).length + (lnS ts).length := by simp [gap7] <;> omega
    rw [e]; exact this
  by_cases h4 : x = 4
  · subst h4
    have h' : sl.drop k = [32] ++ 13 :: 10 :: (lnS ts ++ r) := h
    have g1 := gw_blank (over_crlf h' rfl) (drop_in (c := 32) h) (by simp only [List.length_nil, List.length_cons]; omega)
    have hd2 : sl.drop (k + [32].length + 2) = [] ++ (lnS ts ++ r) := drop_more (a := gap7 4) h
    have g2 := gw_line (pre := []) hd hd2 rfl
    have := g1.trans g2
    have e : k + (gap7 4 ++ lnS ts).length = k + [32].length + 2 + ([] : List Int).length + (lnS ts).length := by simp [gap7] <;> omega
    rw [e]; exact this
  by_cases h5 : x = 5
  · subst h5
    have g1 := gw_blank (over_lf (pre := []) (r := [10, 32, 32, 35, 10, 9] ++ (lnS ts ++ r)) h rfl) (drop_in (c := 10) h) (by simp only [List.length_nil, List.length_cons]; omega)
    have hd1 : sl.drop (k + ([] : List Int).length + 1) = [] ++ 10 :: ([32, 32, 35, 10, 9] ++ (lnS ts ++ r)) := (drop_two (c := 10) h).2
    have g2 := gw_blank (over_lf hd1 rfl) (drop_in (c := 10) hd1) (by simp only [List.length_nil, List.length_cons]; omega)
    have hd2 : sl.drop (k + ([] : List Int).length + 1 + ([] : List Int).length + 1) = [32, 32] ++ 35 :: ([] ++ 10 :: ([9] ++ (lnS ts ++ r))) := (drop_two (c := 10) hd1).2
    have g3 := gw_blank (over_note hd2 rfl rfl) (drop_in (c := 32) hd2) (by simp only [List.length_nil, List.length_cons]; omega)
    have hd3 : sl.drop (k + ([] : List Int).length + 1 + ([] : List Int).length + 1 + [32, 32].length + 1 + ([] : List Int).length + 1) = [9] ++ (lnS ts ++ r) := drop_more (a := [32, 32, 35, 10]) hd2
    have g4 := gw_line hd hd3 rfl
    have := g1.trans (g2.trans (g3.trans g4))
    have e : k + (gap7 5 ++ lnS ts).length = k + ([] : List Int).length + 1 + ([] : List Int).length + 1 + [32, 32].length + 1 + ([] : List Int).length + 1 + [9].length + (lnS ts).length := by simp [gap7] <;> omega
    rw [e]; exact this
  by_cases h6 : x = 6
  · subst h6
    have h' : sl.drop k = [] ++ 35 :: ([13] ++ 10 :: (lnS ts ++ r)) := h
    have g1 := gw_blank (over_note h' rfl (by decide)) (drop_in (c := 35) h) (by simp only [List.length_nil, List.length_cons]; omega)
    have hd2 : sl.drop (k + ([] : List Int).length + 1 + [13].length + 1) = [] ++ (lnS ts ++ r) := drop_more (a := gap7 6) h
    have g2 := gw_line (pre := []) hd hd2 rfl
    have := g1.trans g2
    have e : k + (gap7 6 ++ lnS ts).length = k + ([] : List Int).length + 1 + [13].length + 1 + ([] : List Int).length + (lnS ts).length := by simp [gap7] <;> omega
    rw [e]; exact this
  have e : gap7 x = [] := by unfold gap7; split <;> first | contradiction | rfl
  rw [e] at h ⊢
  have g := gw_line (pre := []) hd h rfl
  have e : k + (([] : List Int) ++ lnS ts).length = k + ([] : List Int).length + (lnS ts).length := by simp
  rw [e]; exact g
def gapOf (gs : List Int) (i : Nat) : List Int := match gs[i]? with
  | some x => gap7 (x.tmod 7)
  | none => []
noncomputable def segs (gs : List Int) : Nat → List (List Tm) → List Int
  | _, [] => []
  | i, ts :: L => (if okL ts = true then gapOf gs i ++ lnS ts else []) ++ segs gs (i + 1) L
theorem segs_snoc (gs : List Int) : ∀ (L : List (List Tm)) (i : Nat) (ts : List Tm), segs gs i (L ++ [ts]) = segs gs i L ++ (if okL ts = true then gapOf gs (i + L.length) ++ lnS ts else [])
  | [], i, ts => by simp [segs]
  | t :: L, i, ts => by
    rw [List.cons_append, segs, segs, segs_snoc gs L (i + 1) ts, List.append_assoc, List.length_cons, show i + 1 + L.length = i + (L.length + 1) by omega]
theorem gw_segs (gs : List Int) {sl r : List Int} : ∀ (L : List (List Tm)) (i k : Nat), sl.drop k = segs gs i L ++ r → Gw sl k (k + (segs gs i L).length) (goodL L)
  | [], i, k, h => Gw.refl sl k
  | ts :: L, i, k, h => by
    rw [segs, List.append_assoc] at h
    rw [segs, List.length_append]
    by_cases hk : okL ts = true
    · rw [if_pos hk] at h ⊢
      have e : goodL (ts :: L) = [ts] ++ goodL L := by unfold goodL; rw [List.filter_cons, if_pos hk]; rfl
      have g1 : Gw sl k (k + (gapOf gs i ++ lnS ts).length) [ts] := by
        unfold gapOf at h ⊢
        cases hx : gs[i]? with
        | some x => rw [hx] at h; dsimp only at h ⊢; exact gw_seg _ (ok_gd hk) (by rw [h, List.append_assoc])
        | none => rw [hx] at h; dsimp only at h ⊢; exact gw_seg 0 (ok_gd hk) (by rw [h, List.append_assoc]; rfl)
      have g2 := gw_segs gs L (i + 1) _ (drop_more h)
      rw [e, ← Nat.add_assoc]
      exact g1.trans g2
    · rw [if_neg hk] at h ⊢
      have e : goodL (ts :: L) = goodL L := by unfold goodL; rw [List.filter_cons, if_neg hk]
      have g2 := gw_segs gs L (i + 1) k h
      rw [e, List.length_nil, Nat.zero_add]
      exact g2
/-! ### The end -/
def tail3 : Int → List Int
  | 1 => [32, 35, 32, 101, 110, 100]
  | 2 => [9]
  | _ => []
theorem over_over {sl : List Int} {k : Nat} (h : noteP sl (gapP sl k) = sl.length) : overP sl k = (sl.length, true) := by
  unfold overP overE
  rw [h, if_pos rfl]
theorem prs_segs (gs : List Int) (L : List (List Tm)) (x : Int) : prsB (segs gs 0 L ++ tail3 x) [] = (goodL L, 0, 0) := by
  obtain ⟨sl, hsl⟩ : ∃ sl, sl = segs gs 0 L ++ tail3 x := ⟨_, rfl⟩
  rw [← hsl]
  have hd : sl.drop 0 = segs gs 0 L ++ tail3 x := by rw [List.drop_zero, hsl]
  obtain ⟨n, h1, h2⟩ := gw_segs gs L 0 0 hd
  have hp : sl.drop (0 + (segs gs 0 L).length) = tail3 x := drop_more hd
  have hl : sl.length = (segs gs 0 L).length + (tail3 x).length := by rw [hsl, List.length_append]
  unfold prsB
  rw [if_pos rfl]
  have e := h2 (sl.length - n) []
  rw [show sl.length - n + n = sl.length by omega] at e
  rw [e, List.nil_append]
  have hend : ∀ p, p = sl.length → prsC sl (sl.length - n) p (goodL L) = (goodL L, 0, 0) := fun p hp => by rw [hp]; exact prsC_end _ _ _
  by_cases h0 : (tail3 x).length = 0
  · exact hend _ (by omega)
  · have ho : overP sl (0 + (segs gs 0 L).length) = (sl.length, true) := by
      by_cases c1 : x = 1
      · subst c1
        have hp' : sl.drop (0 + (segs gs 0 L).length) = [32] ++ 35 :: [32, 101, 110, 100] := hp
        have hg := gap_pre hp' rfl (by decide)
        have hp2 := drop_more hp'
        apply over_over
        rw [hg, note_end hp2 (by decide), hl]
        simp [tail3] <;> omega
      by_cases c2 : x = 2
      · subst c2
        have hg := gap_end (pre := [9]) hp rfl
        apply over_over
        have e2 : gapP sl (0 + (segs gs 0 L).length) = sl.length := by rw [hg, hl]; simp [tail3]
        rw [e2]
        unfold noteP
        rw [if_neg (by rw [List.getElem?_eq_none (Nat.le_refl _)]; simp)]
      exact absurd (by unfold tail3; split <;> first | contradiction | rfl) h0
    obtain ⟨g, hg⟩ : ∃ g, sl.length - n = g + 1 := ⟨sl.length - n - 1, by omega⟩
    rw [hg]
    unfold prsC
    rw [if_neg (by omega), ho]
    dsimp only
    rw [if_pos rfl]
    exact prsC_end _ _ _
theorem gap7_all (x : Int) : AllS (gap7 x) := by
  have h : ∀ l : List Int, l.all sgn = true → AllS l := fun l h n hn => List.all_eq_true.1 h n hn
  unfold gap7
  split <;> exact h _ (by decide)
theorem tail3_all (x : Int) : AllS (tail3 x) := by
  have h : ∀ l : List Int, l.all sgn = true → AllS l := fun l h n hn => List.all_eq_true.1 h n hn
  unfold tail3
  split <;> exact h _ (by decide)
theorem gapOf_all (gs : List Int) (i : Nat) : AllS (gapOf gs i) := by
  unfold gapOf
  split
  · exact gap7_all _
  · exact allS_nil
theorem segs_all (gs : List Int) : ∀ (L : List (List Tm)) (i : Nat), AllS (segs gs i L)
  | [], i => allS_nil
  | ts :: L, i => by
    rw [segs]
    refine allS_app ?_ (segs_all gs L (i + 1))
    split
    · exact allS_app (gapOf_all gs i) (lnS_all ts)
    · exact allS_nil
end Go.Proofs.YtjalhcbomjgkoaaDoor

/-
  THE DOCUMENT's 'Quote' of signs: what the program's Quote writes of their text.
-/
namespace Go.Proofs.YtjalhcbomjgkoaaDoor
open Go.RowKit
set_option linter.unusedVariables false

def QXI (B : Nat) (w : World) (l : List Int) (g : Nat) (v i : Value) (wr : World) : Prop :=
  ∃ a b, l = a ++ b ∧ b.length = g ∧ i = .int .i64 a.length ∧ U8s B wr v (34 :: escL a) ∧ Below B w wr
theorem qxi_step {B : Nat} {w wr W w5 : World} {l a b : List Int} {n : Int} {g m : Nat} {v v' : Value} {news : List Value} (hl : l = a ++ n :: b) (hg : (n :: b).length = g + 1) (hb : Below B w wr) (hbs : B ≤ wr.heap.size) (hW : Below wr.heap.size wr W) (hWB : B ≤ W.heap.size)
    (hown : w5.ownsRow B 5 1 v' ((34 :: escL a).length + m) (Lib.byteCells (34 :: escL a) ++ news)) (hgr : W.grownBy w5 v.ownBlock) (hv : ∀ k, v.ownBlock = some k → B ≤ k) (hnews : news = Lib.byteCells (esc n)) (hm : m = (esc n).length) :
    QXI B w l g v' (.int .i64 ((a.length : Int) + 1)) w5 := by
  refine ⟨a ++ [n], b, by rw [hl]; simp, by simpa using hg, by simp, ?_, ((hb.trans (hW.mono hbs)).grown hgr hWB hv)⟩
  subst hnews hm
  unfold U8s
  rw [escL_append, escL_one, ← List.cons_append, Lib.byteCells_append, List.length_append]
  exact hown
theorem new_cells {wr : World} {cs : Array Value} {news : List Value} (h : cs.toList = news) : ∀ j u, news[j]? = some u → (wr.alloc (.cells cs 5)).cell? ((⟨wr.heap.size, 0, none⟩ : Addr).add j) = some u := by
  intro j u hj
  have hh : (wr.alloc (.cells cs 5)).heap[wr.heap.size]? = some (.cells cs 5 (0, 0)) := heap_alloc_new _ _
  have ha : (⟨wr.heap.size, 0, none⟩ : Addr).add j = ⟨wr.heap.size, j, none⟩ := by
    by_cases hj0 : j = 0
    · subst hj0; simp [Addr.add]
    · simp [Addr.add, hj0]
  rw [ha, Lib.cell_of_heap hh, ← Array.getElem?_toList, h]
  exact hj

set_option maxHeartbeats 8000000 in
set_option maxRecDepth 100000 in
theorem rquote_any (l : List Int) (hall : AllS l) (hl : l.length ≤ 1000000) (ao : Option Addr) (gc oc cap : Nat) (w : World) (hao : 0 < l.length → ao = some ⟨gc, oc, none⟩ ∧ gc < w.heap.size)
    (hc : ∀ (j : Nat) (x : Int), l[j]? = some x → w.cell? ⟨gc, oc + j, none⟩ = some (.int .i64 x)) :
    Calls Tryd.prog 96 #[.slice ao l.length cap] w fun e w' => e = .returned (.string (quo l)) ∧ Below w.heap.size w w' := by
  have HC := Lib.hid hc
  have HA := Lib.hid hall
  have HO := Lib.hid hao
  obtain ⟨i0, hi, hz0, hz1, hz2⟩ := info_parts byteInfo
  clear hc hall hao
  go_enter Tryd.func96, Tryd.ntmps96
  go_wp2
  go_loopg [4, 11] l.length (fun g v i wr => QXI w.heap.size w l g v i wr)
  case atStart =>
    refine ⟨[], l, rfl, rfl, rfl, ⟨rfl, .inr ⟨w.heap.size, 1, #[.int .u8 34], rfl, Nat.le_refl _, heap_alloc_new _ _, Nat.le_refl _, by unfold maxLen; omega, rfl, rfl⟩⟩, (Below.refl _ _).alloc (Nat.le_refl _) _⟩
  case round =>
    obtain ⟨a, b, hab, hbl, rfl, hU, hbw⟩ := hrel
    obtain ⟨av, cv, rfl⟩ := u8s_shape hU
    have hla : a.length + b.length = l.length := by rw [hab]; simp
    have hen := escL_len a
    have HAB := Lib.hid hab
    have HBL := Lib.hid hbl
    have hbs := hbw.size
    cases gk with
    | zero =>
      obtain rfl : b = [] := List.length_eq_zero_iff.1 hbl
      have hal : a.length = l.length := by simp at hla; omega
      have hge : ¬ ((a.length : Int) < (l.length : Int)) := by omega
      have HU := Lib.hid hU
      have hla2 : l = a := by rw [hab, List.append_nil]
      have HLA := Lib.hid hla2
      have hal2 : a.length ≤ 1000000 := by omega
      clear hab hbl hla hal hla2
      go_wp2_with (at_builtin; refine wpList_append_own _ rfl _ _ 77 rfl w.heap.size 5 i0 (.int .u8 0) 1 1 Tryd.underlying77 hi hz0 hz1 hz2 rfl (by decide) _ _ _ rfl (World.ownsRow.alloc hU _) ⟨wr.heap.size, 0, none⟩ 1 1 [.int .u8 34] rfl rfl ?z1 ?z2 ?z3 ?z4 ?z5 ?_)
      case z2 => first | rfl | (intro u hu; simp at hu; subst hu; rfl)
      case z3 => unfold maxLen; simp; omega
      case z4 => first | omega | (simp; omega)
      case z5 => first | omega | (simp; omega)
      intro v' w5 hown' hgrow' _
      have hU5 : U8s w.heap.size w5 v' (quoteL a) := by
        unfold U8s quoteL
        rw [List.length_append, Lib.byteCells_append]
        exact hown'
      have hcv := bytes_text hU5
      obtain ⟨av5, cv5, rfl⟩ := u8s_shape hU5
      have hb5 : Below w.heap.size w w5 := (hbw.alloc hbs _).grown hgrow' (by simp; omega) (fun k hk => (World.ownsRow.lt HU.out k hk).1)
      have hres : (⟨(quoteL a).toArray⟩ : ByteArray) = quo l := by rw [HLA.out]; rfl
      rw [hres] at hcv
      clear hown' hgrow' hU5 hU hres
      go_wp2
      go_ret
      exact ⟨rfl, hb5⟩
    | succ g =>
      obtain ⟨n, b', rfl⟩ : ∃ n b', b = n :: b' := by
        match b, hbl with
        | n :: b', _ => exact ⟨n, b', rfl⟩
      have hlt : (a.length : Int) < (l.length : Int) := by simp at hla; omega
      have hn : l[a.length]? = some n := by rw [hab]; simp
      obtain ⟨rfl, hgc⟩ := HO.out (by simp at hla; omega)
      have hcell : wr.cell? ⟨gc, oc + a.length, none⟩ = some (.int .i64 n) := (hbw.cell (p := ⟨gc, oc + a.length, none⟩) hgc).trans (HC.out _ _ hn)
      have hsg := HA.out n (List.mem_of_getElem? hn)
      have HSG := Lib.hid hsg
      have hB := bytes_any n hsg wr
      have HU := Lib.hid hU
      have hvk : ∀ k, (Value.slice av (34 :: escL a).length cv).ownBlock = some k → w.heap.size ≤ k := fun k hk => (World.ownsRow.lt hU k hk).1
      have HVK := Lib.hid hvk
      clear hab hbl hla hn hsg hvk
      by_cases hlt0 : lett n = 0
      · by_cases hc4 : cls n = 4
        · have e1 : (lett n == 0) = true := by simpa using hlt0
          have e1' : (lett n != 0) = false := by simpa using hlt0
          have e2 : (cls n == 4) = true := by simpa using hc4
          have hr4 := cls4_range n hc4
          have hes4 : esc n = numL n := by unfold esc; rw [if_neg (by simpa using hlt0), if_pos hc4]
          have HES4 : Hid ([Value.int .u8 92, .int .u8 117, .int .u8 48, .int .u8 48, .int .u8 ((hexd (n / 16)).toNat : Int), .int .u8 ((hexd (n % 16)).toNat : Int)] = Lib.byteCells (esc n)) := Lib.hid (by rw [hes4]; rfl)
          have HEL4 : Hid (6 = (esc n).length) := Lib.hid (by rw [hes4]; rfl)
          clear hlt0 hc4 hes4
          go_wp2_with (first
            | (go_at_call 110; (with_reducible refine (refLetter_any n _).mono ?_); rintro e w' ⟨rfl, rfl⟩)
            | (go_at_call 14; (with_reducible refine (refClass_any n _).mono ?_); rintro e w' ⟨rfl, rfl⟩))
          have q0 : (0 : Int) ≤ n / 16 := by omega
          have q1 : n / 16 < 16 := by omega
          have q2 : (0 : Int) ≤ n % 16 := by omega
          have q3 : n % 16 < 16 := by omega
          have d2 := hexd_atZ (n / 16) (by omega) (by omega)
          have d3 := hexd_atZ (n % 16) (by omega) (by omega)
          have t1 : n.tdiv 16 = n / 16 := Int.tdiv_eq_ediv_of_nonneg hr4.1
          have t2 : n.tmod 16 = n % 16 := Int.tmod_eq_emod_of_nonneg hr4.1
          have t3 : IntKind.i64.wrap (n / 16) = n / 16 := IntWalk.i64_in _ (by omega)
          have t4 : IntKind.i64.wrap (n % 16) = n % 16 := IntWalk.i64_in _ (by omega)
          have hn1 : ∀ j u, [Value.int .u8 92, .int .u8 117, .int .u8 48, .int .u8 48, .int .u8 ((hexd (n / 16)).toNat : Int), .int .u8 ((hexd (n % 16)).toNat : Int)][j]? = some u → (wr.alloc (.cells #[Value.int .u8 92, .int .u8 117, .int .u8 48, .int .u8 48, .int .u8 ((hexd (n / 16)).toNat : Int), .int .u8 ((hexd (n % 16)).toNat : Int)] 5)).drew.cell? ((⟨wr.heap.size, 0, none⟩ : Addr).add j) = some u := new_cells rfl
          have hn2 : ∀ u ∈ [Value.int .u8 92, .int .u8 117, .int .u8 48, .int .u8 48, .int .u8 ((hexd (n / 16)).toNat : Int), .int .u8 ((hexd (n % 16)).toNat : Int)], u.oneCell' = true := by
            intro u hu
            simp at hu
            rcases hu with rfl | rfl | rfl | rfl | rfl <;> rfl
          have hown0 := (World.ownsRow.alloc hU (.cells #[Value.int .u8 92, .int .u8 117, .int .u8 48, .int .u8 48, .int .u8 ((hexd (n / 16)).toNat : Int), .int .u8 ((hexd (n % 16)).toNat : Int)] 5)).drew
          have N1 := Lib.hid hn1
          have N2 := Lib.hid hn2
          have N0 := Lib.hid hown0
          have hsz1 : (34 :: escL a).length + 6 ≤ 10000000 := by simp; omega
          have N3 := Lib.hid hsz1
          clear hn1 hn2 hown0 hU hsz1
          go_region_law (refine step_append_lies _ rfl (.tmp 29) (.tmp 38) 77 rfl w.heap.size 5 i0 (.int .u8 0) 1 1 Tryd.underlying77 hi hz0 hz1 hz2 rfl (by decide) (.slice av (34 :: escL a).length cv) (34 :: escL a).length (Lib.byteCells (34 :: escL a)) (by simp [Act.eval]) N0.out ⟨wr.heap.size, 0, none⟩ 6 6 [Value.int .u8 92, .int .u8 117, .int .u8 48, .int .u8 48, .int .u8 ((hexd (n / 16)).toNat : Int), .int .u8 ((hexd (n % 16)).toNat : Int)] (by simp [Act.eval]) rfl N1.out N2.out (by decide) (by have := N3.out; unfold maxLen; omega) (by have := N3.out; omega) (by simp; omega) (wr.heap.size + 1) (by simp) ?_; intro g5 cap5 w5 hown' hgrow' _ _)
          all_goals
            have hfin := qxi_step (v := .slice av (34 :: escL a).length cv) HAB.out HBL.out hbw hbs (((Below.refl _ _).alloc (Nat.le_refl _) _).drew) (by simp; omega) hown' hgrow' HVK.out HES4.out HEL4.out
            have HF := Lib.hid hfin
            clear hfin hown' hgrow'
            go_wp2
            go_roundg g
            case measure => omega
            case rel => exact HF.out
        · have e1 : (lett n == 0) = true := by simpa using hlt0
          have e1' : (lett n != 0) = false := by simpa using hlt0
          have e2 : (cls n == 4) = false := by simpa using hc4
          have hes : Lib.runeCells n = Lib.byteCells (esc n) := by unfold esc; rw [if_neg (by simpa using hlt0), if_neg hc4, Lib.byteCells_encodeRune]
          have hel : (Lib.encodeRune n).length = (esc n).length := by unfold esc; rw [if_neg (by simpa using hlt0), if_neg hc4]
          have HES := Lib.hid hes
          have HEL := Lib.hid hel
          have hk := enc_len n
          clear hlt0 hc4 hes hel
          go_wp2_with (first
            | (go_at_call 110; (with_reducible refine (refLetter_any n _).mono ?_); rintro e w' ⟨rfl, rfl⟩)
            | (go_at_call 14; (with_reducible refine (refClass_any n _).mono ?_); rintro e w' ⟨rfl, rfl⟩)
            | (go_at_call 44; (with_reducible refine hB.mono ?_); rintro e w2 ⟨rfl, rfl⟩)
            | (at_builtin; refine wpList_append_own _ rfl _ _ 77 rfl w.heap.size 5 i0 (.int .u8 0) 1 1 Tryd.underlying77 hi hz0 hz1 hz2 rfl (by decide) _ _ _ rfl (World.ownsRow.alloc hU _) ⟨wr.heap.size, 0, none⟩ (Lib.encodeRune n).length (Lib.encodeRune n).length (Lib.runeCells n) rfl ?c0 ?c1 ?c2 ?c3 ?c4 ?c5 ?_))
          case c0 => rw [Lib.runeCells_length, Nat.mul_one]
          case c1 => exact new_cells (by simp [rowOf])
          case c2 =>
            intro u hu
            simp only [Lib.runeCells, List.mem_map] at hu
            obtain ⟨x, _, rfl⟩ := hu
            rfl
          case c3 => unfold maxLen; simp; omega
          case c4 => simp; omega
          case c5 => simp; omega
          intro v' w5 hown' hgrow' _
          have hfin := qxi_step (v := .slice av (34 :: escL a).length cv) HAB.out HBL.out hbw hbs ((Below.refl _ _).alloc (Nat.le_refl _) _) (by simp; omega) hown' hgrow' HVK.out HES.out HEL.out
          have HF := Lib.hid hfin
          clear hfin hown' hgrow' hU
          go_wp2
          go_roundg g
          case measure => omega
          case rel => exact HF.out
      · have e1 : (lett n == 0) = false := by simpa using hlt0
        have e1' : (lett n != 0) = true := by simpa using hlt0
        have hlr := lett_range n hlt0
        have hes : [Value.int .u8 92, .int .u8 (lett n)] = Lib.byteCells (esc n) := by
          unfold esc
          rw [if_pos hlt0]
          have : (((lett n).toNat.toUInt8).toNat : Int) = lett n := by rw [u8n _ hlr.1 (by omega)]; omega
          simp only [Lib.byteCells, List.map_cons, List.map_nil, this]
          rfl
        have hel : 2 = (esc n).length := by unfold esc; rw [if_pos hlt0]; rfl
        have HES := Lib.hid hes
        have HEL := Lib.hid hel
        clear hlt0 hes hel
        go_wp2_with (first
          | (go_at_call 110; (with_reducible refine (refLetter_any n _).mono ?_); rintro e w' ⟨rfl, rfl⟩)
          | (at_builtin; refine wpList_append_own _ rfl _ _ 77 rfl w.heap.size 5 i0 (.int .u8 0) 1 1 Tryd.underlying77 hi hz0 hz1 hz2 rfl (by decide) _ _ _ rfl (World.ownsRow.alloc hU _) ⟨wr.heap.size, 0, none⟩ 2 2 [.int .u8 92, .int .u8 (lett n)] rfl rfl ?y1 ?y2 ?y3 ?y4 ?y5 ?_))
        case y1 => exact new_cells rfl
        case y2 => intro u hu; simp at hu; rcases hu with rfl | rfl <;> rfl
        case y3 => unfold maxLen; simp; omega
        case y4 => simp; omega
        case y5 => simp; omega
        intro v' w5 hown' hgrow' _
        have hfin := qxi_step (v := .slice av (34 :: escL a).length cv) HAB.out HBL.out hbw hbs ((Below.refl _ _).alloc (Nat.le_refl _) _) (by simp; omega) hown' hgrow' HVK.out HES.out HEL.out
        have HF := Lib.hid hfin
        clear hfin hown' hgrow' hU
        go_wp2
        go_roundg g
        case measure => omega
        case rel => exact HF.out
end Go.Proofs.YtjalhcbomjgkoaaDoor

/-
  THE DOCUMENT's signs as a slice of ints; 'Stands'; its Text and Quoted of such a slice.
-/
namespace Go.Proofs.YtjalhcbomjgkoaaDoor
open Go.RowKit
set_option linter.unusedVariables false

theorem ints_open {B : Nat} {w : World} {v : Value} {l : List Int} (h : Ints B w v l) : ∃ ao cap, v = .slice ao l.length cap ∧
    (0 < l.length → ∃ g, ao = some ⟨g, 0, none⟩ ∧ g < w.heap.size ∧ ∀ (j : Nat) (x : Int), l[j]? = some x → w.cell? ⟨g, 0 + j, none⟩ = some (.int .i64 x)) := by
  rcases id h.2 with ⟨hv, h0⟩ | ⟨g, cap, cur, hv, _⟩
  · exact ⟨none, 0, by rw [hv, h0], fun hp => by omega⟩
  · refine ⟨_, cap, hv, fun _ => ⟨g, rfl, (World.ownsRow.lt h g (by rw [hv]; rfl)).2, ?_⟩⟩
    intro j x hx
    subst hv
    have := World.ownsRow.cells h (g := g) rfl j (.int .i64 x) (by simp [intRow, hx])
    rw [addr_add] at this
    rw [Nat.zero_add]
    exact this
end Go.Proofs.YtjalhcbomjgkoaaDoor

/-
  THE DOCUMENT's 'Text' of a term.
-/
namespace Go.Proofs.YtjalhcbomjgkoaaDoor
open Go.RowKit
set_option linter.unusedVariables false
set_option linter.unusedSimpArgs false

set_option maxRecDepth 100000 in
set_option maxHeartbeats 4000000 in
theorem qtext_any (t : Tm) (hg : goodT t = true) (hf : t.few) (w : World) :
    Calls Tryd.prog 75 #[T4 t] w fun e w' => e = .returned (.string (textOf (tS t))) ∧ Below w.heap.size w w' := by
  obtain ⟨z, hz⟩ : ∃ z, z = textOf (tS t) := ⟨_, rfl⟩
  rw [← hz]
  cases t with
  | iri s =>
    have e := sg_text (iri_signs (s := s) hg).1
    have hs : s.size ≤ 1000000 := by have := hf.1; simp only [Tm.ta] at this; omega
    have hz2 : z = (⟨#[60]⟩ ++ s) ++ ⟨#[62]⟩ := by
      rw [hz]; unfold tS; rw [text_cons, textOf_app, e, ← ByteArray.append_assoc]; rfl
    obtain ⟨y, hy⟩ : ∃ y : ByteArray, y = ⟨#[60]⟩ ++ s := ⟨_, rfl⟩
    have hys : y.size = 1 + s.size := by rw [hy, ByteArray.size_append]; rfl
    have a1 : ∀ W, (Op.stringOp .add ⟨#[60]⟩ s).run Tryd.prog W = .ok (.string y) W := fun W => by rw [hy]; exact add_any _ _ (by show 1 + s.size ≤ _; omega) W
    have a2 : ∀ W, (Op.stringOp .add y ⟨#[62]⟩).run Tryd.prog W = .ok (.string z) W := fun W => by rw [hz2, ← hy]; exact add_any _ _ (by show y.size + 1 ≤ _; omega) W
    simp only [T4, Tm.kind, Tm.ta, Tm.tb, Tm.tc]
    clear hz hz2 hg hf hs e hy hys
    go_enter Tryd.func75, Tryd.ntmps75
    go_wp2
    go_ret
    exact ⟨rfl, (Below.refl _ _).alloc (Nat.le_refl _) _⟩
  | blank s =>
    have e := sg_text (label_signs (s := s) hg).1
    have hs : s.size ≤ 1000000 := by have := hf.1; simp only [Tm.ta] at this; omega
    have hz2 : z = ⟨#[95, 58]⟩ ++ s := by
      rw [hz]; unfold tS
      have e3 : textOf (95 :: 58 :: (sgP s).1) = textOf [95, 58] ++ textOf (sgP s).1 := by rw [← textOf_app]; rfl
      rw [e3, e]; rfl
    have a1 : ∀ W, (Op.stringOp .add ⟨#[95, 58]⟩ s).run Tryd.prog W = .ok (.string z) W := fun W => by rw [hz2]; exact add_any _ _ (by show 2 + s.size ≤ _; omega) W
    simp only [T4, Tm.kind, Tm.ta, Tm.tb, Tm.tc]
    clear hz hz2 hg hf hs e
    go_enter Tryd.func75, Tryd.ntmps75
    go_wp2
    go_ret
    exact ⟨rfl, (Below.refl _ _).alloc (Nat.le_refl _) _⟩
  | lit a b c =>
    have hg' : litG a b c = true := hg
    unfold litG at hg'
    rw [Bool.and_eq_true] at hg'
    have ea : (sgP a).2 = [] := by
      have := hg'.1
      unfold textG at this
      rw [Bool.and_eq_true, decide_eq_true_eq, decide_eq_true_eq] at this
      exact this.2
    have ha : a.size ≤ 1000000 := by have := hf.1; simp only [Tm.ta] at this; omega
    have hb : b.size ≤ 1000000 := by have := hf.2.1; simp only [Tm.tb] at this; omega
    have hc : c.size ≤ 1000000 := by have := hf.2.2; simp only [Tm.tc] at this; omega
    have hpa := sgP_parts a
    rw [ea] at hpa
    obtain ⟨l, hl⟩ : ∃ l, l = (sgP a).1 := ⟨_, rfl⟩
    rw [← hl] at hpa
    have hlen : l.length ≤ 1000000 := by have := hpa.size; have := encL_len l; omega
    have cS : ∀ W, Calls Tryd.prog 9 #[.string a] W (SignsPost W l (decide (([] : List UInt8) = []))) := fun W => signs_any a l [] hpa (by omega) W
    have hd : decide (([] : List UInt8) = []) = true := rfl
    rw [hd] at cS
    have hq2 : quo l = textOf (quoS l) := by unfold quo; apply bx; rw [textOf_list, quoS_bytes]
    obtain ⟨x, hx⟩ : ∃ x, x = quo l := ⟨_, rfl⟩
    have cQ : ∀ {B W v}, Ints B W v l → Calls Tryd.prog 96 #[v] W fun e w' => e = .returned (.string x) ∧ Below W.heap.size W w' := fun {B W v} h => by
      rw [hx]
      obtain ⟨ao, cap, rfl, hcc⟩ := ints_open h
      by_cases h0 : 0 < l.length
      · obtain ⟨g, rfl, hlt, hcell⟩ := hcc h0
        exact rquote_any l hpa.all hlen _ g 0 cap W (fun _ => ⟨rfl, hlt⟩) hcell
      · have e0 : l = [] := List.length_eq_zero_iff.1 (by omega)
        rw [e0]
        exact rquote_any [] allS_nil (by simp) ao 0 0 cap W (fun hp => absurd hp (by simp)) (fun j x hx => by simp at hx)
    have hxs : x.size ≤ 50000000 := by
      have h1 := text_size (quoS l)
      have h2 := body_six l
      rw [quoS_len] at h1
      rw [hx, hq2]; omega
    have hzx : z = x ++ textOf (tailS b c) := by rw [hz, hx, hq2, hl]; unfold tS; exact textOf_app _ _
    have hN0 : Ny w w.heap.size #[.int .i64 2, .string a, .string b, .string c] (w.alloc (.cells #[.int .i64 2, .string a, .string b, .string c] 45)) := Ny.mk (Below.refl _ _) _
    unfold tailS at hzx
    simp only [T4, Tm.kind, Tm.ta, Tm.tb, Tm.tc]
    by_cases h0 : c.size = 0
    · rw [if_pos h0] at hzx hg'
      have hcm := mt_of h0
      subst hcm
      by_cases hbx : b = XS
      · rw [if_pos hbx] at hzx
        subst hbx
        have hzz : z = x := by rw [hzx]; apply bx; rw [ByteArray.data_append, Array.toList_append]; exact List.append_nil _
        subst hzz
        clear hz hg hg' hf ea ha hb hc hpa hl hlen hd hq2 hx hxs hzx h0
        go_enter Tryd.func75, Tryd.ntmps75
        go_wp2_with (first
          | (go_at_call 9; (with_reducible refine (cS _).mono ?_); rintro e w4 ⟨vI, rfl, hI4, hb4⟩; obtain ⟨aoI, capI, rfl⟩ := ints_shape hI4; have hN4 := hN0.below hb4)
          | (go_at_call 96; (with_reducible refine (ny_of hN4 (cQ hI4)).mono ?_); rintro e w5 ⟨rfl, hN5⟩; obtain ⟨y0, y1, y2, y3⟩ := hN5.cells))
        go_ret
        exact ⟨rfl, hN5.1⟩
      · rw [if_neg hbx] at hzx
        rw [Bool.and_eq_true] at hg'
        have e := sg_text (iri_signs hg'.2.2).1
        have e3 : textOf (94 :: 94 :: 60 :: ((sgP b).1 ++ [62])) = (textOf [94, 94, 60] ++ textOf (sgP b).1) ++ textOf [62] := by rw [← textOf_app, ← textOf_app]; rfl
        rw [e3, e] at hzx
        obtain ⟨y, hy⟩ : ∃ y : ByteArray, y = x ++ ⟨#[94, 94, 60]⟩ := ⟨_, rfl⟩
        have hys : y.size = x.size + 3 := by rw [hy, ByteArray.size_append]; rfl
        obtain ⟨y', hy'⟩ : ∃ y' : ByteArray, y' = y ++ b := ⟨_, rfl⟩
        have hys' : y'.size = y.size + b.size := by rw [hy', ByteArray.size_append]
        have hzy : z = y' ++ ⟨#[62]⟩ := by rw [hzx, hy', hy, ← ByteArray.append_assoc, ← ByteArray.append_assoc]; rfl
        have a1 : ∀ W, (Op.stringOp .add x ⟨#[94, 94, 60]⟩).run Tryd.prog W = .ok (.string y) W := fun W => by rw [hy]; exact add_any _ _ (by show x.size + 3 ≤ _; omega) W
        have a2 : ∀ W, (Op.stringOp .add y b).run Tryd.prog W = .ok (.string y') W := fun W => by rw [hy']; exact add_any _ _ (by omega) W
        have a3 : ∀ W, (Op.stringOp .add y' ⟨#[62]⟩).run Tryd.prog W = .ok (.string z) W := fun W => by rw [hzy]; exact add_any _ _ (by show y'.size + 1 ≤ _; omega) W
        have hn : (b.toList == lS) = false := by
          rw [beq_eq_false_iff_ne]
          intro e
          apply hbx
          rw [ByteArray.toList_eq] at e
          obtain ⟨⟨m⟩⟩ := b
          have : m = lS := e
          subst this
          rfl
        clear hz hg hg' hf ea ha hb hc hpa hl hlen hd hq2 hx hxs hzx h0 e e3 hy hys hy' hys' hzy
        go_enter Tryd.func75, Tryd.ntmps75
        go_wp2_with (first
          | (go_at_call 9; (with_reducible refine (cS _).mono ?_); rintro e w4 ⟨vI, rfl, hI4, hb4⟩; obtain ⟨aoI, capI, rfl⟩ := ints_shape hI4; have hN4 := hN0.below hb4)
          | (go_at_call 96; (with_reducible refine (ny_of hN4 (cQ hI4)).mono ?_); rintro e w5 ⟨rfl, hN5⟩; obtain ⟨y0, y1, y2, y3⟩ := hN5.cells))
        go_ret
        exact ⟨rfl, hN5.1⟩
    · rw [if_neg h0] at hzx hg'
      rw [Bool.and_eq_true] at hg'
      have e := sg_text (lang_signs hg'.2.2).1
      rw [text_cons, e] at hzx
      obtain ⟨y, hy⟩ : ∃ y : ByteArray, y = x ++ ⟨#[64]⟩ := ⟨_, rfl⟩
      have hys : y.size = x.size + 1 := by rw [hy, ByteArray.size_append]; rfl
      have hzy : z = y ++ c := by rw [hzx, hy, ← ByteArray.append_assoc]; rfl
      have a1 : ∀ W, (Op.stringOp .add x ⟨#[64]⟩).run Tryd.prog W = .ok (.string y) W := fun W => by rw [hy]; exact add_any _ _ (by show x.size + 1 ≤ _; omega) W
      have a2 : ∀ W, (Op.stringOp .add y c).run Tryd.prog W = .ok (.string z) W := fun W => by rw [hzy]; exact add_any _ _ (by omega) W
      have hn : (c.toList == []) = false := by
        rw [beq_eq_false_iff_ne]
        intro e
        apply h0
        rw [ByteArray.toList_eq] at e
        obtain ⟨⟨m⟩⟩ := c
        have : m = [] := e
        subst this
        rfl
      have hn2 : ¬ c = mt := fun e => h0 (by rw [e]; rfl)
      clear hz hg hg' hf ea ha hb hc hpa hl hlen hd hq2 hx hxs hzx e hy hys hzy
      go_enter Tryd.func75, Tryd.ntmps75
      go_wp2_with (first
        | (go_at_call 9; (with_reducible refine (cS _).mono ?_); rintro e w4 ⟨vI, rfl, hI4, hb4⟩; obtain ⟨aoI, capI, rfl⟩ := ints_shape hI4; have hN4 := hN0.below hb4)
        | (go_at_call 96; (with_reducible refine (ny_of hN4 (cQ hI4)).mono ?_); rintro e w5 ⟨rfl, hN5⟩; obtain ⟨y0, y1, y2, y3⟩ := hN5.cells))
      go_ret
      exact ⟨rfl, hN5.1⟩
  | odd n => cases hg
  | none => cases hg
end Go.Proofs.YtjalhcbomjgkoaaDoor
