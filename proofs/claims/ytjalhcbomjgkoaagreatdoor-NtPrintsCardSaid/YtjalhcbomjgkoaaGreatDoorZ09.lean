/-
  MERGED (a claim has at most 60 files): NWord, NLine, TCmp, TPl, TGood.
-/
import Derived.Test.YtjalhcbomjgkoaaGreatDoorZ08
import Derived.Test.YtjalhcbomjgkoaaGreatDoorZ00
import Derived.Lib.Bytealg
import Derived.Test.YtjalhcbomjgkoaaGreatDoorZ05
/-
  READING A WORD (package nt): letters, digits, and the marks that are told.
-/
namespace Go.Proofs.YtjalhcbomjgkoaaGreatDoor
open Go.RowKit
set_option linter.unusedVariables false

/-- What may go on in a word. -/
def wms (ms : List Int) (n : Int) : Bool := (cls n == 1) || ((cls n == 2) || decide (n ∈ ms))
def wmL (ms : List Int) (l : List Int) : List Int := l.takeWhile (wms ms)
theorem runN_drop (cs : List Int) : ∀ (l : List Int) (n : Int), (l.drop (runN cs l))[0]? = some n → cls n ∉ cs
  | [], n, h => by simp [runN] at h
  | m :: l, n, h => by
    by_cases hm : cls m ∈ cs
    · simp only [runN, if_pos hm, List.drop_succ_cons] at h
      exact runN_drop cs l n h
    · simp only [runN, if_neg hm, List.drop_zero, List.getElem?_cons_zero, Option.some.injEq] at h
      rw [← h]; exact hm
theorem wm_run (ms : List Int) : ∀ l : List Int, wmL ms l = l.take (runN [1, 2] l) ++ wmL ms (l.drop (runN [1, 2] l))
  | [] => rfl
  | n :: l => by
    by_cases hn : cls n ∈ ([1, 2] : List Int)
    · have hw : wms ms n = true := by
        unfold wms
        simp at hn
        rcases hn with h | h <;> simp [h]
      simp only [runN, if_pos hn, List.take_succ_cons, List.drop_succ_cons, List.cons_append]
      rw [← wm_run ms l]
      unfold wmL
      rw [List.takeWhile_cons, if_pos hw]
    · simp only [runN, if_neg hn, List.take_zero, List.drop_zero, List.nil_append]
theorem wm_mark (ms l : List Int) (k : Nat) (c : Int) (h : l[k]? = some c) (hc : cls c ∉ ([1, 2] : List Int)) : wmL ms (l.drop k) = if c ∈ ms then c :: wmL ms (l.drop (k + 1)) else [] := by
  rw [drop_cons l k c h]
  unfold wmL
  rw [List.takeWhile_cons]
  have e : wms ms c = decide (c ∈ ms) := by
    have h1 : (cls c == 1) = false := by rw [beq_eq_false_iff_ne]; intro e; exact hc (by rw [e]; simp)
    have h2 : (cls c == 2) = false := by rw [beq_eq_false_iff_ne]; intro e; exact hc (by rw [e]; simp)
    unfold wms
    rw [h1, h2, Bool.false_or, Bool.false_or]
  rw [e]
  by_cases hm : c ∈ ms <;> simp [hm]
theorem idxFrom_none (x : Int) : ∀ (l : List Int) (i : Nat), idxFrom x i l = -1 → x ∉ l
  | [], _, _ => by simp
  | n :: l, i, h => by
    unfold idxFrom at h
    by_cases e : n = x
    · rw [if_pos e] at h; omega
    · rw [if_neg e] at h
      have := idxFrom_none x l (i + 1) h
      simp [this, Ne.symm e]
theorem idx_none (x : Int) (l : List Int) (h : idx x l = -1) : x ∉ l := idxFrom_none x l 0 h
theorem contains_any (l : List Int) (x : Int) (hl : l.length ≤ 4294967296) (ao : Option Addr) (g o c : Nat) (w : World) (hao : 0 < l.length → ao = some ⟨g, o, none⟩)
    (hc : ∀ (j : Nat) (n : Int), l[j]? = some n → w.cell? ⟨g, o + j, none⟩ = some (.int .i32 n)) :
    Calls Tryz.prog 127 #[.slice ao l.length c, .int .i32 x] w fun e w' => e = .returned (.bool (decide (x ∈ l))) ∧ w' = w := by
  have cI := index_any l x hl ao g o c w hao hc
  have hx : decide (0 ≤ idx x l) = decide (x ∈ l) := by
    rcases idx_range x l with h | ⟨m, h1, h2, h3, h4⟩
    · rw [decide_eq_false (by omega), decide_eq_false (idx_none x l h)]
    · rw [decide_eq_true (by omega), decide_eq_true (List.mem_of_getElem? h3)]
  obtain ⟨i, hi⟩ : ∃ i, i = idx x l := ⟨_, rfl⟩
  rw [← hi] at cI hx
  have HH := Lib.hid hx
  clear hc hao hi hx
  go_enter Tryz.func127, Tryz.ntmps127
  go_wp2_with (go_at_call 131; (with_reducible refine cI.mono ?_); rintro e w' ⟨rfl, rfl⟩)
  go_ret
  exact ⟨ret_bool HH.out, rfl⟩
abbrev twoObj : Obj := .cells #[.int .i64 1, .int .i64 2] 3 (0, 0)
section
variable {w : World} {B b : Nat} {v : Value} {sl : List Int} {N k : Nat} {acc : List Int}
theorem RS.below {W W' : World} (h : RS w B b v sl N k acc W) (hb : Below W.heap.size W W') : RS w B b v sl N k acc W' := h.grown ⟨h.1.below3 hb, below_grown hb _⟩
theorem RS.alloc {W : World} (h : RS w B b v sl N k acc W) (o : Obj) : RS w B b v sl N k acc (W.alloc o) := h.below ((Below.refl _ _).alloc (Nat.le_refl _) o)
theorem RS.drew {W : World} (h : RS w B b v sl N k acc W) : RS w B b v sl N k acc W.drew := h.same ⟨rfl, rfl, rfl, rfl⟩
theorem rs_run_at {W : World} (h : RS w B b v sl N k acc W) (hk : k ≤ sl.length) (hl : sl.length ≤ 4294967296) (hall : AllS sl) (g : Nat) (hg : W.heap[g]? = some twoObj) :
    Calls Tryz.prog 126 #[.pointer (some ⟨b, 0, none⟩), .slice (some ⟨g, 0, none⟩) 2 2] W fun e w' => e = .returned (.string (textOf ((sl.drop k).take (runN [1, 2] (sl.drop k))))) ∧ RS w B b v sl N (k + runN [1, 2] (sl.drop k)) acc w' := by
  have hgb : g ≠ b := by
    intro e
    rw [e, h.1.blk] at hg
    cases hg
  have hcs : ClsAt W g 0 [1, 2] := by
    intro j x hx
    rw [Lib.cell_of_heap hg]
    match j, hx with
    | 0, hx => simp at hx; subst hx; rfl
    | 1, hx => simp at hx; subst hx; rfl
    | j + 2, hx => simp at hx
  exact (run_any h.1 hk hl hall g 0 2 (Array.getElem?_eq_some_iff.1 hg).1 hgb hcs (by decide)).mono fun e w' ⟨h1, h2⟩ => ⟨h1, h.grown h2⟩
theorem rs_wstr (l : List Int) (hl : AllS l) (hacc : acc.length ≤ 1000000) (hll : l.length ≤ 1000000) : EverT (RS w B b v sl N k acc) 55 #[.pointer (some ⟨N, 0, none⟩), .string (textOf l)] (.returned (.tuple #[.int .i64 (textOf l).size, .nilIface])) (RS w B b v sl N k (acc ++ l)) := by
  intro W h
  have hN : N ≤ W.heap.size := by rw [h.2.2.2.1]; exact h.2.2.1.size
  have hlen := (encL_len acc).2
  have hlen2 := (encL_len l).2
  have hz : (textOf l).size = (encL l).length := by rw [Lib.size_eq, textOf_list]
  refine (Tryz.Builder_WriteString_k N N _ (textOf l) W h.2.1 (by rw [Lib.byteCells_length]; omega) hN).mono fun e w' ⟨x, y, z, _⟩ => ⟨x, ?_⟩
  refine ⟨h.1.below2 z h.2.2.2.2.1 h.2.2.2.2.2, .inr ?_, grown_ext h.2.2.1 (z.mono (by rw [h.2.2.2.1]; exact Nat.le_refl _)), h.2.2.2.1, h.2.2.2.2.1, h.2.2.2.2.2⟩
  rw [encL_append, Lib.byteCells_append]
  rw [Lib.strCells_eq, textOf_list] at y
  exact y
theorem rs_peek_end (hk : k = sl.length) (hl : sl.length ≤ 4294967296) : EverT (RS w B b v sl N k acc) 86 #[.pointer (some ⟨b, 0, none⟩)] (.returned (.int .i32 (-1))) (RS w B b v sl N k acc) :=
  fun _ h => (peek_end h.1 hk hl).mono fun _ _ ⟨x, y⟩ => ⟨x, h.same y⟩
/-- The marks' cells, as they were when the builder was made. -/
theorem rs_contains {gm : Nat} {ms : List Int} (x : Int) (c : Nat) (hm : ∀ (j : Nat) (n : Int), ms[j]? = some n → w.cell? ⟨gm, 0 + j, none⟩ = some (.int .i32 n)) (hg : gm < w.heap.size) (hb : gm ≠ b) (hml : ms.length ≤ 100) :
    EverT (RS w B b v sl N k acc) 127 #[.slice (some ⟨gm, 0, none⟩) ms.length c, .int .i32 x] (.returned (.bool (decide (x ∈ ms)))) (RS w B b v sl N k acc) :=
  fun W h => (contains_any ms x (by omega) _ gm 0 c W (fun _ => rfl) (fun j n hn => (World.cell?_of_block (h.2.2.1.block gm hg (fun e => hb (Option.some.inj e)))).trans (hm j n hn))).mono fun _ _ ⟨x, y⟩ => ⟨x, y ▸ h⟩
end
/-- The loop's relation. -/
def WA (w : World) (B b : Nat) (v : Value) (sl ms : List Int) (N k : Nat) (g : Nat) (wr : World) : Prop :=
  ∃ p acc, acc ++ wmL ms (sl.drop p) = wmL ms (sl.drop k) ∧ p = k + acc.length ∧ p ≤ sl.length ∧ sl.length - p ≤ g ∧ RS w B b v sl N p acc wr
def WdPost (B : Nat) (w : World) (b : Nat) (v : Value) (sl ms : List Int) (k : Nat) (e : Ending) (w' : World) : Prop :=
  e = .returned (.string (textOf (wmL ms (sl.drop k)))) ∧ Moves B w b v sl (k + (wmL ms (sl.drop k)).length) w'
set_option maxHeartbeats 8000000 in
set_option maxRecDepth 100000 in
theorem nword_any {B : Nat} {w : World} {b : Nat} {v : Value} {sl : List Int} {k : Nat} (h : Sc B w b v sl k) (hk : k ≤ sl.length) (hl : sl.length ≤ 100000) (hall : AllS sl)
    (gm c : Nat) (ms : List Int) (hm : ∀ (j : Nat) (n : Int), ms[j]? = some n → w.cell? ⟨gm, 0 + j, none⟩ = some (.int .i32 n)) (hg : gm < w.heap.size) (hb : gm ≠ b) (hml : ms.length ≤ 100) (hm1 : (-1 : Int) ∉ ms) :
    Calls Tryz.prog 117 #[.pointer (some ⟨b, 0, none⟩), .slice (some ⟨gm, 0, none⟩) ms.length c] w (WdPost B w b v sl ms k) := by
  have HALL := Lib.hid hall
  have HM := Lib.hid hm
  have HM1 := Lib.hid hm1
  obtain ⟨N, hN⟩ : ∃ N, N = w.heap.size := ⟨_, rfl⟩
  have HST := Lib.hid (rs_start h hN)
  have HNN := Lib.hid hN
  clear h hall hm hm1 hN
  go_enter Tryz.func117, Tryz.ntmps117
  go_wp2
  rw [← HNN.out]
  go_loopg [] (sl.length - k) (fun g wr => WA w B b v sl ms N k g wr)
  case atStart => exact ⟨k, [], rfl, rfl, hk, Nat.le_refl _, HST.out⟩
  case round =>
    clear HST
    have HA := HALL
    obtain ⟨p, acc, hq, hpk, hpl, hpg, hR⟩ := hrel
    have hacc : acc.length ≤ 1000000 := by omega
    obtain ⟨r, hr⟩ : ∃ r, r = runN [1, 2] (sl.drop p) := ⟨_, rfl⟩
    have hrl : p + r ≤ sl.length := by have := runN_le [1, 2] (sl.drop p); rw [List.length_drop] at this; omega
    obtain ⟨t, ht⟩ : ∃ t, t = (sl.drop p).take r := ⟨_, rfl⟩
    have htl : t.length = r := by rw [ht, List.length_take, List.length_drop]; omega
    have hta : AllS t := fun n hn => HA.out n (List.mem_of_mem_drop (List.mem_of_mem_take (ht ▸ hn)))
    have hcut : wmL ms (sl.drop p) = t ++ wmL ms (sl.drop (p + r)) := by rw [ht, ← List.drop_drop, hr]; exact wm_run ms (sl.drop p)
    have cR : ∀ {W : World}, RS w B b v sl N p acc W → Calls Tryz.prog 126 #[.pointer (some ⟨b, 0, none⟩), .slice (some ⟨W.heap.size, 0, none⟩) 2 2] (W.alloc twoObj) fun e w' => e = .returned (.string (textOf t)) ∧ RS w B b v sl N (p + r) acc w' := fun {W} x => by
      have := rs_run_at (x.alloc twoObj) hpl (by omega) HA.out W.heap.size (heap_alloc_new _ _)
      rw [← hr, ← ht] at this
      exact this
    have cR' : ∀ {W : World}, RS w B b v sl N p acc W → Calls Tryz.prog 126 #[.pointer (some ⟨b, 0, none⟩), .slice (some ⟨W.heap.size, 0, none⟩) 2 2] (W.alloc twoObj).drew fun e w' => e = .returned (.string (textOf t)) ∧ RS w B b v sl N (p + r) acc w' := fun {W} x => by
      have := rs_run_at (x.alloc twoObj).drew hpl (by omega) HA.out W.heap.size (heap_alloc_new W _)
      rw [← hr, ← ht] at this
      exact this
    have cW := rs_wstr (w := w) (B := B) (b := b) (v := v) (sl := sl) (N := N) (k := p + r) (acc := acc) t hta hacc (by omega)
    have hq2 : (acc ++ t) ++ wmL ms (sl.drop (p + r)) = wmL ms (sl.drop k) := by rw [← hq, hcut, List.append_assoc]
    obtain ⟨acc2, hacc2⟩ : ∃ a, a = acc ++ t := ⟨_, rfl⟩
    rw [← hacc2] at cW hq2
    have hal2 : acc2.length = acc.length + r := by rw [hacc2, List.length_append, htl]
    obtain ⟨p2, hp2⟩ : ∃ q, q = p + r := ⟨_, rfl⟩
    rw [← hp2] at cR cR' cW hq2 hrl
    have hpk2 : p2 = k + acc2.length := by omega
    have hc0 : ∀ x, sl[p2]? = some x → cls x ∉ ([1, 2] : List Int) := fun x hx => by
      refine runN_drop [1, 2] (sl.drop p) x ?_
      rw [← hr, List.drop_drop, List.getElem?_drop, Nat.add_zero, ← hp2]
      exact hx
    have HC0 := Lib.hid hc0
    have HQ2 := Lib.hid hq2
    have HPK := Lib.hid hpk2
    have hp2g : sl.length - p2 ≤ gk := by omega
    have hal3 : acc2.length ≤ 1000000 := by omega
    clear hq hcut hr ht htl hta hacc2 hal2 hp2 hpk2 hq2 hpk hc0 HA hacc hpg
    by_cases hpe : p2 = sl.length
    · have hfin : wmL ms (sl.drop k) = acc2 := by rw [← HQ2.out, hpe, List.drop_length]; exact List.append_nil _
      have cP := rs_peek_end (w := w) (B := B) (b := b) (v := v) (N := N) (acc := acc2) hpe (by omega)
      have cC := rs_contains (w := w) (B := B) (b := b) (v := v) (sl := sl) (N := N) (k := p2) (acc := acc2) (-1) c HM.out hg hb hml
      rw [decide_eq_false HM1.out] at cC
      have cS := rs_string (w := w) (B := B) (b := b) (v := v) (sl := sl) (N := N) (k := p2) (acc := acc2)
      have HF := Lib.hid hfin
      clear hfin hpe
      go_wp2_with (first
        | (go_at_call 126; (with_reducible refine (cR (by assumption)).mono ?_); rintro e x1 ⟨rfl, hR1⟩)
        | (go_at_call 55; (with_reducible refine (cW.at (by assumption)).mono ?_); rintro e x2 ⟨rfl, hR2⟩)
        | (go_at_call 86; (with_reducible refine (cP.at (by assumption)).mono ?_); rintro e x3 ⟨rfl, hR3⟩)
        | (go_at_call 127; (with_reducible refine (cC.at (by assumption)).mono ?_); rintro e x4 ⟨rfl, hR4⟩)
        | (go_at_call 57; (with_reducible refine (cS.at (by assumption)).mono ?_); rintro e x5 ⟨rfl, hR5⟩))
      (try rw [Exit.noGoto_ret])
      go_ret
      refine ⟨by rw [HF.out]; rfl, ?_⟩
      rw [HF.out, ← HPK.out]
      exact ⟨hR5.1, hR5.2.2.1⟩
    · obtain ⟨x, hx⟩ : ∃ x, sl[p2]? = some x := ⟨_, List.getElem?_eq_getElem (by omega)⟩
      have hcx := HC0.out x hx
      have hmk := wm_mark ms sl p2 x hx hcx
      have cP := rs_peek (w := w) (B := B) (b := b) (v := v) (N := N) (acc := acc2) hx (by omega)
      have cC := rs_contains (w := w) (B := B) (b := b) (v := v) (sl := sl) (N := N) (k := p2) (acc := acc2) x c HM.out hg hb hml
      by_cases hin : x ∈ ms
      · rw [if_pos hin] at hmk
        rw [decide_eq_true hin] at cC
        have hxs : sgn x = true := HALL.out x (List.mem_of_getElem? hx)
        have cN := rs_next (w := w) (B := B) (b := b) (v := v) (N := N) (acc := acc2) hx (by omega)
        have cWr := rs_write (w := w) (B := B) (b := b) (v := v) (sl := sl) (N := N) (k := p2 + 1) (acc := acc2) x hxs hal3
        obtain ⟨g, rfl⟩ : ∃ g, gk = g + 1 := ⟨gk - 1, by omega⟩
        have hfin : ∀ W, RS w B b v sl N (p2 + 1) (acc2 ++ [x]) W → WA w B b v sl ms N k g W := fun W y => ⟨p2 + 1, acc2 ++ [x], by rw [← HQ2.out, hmk, List.append_assoc]; rfl, by have := HPK.out; rw [List.length_append]; simp; omega, by omega, by omega, y⟩
        have HF := Lib.hid hfin
        clear hfin hpe hx hcx hmk hin hxs
        go_wp2_with (first
          | (go_at_call 126; (with_reducible refine (cR (by assumption)).mono ?_); rintro e x1 ⟨rfl, hR1⟩)
          | (go_at_call 55; (with_reducible refine (cW.at (by assumption)).mono ?_); rintro e x2 ⟨rfl, hR2⟩)
          | (go_at_call 86; (with_reducible refine (cP.at (by assumption)).mono ?_); rintro e x3 ⟨rfl, hR3⟩)
          | (go_at_call 127; (with_reducible refine (cC.at (by assumption)).mono ?_); rintro e x4 ⟨rfl, hR4⟩)
          | (go_at_call 87; (with_reducible refine (cN.at (by assumption)).mono ?_); rintro e x5 ⟨rfl, hR5⟩)
          | (go_at_call 98; (with_reducible refine (cWr.at (by assumption)).mono ?_); rintro e x6 ⟨rfl, hR6⟩))
        go_roundg g
        case measure => omega
        case rel => exact HF.out _ hR6
      · rw [if_neg hin] at hmk
        rw [decide_eq_false hin] at cC
        have cS := rs_string (w := w) (B := B) (b := b) (v := v) (sl := sl) (N := N) (k := p2) (acc := acc2)
        have hfin : wmL ms (sl.drop k) = acc2 := by rw [← HQ2.out, hmk, List.append_nil]
        have HF := Lib.hid hfin
        clear hfin hpe hx hcx hmk hin
        go_wp2_with (first
          | (go_at_call 126; (with_reducible refine (cR (by assumption)).mono ?_); rintro e x1 ⟨rfl, hR1⟩)
          | (go_at_call 55; (with_reducible refine (cW.at (by assumption)).mono ?_); rintro e x2 ⟨rfl, hR2⟩)
          | (go_at_call 86; (with_reducible refine (cP.at (by assumption)).mono ?_); rintro e x3 ⟨rfl, hR3⟩)
          | (go_at_call 127; (with_reducible refine (cC.at (by assumption)).mono ?_); rintro e x4 ⟨rfl, hR4⟩)
          | (go_at_call 57; (with_reducible refine (cS.at (by assumption)).mono ?_); rintro e x5 ⟨rfl, hR5⟩))
        (try rw [Exit.noGoto_ret])
        go_ret
        refine ⟨by rw [HF.out]; rfl, ?_⟩
        rw [HF.out, ← HPK.out]
        exact ⟨hR5.1, hR5.2.2.1⟩
end Go.Proofs.YtjalhcbomjgkoaaGreatDoor

/-
  BLANKS WITHIN A LINE, A LINE's END (package nt).
-/
namespace Go.Proofs.YtjalhcbomjgkoaaGreatDoor
open Go.RowKit
set_option linter.unusedVariables false

section
variable {w : World} {B b : Nat} {v : Value} {sl : List Int} {k : Nat}
theorem Moves.to {k' : Nat} {W W' : World} (h : Moves B w b v sl k W) (m : Moves B W b v sl k' W') : Moves B w b v sl k' W' := ⟨m.1, grown_trans h.2 m.2⟩
theorem Moves.same {W W' : World} (h : Moves B w b v sl k W) (s : Same W W') : Moves B w b v sl k W' := ⟨s.sc h.1, grown_trans h.2 (same_grown s _)⟩
theorem Moves.start (h : Sc B w b v sl k) : Moves B w b v sl k w := ⟨h, same_grown (Same.refl _) _⟩
theorem mv_end (hk : k ≤ sl.length) (hl : sl.length ≤ 4294967296) {W : World} (h : Moves B w b v sl k W) : Calls Tryz.prog 59 #[.pointer (some ⟨b, 0, none⟩)] W fun e w' => e = .returned (.bool (decide (k = sl.length))) ∧ Moves B w b v sl k w' := by
  by_cases he : k = sl.length
  · rw [decide_eq_true he]; exact (end_yes h.1 he hl).mono fun _ _ ⟨x, y⟩ => ⟨x, h.same y⟩
  · rw [decide_eq_false he]; exact (end_no h.1 (by omega) hl).mono fun _ _ ⟨x, y⟩ => ⟨x, h.same y⟩
theorem mv_place {W : World} (h : Moves B w b v sl k W) : Calls Tryz.prog 62 #[.pointer (some ⟨b, 0, none⟩)] W fun e w' => e = .returned (.int .i64 k) ∧ Moves B w b v sl k w' := (place_any h.1).mono fun _ _ ⟨x, y⟩ => ⟨x, h.same y⟩
theorem mv_peek {x : Int} (hx : sl[k]? = some x) (hl : sl.length ≤ 4294967296) {W : World} (h : Moves B w b v sl k W) : Calls Tryz.prog 86 #[.pointer (some ⟨b, 0, none⟩)] W fun e w' => e = .returned (.int .i32 x) ∧ Moves B w b v sl k w' := (peek_sign h.1 hx hl).mono fun _ _ ⟨x, y⟩ => ⟨x, h.same y⟩
/-- The sign at a place, or -1. -/
def pk (sl : List Int) (k : Nat) : Int := (sl[k]?).getD (-1)
theorem mv_pk (hk : k ≤ sl.length) (hl : sl.length ≤ 4294967296) {W : World} (h : Moves B w b v sl k W) : Calls Tryz.prog 86 #[.pointer (some ⟨b, 0, none⟩)] W fun e w' => e = .returned (.int .i32 (pk sl k)) ∧ Moves B w b v sl k w' := by
  unfold pk
  cases hx : sl[k]? with
  | none => exact (peek_end h.1 (by have := List.getElem?_eq_none_iff.1 hx; omega) hl).mono fun _ _ ⟨x, y⟩ => ⟨x, h.same y⟩
  | some x => exact mv_peek hx hl h
theorem mv_next {x : Int} (hx : sl[k]? = some x) (hl : sl.length ≤ 4294967296) {W : World} (h : Moves B w b v sl k W) : Calls Tryz.prog 87 #[.pointer (some ⟨b, 0, none⟩)] W fun e w' => e = .returned (.int .i32 x) ∧ Moves B w b v sl (k + 1) w' := (next_sign' h.1 hx hl).mono fun _ _ ⟨x, y⟩ => ⟨x, h.to y⟩
theorem mv_back (j : Nat) (hj : j ≤ sl.length) (hl : sl.length ≤ 4294967296) {W : World} (h : Moves B w b v sl k W) : Calls Tryz.prog 105 #[.pointer (some ⟨b, 0, none⟩), .int .i64 j] W fun e w' => e = .returned (.bool true) ∧ Moves B w b v sl j w' := (back_yes h.1 j hj hl).mono fun _ _ ⟨x, y⟩ => ⟨x, h.to y⟩
theorem mv_is (hk : k ≤ sl.length) (hl : sl.length ≤ 4294967296) (c : Int) (s : ByteArray) (hp : Parts s.data.toList [c] []) (hsz : s.size ≤ 4294967296) {W : World} (h : Moves B w b v sl k W) :
    Calls Tryz.prog 88 #[.pointer (some ⟨b, 0, none⟩), .string s] W fun e w' => e = .returned (.bool (decide (sl[k]? = some c))) ∧ Moves B w b v sl (k + if sl[k]? = some c then 1 else 0) w' := (is_one h.1 hk hl c s hp hsz).mono fun _ _ ⟨x, y⟩ => ⟨x, h.to y⟩
theorem mv_is_yes (hk : k ≤ sl.length) (hl : sl.length ≤ 4294967296) (c : Int) (s : ByteArray) (hp : Parts s.data.toList [c] []) (hsz : s.size ≤ 4294967296) (hx : sl[k]? = some c) {W : World} (h : Moves B w b v sl k W) :
    Calls Tryz.prog 88 #[.pointer (some ⟨b, 0, none⟩), .string s] W fun e w' => e = .returned (.bool true) ∧ Moves B w b v sl (k + 1) w' := by
  have := mv_is hk hl c s hp hsz h
  rw [if_pos hx, decide_eq_true hx] at this
  exact this
theorem mv_is_no (hk : k ≤ sl.length) (hl : sl.length ≤ 4294967296) (c : Int) (s : ByteArray) (hp : Parts s.data.toList [c] []) (hsz : s.size ≤ 4294967296) (hx : ¬ sl[k]? = some c) {W : World} (h : Moves B w b v sl k W) :
    Calls Tryz.prog 88 #[.pointer (some ⟨b, 0, none⟩), .string s] W fun e w' => e = .returned (.bool false) ∧ Moves B w b v sl k w' := by
  have := mv_is hk hl c s hp hsz h
  rw [if_neg hx, decide_eq_false hx] at this
  exact this
theorem pre_two (c d : Int) (sl : List Int) (p : Nat) : [c, d].isPrefixOf (sl.drop p) = decide (sl[p]? = some c ∧ sl[p + 1]? = some d) := by
  cases hx : sl[p]? with
  | none => rw [List.drop_eq_nil_of_le (List.getElem?_eq_none_iff.1 hx)]; simp
  | some x =>
    rw [drop_cons sl p x hx]
    have e1 := pre_one d sl (p + 1)
    rw [show [c, d].isPrefixOf (x :: sl.drop (p + 1)) = ((c == x) && [d].isPrefixOf (sl.drop (p + 1))) from rfl, e1]
    by_cases h1 : x = c
    · subst h1; simp
    · have : (c == x) = false := by simpa using Ne.symm h1
      rw [this]; simp [h1]
theorem mv_is2_yes (hk : k ≤ sl.length) (hl : sl.length ≤ 4294967296) (c d : Int) (s : ByteArray) (hp : Parts s.data.toList [c, d] []) (hsz : s.size ≤ 4294967296) (hx : sl[k]? = some c ∧ sl[k + 1]? = some d) {W : World} (h : Moves B w b v sl k W) :
    Calls Tryz.prog 88 #[.pointer (some ⟨b, 0, none⟩), .string s] W fun e w' => e = .returned (.bool true) ∧ Moves B w b v sl (k + 2) w' :=
  (is_any h.1 hk hl s [c, d] hp hsz).mono fun e w' ⟨x, y⟩ => by
    unfold isN at y
    rw [pre_two, decide_eq_true hx] at x y
    rw [if_pos rfl] at y
    exact ⟨x, h.to y⟩
theorem mv_is2_no (hk : k ≤ sl.length) (hl : sl.length ≤ 4294967296) (c d : Int) (s : ByteArray) (hp : Parts s.data.toList [c, d] []) (hsz : s.size ≤ 4294967296) (hx : ¬ (sl[k]? = some c ∧ sl[k + 1]? = some d)) {W : World} (h : Moves B w b v sl k W) :
    Calls Tryz.prog 88 #[.pointer (some ⟨b, 0, none⟩), .string s] W fun e w' => e = .returned (.bool false) ∧ Moves B w b v sl k w' :=
  (is_any h.1 hk hl s [c, d] hp hsz).mono fun e w' ⟨x, y⟩ => by
    unfold isN at y
    rw [pre_two, decide_eq_false hx] at x y
    rw [if_neg (by decide), Nat.add_zero] at y
    exact ⟨x, h.to y⟩
end
theorem parts_two (c d : Int) (h0 : 0 ≤ c) (h1 : c ≤ 127) (h2 : 0 ≤ d) (h3 : d ≤ 127) : Parts (⟨#[c.toNat.toUInt8, d.toNat.toUInt8]⟩ : ByteArray).data.toList [c, d] [] := by
  refine ⟨?_, fun n hn => ?_, .inl rfl⟩
  · rw [List.append_nil, encL_cons, encL_cons, encL_nil, List.append_nil]
    unfold Lib.encodeRune
    rw [Lib.encodeRuneZ_one h0 h1, Lib.encodeRuneZ_one h2 h3]
    rfl
  · simp at hn
    rw [sgn_iff]; omega
theorem p1310 : Parts (⟨#[13, 10]⟩ : ByteArray).data.toList [13, 10] [] := parts_two 13 10 (by decide) (by decide) (by decide) (by decide)
theorem p9494 : Parts (⟨#[94, 94]⟩ : ByteArray).data.toList [94, 94] [] := parts_two 94 94 (by decide) (by decide) (by decide) (by decide)
/-! ### The plain functions -/
def gpc (n : Int) : Bool := (n == 32) || (n == 9)
def gapP (sl : List Int) (k : Nat) : Nat := k + ((sl.drop k).takeWhile gpc).length
def notN (n : Int) : Bool := !(n == 10)
def noteF (sl : List Int) (k : Nat) : Nat := k + ((sl.drop k).takeWhile notN).length
def noteP (sl : List Int) (k : Nat) : Nat := if sl[k]? = some 35 then noteF sl k else k
theorem while_step (f : Int → Bool) (sl : List Int) (k : Nat) (c : Int) (h : sl[k]? = some c) (hf : f c = true) : k + ((sl.drop k).takeWhile f).length = (k + 1) + ((sl.drop (k + 1)).takeWhile f).length := by
  rw [drop_cons sl k c h, List.takeWhile_cons, if_pos hf, List.length_cons]; omega
theorem while_stop (f : Int → Bool) (sl : List Int) (k : Nat) (h : ∀ c, sl[k]? = some c → f c = false) : k + ((sl.drop k).takeWhile f).length = k := by
  cases hx : sl[k]? with
  | none => rw [List.drop_eq_nil_of_le (List.getElem?_eq_none_iff.1 hx)]; rfl
  | some c => rw [drop_cons sl k c hx, List.takeWhile_cons, if_neg (by rw [h c hx]; decide)]; rfl
theorem takeWhile_len (f : Int → Bool) : ∀ l : List Int, (l.takeWhile f).length ≤ l.length
  | [] => Nat.le_refl _
  | n :: l => by rw [List.takeWhile_cons]; split <;> simp [takeWhile_len f l]
theorem while_le (f : Int → Bool) (sl : List Int) (k : Nat) (h : k ≤ sl.length) : k + ((sl.drop k).takeWhile f).length ≤ sl.length := by
  have := takeWhile_len f (sl.drop k)
  rw [List.length_drop] at this; omega
theorem gapP_le (sl : List Int) (k : Nat) (h : k ≤ sl.length) : gapP sl k ≤ sl.length ∧ k ≤ gapP sl k := ⟨while_le _ _ _ h, by unfold gapP; omega⟩
theorem noteP_le (sl : List Int) (k : Nat) (h : k ≤ sl.length) : noteP sl k ≤ sl.length ∧ k ≤ noteP sl k := by
  unfold noteP noteF
  split
  · exact ⟨while_le _ _ _ h, by omega⟩
  · exact ⟨h, Nat.le_refl _⟩
/-- The line's end, if it may come at a place. -/
def overE (sl : List Int) (i : Nat) : Nat × Bool :=
  if i = sl.length then (i, true) else if sl[i]? = some 10 then (i + 1, true) else if sl[i]? = some 13 ∧ sl[i + 1]? = some 10 then (i + 2, true) else (i, false)
def overP (sl : List Int) (k : Nat) : Nat × Bool := overE sl (noteP sl (gapP sl k))
theorem overE_le (sl : List Int) (i : Nat) (h : i ≤ sl.length) : (overE sl i).1 ≤ sl.length ∧ i ≤ (overE sl i).1 ∧ ((overE sl i).2 = true → i < sl.length → i < (overE sl i).1) := by
  unfold overE
  split
  · exact ⟨by dsimp only; omega, Nat.le_refl _, fun _ h => by omega⟩
  split
  · rename_i h1 h2
    have := (List.getElem?_eq_some_iff.1 h2).1
    exact ⟨by dsimp only; omega, by dsimp only; omega, fun _ _ => by dsimp only; omega⟩
  split
  · rename_i h1 h2 h3
    have := (List.getElem?_eq_some_iff.1 h3.2).1
    exact ⟨by dsimp only; omega, by dsimp only; omega, fun _ _ => by dsimp only; omega⟩
  · exact ⟨h, Nat.le_refl _, fun h => by cases h⟩
theorem overP_le (sl : List Int) (k : Nat) (h : k ≤ sl.length) : (overP sl k).1 ≤ sl.length ∧ k ≤ (overP sl k).1 ∧ ((overP sl k).2 = true → k < sl.length → k < (overP sl k).1) := by
  have h1 := gapP_le sl k h
  have h2 := noteP_le sl (gapP sl k) h1.1
  have h3 := overE_le sl _ h2.1
  refine ⟨h3.1, by unfold overP; omega, fun h4 h5 => ?_⟩
  unfold overP at *
  by_cases h6 : noteP sl (gapP sl k) = sl.length
  · omega
  · have := h3.2.2 h4 (by omega); omega
def SkI (B : Nat) (w : World) (b : Nat) (v : Value) (sl : List Int) (k g : Nat) (wr : World) : Prop :=
  ∃ p, gapP sl p = gapP sl k ∧ p ≤ sl.length ∧ sl.length - p ≤ g ∧ Moves B w b v sl p wr
set_option maxHeartbeats 4000000 in
set_option maxRecDepth 100000 in
theorem nskip_any {B : Nat} {w : World} {b : Nat} {v : Value} {sl : List Int} {k : Nat} (h : Sc B w b v sl k) (hk : k ≤ sl.length) (hl : sl.length ≤ 4294967296) :
    Calls Tryz.prog 85 #[.pointer (some ⟨b, 0, none⟩)] w fun e w' => e = .returned (.tuple #[]) ∧ Moves B w b v sl (gapP sl k) w' := by
  have HS := Lib.hid (Moves.start h)
  clear h
  go_enter Tryz.func85, Tryz.ntmps85
  go_wp2
  go_loopg [] (sl.length - k) (fun g wr => SkI B w b v sl k g wr)
  case atStart => exact ⟨k, rfl, hk, Nat.le_refl _, HS.out⟩
  case round =>
    obtain ⟨p, hp, hpl, hpg, hM⟩ := hrel
    have HP := Lib.hid hp
    by_cases h1 : sl[p]? = some 32
    · have c1 := mv_is_yes hpl hl 32 _ p32 (by decide) h1 hM
      have hlt := (List.getElem?_eq_some_iff.1 h1).1
      obtain ⟨g, rfl⟩ : ∃ g, gk = g + 1 := ⟨gk - 1, by omega⟩
      have HF : Hid (gapP sl (p + 1) = gapP sl k) := Lib.hid (by rw [← hp]; exact (while_step gpc sl p 32 h1 rfl).symm)
      clear hp h1 hM
      go_wp2_with (go_at_call 88; (with_reducible refine c1.mono ?_); rintro e x1 ⟨rfl, m1⟩)
      go_roundg g
      case measure => omega
      case rel => exact ⟨p + 1, HF.out, by omega, by omega, m1⟩
    · have c1 := mv_is_no hpl hl 32 _ p32 (by decide) h1 hM
      by_cases h2 : sl[p]? = some 9
      · have c2 := fun (W : World) (x : Moves B w b v sl p W) => mv_is_yes hpl hl 9 _ p9 (by decide) h2 x
        have hlt := (List.getElem?_eq_some_iff.1 h2).1
        obtain ⟨g, rfl⟩ : ∃ g, gk = g + 1 := ⟨gk - 1, by omega⟩
        have HF : Hid (gapP sl (p + 1) = gapP sl k) := Lib.hid (by rw [← hp]; exact (while_step gpc sl p 9 h2 rfl).symm)
        clear hp h1 h2 hM
        go_wp2_with (first
          | (go_at_call 88; (with_reducible refine c1.mono ?_); rintro e x1 ⟨rfl, m1⟩)
          | (go_at_call 88; (with_reducible refine (c2 _ (by assumption)).mono ?_); rintro e x2 ⟨rfl, m2⟩))
        go_roundg g
        case measure => omega
        case rel => exact ⟨p + 1, HF.out, by omega, by omega, m2⟩
      · have c2 := fun (W : World) (x : Moves B w b v sl p W) => mv_is_no hpl hl 9 _ p9 (by decide) h2 x
        have HF : Hid (gapP sl k = p) := Lib.hid (by
          rw [← hp]
          refine while_stop gpc sl p (fun c hc => ?_)
          unfold gpc
          have n1 : c ≠ 32 := fun e => h1 (by rw [hc, e])
          have n2 : c ≠ 9 := fun e => h2 (by rw [hc, e])
          simp [n1, n2])
        clear hp h1 h2 hM
        go_wp2_with (first
          | (go_at_call 88; (with_reducible refine c1.mono ?_); rintro e x1 ⟨rfl, m1⟩)
          | (go_at_call 88; (with_reducible refine (c2 _ (by assumption)).mono ?_); rintro e x2 ⟨rfl, m2⟩))
        (try rw [Exit.noGoto_ret])
        go_end0
        exact ⟨rfl, by rw [HF.out]; exact m2⟩
def NoI (B : Nat) (w : World) (b : Nat) (v : Value) (sl : List Int) (k g : Nat) (wr : World) : Prop :=
  ∃ p, noteF sl p = noteF sl k ∧ p ≤ sl.length ∧ sl.length - p ≤ g ∧ Moves B w b v sl p wr
/-- What the four ways of a line's end say of the three calls at its end. -/
theorem over_ways (sl : List Int) (i : Nat) (h : i ≤ sl.length) :
    (i = sl.length ∧ overE sl i = (i, true)) ∨ (¬ i = sl.length ∧ ((sl[i]? = some 10 ∧ overE sl i = (i + 1, true)) ∨ (¬ sl[i]? = some 10 ∧ (((sl[i]? = some 13 ∧ sl[i + 1]? = some 10) ∧ overE sl i = (i + 2, true)) ∨ (¬ (sl[i]? = some 13 ∧ sl[i + 1]? = some 10) ∧ overE sl i = (i, false)))))) := by
  unfold overE
  by_cases h1 : i = sl.length
  · exact .inl ⟨h1, by rw [if_pos h1]⟩
  refine .inr ⟨h1, ?_⟩
  rw [if_neg h1]
  by_cases h2 : sl[i]? = some 10
  · exact .inl ⟨h2, by rw [if_pos h2]⟩
  refine .inr ⟨h2, ?_⟩
  rw [if_neg h2]
  by_cases h3 : sl[i]? = some 13 ∧ sl[i + 1]? = some 10
  · exact .inl ⟨h3, by rw [if_pos h3]⟩
  · exact .inr ⟨h3, by rw [if_neg h3]⟩
/-- The three calls at a line's end, at place i: one for each way. -/
def Three (B : Nat) (w : World) (b : Nat) (v : Value) (sl : List Int) (i : Nat) (e0 e1 e2 : Bool) (j1 j2 : Nat) : Prop :=
  (∀ {W : World}, Moves B w b v sl i W → Calls Tryz.prog 59 #[.pointer (some ⟨b, 0, none⟩)] W fun e w' => e = .returned (.bool e0) ∧ Moves B w b v sl i w') ∧
  (∀ {W : World}, Moves B w b v sl i W → Calls Tryz.prog 88 #[.pointer (some ⟨b, 0, none⟩), .string ⟨#[10]⟩] W fun e w' => e = .returned (.bool e1) ∧ Moves B w b v sl j1 w') ∧
  (∀ {W : World}, Moves B w b v sl i W → Calls Tryz.prog 88 #[.pointer (some ⟨b, 0, none⟩), .string ⟨#[13, 10]⟩] W fun e w' => e = .returned (.bool e2) ∧ Moves B w b v sl j2 w')
theorem three_ways {B : Nat} {w : World} {b : Nat} {v : Value} (sl : List Int) (i : Nat) (h : i ≤ sl.length) (hl : sl.length ≤ 4294967296) : ∃ e0 e1 e2 j1 j2, Three B w b v sl i e0 e1 e2 j1 j2 ∧
    ((e0 = true ∧ i = sl.length ∧ overE sl i = (i, true)) ∨ (e0 = false ∧ ¬ i = sl.length ∧ ((e1 = true ∧ overE sl i = (j1, true)) ∨ (e1 = false ∧ j1 = i ∧ ((e2 = true ∧ overE sl i = (j2, true)) ∨ (e2 = false ∧ overE sl i = (j2, false))))))) := by
  have hE := fun {W : World} (x : Moves B w b v sl i W) => mv_end h hl x
  by_cases h2 : sl[i]? = some 10
  · have h3 : ¬ (sl[i]? = some 13 ∧ sl[i + 1]? = some 10) := fun e => by rw [h2] at e; exact absurd e.1 (by decide)
    refine ⟨_, _, _, _, _, ⟨hE, fun x => mv_is_yes h hl 10 _ p10 (by decide) h2 x, fun x => mv_is2_no h hl 13 10 _ p1310 (by decide) h3 x⟩, ?_⟩
    rcases over_ways sl i h with ⟨a, b⟩ | ⟨a, ⟨b, c⟩ | ⟨b, _⟩⟩
    · exact .inl ⟨decide_eq_true a, a, b⟩
    · exact .inr ⟨decide_eq_false a, a, .inl ⟨rfl, c⟩⟩
    · exact absurd h2 b
  · by_cases h3 : sl[i]? = some 13 ∧ sl[i + 1]? = some 10
    · refine ⟨_, _, _, _, _, ⟨hE, fun x => mv_is_no h hl 10 _ p10 (by decide) h2 x, fun x => mv_is2_yes h hl 13 10 _ p1310 (by decide) h3 x⟩, ?_⟩
      rcases over_ways sl i h with ⟨a, b⟩ | ⟨a, ⟨b, c⟩ | ⟨b, ⟨c, d⟩ | ⟨c, d⟩⟩⟩
      · exact .inl ⟨decide_eq_true a, a, b⟩
      · exact absurd b h2
      · exact .inr ⟨decide_eq_false a, a, .inr ⟨rfl, rfl, .inl ⟨rfl, d⟩⟩⟩
      · exact absurd h3 c
    · refine ⟨_, _, _, _, _, ⟨hE, fun x => mv_is_no h hl 10 _ p10 (by decide) h2 x, fun x => mv_is2_no h hl 13 10 _ p1310 (by decide) h3 x⟩, ?_⟩
      rcases over_ways sl i h with ⟨a, b⟩ | ⟨a, ⟨b, c⟩ | ⟨b, ⟨c, d⟩ | ⟨c, d⟩⟩⟩
      · exact .inl ⟨decide_eq_true a, a, b⟩
      · exact absurd b h2
      · exact absurd c h3
      · exact .inr ⟨decide_eq_false a, a, .inr ⟨rfl, rfl, .inr ⟨rfl, d⟩⟩⟩
def EnPost (B : Nat) (w : World) (b : Nat) (v : Value) (sl : List Int) (r : Nat × Bool) (e : Ending) (w' : World) : Prop := e = .returned (.bool r.2) ∧ Moves B w b v sl r.1 w'
set_option maxHeartbeats 8000000 in
set_option maxRecDepth 100000 in
theorem nend_any {B : Nat} {w : World} {b : Nat} {v : Value} {sl : List Int} {k : Nat} (h : Sc B w b v sl k) (hk : k ≤ sl.length) (hl : sl.length ≤ 4294967296) :
    Calls Tryz.prog 60 #[.pointer (some ⟨b, 0, none⟩)] w (EnPost B w b v sl (overP sl k)) := by
  have cS : ∀ {W : World}, Moves B w b v sl k W → Calls Tryz.prog 85 #[.pointer (some ⟨b, 0, none⟩)] W fun e w' => e = .returned (.tuple #[]) ∧ Moves B w b v sl (gapP sl k) w' := fun {W} x => (nskip_any x.1 hk hl).mono fun _ _ ⟨a, y⟩ => ⟨a, x.to y⟩
  have h0 := Moves.start h
  obtain ⟨r, hr⟩ : ∃ r, r = overP sl k := ⟨_, rfl⟩
  rw [← hr]
  unfold overP at hr
  have hq := (gapP_le sl k hk).1
  obtain ⟨q, hqq⟩ : ∃ q, q = gapP sl k := ⟨_, rfl⟩
  rw [← hqq] at cS hr hq
  have hi := (noteP_le sl q hq).1
  obtain ⟨i, hii⟩ : ∃ i, i = noteP sl q := ⟨_, rfl⟩
  rw [← hii] at hr hi
  obtain ⟨e0, e1, e2, j1, j2, ⟨cE, cN, cR⟩, hw⟩ := three_ways (B := B) (w := w) (b := b) (v := v) sl i hi hl
  have HR := Lib.hid hr
  clear h hr hqq
  have cP : ∀ {W : World}, Moves B w b v sl q W → Calls Tryz.prog 86 #[.pointer (some ⟨b, 0, none⟩)] W fun e w' => e = .returned (.int .i32 (pk sl q)) ∧ Moves B w b v sl q w' := fun {W} x => mv_pk hq hl x
  by_cases h35 : sl[q]? = some 35
  · have hp : pk sl q = 35 := by unfold pk; rw [h35]; rfl
    rw [hp] at cP
    have hif : i = noteF sl q := by rw [hii]; unfold noteP; rw [if_pos h35]
    have HI := Lib.hid hif
    clear hp hif hii h35
    go_enter Tryz.func60, Tryz.ntmps60
    go_wp2_with (first
      | (go_at_call 85; (with_reducible refine (cS (by assumption)).mono ?_); rintro e x1 ⟨rfl, m1⟩)
      | (go_at_call 86; (with_reducible refine (cP (by assumption)).mono ?_); rintro e x2 ⟨rfl, m2⟩))
    go_loopg [] (sl.length - q) (fun g wr => NoI B w b v sl q g wr)
    case atStart => exact ⟨q, rfl, hq, Nat.le_refl _, m2⟩
    case round =>
      clear m1 m2 h0 cP cS
      obtain ⟨p, hp, hpl, hpg, hM⟩ := hrel
      have HP := Lib.hid hp
      have cEp : ∀ {W : World}, Moves B w b v sl p W → Calls Tryz.prog 59 #[.pointer (some ⟨b, 0, none⟩)] W fun e w' => e = .returned (.bool (decide (p = sl.length))) ∧ Moves B w b v sl p w' := fun {W} x => mv_end hpl hl x
      clear hp
      by_cases hpe : p = sl.length
      · rw [decide_eq_true hpe] at cEp
        have hpi : i = p := by
          rw [HI.out, ← HP.out]
          exact while_stop notN sl p (fun c hc => by rw [hpe, List.getElem?_eq_none (Nat.le_refl _)] at hc; cases hc)
        subst hpi
        rcases hw with ⟨rfl, _, w1⟩ | ⟨_, hne, _⟩
        · have HW := Lib.hid w1
          clear w1 hpe
          go_wp2_with (go_at_call 59; (with_reducible refine (cEp (by assumption)).mono ?_); rintro e x1 ⟨rfl, m1⟩; clear hM; have hM := m1; clear m1)
          (try rw [Exit.noGoto_ret])
          go_ret
          rw [HR.out, HW.out]
          exact ⟨rfl, hM⟩
        · exact absurd hpe hne
      · rw [decide_eq_false hpe] at cEp
        obtain ⟨c, hx⟩ : ∃ c, sl[p]? = some c := ⟨_, List.getElem?_eq_getElem (by omega)⟩
        have cPp : ∀ {W : World}, Moves B w b v sl p W → Calls Tryz.prog 86 #[.pointer (some ⟨b, 0, none⟩)] W fun e w' => e = .returned (.int .i32 c) ∧ Moves B w b v sl p w' := fun {W} x => mv_peek hx hl x
        by_cases hc : c = 10
        · have hpi : i = p := by
            rw [HI.out, ← HP.out]
            exact while_stop notN sl p (fun c' hc' => by rw [hx, hc] at hc'; cases hc'; rfl)
          subst hpi
          subst hc
          clear hx
          rcases hw with ⟨rfl, _, w1⟩ | ⟨rfl, _, ⟨rfl, w1⟩ | ⟨rfl, rfl, ⟨rfl, w1⟩ | ⟨rfl, w1⟩⟩⟩
          all_goals
            have HW := Lib.hid w1
            clear w1 hpe
            go_wp2_with (first
              | (go_at_call 59; (with_reducible refine (cE (by assumption)).mono ?_); rintro e x1 ⟨rfl, m1⟩; clear hM; have hM := m1; clear m1)
              | (go_at_call 86; (with_reducible refine (cPp (by assumption)).mono ?_); rintro e x4 ⟨rfl, m4⟩; clear hM; have hM := m4; clear m4)
              | (go_at_call 88; (with_reducible refine (cN (by assumption)).mono ?_); rintro e x2 ⟨rfl, m2⟩; clear hM; have hM := m2; clear m2)
              | (go_at_call 88; (with_reducible refine (cR (by assumption)).mono ?_); rintro e x3 ⟨rfl, m3⟩; clear hM; have hM := m3; clear m3))
            (try rw [Exit.noGoto_ret])
            go_ret
            rw [HR.out, HW.out]
            exact ⟨rfl, hM⟩
        · have g10 : (c != 10) = true := by simpa using hc
          have cX : ∀ {W : World}, Moves B w b v sl p W → Calls Tryz.prog 87 #[.pointer (some ⟨b, 0, none⟩)] W fun e w' => e = .returned (.int .i32 c) ∧ Moves B w b v sl (p + 1) w' := fun {W} x => mv_next hx hl x
          obtain ⟨g, rfl⟩ : ∃ g, gk = g + 1 := ⟨gk - 1, by omega⟩
          have HF : Hid (noteF sl (p + 1) = noteF sl q) := Lib.hid (by rw [← HP.out]; exact (while_step notN sl p c hx (by unfold notN; simpa using hc)).symm)
          clear hx hc hw
          go_wp2_with (first
            | (go_at_call 59; (with_reducible refine (cEp (by assumption)).mono ?_); rintro e x1 ⟨rfl, m1⟩)
            | (go_at_call 86; (with_reducible refine (cPp (by assumption)).mono ?_); rintro e x4 ⟨rfl, m4⟩)
            | (go_at_call 87; (with_reducible refine (cX (by assumption)).mono ?_); rintro e x5 ⟨rfl, m5⟩))
          go_roundg g
          case measure => omega
          case rel => exact ⟨p + 1, HF.out, by omega, by omega, m5⟩
  · have hiq : i = q := by rw [hii]; unfold noteP; rw [if_neg h35]
    have hp : (pk sl q == 35) = false := by
      unfold pk
      cases hx : sl[q]? with
      | none => rfl
      | some c => rw [hx] at h35; simpa using h35
    subst hiq
    obtain ⟨z, hz⟩ : ∃ z, z = pk sl i := ⟨_, rfl⟩
    rw [← hz] at cP hp
    clear hii h35 hz
    rcases hw with ⟨rfl, _, w1⟩ | ⟨rfl, _, ⟨rfl, w1⟩ | ⟨rfl, rfl, ⟨rfl, w1⟩ | ⟨rfl, w1⟩⟩⟩
    all_goals
      have HW := Lib.hid w1
      clear w1
      go_enter Tryz.func60, Tryz.ntmps60
      go_wp2_with (first
        | (go_at_call 85; (with_reducible refine (cS (by assumption)).mono ?_); rintro e x1 ⟨rfl, m1⟩; clear h0; have hM := m1; clear m1)
        | (go_at_call 86; (with_reducible refine (cP (by assumption)).mono ?_); rintro e x2 ⟨rfl, m2⟩; clear hM; have hM := m2; clear m2)
        | (go_at_call 59; (with_reducible refine (cE (by assumption)).mono ?_); rintro e x3 ⟨rfl, m3⟩; clear hM; have hM := m3; clear m3)
        | (go_at_call 88; (with_reducible refine (cN (by assumption)).mono ?_); rintro e x4 ⟨rfl, m4⟩; clear hM; have hM := m4; clear m4)
        | (go_at_call 88; (with_reducible refine (cR (by assumption)).mono ?_); rintro e x5 ⟨rfl, m5⟩; clear hM; have hM := m5; clear m5))
      go_ret
      rw [HR.out, HW.out]
      exact ⟨rfl, hM⟩
end Go.Proofs.YtjalhcbomjgkoaaGreatDoor

/-
  COMPARING: integers, texts, lists of texts; the first that isn't 0; whether a type is known.
-/
namespace Go.Proofs.YtjalhcbomjgkoaaGreatDoor
open Go.RowKit
set_option linter.unusedVariables false

theorem ret_iT {k : IntKind} {a b : Int} (h : a = b) : Ending.returned (.int k a) = .returned (.int k b) := by rw [h]
theorem ret_bT {a b : Bool} (h : a = b) : Ending.returned (.bool a) = .returned (.bool b) := by rw [h]
/-- The order of integers. -/
def ordT (a b : Int) : Int := if a < b then -1 else if b < a then 1 else 0
/-- The order of texts, byte by byte. -/
def ordS (a b : ByteArray) : Int := if Op.bytesLess a.toList b.toList = true then -1 else if (a.toList == b.toList) = true then 0 else 1
abbrev lS : List UInt8 := [104, 116, 116, 112, 58, 47, 47, 119, 119, 119, 46, 119, 51, 46, 111, 114, 103, 47, 50, 48, 48, 49, 47, 88, 77, 76, 83, 99, 104, 101, 109, 97, 35, 115, 116, 114, 105, 110, 103]
abbrev lI : List UInt8 := [104, 116, 116, 112, 58, 47, 47, 119, 119, 119, 46, 119, 51, 46, 111, 114, 103, 47, 50, 48, 48, 49, 47, 88, 77, 76, 83, 99, 104, 101, 109, 97, 35, 105, 110, 116, 101, 103, 101, 114]
abbrev lB : List UInt8 := [104, 116, 116, 112, 58, 47, 47, 119, 119, 119, 46, 119, 51, 46, 111, 114, 103, 47, 50, 48, 48, 49, 47, 88, 77, 76, 83, 99, 104, 101, 109, 97, 35, 98, 111, 111, 108, 101, 97, 110]
abbrev lL : List UInt8 := [104, 116, 116, 112, 58, 47, 47, 119, 119, 119, 46, 119, 51, 46, 111, 114, 103, 47, 49, 57, 57, 57, 47, 48, 50, 47, 50, 50, 45, 114, 100, 102, 45, 115, 121, 110, 116, 97, 120, 45, 110, 115, 35, 108, 97, 110, 103, 83, 116, 114, 105, 110, 103]
def known (b : ByteArray) : Bool := (b.toList == lS) || (b.toList == lI) || (b.toList == lB) || (b.toList == lL)
set_option maxRecDepth 100000 in
theorem known_any (b : ByteArray) (w : World) : Calls Tryz.prog 71 #[.string b] w fun e w' => e = .returned (.bool (known b)) ∧ w = w' := by
  obtain ⟨r, hr⟩ : ∃ r, r = known b := ⟨_, rfl⟩
  rw [← hr]
  unfold known at hr
  cases h1 : (b.toList == lS) <;> cases h2 : (b.toList == lI) <;> cases h3 : (b.toList == lB) <;> cases h4 : (b.toList == lL)
  all_goals
    rw [h1, h2, h3, h4] at hr
    have H := Lib.hid hr
    clear hr
    go_enter Tryz.func71, Tryz.ntmps71
    go_wp2
    go_ret
    exact ⟨ret_bT H.out.symm, rfl⟩
/-- The first that is not 0. -/
def orT (x y : Int) : Int := if x = 0 then y else x
theorem orErr_any (x y : Int) (w : World) (g c : Nat) (h0 : w.cell? ⟨g, 0, none⟩ = some (.int .i64 x)) (h1 : w.cell? ⟨g, 1, none⟩ = some (.int .i64 y)) :
    Calls Tryz.prog 95 #[.slice (some ⟨g, 0, none⟩) 2 c] w fun e w' => e = .returned (.int .i64 (orT x y)) ∧ w = w' := by
  go_enter Tryz.func95, Tryz.ntmps95
  go_wp2
  go_loopg [5, 8] 2 (fun g s5 s8 wr => ∃ k : Nat, k + g = 2 ∧ s8 = .int .i64 k ∧ Hid (1 ≤ k → x = 0) ∧ Hid (2 ≤ k → y = 0) ∧ w = wr)
  case atStart => exact ⟨0, rfl, rfl, Lib.hid (by omega), Lib.hid (by omega), rfl⟩
  case round =>
    obtain ⟨k, hkg, rfl, H0, H1, rfl⟩ := hrel
    obtain rfl | rfl | rfl : k = 0 ∨ k = 1 ∨ k = 2 := by omega
    · by_cases hx : x = 0
      · have hb : (x != 0) = false := by simpa using hx
        have HX := Lib.hid hx
        clear hx
        go_wp2
        go_roundg 1
        case measure => omega
        case rel => exact ⟨1, rfl, rfl, Lib.hid (fun _ => HX.out), Lib.hid (by omega), rfl⟩
      · have hb : (x != 0) = true := by simpa using hx
        have HX : Hid (orT x y = x) := Lib.hid (if_neg hx)
        clear hx
        go_wp2
        (try rw [Exit.noGoto_ret])
        go_ret
        exact ⟨ret_iT HX.out.symm, rfl⟩
    · have HX : Hid (orT x y = y) := Lib.hid (if_pos (H0.out (by omega)))
      by_cases hy : y = 0
      · have hb : (y != 0) = false := by simpa using hy
        have HY := Lib.hid hy
        clear hy
        go_wp2
        go_roundg 0
        case measure => omega
        case rel => exact ⟨2, rfl, rfl, Lib.hid (fun _ => H0.out (by omega)), Lib.hid (fun _ => HY.out), rfl⟩
      · have hb : (y != 0) = true := by simpa using hy
        clear hy
        go_wp2
        (try rw [Exit.noGoto_ret])
        go_ret
        exact ⟨ret_iT HX.out.symm, rfl⟩
    · have HX : Hid (orT x y = 0) := Lib.hid (by unfold orT; rw [if_pos (H0.out (by omega)), H1.out (by omega)])
      go_wp2
      go_ret
      exact ⟨ret_iT HX.out.symm, rfl⟩
end Go.Proofs.YtjalhcbomjgkoaaGreatDoor

/-
  COLONS IN TEXTS, plain: the byte is where the sign is.
-/
namespace Go.Proofs.YtjalhcbomjgkoaaGreatDoor
open Go.Lib

theorem enc_colon : encodeRune 58 = [58] := by decide
theorem u8_ne {z : Int} (h0 : 0 ≤ z) (h1 : z < 256) (h : z ≠ 58) : z.toNat.toUInt8 ≠ 58 := by
  intro e
  have := congrArg UInt8.toNat e
  rw [u8n z h0 h1] at this
  have e2 : (58 : UInt8).toNat = 58 := rfl
  omega
theorem enc_nocolon (n : Int) (h : sgn n = true) (hn : n ≠ 58) : (58 : UInt8) ∉ encodeRune n := by
  obtain ⟨h0, h1, h2⟩ := (sgn_iff n).1 h
  unfold encodeRune
  by_cases a : n ≤ 127
  · rw [encodeRuneZ_one h0 a]
    simp only [List.map_cons, List.map_nil, List.mem_singleton]
    exact fun e => u8_ne h0 (by omega) hn e.symm
  by_cases b : n ≤ 2047
  · rw [encodeRuneZ_two (by omega) b]
    simp only [List.map_cons, List.map_nil, List.mem_cons, List.not_mem_nil, or_false, not_or]
    exact ⟨fun e => u8_ne (by omega) (by omega) (by omega) e.symm, fun e => u8_ne (by omega) (by omega) (by omega) e.symm⟩
  by_cases c : n ≤ 65535
  · rw [encodeRuneZ_three (by omega)]
    simp only [List.map_cons, List.map_nil, List.mem_cons, List.not_mem_nil, or_false, not_or]
    exact ⟨fun e => u8_ne (by omega) (by omega) (by omega) e.symm, fun e => u8_ne (by omega) (by omega) (by omega) e.symm, fun e => u8_ne (by omega) (by omega) (by omega) e.symm⟩
  · rw [encodeRuneZ_four (by omega) h1]
    simp only [List.map_cons, List.map_nil, List.mem_cons, List.not_mem_nil, or_false, not_or]
    exact ⟨fun e => u8_ne (by omega) (by omega) (by omega) e.symm, fun e => u8_ne (by omega) (by omega) (by omega) e.symm, fun e => u8_ne (by omega) (by omega) (by omega) e.symm, fun e => u8_ne (by omega) (by omega) (by omega) e.symm⟩
theorem indexByte_skip : ∀ (l r : List UInt8) (c : UInt8), c ∉ l → indexByte (l ++ r) c = if indexByte r c = -1 then -1 else indexByte r c + l.length
  | [], r, c, _ => by simp
  | b :: l, r, c, h => by
    have hb : (b == c) = false := by
      rw [beq_eq_false_iff_ne]
      exact fun e => h (by rw [e]; exact List.mem_cons_self ..)
    have hc : c ∉ l := fun e => h (List.mem_cons_of_mem _ e)
    have ih := indexByte_skip l r c hc
    have hg := indexByte_ge r c
    rw [List.cons_append, indexByte, hb, ih, List.length_cons, if_neg (by decide)]
    by_cases h1 : indexByte r c = -1
    · simp [h1]
    · rw [if_neg h1, if_neg h1, if_neg (by rw [beq_iff_eq]; omega)]; omega
/-- A colon, and something ahead of the first one. -/
def colonB (sl : List Int) : Bool := decide (58 ∈ sl ∧ sl.head? ≠ some 58)
theorem colon_none : ∀ (sl : List Int), AllS sl → (indexByte (encL sl) 58 = -1 ↔ 58 ∉ sl)
  | [], _ => by simp [encL, indexByte]
  | n :: sl, h => by
    have ih := colon_none sl h.tail
    by_cases hn : n = 58
    · subst hn
      rw [encL_cons, enc_colon]
      simp [indexByte]
    · rw [encL_cons, indexByte_skip _ _ _ (enc_nocolon n h.head hn)]
      have hg := indexByte_ge (encL sl) 58
      by_cases h1 : indexByte (encL sl) 58 = -1
      · rw [if_pos h1]
        have := ih.1 h1
        simp [this, Ne.symm hn]
      · rw [if_neg h1]
        have : 58 ∈ sl := Classical.byContradiction fun e => h1 (ih.2 e)
        simp [this]; omega
theorem colon_at (sl : List Int) (h : AllS sl) : decide (indexByte (encL sl) 58 < 1) = !colonB sl := by
  unfold colonB
  match sl, h with
  | [], _ => decide
  | n :: sl, h =>
    by_cases hn : n = 58
    · subst hn
      rw [encL_cons, enc_colon]
      simp [indexByte]
    · have hc := colon_none sl h.tail
      rw [encL_cons, indexByte_skip _ _ _ (enc_nocolon n h.head hn)]
      have hg := indexByte_ge (encL sl) 58
      have hl := (enc_len n).1
      by_cases h1 : indexByte (encL sl) 58 = -1
      · rw [if_pos h1]
        have := hc.1 h1
        simp [this, Ne.symm hn]
      · rw [if_neg h1]
        have : 58 ∈ sl := Classical.byContradiction fun e => h1 (hc.2 e)
        simp [this, hn]; omega
end Go.Proofs.YtjalhcbomjgkoaaGreatDoor

/-
  WHETHER A TEXT IS AN IRI's, a literal's without a language: the program's.
-/
namespace Go.Proofs.YtjalhcbomjgkoaaGreatDoor
open Go.RowKit
set_option linter.unusedVariables false

/-- May a sign stand in an IRI? -/
def okS (n : Int) : Bool := decide (¬ (n = 60 ∨ n = 62 ∨ n = 34 ∨ n = 123 ∨ n = 125 ∨ n = 124 ∨ n = 94 ∨ n = 96 ∨ n = 92) ∧ cls n ≠ 0 ∧ cls n ≠ 4)
set_option linter.unusedSimpArgs false in
set_option maxHeartbeats 2000000 in
theorem inIRI_any (n : Int) (w : World) : Calls Tryz.prog 165 #[.int .i32 n] w fun e w' => e = .returned (.bool (okS n)) ∧ w = w' := by
  have cC := class_any n
  obtain ⟨r, hr⟩ : ∃ r, r = okS n := ⟨_, rfl⟩
  rw [← hr]
  unfold okS at hr
  obtain ⟨k, hk⟩ : ∃ k, k = cls n := ⟨_, rfl⟩
  rw [← hk] at cC hr
  clear hk
  have HR := Lib.hid hr
  clear hr
  by_cases hb : n = 60 ∨ n = 62 ∨ n = 34 ∨ n = 123 ∨ n = 125 ∨ n = 124 ∨ n = 94 ∨ n = 96 ∨ n = 92
  · have H : Hid (r = false) := Lib.hid (by rw [HR.out]; simp [hb])
    rcases hb with rfl | rfl | rfl | rfl | rfl | rfl | rfl | rfl | rfl
    all_goals
      go_enter Tryz.func165, Tryz.ntmps165
      go_wp2
      go_ret
      exact ⟨ret_bool H.out.symm, rfl⟩
  · have h1 : (n == 60) = false := by simp; omega
    have h2 : (n == 62) = false := by simp; omega
    have h3 : (n == 34) = false := by simp; omega
    have h4 : (n == 123) = false := by simp; omega
    have h5 : (n == 125) = false := by simp; omega
    have h6 : (n == 124) = false := by simp; omega
    have h7 : (n == 94) = false := by simp; omega
    have h8 : (n == 96) = false := by simp; omega
    have h9 : (n == 92) = false := by simp; omega
    have H : Hid (r = decide (k ≠ 0 ∧ k ≠ 4)) := Lib.hid (by rw [HR.out]; simp only [hb, not_false_eq_true, true_and])
    clear hb HR
    by_cases k0 : k = 0
    · have hk0 : (k != 0) = false := by simp [k0]
      have H2 : Hid (r = false) := Lib.hid (by rw [H.out]; simp [k0])
      clear k0
      go_enter Tryz.func165, Tryz.ntmps165
      go_wp2_with (go_at_call 99; (with_reducible refine (cC _).mono ?_); rintro e w' ⟨rfl, rfl⟩)
      go_ret
      exact ⟨ret_bool H2.out.symm, rfl⟩
    · have hk0 : (k != 0) = true := by simp [k0]
      have H2 : Hid (r = (k != 4)) := Lib.hid (by rw [H.out, Bool.eq_iff_iff]; simp [k0])
      clear k0
      obtain ⟨q, hq⟩ : ∃ q, q = (k != 4) := ⟨_, rfl⟩
      go_enter Tryz.func165, Tryz.ntmps165
      go_wp2_with (go_at_call 99; (with_reducible refine (cC _).mono ?_); rintro e w' ⟨rfl, rfl⟩)
      go_ret
      exact ⟨ret_bool H2.out.symm, rfl⟩
/-- An IRI's text, of so many bytes, its signs, and what is none's behind them. -/
def iriB (n : Nat) (sl : List Int) (rest : List UInt8) : Bool := decide (rest = []) && (decide (n ≤ 4096) && (colonB sl && sl.all okS))
def IrI (w2 : World) (s : ByteArray) (sl : List Int) (g : Nat) (wr : World) : Prop :=
  ∃ a b, sl = a ++ b ∧ b.length = g ∧ a.all okS = true ∧ wr.heap[w2.heap.size]? = some (.stringIter s (encL a).length) ∧ Below w2.heap.size w2 wr
theorem iriB_no {n : Nat} {sl : List Int} {rest : List UInt8} (h : rest ≠ [] ∨ 4096 < n ∨ colonB sl = false) : iriB n sl rest = false := by
  unfold iriB
  rcases h with h | h | h
  · rw [decide_eq_false h]; rfl
  · rw [decide_eq_false (show ¬ n ≤ 4096 by omega)]; simp
  · rw [h]; simp
set_option maxHeartbeats 4000000 in
theorem iriGood_no (s : ByteArray) (sl : List Int) (rest : List UInt8) (hp : Parts s.data.toList sl rest) (hs : s.size ≤ 4294967296) (h : rest ≠ [] ∨ 4096 < s.size ∨ colonB sl = false) (w : World) :
    Calls Tryz.prog 163 #[.agg #[.string s]] w fun e w' => e = .returned (.bool false) ∧ Below w.heap.size w w' := by
  have cG := good_any s sl rest hp hs
  by_cases h1 : 4096 < s.size
  · have hz : (4096 : Int) < (s.size : Int) := by omega
    clear h cG hp
    go_enter Tryz.func163, Tryz.ntmps163
    go_wp2
    go_ret
    exact ⟨rfl, (Below.refl _ _).alloc (Nat.le_refl _) _⟩
  · have hz : ¬ (4096 : Int) < (s.size : Int) := by omega
    by_cases h2 : rest = []
    · have h3 : colonB sl = false := by
        rcases h with h | h | h
        · exact absurd h2 h
        · omega
        · exact h
      have cI : ∀ W, Calls Tryz.prog 164 #[.string s, .string ⟨#[58]⟩] W fun e w' => e = .returned (.int .i64 (Lib.indexByte s.data.toList 58)) ∧ w' = W := fun W => Tryz.strings_Index_one s 58 W
      obtain ⟨i, hi⟩ : ∃ i, i = Lib.indexByte s.data.toList 58 := ⟨_, rfl⟩
      rw [← hi] at cI
      have hi1 : i < 1 := by
        have := colon_at sl hp.all
        rw [h3, hp.eq] at *
        subst h2
        rw [List.append_nil] at hi
        rw [hi]
        simpa using this
      have hd : decide (rest = []) = true := decide_eq_true h2
      rw [hd] at cG
      have cII : ∀ W, Calls Tryz.prog 164 #[.string s, .string ⟨#[58]⟩] W fun e w' => e = .returned (.int .i64 i) ∧ W = w' := fun W => (cI W).mono fun _ _ ⟨a, b⟩ => ⟨a, b.symm⟩
      clear h h1 h2 h3 hd hp hi cI
      go_enter Tryz.func163, Tryz.ntmps163
      go_wp2_with (first
        | (go_at_call 103; (with_reducible refine (cG _).mono ?_); rintro e w2 ⟨rfl, hb2⟩; obtain ⟨hc, hf⟩ : _ ∧ _ := ⟨(Fb.new w 50 #[.string s]).below hb2, hb2.size⟩; have hcc := hc.cell 0; simp at hcc)
        | (go_at_call 164; (with_reducible refine (cII _).mono ?_); rintro e w' ⟨rfl, rfl⟩))
      go_ret
      exact ⟨rfl, ((Below.refl _ _).alloc (Nat.le_refl _) _).trans (hb2.mono (by simp))⟩
    · have hd : decide (rest = []) = false := decide_eq_false h2
      rw [hd] at cG
      clear h h1 h2 hd hp
      go_enter Tryz.func163, Tryz.ntmps163
      go_wp2_with (go_at_call 103; (with_reducible refine (cG _).mono ?_); rintro e w2 ⟨rfl, hb2⟩)
      go_ret
      exact ⟨rfl, ((Below.refl _ _).alloc (Nat.le_refl _) _).trans (hb2.mono (by simp))⟩
set_option maxHeartbeats 4000000 in
set_option maxRecDepth 100000 in
theorem iriGood_yes (s : ByteArray) (sl : List Int) (hp : Parts s.data.toList sl []) (hs : s.size ≤ 4096) (h : colonB sl = true) (w : World) :
    Calls Tryz.prog 163 #[.agg #[.string s]] w fun e w' => e = .returned (.bool (sl.all okS)) ∧ Below w.heap.size w w' := by
  have cG := good_any s sl [] hp (by omega)
  have hd : decide (([] : List UInt8) = []) = true := rfl
  rw [hd] at cG
  have cI : ∀ W, Calls Tryz.prog 164 #[.string s, .string ⟨#[58]⟩] W fun e w' => e = .returned (.int .i64 (Lib.indexByte s.data.toList 58)) ∧ w' = W := fun W => Tryz.strings_Index_one s 58 W
  obtain ⟨i, hi⟩ : ∃ i, i = Lib.indexByte s.data.toList 58 := ⟨_, rfl⟩
  rw [← hi] at cI
  have hi1 : ¬ i < 1 := by
    have := colon_at sl hp.all
    rw [h] at this
    rw [hp.eq, List.append_nil] at hi
    rw [hi]
    simpa using this
  have cII : ∀ W, Calls Tryz.prog 164 #[.string s, .string ⟨#[58]⟩] W fun e w' => e = .returned (.int .i64 i) ∧ W = w' := fun W => (cI W).mono fun _ _ ⟨a, b⟩ => ⟨a, b.symm⟩
  have hz : ¬ (4096 : Int) < (s.size : Int) := by omega
  have HP := Lib.hid hp
  clear hd hp h hi cI
  go_enter Tryz.func163, Tryz.ntmps163
  go_wp2_with (first
    | (go_at_call 103; (with_reducible refine (cG _).mono ?_); rintro e w2 ⟨rfl, hb2⟩; obtain ⟨hc, hf⟩ : _ ∧ _ := ⟨(Fb.new w 50 #[.string s]).below hb2, hb2.size⟩; have hcc := hc.cell 0; simp at hcc)
    | (go_at_call 164; (with_reducible refine (cII _).mono ?_); rintro e w' ⟨rfl, rfl⟩))
  have HB := Lib.hid (((Below.refl _ _).alloc (Nat.le_refl _) (.cells #[.string s] 50)).trans (hb2.mono (by simp)))
  clear hb2 hc hf hcc hi1 hz cG cII
  go_loopg [] sl.length (fun g wr => IrI w2 s sl g wr)
  case atStart => exact ⟨[], sl, rfl, rfl, rfl, World.iter_heap _ _ _, (Below.refl _ _).alloc (Nat.le_refl _) _⟩
  case round =>
    obtain ⟨a, bb, hab, hbl, hall, hit, hbw⟩ := hrel
    have hdat : s.data.toList = encL a ++ encL bb := by rw [HP.out.eq, List.append_nil, hab, encL_append]
    have HAB := Lib.hid hab
    have HBL := Lib.hid hbl
    have HALL := Lib.hid hall
    have HBW := Lib.hid (HB.out.trans (hbw.mono HB.out.size))
    cases gk with
    | zero =>
      obtain rfl : bb = [] := List.length_eq_zero_iff.1 hbl
      have hnx : ∀ ty, (Instr.next (.pointer (some ⟨w2.heap.size, 0, none⟩)) true ty).run Tryz.prog wr = _ := fun ty => next_done wr w2.heap.size s a (by rw [hdat]; simp [encL]) hit ty
      have HR : Hid (sl.all okS = true) := Lib.hid (by rw [hab, List.append_nil]; exact hall)
      clear hab hbl hdat hit hall hbw
      go_wp2
      go_ret
      exact ⟨ret_bool HR.out.symm, HBW.out⟩
    | succ g =>
      obtain ⟨n, b', rfl⟩ : ∃ n b', bb = n :: b' := by
        match bb, hbl with
        | n :: b', _ => exact ⟨n, b', rfl⟩
      have hn : sgn n = true := HP.out.all n (by rw [hab]; simp)
      have hnx : ∀ ty, (Instr.next (.pointer (some ⟨w2.heap.size, 0, none⟩)) true ty).run Tryz.prog wr = _ := fun ty => next_sign wr w2.heap.size s a n (encL b') (by rw [hdat, encL_cons]) hn hit ty
      obtain ⟨W, hW⟩ : ∃ W, W = wr.iterAt w2.heap.size s (encL (a ++ [n])).length := ⟨_, rfl⟩
      rw [← hW] at hnx
      have hitW : W.heap[w2.heap.size]? = some (.stringIter s (encL (a ++ [n])).length) := by rw [hW]; exact Lib.iterAt_heap _ _ _ _ _ hit
      have hbW : Below w2.heap.size w2 W := by rw [hW]; exact Lib.below_iterAt hbw (by omega) _ _
      have HBX := Lib.hid (HB.out.trans (hbW.mono HB.out.size))
      have cR := inIRI_any n
      cases hk : okS n
      · rw [hk] at cR
        have HR : Hid (sl.all okS = false) := Lib.hid (by rw [hab]; simp [hk])
        clear hab hbl hdat hit hall hbw hW hitW hbW hn hk
        go_wp2_with (go_at_call 165; (with_reducible refine (cR _).mono ?_); rintro e w' ⟨rfl, rfl⟩)
        (try rw [Exit.noGoto_ret])
        go_ret
        exact ⟨ret_bool HR.out.symm, HBX.out⟩
      · rw [hk] at cR
        have hfin : IrI w2 s sl g W := ⟨a ++ [n], b', by rw [hab]; simp, by simpa using hbl, by rw [List.all_append, hall]; simp [hk], hitW, hbW⟩
        have HF := Lib.hid hfin
        clear hab hbl hdat hit hall hbw hW hitW hbW hn hk hfin
        go_wp2_with (go_at_call 165; (with_reducible refine (cR _).mono ?_); rintro e w' ⟨rfl, rfl⟩)
        go_roundg g
        case measure => omega
        case rel => exact HF.out
theorem iriGood_any (s : ByteArray) (sl : List Int) (rest : List UInt8) (hp : Parts s.data.toList sl rest) (hs : s.size ≤ 4294967296) (w : World) :
    Calls Tryz.prog 163 #[.agg #[.string s]] w fun e w' => e = .returned (.bool (iriB s.size sl rest)) ∧ Below w.heap.size w w' := by
  by_cases h1 : rest = []
  · by_cases h2 : s.size ≤ 4096
    · cases h3 : colonB sl
      · rw [iriB_no (.inr (.inr h3))]
        exact iriGood_no s sl rest hp hs (.inr (.inr h3)) w
      · subst h1
        have := iriGood_yes s sl hp h2 h3 w
        unfold iriB
        rw [decide_eq_true h2, h3]
        exact this
    · have h4 : 4096 < s.size := by omega
      rw [iriB_no (.inr (.inl h4))]
      exact iriGood_no s sl rest hp hs (.inr (.inl h4)) w
  · rw [iriB_no (.inl h1)]
    exact iriGood_no s sl rest hp hs (.inl h1) w
/-- A literal's type that is not XLang. -/
def litB (n : Nat) (ok : Bool) (xl : Bool) (iri : Bool) : Bool := decide (n ≤ 4096) && (ok && (!xl && iri))
set_option maxHeartbeats 4000000 in
set_option maxRecDepth 100000 in
theorem litGood_any (a b : ByteArray) (sl tl : List Int) (rest rest' : List UInt8) (hp : Parts a.data.toList sl rest) (hq : Parts b.data.toList tl rest') (hs : a.size ≤ 4294967296) (hs' : b.size ≤ 4294967296) (w : World) :
    Calls Tryz.prog 173 #[.agg #[.string a, .string b, .string mt]] w fun e w' => e = .returned (.bool (litB a.size (decide (rest = [])) (b.toList == lL) (iriB b.size tl rest'))) ∧ Below w.heap.size w w' := by
  have cG := good_any a sl rest hp hs
  have cI := iriGood_any b tl rest' hq hs'
  obtain ⟨ok, hok⟩ : ∃ k, k = decide (rest = []) := ⟨_, rfl⟩
  obtain ⟨i, hi⟩ : ∃ k, k = iriB b.size tl rest' := ⟨_, rfl⟩
  rw [← hok] at cG
  rw [← hi] at cI
  rw [← hok, ← hi]
  obtain ⟨r, hr⟩ : ∃ k, k = litB a.size ok (b.toList == lL) i := ⟨_, rfl⟩
  rw [← hr]
  unfold litB at hr
  clear hok hi hp hq hs hs'
  by_cases h1 : 4096 < a.size
  · have hz : (4096 : Int) < (a.size : Int) := by omega
    have HR : Hid (r = false) := Lib.hid (by rw [hr, decide_eq_false (show ¬ a.size ≤ 4096 by omega)]; rfl)
    clear hr h1 cG cI
    go_enter Tryz.func173, Tryz.ntmps173
    go_wp2
    go_ret
    exact ⟨ret_bool HR.out.symm, (Below.refl _ _).alloc (Nat.le_refl _) _⟩
  · have hz : ¬ (4096 : Int) < (a.size : Int) := by omega
    rw [decide_eq_true (show a.size ≤ 4096 by omega), Bool.true_and] at hr
    clear h1
    cases ok
    · rw [Bool.false_and] at hr
      have HR := Lib.hid hr
      clear hr cI
      go_enter Tryz.func173, Tryz.ntmps173
      go_wp2_with (go_at_call 103; (with_reducible refine (cG _).mono ?_); rintro e w2 ⟨rfl, hb2⟩)
      go_ret
      exact ⟨ret_bool HR.out.symm, ((Below.refl _ _).alloc (Nat.le_refl _) _).trans (hb2.mono (by simp))⟩
    · rw [Bool.true_and] at hr
      cases hx : (b.toList == lL)
      · rw [hx, Bool.not_false, Bool.true_and] at hr
        have HR := Lib.hid hr
        clear hr
        go_enter Tryz.func173, Tryz.ntmps173
        go_wp2_with (first
          | (go_at_call 103; (with_reducible refine (cG _).mono ?_); rintro e w2 ⟨rfl, hb2⟩; have hz2 := hb2.size; have hc := (Fb.new w 78 #[.string a, .string b, .string mt]).below hb2; have c0 := hc.cell 0; have c1 := hc.cell 1; have c2 := hc.cell 2; simp at c0 c1 c2)
          | (go_at_call 163; (with_reducible refine (cI _).mono ?_); rintro e w3 ⟨rfl, hb3⟩))
        go_ret
        exact ⟨ret_bool HR.out.symm, (((Below.refl _ _).alloc (Nat.le_refl _) _).trans (hb2.mono (by simp))).trans (hb3.mono (by have := hb2.size; simp at this; omega))⟩
      · rw [hx, Bool.not_true, Bool.false_and] at hr
        have HR := Lib.hid hr
        clear hr cI
        go_enter Tryz.func173, Tryz.ntmps173
        go_wp2_with (go_at_call 103; (with_reducible refine (cG _).mono ?_); rintro e w2 ⟨rfl, hb2⟩; have hz2 := hb2.size; have hc := (Fb.new w 78 #[.string a, .string b, .string mt]).below hb2; have c0 := hc.cell 0; have c1 := hc.cell 1; have c2 := hc.cell 2; simp at c0 c1 c2)
        go_ret
        exact ⟨ret_bool HR.out.symm, ((Below.refl _ _).alloc (Nat.le_refl _) _).trans (hb2.mono (by simp))⟩
end Go.Proofs.YtjalhcbomjgkoaaGreatDoor
