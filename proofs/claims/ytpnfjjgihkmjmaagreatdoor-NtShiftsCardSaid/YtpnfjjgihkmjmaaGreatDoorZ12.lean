/-
  MERGED (a claim has at most 60 files): NWord, NLine, TBase.
-/
import Derived.Test.YtpnfjjgihkmjmaaGreatDoorZ11
import Derived.Test.YtpnfjjgihkmjmaaGreatDoorZ10
import Derived.Test.YtpnfjjgihkmjmaaGreatDoorProg
import Derived.WalkKit
import Derived.WalkLawsBesides
import Derived.Below
import Derived.IntWalk
import Derived.Lib.Hide
import Derived.Deep.LoopGhost
import Derived.Laws.StructEq
import Derived.Outline
/-
  READING A WORD (package nt): letters, digits, and the marks that are told.
-/
namespace Go.Proofs.YtpnfjjgihkmjmaaGreatDoor
open Go.RowKit
set_option linter.unusedVariables false

/-- What may go on in a word. -/
def wms (ms : List Int) (n : Int) : Bool := (cls n == 1) || ((cls n == 2) || decide (n ∈ ms))
def wmL (ms : List Int) (l : List Int) : List Int := l.takeWhile (wms ms)
theorem runN_drop (cs : List Int) : ∀ (l : List Int) (n : Int), (l.drop (runN cs l))[0]? = some n → cls n ∉ cs
  | [], n, h => by simp [runN] at h
  | m :: l, n, h => by
    by_cases hm : cls m ∈ cs
    · simp only [runN, if_pos hm, List.drop_succ_cons] at h
      exact runN_drop cs l n h
    · simp only [runN, if_neg hm, List.drop_zero, List.getElem?_cons_zero, Option.some.injEq] at h
      rw [← h]; exact hm
theorem wm_run (ms : List Int) : ∀ l : List Int, wmL ms l = l.take (runN [1, 2] l) ++ wmL ms (l.drop (runN [1, 2] l))
  | [] => rfl
  | n :: l => by
    by_cases hn : cls n ∈ ([1, 2] : List Int)
    · have hw : wms ms n = true := by
        unfold wms
        simp at hn
        rcases hn with h | h <;> simp [h]
      simp only [runN, if_pos hn, List.take_succ_cons, List.drop_succ_cons, List.cons_append]
      rw [← wm_run ms l]
      unfold wmL
      rw [List.takeWhile_cons, if_pos hw]
    · simp only [runN, if_neg hn, List.take_zero, List.drop_zero, List.nil_append]
theorem wm_mark (ms l : List Int) (k : Nat) (c : Int) (h : l[k]? = some c) (hc : cls c ∉ ([1, 2] : List Int)) : wmL ms (l.drop k) = if c ∈ ms then c :: wmL ms (l.drop (k + 1)) else [] := by
  rw [drop_cons l k c h]
  unfold wmL
  rw [List.takeWhile_cons]
  have e : wms ms c = decide (c ∈ ms) := by
    have h1 : (cls c == 1) = false := by rw [beq_eq_false_iff_ne]; intro e; exact hc (by rw [e]; simp)
    have h2 : (cls c == 2) = false := by rw [beq_eq_false_iff_ne]; intro e; exact hc (by rw [e]; simp)
    unfold wms
    rw [h1, h2, Bool.false_or, Bool.false_or]
  rw [e]
  by_cases hm : c ∈ ms <;> simp [hm]
theorem idxFrom_none (x : Int) : ∀ (l : List Int) (i : Nat), idxFrom x i l = -1 → x ∉ l
  | [], _, _ => by simp
  | n :: l, i, h => by
    unfold idxFrom at h
    by_cases e : n = x
    · rw [if_pos e] at h; omega
    · rw [if_neg e] at h
      have := idxFrom_none x l (i + 1) h
      simp [this, Ne.symm e]
theorem idx_none (x : Int) (l : List Int) (h : idx x l = -1) : x ∉ l := idxFrom_none x l 0 h
theorem contains_any (l : List Int) (x : Int) (hl : l.length ≤ 4294967296) (ao : Option Addr) (g o c : Nat) (w : World) (hao : 0 < l.length → ao = some ⟨g, o, none⟩)
    (hc : ∀ (j : Nat) (n : Int), l[j]? = some n → w.cell? ⟨g, o + j, none⟩ = some (.int .i32 n)) :
    Calls Tryz.prog 115 #[.slice ao l.length c, .int .i32 x] w fun e w' => e = .returned (.bool (decide (x ∈ l))) ∧ w' = w := by
  have cI := index_any l x hl ao g o c w hao hc
  have hx : decide (0 ≤ idx x l) = decide (x ∈ l) := by
    rcases idx_range x l with h | ⟨m, h1, h2, h3, h4⟩
    · rw [decide_eq_false (by omega), decide_eq_false (idx_none x l h)]
    · rw [decide_eq_true (by omega), decide_eq_true (List.mem_of_getElem? h3)]
  obtain ⟨i, hi⟩ : ∃ i, i = idx x l := ⟨_, rfl⟩
  rw [← hi] at cI hx
  have HH := Lib.hid hx
  clear hc hao hi hx
  go_enter Tryz.func115, Tryz.ntmps115
  go_wp2_with (go_at_call 126; (with_reducible refine cI.mono ?_); rintro e w' ⟨rfl, rfl⟩)
  go_ret
  exact ⟨ret_bool HH.out, rfl⟩
abbrev twoObj : Obj := .cells #[.int .i64 1, .int .i64 2] 3 (0, 0)
section
variable {w : World} {B b : Nat} {v : Value} {sl : List Int} {N k : Nat} {acc : List Int}
theorem RS.below {W W' : World} (h : RS w B b v sl N k acc W) (hb : Below W.heap.size W W') : RS w B b v sl N k acc W' := h.grown ⟨h.1.below3 hb, below_grown hb _⟩
theorem RS.alloc {W : World} (h : RS w B b v sl N k acc W) (o : Obj) : RS w B b v sl N k acc (W.alloc o) := h.below ((Below.refl _ _).alloc (Nat.le_refl _) o)
theorem RS.drew {W : World} (h : RS w B b v sl N k acc W) : RS w B b v sl N k acc W.drew := h.same ⟨rfl, rfl, rfl, rfl⟩
theorem rs_run_at {W : World} (h : RS w B b v sl N k acc W) (hk : k ≤ sl.length) (hl : sl.length ≤ 4294967296) (hall : AllS sl) (g : Nat) (hg : W.heap[g]? = some twoObj) :
    Calls Tryz.prog 114 #[.pointer (some ⟨b, 0, none⟩), .slice (some ⟨g, 0, none⟩) 2 2] W fun e w' => e = .returned (.string (textOf ((sl.drop k).take (runN [1, 2] (sl.drop k))))) ∧ RS w B b v sl N (k + runN [1, 2] (sl.drop k)) acc w' := by
  have hgb : g ≠ b := by
    intro e
    rw [e, h.1.blk] at hg
    cases hg
  have hcs : ClsAt W g 0 [1, 2] := by
    intro j x hx
    rw [Lib.cell_of_heap hg]
    match j, hx with
    | 0, hx => simp at hx; subst hx; rfl
    | 1, hx => simp at hx; subst hx; rfl
    | j + 2, hx => simp at hx
  exact (run_any h.1 hk hl hall g 0 2 (Array.getElem?_eq_some_iff.1 hg).1 hgb hcs (by decide)).mono fun e w' ⟨h1, h2⟩ => ⟨h1, h.grown h2⟩
theorem rs_wstr (l : List Int) (hl : AllS l) (hacc : acc.length ≤ 1000000) (hll : l.length ≤ 1000000) : EverT (RS w B b v sl N k acc) 44 #[.pointer (some ⟨N, 0, none⟩), .string (textOf l)] (.returned (.tuple #[.int .i64 (textOf l).size, .nilIface])) (RS w B b v sl N k (acc ++ l)) := by
  intro W h
  have hN : N ≤ W.heap.size := by rw [h.2.2.2.1]; exact h.2.2.1.size
  have hlen := (encL_len acc).2
  have hlen2 := (encL_len l).2
  have hz : (textOf l).size = (encL l).length := by rw [Lib.size_eq, textOf_list]
  refine (Tryz.Builder_WriteString_k N N _ (textOf l) W h.2.1 (by rw [Lib.byteCells_length]; omega) hN).mono fun e w' ⟨x, y, z, _⟩ => ⟨x, ?_⟩
  refine ⟨h.1.below2 z h.2.2.2.2.1 h.2.2.2.2.2, .inr ?_, grown_ext h.2.2.1 (z.mono (by rw [h.2.2.2.1]; exact Nat.le_refl _)), h.2.2.2.1, h.2.2.2.2.1, h.2.2.2.2.2⟩
  rw [encL_append, Lib.byteCells_append]
  rw [Lib.strCells_eq, textOf_list] at y
  exact y
theorem rs_peek_end (hk : k = sl.length) (hl : sl.length ≤ 4294967296) : EverT (RS w B b v sl N k acc) 66 #[.pointer (some ⟨b, 0, none⟩)] (.returned (.int .i32 (-1))) (RS w B b v sl N k acc) :=
  fun _ h => (peek_end h.1 hk hl).mono fun _ _ ⟨x, y⟩ => ⟨x, h.same y⟩
/-- The marks' cells, as they were when the builder was made. -/
theorem rs_contains {gm : Nat} {ms : List Int} (x : Int) (c : Nat) (hm : ∀ (j : Nat) (n : Int), ms[j]? = some n → w.cell? ⟨gm, 0 + j, none⟩ = some (.int .i32 n)) (hg : gm < w.heap.size) (hb : gm ≠ b) (hml : ms.length ≤ 100) :
    EverT (RS w B b v sl N k acc) 115 #[.slice (some ⟨gm, 0, none⟩) ms.length c, .int .i32 x] (.returned (.bool (decide (x ∈ ms)))) (RS w B b v sl N k acc) :=
  fun W h => (contains_any ms x (by omega) _ gm 0 c W (fun _ => rfl) (fun j n hn => (World.cell?_of_block (h.2.2.1.block gm hg (fun e => hb (Option.some.inj e)))).trans (hm j n hn))).mono fun _ _ ⟨x, y⟩ => ⟨x, y ▸ h⟩
end
/-- The loop's relation. -/
def WA (w : World) (B b : Nat) (v : Value) (sl ms : List Int) (N k : Nat) (g : Nat) (wr : World) : Prop :=
  ∃ p acc, acc ++ wmL ms (sl.drop p) = wmL ms (sl.drop k) ∧ p = k + acc.length ∧ p ≤ sl.length ∧ sl.length - p ≤ g ∧ RS w B b v sl N p acc wr
def WdPost (B : Nat) (w : World) (b : Nat) (v : Value) (sl ms : List Int) (k : Nat) (e : Ending) (w' : World) : Prop :=
  e = .returned (.string (textOf (wmL ms (sl.drop k)))) ∧ Moves B w b v sl (k + (wmL ms (sl.drop k)).length) w'
set_option maxHeartbeats 8000000 in
set_option maxRecDepth 100000 in
theorem nword_any {B : Nat} {w : World} {b : Nat} {v : Value} {sl : List Int} {k : Nat} (h : Sc B w b v sl k) (hk : k ≤ sl.length) (hl : sl.length ≤ 100000) (hall : AllS sl)
    (gm c : Nat) (ms : List Int) (hm : ∀ (j : Nat) (n : Int), ms[j]? = some n → w.cell? ⟨gm, 0 + j, none⟩ = some (.int .i32 n)) (hg : gm < w.heap.size) (hb : gm ≠ b) (hml : ms.length ≤ 100) (hm1 : (-1 : Int) ∉ ms) :
    Calls Tryz.prog 103 #[.pointer (some ⟨b, 0, none⟩), .slice (some ⟨gm, 0, none⟩) ms.length c] w (WdPost B w b v sl ms k) := by
  have HALL := Lib.hid hall
  have HM := Lib.hid hm
  have HM1 := Lib.hid hm1
  obtain ⟨N, hN⟩ : ∃ N, N = w.heap.size := ⟨_, rfl⟩
  have HST := Lib.hid (rs_start h hN)
  have HNN := Lib.hid hN
  clear h hall hm hm1 hN
  go_enter Tryz.func103, Tryz.ntmps103
  go_wp2
  rw [← HNN.out]
  go_loopg [] (sl.length - k) (fun g wr => WA w B b v sl ms N k g wr)
  case atStart => exact ⟨k, [], rfl, rfl, hk, Nat.le_refl _, HST.out⟩
  case round =>
    clear HST
    have HA := HALL
    obtain ⟨p, acc, hq, hpk, hpl, hpg, hR⟩ := hrel
    have hacc : acc.length ≤ 1000000 := by omega
    obtain ⟨r, hr⟩ : ∃ r, r = runN [1, 2] (sl.drop p) := ⟨_, rfl⟩
    have hrl : p + r ≤ sl.length := by have := runN_le [1, 2] (sl.drop p); rw [List.length_drop] at this; omega
    obtain ⟨t, ht⟩ : ∃ t, t = (sl.drop p).take r := ⟨_, rfl⟩
    have htl : t.length = r := by rw [ht, List.length_take, List.length_drop]; omega
    have hta : AllS t := fun n hn => HA.out n (List.mem_of_mem_drop (List.mem_of_mem_take (ht ▸ hn)))
    have hcut : wmL ms (sl.drop p) = t ++ wmL ms (sl.drop (p + r)) := by rw [ht, ← List.drop_drop, hr]; exact wm_run ms (sl.drop p)
    have cR : ∀ {W : World}, RS w B b v sl N p acc W → Calls Tryz.prog 114 #[.pointer (some ⟨b, 0, none⟩), .slice (some ⟨W.heap.size, 0, none⟩) 2 2] (W.alloc twoObj) fun e w' => e = .returned (.string (textOf t)) ∧ RS w B b v sl N (p + r) acc w' := fun {W} x => by
      have := rs_run_at (x.alloc twoObj) hpl (by omega) HA.out W.heap.size (heap_alloc_new _ _)
      rw [← hr, ← ht] at this
      exact this
    have cR' : ∀ {W : World}, RS w B b v sl N p acc W → Calls Tryz.prog 114 #[.pointer (some ⟨b, 0, none⟩), .slice (some ⟨W.heap.size, 0, none⟩) 2 2] (W.alloc twoObj).drew fun e w' => e = .returned (.string (textOf t)) ∧ RS w B b v sl N (p + r) acc w' := fun {W} x => by
      have := rs_run_at (x.alloc twoObj).drew hpl (by omega) HA.out W.heap.size (heap_alloc_new W _)
      rw [← hr, ← ht] at this
      exact this
    have cW := rs_wstr (w := w) (B := B) (b := b) (v := v) (sl := sl) (N := N) (k := p + r) (acc := acc) t hta hacc (by omega)
    have hq2 : (acc ++ t) ++ wmL ms (sl.drop (p + r)) = wmL ms (sl.drop k) := by rw [← hq, hcut, List.append_assoc]
    obtain ⟨acc2, hacc2⟩ : ∃ a, a = acc ++ t := ⟨_, rfl⟩
    rw [← hacc2] at cW hq2
    have hal2 : acc2.length = acc.length + r := by rw [hacc2, List.length_append, htl]
    obtain ⟨p2, hp2⟩ : ∃ q, q = p + r := ⟨_, rfl⟩
    rw [← hp2] at cR cR' cW hq2 hrl
    have hpk2 : p2 = k + acc2.length := by omega
    have hc0 : ∀ x, sl[p2]? = some x → cls x ∉ ([1, 2] : List Int) := fun x hx => by
      refine runN_drop [1, 2] (sl.drop p) x ?_
      rw [← hr, List.drop_drop, List.getElem?_drop, Nat.add_zero, ← hp2]
      exact hx
    have HC0 := Lib.hid hc0
    have HQ2 := Lib.hid hq2
    have HPK := Lib.hid hpk2
    have hp2g : sl.length - p2 ≤ gk := by omega
    have hal3 : acc2.length ≤ 1000000 := by omega
    clear hq hcut hr ht htl hta hacc2 hal2 hp2 hpk2 hq2 hpk hc0 HA hacc hpg
    by_cases hpe : p2 = sl.length
    · have hfin : wmL ms (sl.drop k) = acc2 := by rw [← HQ2.out, hpe, List.drop_length]; exact List.append_nil _
      have cP := rs_peek_end (w := w) (B := B) (b := b) (v := v) (N := N) (acc := acc2) hpe (by omega)
      have cC := rs_contains (w := w) (B := B) (b := b) (v := v) (sl := sl) (N := N) (k := p2) (acc := acc2) (-1) c HM.out hg hb hml
      rw [decide_eq_false HM1.out] at cC
      have cS := rs_string (w := w) (B := B) (b := b) (v := v) (sl := sl) (N := N) (k := p2) (acc := acc2)
      have HF := Lib.hid hfin
      clear hfin hpe
      go_wp2_with (first
        | (go_at_call 114; (with_reducible refine (cR (by assumption)).mono ?_); rintro e x1 ⟨rfl, hR1⟩)
        | (go_at_call 44; (with_reducible refine (cW.at (by assumption)).mono ?_); rintro e x2 ⟨rfl, hR2⟩)
        | (go_at_call 66; (with_reducible refine (cP.at (by assumption)).mono ?_); rintro e x3 ⟨rfl, hR3⟩)
        | (go_at_call 115; (with_reducible refine (cC.at (by assumption)).mono ?_); rintro e x4 ⟨rfl, hR4⟩)
        | (go_at_call 47; (with_reducible refine (cS.at (by assumption)).mono ?_); rintro e x5 ⟨rfl, hR5⟩))
      (try rw [Exit.noGoto_ret])
      go_ret
      refine ⟨by rw [HF.out]; rfl, ?_⟩
      rw [HF.out, ← HPK.out]
      exact ⟨hR5.1, hR5.2.2.1⟩
    · obtain ⟨x, hx⟩ : ∃ x, sl[p2]? = some x := ⟨_, List.getElem?_eq_getElem (by omega)⟩
      have hcx := HC0.out x hx
      have hmk := wm_mark ms sl p2 x hx hcx
      have cP := rs_peek (w := w) (B := B) (b := b) (v := v) (N := N) (acc := acc2) hx (by omega)
      have cC := rs_contains (w := w) (B := B) (b := b) (v := v) (sl := sl) (N := N) (k := p2) (acc := acc2) x c HM.out hg hb hml
      by_cases hin : x ∈ ms
      · rw [if_pos hin] at hmk
        rw [decide_eq_true hin] at cC
        have hxs : sgn x = true := HALL.out x (List.mem_of_getElem? hx)
        have cN := rs_next (w := w) (B := B) (b := b) (v := v) (N := N) (acc := acc2) hx (by omega)
        have cWr := rs_write (w := w) (B := B) (b := b) (v := v) (sl := sl) (N := N) (k := p2 + 1) (acc := acc2) x hxs hal3
        obtain ⟨g, rfl⟩ : ∃ g, gk = g + 1 := ⟨gk - 1, by omega⟩
        have hfin : ∀ W, RS w B b v sl N (p2 + 1) (acc2 ++ [x]) W → WA w B b v sl ms N k g W := fun W y => ⟨p2 + 1, acc2 ++ [x], by rw [← HQ2.out, hmk, List.append_assoc]; rfl, by have := HPK.out; rw [List.length_append]; simp; omega, by omega, by omega, y⟩
        have HF := Lib.hid hfin
        clear hfin hpe hx hcx hmk hin hxs
        go_wp2_with (first
          | (go_at_call 114; (with_reducible refine (cR (by assumption)).mono ?_); rintro e x1 ⟨rfl, hR1⟩)
          | (go_at_call 44; (with_reducible refine (cW.at (by assumption)).mono ?_); rintro e x2 ⟨rfl, hR2⟩)
          | (go_at_call 66; (with_reducible refine (cP.at (by assumption)).mono ?_); rintro e x3 ⟨rfl, hR3⟩)
          | (go_at_call 115; (with_reducible refine (cC.at (by assumption)).mono ?_); rintro e x4 ⟨rfl, hR4⟩)
          | (go_at_call 67; (with_reducible refine (cN.at (by assumption)).mono ?_); rintro e x5 ⟨rfl, hR5⟩)
          | (go_at_call 112; (with_reducible refine (cWr.at (by assumption)).mono ?_); rintro e x6 ⟨rfl, hR6⟩))
        go_roundg g
        case measure => omega
        case rel => exact HF.out _ hR6
      · rw [if_neg hin] at hmk
        rw [decide_eq_false hin] at cC
        have cS := rs_string (w := w) (B := B) (b := b) (v := v) (sl := sl) (N := N) (k := p2) (acc := acc2)
        have hfin : wmL ms (sl.drop k) = acc2 := by rw [← HQ2.out, hmk, List.append_nil]
        have HF := Lib.hid hfin
        clear hfin hpe hx hcx hmk hin
        go_wp2_with (first
          | (go_at_call 114; (with_reducible refine (cR (by assumption)).mono ?_); rintro e x1 ⟨rfl, hR1⟩)
          | (go_at_call 44; (with_reducible refine (cW.at (by assumption)).mono ?_); rintro e x2 ⟨rfl, hR2⟩)
          | (go_at_call 66; (with_reducible refine (cP.at (by assumption)).mono ?_); rintro e x3 ⟨rfl, hR3⟩)
          | (go_at_call 115; (with_reducible refine (cC.at (by assumption)).mono ?_); rintro e x4 ⟨rfl, hR4⟩)
          | (go_at_call 47; (with_reducible refine (cS.at (by assumption)).mono ?_); rintro e x5 ⟨rfl, hR5⟩))
        (try rw [Exit.noGoto_ret])
        go_ret
        refine ⟨by rw [HF.out]; rfl, ?_⟩
        rw [HF.out, ← HPK.out]
        exact ⟨hR5.1, hR5.2.2.1⟩
end Go.Proofs.YtpnfjjgihkmjmaaGreatDoor

/-
  BLANKS WITHIN A LINE, A LINE's END (package nt).
-/
namespace Go.Proofs.YtpnfjjgihkmjmaaGreatDoor
open Go.RowKit
set_option linter.unusedVariables false

section
variable {w : World} {B b : Nat} {v : Value} {sl : List Int} {k : Nat}
theorem Moves.to {k' : Nat} {W W' : World} (h : Moves B w b v sl k W) (m : Moves B W b v sl k' W') : Moves B w b v sl k' W' := ⟨m.1, grown_trans h.2 m.2⟩
theorem Moves.same {W W' : World} (h : Moves B w b v sl k W) (s : Same W W') : Moves B w b v sl k W' := ⟨s.sc h.1, grown_trans h.2 (same_grown s _)⟩
theorem Moves.start (h : Sc B w b v sl k) : Moves B w b v sl k w := ⟨h, same_grown (Same.refl _) _⟩
theorem mv_end (hk : k ≤ sl.length) (hl : sl.length ≤ 4294967296) {W : World} (h : Moves B w b v sl k W) : Calls Tryz.prog 35 #[.pointer (some ⟨b, 0, none⟩)] W fun e w' => e = .returned (.bool (decide (k = sl.length))) ∧ Moves B w b v sl k w' := by
  by_cases he : k = sl.length
  · rw [decide_eq_true he]; exact (end_yes h.1 he hl).mono fun _ _ ⟨x, y⟩ => ⟨x, h.same y⟩
  · rw [decide_eq_false he]; exact (end_no h.1 (by omega) hl).mono fun _ _ ⟨x, y⟩ => ⟨x, h.same y⟩
theorem mv_place {W : World} (h : Moves B w b v sl k W) : Calls Tryz.prog 38 #[.pointer (some ⟨b, 0, none⟩)] W fun e w' => e = .returned (.int .i64 k) ∧ Moves B w b v sl k w' := (place_any h.1).mono fun _ _ ⟨x, y⟩ => ⟨x, h.same y⟩
theorem mv_peek {x : Int} (hx : sl[k]? = some x) (hl : sl.length ≤ 4294967296) {W : World} (h : Moves B w b v sl k W) : Calls Tryz.prog 66 #[.pointer (some ⟨b, 0, none⟩)] W fun e w' => e = .returned (.int .i32 x) ∧ Moves B w b v sl k w' := (peek_sign h.1 hx hl).mono fun _ _ ⟨x, y⟩ => ⟨x, h.same y⟩
/-- The sign at a place, or -1. -/
def pk (sl : List Int) (k : Nat) : Int := (sl[k]?).getD (-1)
theorem mv_pk (hk : k ≤ sl.length) (hl : sl.length ≤ 4294967296) {W : World} (h : Moves B w b v sl k W) : Calls Tryz.prog 66 #[.pointer (some ⟨b, 0, none⟩)] W fun e w' => e = .returned (.int .i32 (pk sl k)) ∧ Moves B w b v sl k w' := by
  unfold pk
  cases hx : sl[k]? with
  | none => exact (peek_end h.1 (by have := List.getElem?_eq_none_iff.1 hx; omega) hl).mono fun _ _ ⟨x, y⟩ => ⟨x, h.same y⟩
  | some x => exact mv_peek hx hl h
theorem mv_next {x : Int} (hx : sl[k]? = some x) (hl : sl.length ≤ 4294967296) {W : World} (h : Moves B w b v sl k W) : Calls Tryz.prog 67 #[.pointer (some ⟨b, 0, none⟩)] W fun e w' => e = .returned (.int .i32 x) ∧ Moves B w b v sl (k + 1) w' := (next_sign' h.1 hx hl).mono fun _ _ ⟨x, y⟩ => ⟨x, h.to y⟩
theorem mv_back (j : Nat) (hj : j ≤ sl.length) (hl : sl.length ≤ 4294967296) {W : World} (h : Moves B w b v sl k W) : Calls Tryz.prog 92 #[.pointer (some ⟨b, 0, none⟩), .int .i64 j] W fun e w' => e = .returned (.bool true) ∧ Moves B w b v sl j w' := (back_yes h.1 j hj hl).mono fun _ _ ⟨x, y⟩ => ⟨x, h.to y⟩
theorem mv_is (hk : k ≤ sl.length) (hl : sl.length ≤ 4294967296) (c : Int) (s : ByteArray) (hp : Parts s.data.toList [c] []) (hsz : s.size ≤ 4294967296) {W : World} (h : Moves B w b v sl k W) :
    Calls Tryz.prog 68 #[.pointer (some ⟨b, 0, none⟩), .string s] W fun e w' => e = .returned (.bool (decide (sl[k]? = some c))) ∧ Moves B w b v sl (k + if sl[k]? = some c then 1 else 0) w' := (is_one h.1 hk hl c s hp hsz).mono fun _ _ ⟨x, y⟩ => ⟨x, h.to y⟩
theorem mv_is_yes (hk : k ≤ sl.length) (hl : sl.length ≤ 4294967296) (c : Int) (s : ByteArray) (hp : Parts s.data.toList [c] []) (hsz : s.size ≤ 4294967296) (hx : sl[k]? = some c) {W : World} (h : Moves B w b v sl k W) :
    Calls Tryz.prog 68 #[.pointer (some ⟨b, 0, none⟩), .string s] W fun e w' => e = .returned (.bool true) ∧ Moves B w b v sl (k + 1) w' := by
  have := mv_is hk hl c s hp hsz h
  rw [if_pos hx, decide_eq_true hx] at this
  exact this
theorem mv_is_no (hk : k ≤ sl.length) (hl : sl.length ≤ 4294967296) (c : Int) (s : ByteArray) (hp : Parts s.data.toList [c] []) (hsz : s.size ≤ 4294967296) (hx : ¬ sl[k]? = some c) {W : World} (h : Moves B w b v sl k W) :
    Calls Tryz.prog 68 #[.pointer (some ⟨b, 0, none⟩), .string s] W fun e w' => e = .returned (.bool false) ∧ Moves B w b v sl k w' := by
  have := mv_is hk hl c s hp hsz h
  rw [if_neg hx, decide_eq_false hx] at this
  exact this
theorem pre_two (c d : Int) (sl : List Int) (p : Nat) : [c, d].isPrefixOf (sl.drop p) = decide (sl[p]? = some c ∧ sl[p + 1]? = some d) := by
  cases hx : sl[p]? with
  | none => rw [List.drop_eq_nil_of_le (List.getElem?_eq_none_iff.1 hx)]; simp
  | some x =>
    rw [drop_cons sl p x hx]
    have e1 := pre_one d sl (p + 1)
    rw [show [c, d].isPrefixOf (x :: sl.drop (p + 1)) = ((c == x) && [d].isPrefixOf (sl.drop (p + 1))) from rfl, e1]
    by_cases h1 : x = c
    · subst h1; simp
    · have : (c == x) = false := by simpa using Ne.symm h1
      rw [this]; simp [h1]
theorem mv_is2_yes (hk : k ≤ sl.length) (hl : sl.length ≤ 4294967296) (c d : Int) (s : ByteArray) (hp : Parts s.data.toList [c, d] []) (hsz : s.size ≤ 4294967296) (hx : sl[k]? = some c ∧ sl[k + 1]? = some d) {W : World} (h : Moves B w b v sl k W) :
    Calls Tryz.prog 68 #[.pointer (some ⟨b, 0, none⟩), .string s] W fun e w' => e = .returned (.bool true) ∧ Moves B w b v sl (k + 2) w' :=
  (is_any h.1 hk hl s [c, d] hp hsz).mono fun e w' ⟨x, y⟩ => by
    unfold isN at y
    rw [pre_two, decide_eq_true hx] at x y
    rw [if_pos rfl] at y
    exact ⟨x, h.to y⟩
theorem mv_is2_no (hk : k ≤ sl.length) (hl : sl.length ≤ 4294967296) (c d : Int) (s : ByteArray) (hp : Parts s.data.toList [c, d] []) (hsz : s.size ≤ 4294967296) (hx : ¬ (sl[k]? = some c ∧ sl[k + 1]? = some d)) {W : World} (h : Moves B w b v sl k W) :
    Calls Tryz.prog 68 #[.pointer (some ⟨b, 0, none⟩), .string s] W fun e w' => e = .returned (.bool false) ∧ Moves B w b v sl k w' :=
  (is_any h.1 hk hl s [c, d] hp hsz).mono fun e w' ⟨x, y⟩ => by
    unfold isN at y
    rw [pre_two, decide_eq_false hx] at x y
    rw [if_neg (by decide), Nat.add_zero] at y
    exact ⟨x, h.to y⟩
end
theorem parts_two (c d : Int) (h0 : 0 ≤ c) (h1 : c ≤ 127) (h2 : 0 ≤ d) (h3 : d ≤ 127) : Parts (⟨#[c.toNat.toUInt8, d.toNat.toUInt8]⟩ : ByteArray).data.toList [c, d] [] := by
  refine ⟨?_, fun n hn => ?_, .inl rfl⟩
  · rw [List.append_nil, encL_cons, encL_cons, encL_nil, List.append_nil]
    unfold Lib.encodeRune
    rw [Lib.encodeRuneZ_one h0 h1, Lib.encodeRuneZ_one h2 h3]
    rfl
  · simp at hn
    rw [sgn_iff]; omega
theorem p1310 : Parts (⟨#[13, 10]⟩ : ByteArray).data.toList [13, 10] [] := parts_two 13 10 (by decide) (by decide) (by decide) (by decide)
theorem p9494 : Parts (⟨#[94, 94]⟩ : ByteArray).data.toList [94, 94] [] := parts_two 94 94 (by decide) (by decide) (by decide) (by decide)
/-! ### The plain functions -/
def gpc (n : Int) : Bool := (n == 32) || (n == 9)
def gapP (sl : List Int) (k : Nat) : Nat := k + ((sl.drop k).takeWhile gpc).length
def notN (n : Int) : Bool := !(n == 10)
def noteF (sl : List Int) (k : Nat) : Nat := k + ((sl.drop k).takeWhile notN).length
def noteP (sl : List Int) (k : Nat) : Nat := if sl[k]? = some 35 then noteF sl k else k
theorem while_step (f : Int → Bool) (sl : List Int) (k : Nat) (c : Int) (h : sl[k]? = some c) (hf : f c = true) : k + ((sl.drop k).takeWhile f).length = (k + 1) + ((sl.drop (k + 1)).takeWhile f).length := by
  rw [drop_cons sl k c h, List.takeWhile_cons, if_pos hf, List.length_cons]; omega
theorem while_stop (f : Int → Bool) (sl : List Int) (k : Nat) (h : ∀ c, sl[k]? = some c → f c = false) : k + ((sl.drop k).takeWhile f).length = k := by
  cases hx : sl[k]? with
  | none => rw [List.drop_eq_nil_of_le (List.getElem?_eq_none_iff.1 hx)]; rfl
  | some c => rw [drop_cons sl k c hx, List.takeWhile_cons, if_neg (by rw [h c hx]; decide)]; rfl
theorem takeWhile_len (f : Int → Bool) : ∀ l : List Int, (l.takeWhile f).length ≤ l.length
  | [] => Nat.le_refl _
  | n :: l => by rw [List.takeWhile_cons]; split <;> simp [takeWhile_len f l]
theorem while_le (f : Int → Bool) (sl : List Int) (k : Nat) (h : k ≤ sl.length) : k + ((sl.drop k).takeWhile f).length ≤ sl.length := by
  have := takeWhile_len f (sl.drop k)
  rw [List.length_drop] at this; omega
theorem gapP_le (sl : List Int) (k : Nat) (h : k ≤ sl.length) : gapP sl k ≤ sl.length ∧ k ≤ gapP sl k := ⟨while_le _ _ _ h, by unfold gapP; omega⟩
theorem noteP_le (sl : List Int) (k : Nat) (h : k ≤ sl.length) : noteP sl k ≤ sl.length ∧ k ≤ noteP sl k := by
  unfold noteP noteF
  split
  · exact ⟨while_le _ _ _ h, by omega⟩
  · exact ⟨h, Nat.le_refl _⟩
/-- The line's end, if it may come at a place. -/
def overE (sl : List Int) (i : Nat) : Nat × Bool :=
  if i = sl.length then (i, true) else if sl[i]? = some 10 then (i + 1, true) else if sl[i]? = some 13 ∧ sl[i + 1]? = some 10 then (i + 2, true) else (i, false)
def overP (sl : List Int) (k : Nat) : Nat × Bool := overE sl (noteP sl (gapP sl k))
theorem overE_le (sl : List Int) (i : Nat) (h : i ≤ sl.length) : (overE sl i).1 ≤ sl.length ∧ i ≤ (overE sl i).1 ∧ ((overE sl i).2 = true → i < sl.length → i < (overE sl i).1) := by
  unfold overE
  split
  · exact ⟨by dsimp only; omega, Nat.le_refl _, fun _ h => by omega⟩
  split
  · rename_i h1 h2
    have := (List.getElem?_eq_some_iff.1 h2).1
    exact ⟨by dsimp only; omega, by dsimp only; omega, fun _ _ => by dsimp only; omega⟩
  split
  · rename_i h1 h2 h3
    have := (List.getElem?_eq_some_iff.1 h3.2).1
    exact ⟨by dsimp only; omega, by dsimp only; omega, fun _ _ => by dsimp only; omega⟩
  · exact ⟨h, Nat.le_refl _, fun h => by cases h⟩
theorem overP_le (sl : List Int) (k : Nat) (h : k ≤ sl.length) : (overP sl k).1 ≤ sl.length ∧ k ≤ (overP sl k).1 ∧ ((overP sl k).2 = true → k < sl.length → k < (overP sl k).1) := by
  have h1 := gapP_le sl k h
  have h2 := noteP_le sl (gapP sl k) h1.1
  have h3 := overE_le sl _ h2.1
  refine ⟨h3.1, by unfold overP; omega, fun h4 h5 => ?_⟩
  unfold overP at *
  by_cases h6 : noteP sl (gapP sl k) = sl.length
  · omega
  · have := h3.2.2 h4 (by omega); omega
def SkI (B : Nat) (w : World) (b : Nat) (v : Value) (sl : List Int) (k g : Nat) (wr : World) : Prop :=
  ∃ p, gapP sl p = gapP sl k ∧ p ≤ sl.length ∧ sl.length - p ≤ g ∧ Moves B w b v sl p wr
set_option maxHeartbeats 4000000 in
set_option maxRecDepth 100000 in
theorem nskip_any {B : Nat} {w : World} {b : Nat} {v : Value} {sl : List Int} {k : Nat} (h : Sc B w b v sl k) (hk : k ≤ sl.length) (hl : sl.length ≤ 4294967296) :
    Calls Tryz.prog 65 #[.pointer (some ⟨b, 0, none⟩)] w fun e w' => e = .returned (.tuple #[]) ∧ Moves B w b v sl (gapP sl k) w' := by
  have HS := Lib.hid (Moves.start h)
  clear h
  go_enter Tryz.func65, Tryz.ntmps65
  go_wp2
  go_loopg [] (sl.length - k) (fun g wr => SkI B w b v sl k g wr)
  case atStart => exact ⟨k, rfl, hk, Nat.le_refl _, HS.out⟩
  case round =>
    obtain ⟨p, hp, hpl, hpg, hM⟩ := hrel
    have HP := Lib.hid hp
    by_cases h1 : sl[p]? = some 32
    · have c1 := mv_is_yes hpl hl 32 _ p32 (by decide) h1 hM
      have hlt := (List.getElem?_eq_some_iff.1 h1).1
      obtain ⟨g, rfl⟩ : ∃ g, gk = g + 1 := ⟨gk - 1, by omega⟩
      have HF : Hid (gapP sl (p + 1) = gapP sl k) := Lib.hid (by rw [← hp]; exact (while_step gpc sl p 32 h1 rfl).symm)
      clear hp h1 hM
      go_wp2_with (go_at_call 68; (with_reducible refine c1.mono ?_); rintro e x1 ⟨rfl, m1⟩)
      go_roundg g
      case measure => omega
      case rel => exact ⟨p + 1, HF.out, by omega, by omega, m1⟩
    · have c1 := mv_is_no hpl hl 32 _ p32 (by decide) h1 hM
      by_cases h2 : sl[p]? = some 9
      · have c2 := fun (W : World) (x : Moves B w b v sl p W) => mv_is_yes hpl hl 9 _ p9 (by decide) h2 x
        have hlt := (List.getElem?_eq_some_iff.1 h2).1
        obtain ⟨g, rfl⟩ : ∃ g, gk = g + 1 := ⟨gk - 1, by omega⟩
        have HF : Hid (gapP sl (p + 1) = gapP sl k) := Lib.hid (by rw [← hp]; exact (while_step gpc sl p 9 h2 rfl).symm)
        clear hp h1 h2 hM
        go_wp2_with (first
          | (go_at_call 68; (with_reducible refine c1.mono ?_); rintro e x1 ⟨rfl, m1⟩)
          | (go_at_call 68; (with_reducible refine (c2 _ (by assumption)).mono ?_); rintro e x2 ⟨rfl, m2⟩))
        go_roundg g
        case measure => omega
        case rel => exact ⟨p + 1, HF.out, by omega, by omega, m2⟩
      · have c2 := fun (W : World) (x : Moves B w b v sl p W) => mv_is_no hpl hl 9 _ p9 (by decide) h2 x
        have HF : Hid (gapP sl k = p) := Lib.hid (by
          rw [← hp]
          refine while_stop gpc sl p (fun c hc => ?_)
          unfold gpc
          have n1 : c ≠ 32 := fun e => h1 (by rw [hc, e])
          have n2 : c ≠ 9 := fun e => h2 (by rw [hc, e])
          simp [n1, n2])
        clear hp h1 h2 hM
        go_wp2_with (first
          | (go_at_call 68; (with_reducible refine c1.mono ?_); rintro e x1 ⟨rfl, m1⟩)
          | (go_at_call 68; (with_reducible refine (c2 _ (by assumption)).mono ?_); rintro e x2 ⟨rfl, m2⟩))
        (try rw [Exit.noGoto_ret])
        go_end0
        exact ⟨rfl, by rw [HF.out]; exact m2⟩
def NoI (B : Nat) (w : World) (b : Nat) (v : Value) (sl : List Int) (k g : Nat) (wr : World) : Prop :=
  ∃ p, noteF sl p = noteF sl k ∧ p ≤ sl.length ∧ sl.length - p ≤ g ∧ Moves B w b v sl p wr
/-- What the four ways of a line's end say of the three calls at its end. -/
theorem over_ways (sl : List Int) (i : Nat) (h : i ≤ sl.length) :
    (i = sl.length ∧ overE sl i = (i, true)) ∨ (¬ i = sl.length ∧ ((sl[i]? = some 10 ∧ overE sl i = (i + 1, true)) ∨ (¬ sl[i]? = some 10 ∧ (((sl[i]? = some 13 ∧ sl[i + 1]? = some 10) ∧ overE sl i = (i + 2, true)) ∨ (¬ (sl[i]? = some 13 ∧ sl[i + 1]? = some 10) ∧ overE sl i = (i, false)))))) := by
  unfold overE
  by_cases h1 : i = sl.length
  · exact .inl ⟨h1, by rw [if_pos h1]⟩
  refine .inr ⟨h1, ?_⟩
  rw [if_neg h1]
  by_cases h2 : sl[i]? = some 10
  · exact .inl ⟨h2, by rw [if_pos h2]⟩
  refine .inr ⟨h2, ?_⟩
  rw [if_neg h2]
  by_cases h3 : sl[i]? = some 13 ∧ sl[i + 1]? = some 10
  · exact .inl ⟨h3, by rw [if_pos h3]⟩
  · exact .inr ⟨h3, by rw [if_neg h3]⟩
/-- The three calls at a line's end, at place i: one for each way. -/
def Three (B : Nat) (w : World) (b : Nat) (v : Value) (sl : List Int) (i : Nat) (e0 e1 e2 : Bool) (j1 j2 : Nat) : Prop :=
  (∀ {W : World}, Moves B w b v sl i W → Calls Tryz.prog 35 #[.pointer (some ⟨b, 0, none⟩)] W fun e w' => e = .returned (.bool e0) ∧ Moves B w b v sl i w') ∧
  (∀ {W : World}, Moves B w b v sl i W → Calls Tryz.prog 68 #[.pointer (some ⟨b, 0, none⟩), .string ⟨#[10]⟩] W fun e w' => e = .returned (.bool e1) ∧ Moves B w b v sl j1 w') ∧
  (∀ {W : World}, Moves B w b v sl i W → Calls Tryz.prog 68 #[.pointer (some ⟨b, 0, none⟩), .string ⟨#[13, 10]⟩] W fun e w' => e = .returned (.bool e2) ∧ Moves B w b v sl j2 w')
theorem three_ways {B : Nat} {w : World} {b : Nat} {v : Value} (sl : List Int) (i : Nat) (h : i ≤ sl.length) (hl : sl.length ≤ 4294967296) : ∃ e0 e1 e2 j1 j2, Three B w b v sl i e0 e1 e2 j1 j2 ∧
    ((e0 = true ∧ i = sl.length ∧ overE sl i = (i, true)) ∨ (e0 = false ∧ ¬ i = sl.length ∧ ((e1 = true ∧ overE sl i = (j1, true)) ∨ (e1 = false ∧ j1 = i ∧ ((e2 = true ∧ overE sl i = (j2, true)) ∨ (e2 = false ∧ overE sl i = (j2, false))))))) := by
  have hE := fun {W : World} (x : Moves B w b v sl i W) => mv_end h hl x
  by_cases h2 : sl[i]? = some 10
  · have h3 : ¬ (sl[i]? = some 13 ∧ sl[i + 1]? = some 10) := fun e => by rw [h2] at e; exact absurd e.1 (by decide)
    refine ⟨_, _, _, _, _, ⟨hE, fun x => mv_is_yes h hl 10 _ p10 (by decide) h2 x, fun x => mv_is2_no h hl 13 10 _ p1310 (by decide) h3 x⟩, ?_⟩
    rcases over_ways sl i h with ⟨a, b⟩ | ⟨a, ⟨b, c⟩ | ⟨b, _⟩⟩
    · exact .inl ⟨decide_eq_true a, a, b⟩
    · exact .inr ⟨decide_eq_false a, a, .inl ⟨rfl, c⟩⟩
    · exact absurd h2 b
  · by_cases h3 : sl[i]? = some 13 ∧ sl[i + 1]? = some 10
    · refine ⟨_, _, _, _, _, ⟨hE, fun x => mv_is_no h hl 10 _ p10 (by decide) h2 x, fun x => mv_is2_yes h hl 13 10 _ p1310 (by decide) h3 x⟩, ?_⟩
      rcases over_ways sl i h with ⟨a, b⟩ | ⟨a, ⟨b, c⟩ | ⟨b, ⟨c, d⟩ | ⟨c, d⟩⟩⟩
      · exact .inl ⟨decide_eq_true a, a, b⟩
      · exact absurd b h2
      · exact .inr ⟨decide_eq_false a, a, .inr ⟨rfl, rfl, .inl ⟨rfl, d⟩⟩⟩
      · exact absurd h3 c
    · refine ⟨_, _, _, _, _, ⟨hE, fun x => mv_is_no h hl 10 _ p10 (by decide) h2 x, fun x => mv_is2_no h hl 13 10 _ p1310 (by decide) h3 x⟩, ?_⟩
      rcases over_ways sl i h with ⟨a, b⟩ | ⟨a, ⟨b, c⟩ | ⟨b, ⟨c, d⟩ | ⟨c, d⟩⟩⟩
      · exact .inl ⟨decide_eq_true a, a, b⟩
      · exact absurd b h2
      · exact absurd c h3
      · exact .inr ⟨decide_eq_false a, a, .inr ⟨rfl, rfl, .inr ⟨rfl, d⟩⟩⟩
def EnPost (B : Nat) (w : World) (b : Nat) (v : Value) (sl : List Int) (r : Nat × Bool) (e : Ending) (w' : World) : Prop := e = .returned (.bool r.2) ∧ Moves B w b v sl r.1 w'
set_option maxHeartbeats 8000000 in
set_option maxRecDepth 100000 in
theorem nend_any {B : Nat} {w : World} {b : Nat} {v : Value} {sl : List Int} {k : Nat} (h : Sc B w b v sl k) (hk : k ≤ sl.length) (hl : sl.length ≤ 4294967296) :
    Calls Tryz.prog 36 #[.pointer (some ⟨b, 0, none⟩)] w (EnPost B w b v sl (overP sl k)) := by
  have cS : ∀ {W : World}, Moves B w b v sl k W → Calls Tryz.prog 65 #[.pointer (some ⟨b, 0, none⟩)] W fun e w' => e = .returned (.tuple #[]) ∧ Moves B w b v sl (gapP sl k) w' := fun {W} x => (nskip_any x.1 hk hl).mono fun _ _ ⟨a, y⟩ => ⟨a, x.to y⟩
  have h0 := Moves.start h
  obtain ⟨r, hr⟩ : ∃ r, r = overP sl k := ⟨_, rfl⟩
  rw [← hr]
  unfold overP at hr
  have hq := (gapP_le sl k hk).1
  obtain ⟨q, hqq⟩ : ∃ q, q = gapP sl k := ⟨_, rfl⟩
  rw [← hqq] at cS hr hq
  have hi := (noteP_le sl q hq).1
  obtain ⟨i, hii⟩ : ∃ i, i = noteP sl q := ⟨_, rfl⟩
  rw [← hii] at hr hi
  obtain ⟨e0, e1, e2, j1, j2, ⟨cE, cN, cR⟩, hw⟩ := three_ways (B := B) (w := w) (b := b) (v := v) sl i hi hl
  have HR := Lib.hid hr
  clear h hr hqq
  have cP : ∀ {W : World}, Moves B w b v sl q W → Calls Tryz.prog 66 #[.pointer (some ⟨b, 0, none⟩)] W fun e w' => e = .returned (.int .i32 (pk sl q)) ∧ Moves B w b v sl q w' := fun {W} x => mv_pk hq hl x
  by_cases h35 : sl[q]? = some 35
  · have hp : pk sl q = 35 := by unfold pk; rw [h35]; rfl
    rw [hp] at cP
    have hif : i = noteF sl q := by rw [hii]; unfold noteP; rw [if_pos h35]
    have HI := Lib.hid hif
    clear hp hif hii h35
    go_enter Tryz.func36, Tryz.ntmps36
    go_wp2_with (first
      | (go_at_call 65; (with_reducible refine (cS (by assumption)).mono ?_); rintro e x1 ⟨rfl, m1⟩)
      | (go_at_call 66; (with_reducible refine (cP (by assumption)).mono ?_); rintro e x2 ⟨rfl, m2⟩))
    go_loopg [] (sl.length - q) (fun g wr => NoI B w b v sl q g wr)
    case atStart => exact ⟨q, rfl, hq, Nat.le_refl _, m2⟩
    case round =>
      clear m1 m2 h0 cP cS
      obtain ⟨p, hp, hpl, hpg, hM⟩ := hrel
      have HP := Lib.hid hp
      have cEp : ∀ {W : World}, Moves B w b v sl p W → Calls Tryz.prog 35 #[.pointer (some ⟨b, 0, none⟩)] W fun e w' => e = .returned (.bool (decide (p = sl.length))) ∧ Moves B w b v sl p w' := fun {W} x => mv_end hpl hl x
      clear hp
      by_cases hpe : p = sl.length
      · rw [decide_eq_true hpe] at cEp
        have hpi : i = p := by
          rw [HI.out, ← HP.out]
          exact while_stop notN sl p (fun c hc => by rw [hpe, List.getElem?_eq_none (Nat.le_refl _)] at hc; cases hc)
        subst hpi
        rcases hw with ⟨rfl, _, w1⟩ | ⟨_, hne, _⟩
        · have HW := Lib.hid w1
          clear w1 hpe
          go_wp2_with (go_at_call 35; (with_reducible refine (cEp (by assumption)).mono ?_); rintro e x1 ⟨rfl, m1⟩; clear hM; have hM := m1; clear m1)
          (try rw [Exit.noGoto_ret])
          go_ret
          rw [HR.out, HW.out]
          exact ⟨rfl, hM⟩
        · exact absurd hpe hne
      · rw [decide_eq_false hpe] at cEp
        obtain ⟨c, hx⟩ : ∃ c, sl[p]? = some c := ⟨_, List.getElem?_eq_getElem (by omega)⟩
        have cPp : ∀ {W : World}, Moves B w b v sl p W → Calls Tryz.prog 66 #[.pointer (some ⟨b, 0, none⟩)] W fun e w' => e = .returned (.int .i32 c) ∧ Moves B w b v sl p w' := fun {W} x => mv_peek hx hl x
        by_cases hc : c = 10
        · have hpi : i = p := by
            rw [HI.out, ← HP.out]
            exact while_stop notN sl p (fun c' hc' => by rw [hx, hc] at hc'; cases hc'; rfl)
          subst hpi
          subst hc
          clear hx
          rcases hw with ⟨rfl, _, w1⟩ | ⟨rfl, _, ⟨rfl, w1⟩ | ⟨rfl, rfl, ⟨rfl, w1⟩ | ⟨rfl, w1⟩⟩⟩
          all_goals
            have HW := Lib.hid w1
            clear w1 hpe
            go_wp2_with (first
              | (go_at_call 35; (with_reducible refine (cE (by assumption)).mono ?_); rintro e x1 ⟨rfl, m1⟩; clear hM; have hM := m1; clear m1)
              | (go_at_call 66; (with_reducible refine (cPp (by assumption)).mono ?_); rintro e x4 ⟨rfl, m4⟩; clear hM; have hM := m4; clear m4)
              | (go_at_call 68; (with_reducible refine (cN (by assumption)).mono ?_); rintro e x2 ⟨rfl, m2⟩; clear hM; have hM := m2; clear m2)
              | (go_at_call 68; (with_reducible refine (cR (by assumption)).mono ?_); rintro e x3 ⟨rfl, m3⟩; clear hM; have hM := m3; clear m3))
            (try rw [Exit.noGoto_ret])
            go_ret
            rw [HR.out, HW.out]
            exact ⟨rfl, hM⟩
        · have g10 : (c != 10) = true := by simpa using hc
          have cX : ∀ {W : World}, Moves B w b v sl p W → Calls Tryz.prog 67 #[.pointer (some ⟨b, 0, none⟩)] W fun e w' => e = .returned (.int .i32 c) ∧ Moves B w b v sl (p + 1) w' := fun {W} x => mv_next hx hl x
          obtain ⟨g, rfl⟩ : ∃ g, gk = g + 1 := ⟨gk - 1, by omega⟩
          have HF : Hid (noteF sl (p + 1) = noteF sl q) := Lib.hid (by rw [← HP.out]; exact (while_step notN sl p c hx (by unfold notN; simpa using hc)).symm)
          clear hx hc hw
          go_wp2_with (first
            | (go_at_call 35; (with_reducible refine (cEp (by assumption)).mono ?_); rintro e x1 ⟨rfl, m1⟩)
            | (go_at_call 66; (with_reducible refine (cPp (by assumption)).mono ?_); rintro e x4 ⟨rfl, m4⟩)
            | (go_at_call 67; (with_reducible refine (cX (by assumption)).mono ?_); rintro e x5 ⟨rfl, m5⟩))
          go_roundg g
          case measure => omega
          case rel => exact ⟨p + 1, HF.out, by omega, by omega, m5⟩
  · have hiq : i = q := by rw [hii]; unfold noteP; rw [if_neg h35]
    have hp : (pk sl q == 35) = false := by
      unfold pk
      cases hx : sl[q]? with
      | none => rfl
      | some c => rw [hx] at h35; simpa using h35
    subst hiq
    obtain ⟨z, hz⟩ : ∃ z, z = pk sl i := ⟨_, rfl⟩
    rw [← hz] at cP hp
    clear hii h35 hz
    rcases hw with ⟨rfl, _, w1⟩ | ⟨rfl, _, ⟨rfl, w1⟩ | ⟨rfl, rfl, ⟨rfl, w1⟩ | ⟨rfl, w1⟩⟩⟩
    all_goals
      have HW := Lib.hid w1
      clear w1
      go_enter Tryz.func36, Tryz.ntmps36
      go_wp2_with (first
        | (go_at_call 65; (with_reducible refine (cS (by assumption)).mono ?_); rintro e x1 ⟨rfl, m1⟩; clear h0; have hM := m1; clear m1)
        | (go_at_call 66; (with_reducible refine (cP (by assumption)).mono ?_); rintro e x2 ⟨rfl, m2⟩; clear hM; have hM := m2; clear m2)
        | (go_at_call 35; (with_reducible refine (cE (by assumption)).mono ?_); rintro e x3 ⟨rfl, m3⟩; clear hM; have hM := m3; clear m3)
        | (go_at_call 68; (with_reducible refine (cN (by assumption)).mono ?_); rintro e x4 ⟨rfl, m4⟩; clear hM; have hM := m4; clear m4)
        | (go_at_call 68; (with_reducible refine (cR (by assumption)).mono ?_); rintro e x5 ⟨rfl, m5⟩; clear hM; have hM := m5; clear m5))
      go_ret
      rw [HR.out, HW.out]
      exact ⟨rfl, hM⟩
end Go.Proofs.YtpnfjjgihkmjmaaGreatDoor

/-
  TERMS AS VALUES; what fieldsOf, Kind and asLiteral say of one.
-/
namespace Go.Proofs.YtpnfjjgihkmjmaaGreatDoor
open Go.RowKit
set_option linter.unusedVariables false

/-- A block of the call's own, known whole. -/
def Fb (w : World) (g : Nat) (t : TypeId) (cs : Array Value) : Prop := w.heap[g]? = some (.cells cs t (0, 0))
theorem Fb.lt {w : World} {g : Nat} {t : TypeId} {cs : Array Value} (h : Fb w g t cs) : g < w.heap.size := (Array.getElem?_eq_some_iff.1 h).1
theorem Fb.cell {w : World} {g : Nat} {t : TypeId} {cs : Array Value} (h : Fb w g t cs) (i : Nat) : w.cell? ⟨g, i, none⟩ = cs[i]? := by
  unfold Fb at h
  simp [World.cell?, h]
theorem Fb.new (w : World) (t : TypeId) (cs : Array Value) : Fb (w.alloc (.cells cs t)) w.heap.size t cs := heap_alloc_new w _
theorem Fb.alloc {w : World} {g : Nat} {t : TypeId} {cs : Array Value} (h : Fb w g t cs) (o : Obj) : Fb (w.alloc o) g t cs := (Below.heap_alloc w o g h.lt).trans h
theorem Fb.below {w w' : World} {g : Nat} {t : TypeId} {cs : Array Value} (h : Fb w g t cs) (hb : Below w.heap.size w w') : Fb w' g t cs := (hb.block g h.lt).trans h
theorem Fb.drew {w : World} {g : Nat} {t : TypeId} {cs : Array Value} (h : Fb w g t cs) : Fb w.drew g t cs := h
/-- A term, or what is none. -/
inductive Tm where
  | blank (s : ByteArray)
  | iri (s : ByteArray)
  | lit (a b c : ByteArray)
  | odd (n : Int)
  | none
def Tm.val : Tm → Value
  | .blank s => .iface 107 (.agg #[.string s])
  | .iri s => .iface 68 (.agg #[.string s])
  | .lit a b c => .iface 74 (.agg #[.string a, .string b, .string c])
  | .odd n => .iface 109 (.agg #[.int .i64 n])
  | .none => .nilIface
abbrev XS : ByteArray := ⟨#[104, 116, 116, 112, 58, 47, 47, 119, 119, 119, 46, 119, 51, 46, 111, 114, 103, 47, 50, 48, 48, 49, 47, 88, 77, 76, 83, 99, 104, 101, 109, 97, 35, 115, 116, 114, 105, 110, 103]⟩
abbrev XI : ByteArray := ⟨#[104, 116, 116, 112, 58, 47, 47, 119, 119, 119, 46, 119, 51, 46, 111, 114, 103, 47, 50, 48, 48, 49, 47, 88, 77, 76, 83, 99, 104, 101, 109, 97, 35, 105, 110, 116, 101, 103, 101, 114]⟩
abbrev XB : ByteArray := ⟨#[104, 116, 116, 112, 58, 47, 47, 119, 119, 119, 46, 119, 51, 46, 111, 114, 103, 47, 50, 48, 48, 49, 47, 88, 77, 76, 83, 99, 104, 101, 109, 97, 35, 98, 111, 111, 108, 101, 97, 110]⟩
abbrev XL : ByteArray := ⟨#[104, 116, 116, 112, 58, 47, 47, 119, 119, 119, 46, 119, 51, 46, 111, 114, 103, 47, 49, 57, 57, 57, 47, 48, 50, 47, 50, 50, 45, 114, 100, 102, 45, 115, 121, 110, 116, 97, 120, 45, 110, 115, 35, 108, 97, 110, 103, 83, 116, 114, 105, 110, 103]⟩
abbrev mt : ByteArray := ⟨#[]⟩
def Tm.kind : Tm → Int
  | .blank _ => 0
  | .iri _ => 1
  | .lit _ _ _ => 2
  | _ => 3
def Tm.ta : Tm → ByteArray
  | .blank s => s
  | .iri s => s
  | .lit a _ _ => a
  | _ => mt
def Tm.tb : Tm → ByteArray
  | .lit _ b _ => b
  | _ => mt
def Tm.tc : Tm → ByteArray
  | .lit _ _ c => c
  | _ => mt
abbrev F4 (k : Int) (a b c : ByteArray) : Value := .agg #[.int .i64 k, .string a, .string b, .string c]
theorem asBB (v : Value) (w : World) : (Instr.typeAssert (.iface 107 v) 48 107 true).run Tryz.prog w = .ok (.tuple #[v, .bool true]) w := by kernel_rfl
theorem asBI (v : Value) (w : World) : (Instr.typeAssert (.iface 107 v) 48 68 true).run Tryz.prog w = .ok (.tuple #[.agg #[.string mt], .bool false]) w := by kernel_rfl
theorem asBL (v : Value) (w : World) : (Instr.typeAssert (.iface 107 v) 48 74 true).run Tryz.prog w = .ok (.tuple #[.agg #[.string mt, .string mt, .string mt], .bool false]) w := by kernel_rfl
theorem asIB (v : Value) (w : World) : (Instr.typeAssert (.iface 68 v) 48 107 true).run Tryz.prog w = .ok (.tuple #[.agg #[.string mt], .bool false]) w := by kernel_rfl
theorem asII (v : Value) (w : World) : (Instr.typeAssert (.iface 68 v) 48 68 true).run Tryz.prog w = .ok (.tuple #[v, .bool true]) w := by kernel_rfl
theorem asIL (v : Value) (w : World) : (Instr.typeAssert (.iface 68 v) 48 74 true).run Tryz.prog w = .ok (.tuple #[.agg #[.string mt, .string mt, .string mt], .bool false]) w := by kernel_rfl
theorem asLB (v : Value) (w : World) : (Instr.typeAssert (.iface 74 v) 48 107 true).run Tryz.prog w = .ok (.tuple #[.agg #[.string mt], .bool false]) w := by kernel_rfl
theorem asLI (v : Value) (w : World) : (Instr.typeAssert (.iface 74 v) 48 68 true).run Tryz.prog w = .ok (.tuple #[.agg #[.string mt], .bool false]) w := by kernel_rfl
theorem asLL (v : Value) (w : World) : (Instr.typeAssert (.iface 74 v) 48 74 true).run Tryz.prog w = .ok (.tuple #[v, .bool true]) w := by kernel_rfl
theorem asOB (v : Value) (w : World) : (Instr.typeAssert (.iface 109 v) 48 107 true).run Tryz.prog w = .ok (.tuple #[.agg #[.string mt], .bool false]) w := by kernel_rfl
theorem asOI (v : Value) (w : World) : (Instr.typeAssert (.iface 109 v) 48 68 true).run Tryz.prog w = .ok (.tuple #[.agg #[.string mt], .bool false]) w := by kernel_rfl
theorem asOL (v : Value) (w : World) : (Instr.typeAssert (.iface 109 v) 48 74 true).run Tryz.prog w = .ok (.tuple #[.agg #[.string mt, .string mt, .string mt], .bool false]) w := by kernel_rfl
theorem asNB (w : World) : (Instr.typeAssert .nilIface 48 107 true).run Tryz.prog w = .ok (.tuple #[.agg #[.string mt], .bool false]) w := by kernel_rfl
theorem asNI (w : World) : (Instr.typeAssert .nilIface 48 68 true).run Tryz.prog w = .ok (.tuple #[.agg #[.string mt], .bool false]) w := by kernel_rfl
theorem asNL (w : World) : (Instr.typeAssert .nilIface 48 74 true).run Tryz.prog w = .ok (.tuple #[.agg #[.string mt, .string mt, .string mt], .bool false]) w := by kernel_rfl
set_option maxRecDepth 100000 in
theorem fieldsOf_any (t : Tm) (w : World) : Calls Tryz.prog 58 #[t.val] w fun e w' => e = .returned (F4 t.kind t.ta t.tb t.tc) ∧ Below w.heap.size w w' := by
  cases t with
  | blank s =>
    simp only [Tm.val, Tm.kind, Tm.ta, Tm.tb, Tm.tc]
    have hBB := asBB
    go_enter Tryz.func58, Tryz.ntmps58
    go_wp2
    exact bodyPost_ret (v := F4 0 s mt mt) (by simp [results, Tryz.results58, go_sem]) rfl ⟨rfl, ((Below.refl _ _).alloc (Nat.le_refl _) _).alloc (by simp) _⟩
  | iri s =>
    simp only [Tm.val, Tm.kind, Tm.ta, Tm.tb, Tm.tc]
    have hIB := asIB
    have hII := asII
    go_enter Tryz.func58, Tryz.ntmps58
    go_wp2
    exact bodyPost_ret (v := F4 1 s mt mt) (by simp [results, Tryz.results58, go_sem]) rfl ⟨rfl, ((Below.refl _ _).alloc (Nat.le_refl _) _).alloc (by simp) _⟩
  | lit a b c =>
    simp only [Tm.val, Tm.kind, Tm.ta, Tm.tb, Tm.tc]
    have hLB := asLB
    have hLI := asLI
    have hLL := asLL
    go_enter Tryz.func58, Tryz.ntmps58
    go_wp2
    exact bodyPost_ret (v := F4 2 a b c) (by simp [results, Tryz.results58, go_sem]) rfl ⟨rfl, ((Below.refl _ _).alloc (Nat.le_refl _) _).alloc (by simp) _⟩
  | odd n =>
    simp only [Tm.val, Tm.kind, Tm.ta, Tm.tb, Tm.tc]
    have hOB := asOB
    have hOI := asOI
    have hOL := asOL
    go_enter Tryz.func58, Tryz.ntmps58
    go_wp2
    exact bodyPost_ret (v := F4 3 mt mt mt) (by simp [results, Tryz.results58, go_sem]) rfl ⟨rfl, (Below.refl _ _).alloc (Nat.le_refl _) _⟩
  | none =>
    simp only [Tm.val, Tm.kind, Tm.ta, Tm.tb, Tm.tc]
    have hNB := asNB
    have hNI := asNI
    have hNL := asNL
    go_enter Tryz.func58, Tryz.ntmps58
    go_wp2
    exact bodyPost_ret (v := F4 3 mt mt mt) (by simp [results, Tryz.results58, go_sem]) rfl ⟨rfl, (Below.refl _ _).alloc (Nat.le_refl _) _⟩
theorem fld0 (k : Int) (a b d : ByteArray) (w : World) : (Instr.field 116 (F4 k a b d) 0).run Tryz.prog w = .ok (.int .i64 k) w := by kernel_rfl
set_option maxRecDepth 100000 in
theorem kind_any (t : Tm) (w : World) : Calls Tryz.prog 25 #[t.val] w fun e w' => e = .returned (.int .i64 t.kind) ∧ Below w.heap.size w w' := by
  have c := fieldsOf_any t
  obtain ⟨k, hk⟩ : ∃ k, k = t.kind := ⟨_, rfl⟩
  obtain ⟨a, ha⟩ : ∃ a, a = t.ta := ⟨_, rfl⟩
  obtain ⟨b, hb⟩ : ∃ a, a = t.tb := ⟨_, rfl⟩
  obtain ⟨d, hd⟩ : ∃ a, a = t.tc := ⟨_, rfl⟩
  obtain ⟨v, hv⟩ : ∃ a, a = t.val := ⟨_, rfl⟩
  rw [← hk, ← ha, ← hb, ← hd, ← hv] at c
  rw [← hk, ← hv]
  have hfld := fld0
  clear hk ha hb hd hv
  go_enter Tryz.func25, Tryz.ntmps25
  go_wp2_with (go_at_call 58; (with_reducible refine (c _).mono ?_); rintro e w1 ⟨rfl, hb1⟩)
  go_ret
  exact ⟨rfl, hb1⟩
/-- What asLiteral says of one. -/
abbrev L3 (a b c : ByteArray) (ok : Bool) : Value := .tuple #[.agg #[.string a, .string b, .string c], .bool ok]
def Tm.isLit : Tm → Bool
  | .lit _ _ _ => true
  | _ => false
def Tm.la (t : Tm) : ByteArray := if t.isLit then t.ta else mt
set_option maxRecDepth 100000 in
theorem asLit_any (t : Tm) (w : World) : Calls Tryz.prog 52 #[t.val] w fun e w' => e = .returned (L3 t.la t.tb t.tc t.isLit) ∧ Below w.heap.size w w' := by
  cases t with
  | blank s =>
    simp only [Tm.val, Tm.la, Tm.isLit, Tm.ta, Tm.tb, Tm.tc]
    have hBL := asBL
    go_enter Tryz.func52, Tryz.ntmps52
    go_wp2
    exact bodyPost_ret (v := L3 mt mt mt false) (by simp [results, Tryz.results52, go_sem]) rfl ⟨rfl, ((Below.refl _ _).alloc (Nat.le_refl _) _).alloc (by simp) _⟩
  | iri s =>
    simp only [Tm.val, Tm.la, Tm.isLit, Tm.ta, Tm.tb, Tm.tc]
    have hIL := asIL
    go_enter Tryz.func52, Tryz.ntmps52
    go_wp2
    exact bodyPost_ret (v := L3 mt mt mt false) (by simp [results, Tryz.results52, go_sem]) rfl ⟨rfl, ((Below.refl _ _).alloc (Nat.le_refl _) _).alloc (by simp) _⟩
  | lit a b c =>
    simp only [Tm.val, Tm.la, Tm.isLit, Tm.ta, Tm.tb, Tm.tc]
    have hLL := asLL
    go_enter Tryz.func52, Tryz.ntmps52
    go_wp2
    exact bodyPost_ret (v := L3 a b c true) (by simp [results, Tryz.results52, go_sem]) rfl ⟨rfl, ((Below.refl _ _).alloc (Nat.le_refl _) _).alloc (by simp) _⟩
  | odd n =>
    simp only [Tm.val, Tm.la, Tm.isLit, Tm.ta, Tm.tb, Tm.tc]
    have hOL := asOL
    go_enter Tryz.func52, Tryz.ntmps52
    go_wp2
    exact bodyPost_ret (v := L3 mt mt mt false) (by simp [results, Tryz.results52, go_sem]) rfl ⟨rfl, ((Below.refl _ _).alloc (Nat.le_refl _) _).alloc (by simp) _⟩
  | none =>
    simp only [Tm.val, Tm.la, Tm.isLit, Tm.ta, Tm.tb, Tm.tc]
    have hNL := asNL
    go_enter Tryz.func52, Tryz.ntmps52
    go_wp2
    exact bodyPost_ret (v := L3 mt mt mt false) (by simp [results, Tryz.results52, go_sem]) rfl ⟨rfl, ((Below.refl _ _).alloc (Nat.le_refl _) _).alloc (by simp) _⟩
end Go.Proofs.YtpnfjjgihkmjmaaGreatDoor
