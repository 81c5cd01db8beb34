/-
  MERGED (a claim has at most 60 files): NIri, UntilA, NWord, NLine, TCmp.
-/
import Derived.Test.YtjalhcbomjgkoaaDoorZ10
import Derived.Test.YtjalhcbomjgkoaaDoorZ00
/-
  READING AN IRI (package nt): all ways.
-/
namespace Go.Proofs.YtjalhcbomjgkoaaDoor
open Go.RowKit
set_option linter.unusedVariables false

/-- An IRI's text from place p on, acc being read; at most f signs are to come. -/
def irf (sl : List Int) : Nat → Nat → List Int → Nat × Option (List Int)
  | 0, p, _ => (p, none)
  | f + 1, p, acc => match sl[p]? with
    | none => (p, none)
    | some c => if c = 62 then (p + 1, some acc) else if c = 10 then (p, none) else if c = 92 then
        (match (nef sl (p + 1)).2 with
          | none => ((nef sl (p + 1)).1, none)
          | some n => irf sl f (nef sl (p + 1)).1 (acc ++ [n]))
      else irf sl f (p + 1) (acc ++ [c])
/-- An IRI's text at place k. -/
def irP (sl : List Int) (k : Nat) : Nat × Option (List Int) := if sl[k]? = some 60 then irf sl (sl.length - (k + 1)) (k + 1) [] else (k, none)
theorem nef_le (sl : List Int) (p : Nat) (h : p ≤ sl.length) : (nef sl p).1 ≤ sl.length ∧ p ≤ (nef sl p).1 := by
  unfold nef
  have h4 := rd_le 4 0 (sl.drop (p + 1)) (p + 1)
  have h8 := rd_le 8 0 (sl.drop (p + 1)) (p + 1)
  rw [List.length_drop] at h4 h8
  split
  · rename_i hx
    have hp := (List.getElem?_eq_some_iff.1 hx).1
    omega
  split
  · rename_i hx
    have hp := (List.getElem?_eq_some_iff.1 hx).1
    omega
  · exact ⟨h, Nat.le_refl _⟩
theorem nef_sgn (sl : List Int) (p : Nat) (n : Int) (h : (nef sl p).2 = some n) : sgn n = true := by
  unfold nef at h
  split at h
  · exact (rd_sgn _ _ _ _ _ h).1
  split at h
  · exact (rd_sgn _ _ _ _ _ h).1
  · cases h
/-- The loop's relation. -/
def NA (w : World) (B b : Nat) (v : Value) (sl : List Int) (N : Nat) (r : Nat × Option (List Int)) (g : Nat) (wr : World) : Prop :=
  ∃ p acc, r = irf sl g p acc ∧ p ≤ sl.length ∧ sl.length - p ≤ g ∧ acc.length + g ≤ 100000 ∧ RS w B b v sl N p acc wr
section
variable {w : World} {B b : Nat} {v : Value} {sl : List Int} {N k : Nat} {acc : List Int}
theorem rs_peek {x : Int} (hx : sl[k]? = some x) (hl : sl.length ≤ 4294967296) : EverT (RS w B b v sl N k acc) 20 #[.pointer (some ⟨b, 0, none⟩)] (.returned (.int .i32 x)) (RS w B b v sl N k acc) :=
  fun _ h => (peek_sign h.1 hx hl).mono fun _ _ ⟨x, y⟩ => ⟨x, h.same y⟩
theorem rs_nescape (hk : k ≤ sl.length) (hl : sl.length ≤ 4294967296) (q : Nat) (o : Option Int) (he1 : (nef sl k).1 = q) (he2 : (nef sl k).2 = o) :
    EverT (RS w B b v sl N k acc) 124 #[.pointer (some ⟨b, 0, none⟩)] (.returned (.tuple #[.int .i32 (o.getD 0), .bool o.isSome])) (RS w B b v sl N q acc) := by
  subst he1 he2
  exact fun _ h => (nescape_any h.1 hk hl).mono fun _ _ ⟨x, y⟩ => ⟨x, h.grown y⟩
/-- A builder is made. -/
theorem rs_start {W : World} (h : Sc B W b v sl k) (hN : N = W.heap.size) : RS W B b v sl N k [] (W.alloc (.cells #[.pointer none, .slice none 0 0] 128)) := by
  subst hN
  exact ⟨h.below3 ((Below.refl _ _).alloc (Nat.le_refl _) _), Lib.IsBuilderF.of (Lib.fresh_isBuilder 128 5 W), below_grown ((Below.refl _ _).alloc (Nat.le_refl _) _) _, rfl, (Array.getElem?_eq_some_iff.1 h.blk).1, fun g hg => (World.ownsRow.lt h.row g hg).2⟩
end
set_option maxHeartbeats 8000000 in
set_option maxRecDepth 100000 in
theorem niri_yes {B : Nat} {w : World} {b : Nat} {v : Value} {sl : List Int} {k : Nat} (h : Sc B w b v sl k) (hl : sl.length ≤ 100000) (hall : AllS sl) (hx0 : sl[k]? = some 60) :
    Calls Tryd.prog 115 #[.pointer (some ⟨b, 0, none⟩)] w (QPost B w b v sl (irf sl (sl.length - (k + 1)) (k + 1) [])) := by
  have hkl : k < sl.length := (List.getElem?_eq_some_iff.1 hx0).1
  have c1 := is_one h (by omega) (by omega) 60 _ p60 (by decide)
  rw [if_pos hx0, decide_eq_true hx0] at c1
  have HA := Lib.hid hall
  obtain ⟨r, hr⟩ : ∃ r, r = irf sl (sl.length - (k + 1)) (k + 1) [] := ⟨_, rfl⟩
  have HR := Lib.hid hr
  rw [← hr]
  clear h hall hx0 hr
  go_enter Tryd.func115, Tryd.ntmps115
  go_wp2_with (go_at_call 13; (with_reducible refine c1.mono ?_); rintro e w3 ⟨rfl, h3, g3⟩)
  obtain ⟨N, hN⟩ : ∃ N, N = w3.heap.size := ⟨_, rfl⟩
  have HST := Lib.hid (rs_start h3 hN)
  have HG := Lib.hid g3
  clear c1 h3 g3
  rw [← hN]
  have HNN := Lib.hid hN
  clear hN
  go_loopg [] (sl.length - (k + 1)) (fun g wr => NA w3 B b v sl N r g wr)
  case atStart => exact ⟨k + 1, [], HR.out, by omega, by omega, by simp; omega, HST.out⟩
  case round =>
    clear HR HST
    obtain ⟨p, acc, hq, hpl, hpg, hag, hR⟩ := hrel
    have hacc : acc.length ≤ 1000000 := by omega
    by_cases hpe : p = sl.length
    · have hrr : r = (p, none) := by
        rw [hq]
        cases gk with
        | zero => rfl
        | succ g => unfold irf; rw [hpe, List.getElem?_eq_none (Nat.le_refl _)]
      have cE := rs_endy (w := w3) (B := B) (b := b) (v := v) (N := N) (acc := acc) hpe (by omega)
      have HRR := Lib.hid hrr
      clear hq hrr hpe
      go_wp2_with (go_at_call 21; (with_reducible refine (cE.at (by assumption)).mono ?_); rintro e x1 ⟨rfl, hR1⟩)
      go_ret2
      rw [HRR.out]
      exact ⟨by rw [show ((p, (none : Option (List Int))).2.getD []) = [] from rfl, text_nil]; rfl, hR1.1, grown_trans HG.out hR1.2.2.1⟩
    · have hpl2 : p < sl.length := by omega
      obtain ⟨g, rfl⟩ : ∃ g, gk = g + 1 := ⟨gk - 1, by omega⟩
      obtain ⟨c, hx⟩ : ∃ c, sl[p]? = some c := ⟨_, List.getElem?_eq_getElem hpl2⟩
      have hcs : sgn c = true := HA.out c (List.mem_of_getElem? hx)
      have cE := rs_end (w := w3) (B := B) (b := b) (v := v) (N := N) (acc := acc) hpl2 (by omega)
      have cP := rs_peek (w := w3) (B := B) (b := b) (v := v) (N := N) (acc := acc) hx (by omega)
      have cN := rs_next (w := w3) (B := B) (b := b) (v := v) (N := N) (acc := acc) hx (by omega)
      unfold irf at hq
      rw [hx] at hq
      dsimp only at hq
      clear hx hpe
      by_cases h34 : c = 62
      · rw [if_pos h34] at hq
        subst h34
        have cS := rs_string (w := w3) (B := B) (b := b) (v := v) (sl := sl) (N := N) (k := p + 1) (acc := acc)
        have HQ := Lib.hid hq
        clear hq hcs
        go_wp2_with (first
          | (go_at_call 21; (with_reducible refine (cE.at (by assumption)).mono ?_); rintro e x1 ⟨rfl, hR1⟩)
          | (go_at_call 20; (with_reducible refine (cP.at (by assumption)).mono ?_); rintro e x4 ⟨rfl, hR4⟩)
          | (go_at_call 11; (with_reducible refine (cN.at (by assumption)).mono ?_); rintro e x2 ⟨rfl, hR2⟩)
          | (go_at_call 73; (with_reducible refine (cS.at (by assumption)).mono ?_); rintro e x3 ⟨rfl, hR3⟩))
        go_ret2
        rw [HQ.out]
        exact ⟨rfl, hR3.1, grown_trans HG.out hR3.2.2.1⟩
      rw [if_neg h34] at hq
      have g34 : (c == 62) = false := by simpa using h34
      by_cases hnl : c = 10
      · rw [if_pos hnl] at hq
        have HQ := Lib.hid hq
        subst hnl
        clear hq hcs h34 g34
        go_wp2_with (first
          | (go_at_call 21; (with_reducible refine (cE.at (by assumption)).mono ?_); rintro e x1 ⟨rfl, hR1⟩)
          | (go_at_call 20; (with_reducible refine (cP.at (by assumption)).mono ?_); rintro e x4 ⟨rfl, hR4⟩))
        go_ret2
        rw [HQ.out]
        exact ⟨by rw [show ((p, (none : Option (List Int))).2.getD []) = [] from rfl, text_nil]; rfl, hR4.1, grown_trans HG.out hR4.2.2.1⟩
      rw [if_neg hnl] at hq
      have g10 : (c == 10) = false := by simpa using hnl
      have g10' : (c != 10) = true := by simpa using hnl
      by_cases h92 : c = 92
      · rw [if_pos h92] at hq
        subst h92
        obtain ⟨hle1, hle2⟩ := nef_le sl (p + 1) (by omega)
        obtain ⟨q, hq1⟩ : ∃ q, (nef sl (p + 1)).1 = q := ⟨_, rfl⟩
        rw [hq1] at hq hle1 hle2
        clear g34 g10 g10' h34 hnl hcs
        cases ho : (nef sl (p + 1)).2 with
        | none =>
          rw [ho] at hq
          dsimp only at hq
          have cL := rs_nescape (w := w3) (B := B) (b := b) (v := v) (N := N) (acc := acc) (k := p + 1) (by omega) (by omega) q none hq1 ho
          have HQ := Lib.hid hq
          clear hq ho hq1
          go_wp2_with (first
            | (go_at_call 21; (with_reducible refine (cE.at (by assumption)).mono ?_); rintro e x1 ⟨rfl, hR1⟩)
            | (go_at_call 20; (with_reducible refine (cP.at (by assumption)).mono ?_); rintro e x4 ⟨rfl, hR4⟩)
            | (go_at_call 11; (with_reducible refine (cN.at (by assumption)).mono ?_); rintro e x2 ⟨rfl, hR2⟩)
            | (go_at_call 124; (with_reducible refine (cL.at (by assumption)).mono ?_); rintro e x3 ⟨rfl, hR3⟩))
          go_ret2
          rw [HQ.out]
          exact ⟨by rw [show ((q, (none : Option (List Int))).2.getD []) = [] from rfl, text_nil]; rfl, hR3.1, grown_trans HG.out hR3.2.2.1⟩
        | some n =>
          rw [ho] at hq
          dsimp only at hq
          have hn := nef_sgn sl (p + 1) n ho
          have cL := rs_nescape (w := w3) (B := B) (b := b) (v := v) (N := N) (acc := acc) (k := p + 1) (by omega) (by omega) q (some n) hq1 ho
          have cW := rs_write (w := w3) (B := B) (b := b) (v := v) (sl := sl) (N := N) (k := q) (acc := acc) n hn hacc
          have hfin : ∀ W, RS w3 B b v sl N q (acc ++ [n]) W → NA w3 B b v sl N r g W := fun W x => ⟨q, acc ++ [n], hq, hle1, by omega, by simp; omega, x⟩
          have HF := Lib.hid hfin
          clear hq ho hq1 hfin hn
          go_wp2_with (first
            | (go_at_call 21; (with_reducible refine (cE.at (by assumption)).mono ?_); rintro e x1 ⟨rfl, hR1⟩)
            | (go_at_call 20; (with_reducible refine (cP.at (by assumption)).mono ?_); rintro e x4 ⟨rfl, hR4⟩)
            | (go_at_call 11; (with_reducible refine (cN.at (by assumption)).mono ?_); rintro e x2 ⟨rfl, hR2⟩)
            | (go_at_call 124; (with_reducible refine (cL.at (by assumption)).mono ?_); rintro e x3 ⟨rfl, hR3⟩)
            | (go_at_call 76; (with_reducible refine (cW.at (by assumption)).mono ?_); rintro e x5 ⟨rfl, hR5⟩))
          go_roundg g
          case measure => omega
          case rel => exact HF.out _ hR5
      · rw [if_neg h92] at hq
        have g92 : (c == 92) = false := by simpa using h92
        have cW := rs_write (w := w3) (B := B) (b := b) (v := v) (sl := sl) (N := N) (k := p + 1) (acc := acc) c hcs hacc
        have hfin : ∀ W, RS w3 B b v sl N (p + 1) (acc ++ [c]) W → NA w3 B b v sl N r g W := fun W x => ⟨p + 1, acc ++ [c], hq, by omega, by omega, by simp; omega, x⟩
        have HF := Lib.hid hfin
        clear hq hfin hcs h34 hnl h92
        go_wp2_with (first
          | (go_at_call 21; (with_reducible refine (cE.at (by assumption)).mono ?_); rintro e x1 ⟨rfl, hR1⟩)
          | (go_at_call 20; (with_reducible refine (cP.at (by assumption)).mono ?_); rintro e x4 ⟨rfl, hR4⟩)
          | (go_at_call 11; (with_reducible refine (cN.at (by assumption)).mono ?_); rintro e x2 ⟨rfl, hR2⟩)
          | (go_at_call 76; (with_reducible refine (cW.at (by assumption)).mono ?_); rintro e x3 ⟨rfl, hR3⟩))
        go_roundg g
        case measure => omega
        case rel => exact HF.out _ hR3
theorem niri_any {B : Nat} {w : World} {b : Nat} {v : Value} {sl : List Int} {k : Nat} (h : Sc B w b v sl k) (hk : k ≤ sl.length) (hl : sl.length ≤ 100000) (hall : AllS sl) :
    Calls Tryd.prog 115 #[.pointer (some ⟨b, 0, none⟩)] w (QPost B w b v sl (irP sl k)) := by
  unfold irP
  by_cases hx : sl[k]? = some 60
  · rw [if_pos hx]; exact niri_yes h hl hall hx
  · rw [if_neg hx]
    have c1 := is_one h hk (by omega) 60 _ p60 (by decide)
    rw [if_neg hx, decide_eq_false hx, Nat.add_zero] at c1
    clear h hx
    go_enter Tryd.func115, Tryd.ntmps115
    go_wp2_with (go_at_call 13; (with_reducible refine c1.mono ?_); rintro e w3 ⟨rfl, h3, g3⟩)
    go_ret2
    exact ⟨by rw [show ((k, (none : Option (List Int))).2.getD []) = [] from rfl, text_nil]; rfl, h3, g3⟩
end Go.Proofs.YtjalhcbomjgkoaaDoor

/-
  THE SCANNER's 'Until': the signs ahead of one.
-/
namespace Go.Proofs.YtjalhcbomjgkoaaDoor
open Go.RowKit
set_option linter.unusedVariables false

/-- The place of the first x, or -1. -/
def idxFrom (x : Int) : Nat → List Int → Int
  | _, [] => -1
  | i, n :: l => if n = x then i else idxFrom x (i + 1) l
def idx (x : Int) (l : List Int) : Int := idxFrom x 0 l
theorem idxFrom_drop (x : Int) (l : List Int) (i : Nat) (n : Int) (h : l[i]? = some n) : idxFrom x i (l.drop i) = if n = x then (i : Int) else idxFrom x (i + 1) (l.drop (i + 1)) := by
  rw [drop_cons l i n h]
  rfl

set_option maxHeartbeats 4000000 in
theorem index_any (l : List Int) (x : Int) (hl : l.length ≤ 4294967296) (ao : Option Addr) (g o c : Nat) (w : World) (hao : 0 < l.length → ao = some ⟨g, o, none⟩)
    (hc : ∀ (j : Nat) (n : Int), l[j]? = some n → w.cell? ⟨g, o + j, none⟩ = some (.int .i32 n)) :
    Calls Tryd.prog 48 #[.slice ao l.length c, .int .i32 x] w fun e w' => e = .returned (.int .i64 (idx x l)) ∧ w' = w := by
  have HC := Lib.hid hc
  have HO := Lib.hid hao
  clear hc hao
  go_enter Tryd.func48, Tryd.ntmps48
  go_wp2
  go_loop [8] (fun i => ∃ k : Nat, k ≤ l.length ∧ i = .int .i64 k ∧ Hid (idxFrom x k (l.drop k) = idx x l)) (fun i => l.length - (intOf i).toNat)
  case atStart => exact ⟨0, Nat.zero_le _, rfl, Lib.hid rfl⟩
  case round =>
    obtain ⟨k, hk, rfl, HI⟩ := hrel
    by_cases hlt : k < l.length
    · obtain ⟨n, hn⟩ : ∃ n, l[k]? = some n := ⟨_, List.getElem?_eq_getElem hlt⟩
      obtain rfl := HO.out (by omega)
      have hcell := HC.out k n hn
      have HN := Lib.hid hn
      clear hn
      by_cases he : x = n
      · have hB : (x == n) = true := by simpa using he
        have HE := Lib.hid he
        clear he
        go_wp2
        go_ret
        exact ⟨ret_int (by rw [← HI.out, idxFrom_drop x l k n HN.out, if_pos HE.out.symm]), rfl⟩
      · have hB : (x == n) = false := by simpa using he
        have HE := Lib.hid he
        clear he
        go_wp2
        go_round
        case rel => exact ⟨k + 1, by omega, by go_num, Lib.hid (by rw [← HI.out, idxFrom_drop x l k n HN.out, if_neg (fun e => HE.out e.symm)])⟩
        case measure => simp [intOf]; omega
    · have hk2 : k = l.length := by omega
      have HK := Lib.hid hk2
      clear hk2
      go_wp2
      go_ret
      exact ⟨ret_int (by rw [← HI.out, HK.out, List.drop_length]; rfl), rfl⟩
theorem idxFrom_range (x : Int) : ∀ (l : List Int) (i : Nat), idxFrom x i l = -1 ∨ ∃ m : Nat, m < l.length ∧ idxFrom x i l = (i + m : Nat) ∧ l[m]? = some x ∧ x ∉ l.take m
  | [], i => .inl rfl
  | n :: l, i => by
    unfold idxFrom
    by_cases h : n = x
    · rw [if_pos h]; exact .inr ⟨0, by simp, by simp, by simp [h], by simp⟩
    · rw [if_neg h]
      rcases idxFrom_range x l (i + 1) with h1 | ⟨m, h1, h2, h3, h4⟩
      · exact .inl h1
      · refine .inr ⟨m + 1, by simp; omega, by rw [h2]; congr 1; omega, by simpa using h3, ?_⟩
        simp only [List.take_succ_cons, List.mem_cons, not_or]
        exact ⟨fun e => h e.symm, h4⟩
theorem idx_range (x : Int) (l : List Int) : idx x l = -1 ∨ ∃ m : Nat, m < l.length ∧ idx x l = (m : Nat) ∧ l[m]? = some x ∧ x ∉ l.take m := by
  have := idxFrom_range x l 0
  simpa [idx] using this
end Go.Proofs.YtjalhcbomjgkoaaDoor

/-
  READING A WORD (package nt): letters, digits, and the marks that are told.
-/
namespace Go.Proofs.YtjalhcbomjgkoaaDoor
open Go.RowKit
set_option linter.unusedVariables false

/-- What may go on in a word. -/
def wms (ms : List Int) (n : Int) : Bool := (cls n == 1) || ((cls n == 2) || decide (n ∈ ms))
def wmL (ms : List Int) (l : List Int) : List Int := l.takeWhile (wms ms)
theorem runN_drop (cs : List Int) : ∀ (l : List Int) (n : Int), (l.drop (runN cs l))[0]? = some n → cls n ∉ cs
  | [], n, h => by simp [runN] at h
  | m :: l, n, h => by
    by_cases hm : cls m ∈ cs
    · simp only [runN, if_pos hm, List.drop_succ_cons] at h
      exact runN_drop cs l n h
    · simp only [runN, if_neg hm, List.drop_zero, List.getElem?_cons_zero, Option.some.injEq] at h
      rw [← h]; exact hm
theorem wm_run (ms : List Int) : ∀ l : List Int, wmL ms l = l.take (runN [1, 2] l) ++ wmL ms (l.drop (runN [1, 2] l))
  | [] => rfl
  | n :: l => by
    by_cases hn : cls n ∈ ([1, 2] : List Int)
    · have hw : wms ms n = true := by
        unfold wms
        simp at hn
        rcases hn with h | h <;> simp [h]
      simp only [runN, if_pos hn, List.take_succ_cons, List.drop_succ_cons, List.cons_append]
      rw [← wm_run ms l]
      unfold wmL
      rw [List.takeWhile_cons, if_pos hw]
    · simp only [runN, if_neg hn, List.take_zero, List.drop_zero, List.nil_append]
theorem wm_mark (ms l : List Int) (k : Nat) (c : Int) (h : l[k]? = some c) (hc : cls c ∉ ([1, 2] : List Int)) : wmL ms (l.drop k) = if c ∈ ms then c :: wmL ms (l.drop (k + 1)) else [] := by
  rw [drop_cons l k c h]
  unfold wmL
  rw [List.takeWhile_cons]
  have e : wms ms c = decide (c ∈ ms) := by
    have h1 : (cls c == 1) = false := by rw [beq_eq_false_iff_ne]; intro e; exact hc (by rw [e]; simp)
    have h2 : (cls c == 2) = false := by rw [beq_eq_false_iff_ne]; intro e; exact hc (by rw [e]; simp)
    unfold wms
    rw [h1, h2, Bool.false_or, Bool.false_or]
  rw [e]
  by_cases hm : c ∈ ms <;> simp [hm]
theorem idxFrom_none (x : Int) : ∀ (l : List Int) (i : Nat), idxFrom x i l = -1 → x ∉ l
  | [], _, _ => by simp
  | n :: l, i, h => by
    unfold idxFrom at h
    by_cases e : n = x
    · rw [if_pos e] at h; omega
    · rw [if_neg e] at h
      have := idxFrom_none x l (i + 1) h
      simp [this, Ne.symm e]
theorem idx_none (x : Int) (l : List Int) (h : idx x l = -1) : x ∉ l := idxFrom_none x l 0 h
theorem contains_any (l : List Int) (x : Int) (hl : l.length ≤ 4294967296) (ao : Option Addr) (g o c : Nat) (w : World) (hao : 0 < l.length → ao = some ⟨g, o, none⟩)
    (hc : ∀ (j : Nat) (n : Int), l[j]? = some n → w.cell? ⟨g, o + j, none⟩ = some (.int .i32 n)) :
    Calls Tryd.prog 126 #[.slice ao l.length c, .int .i32 x] w fun e w' => e = .returned (.bool (decide (x ∈ l))) ∧ w' = w := by
  have cI := index_any l x hl ao g o c w hao hc
  have hx : decide (0 ≤ idx x l) = decide (x ∈ l) := by
    rcases idx_range x l with h | ⟨m, h1, h2, h3, h4⟩
    · rw [decide_eq_false (by omega), decide_eq_false (idx_none x l h)]
    · rw [decide_eq_true (by omega), decide_eq_true (List.mem_of_getElem? h3)]
  obtain ⟨i, hi⟩ : ∃ i, i = idx x l := ⟨_, rfl⟩
  rw [← hi] at cI hx
  have HH := Lib.hid hx
  clear hc hao hi hx
  go_enter Tryd.func126, Tryd.ntmps126
  go_wp2_with (go_at_call 48; (with_reducible refine cI.mono ?_); rintro e w' ⟨rfl, rfl⟩)
  go_ret
  exact ⟨ret_bool HH.out, rfl⟩
abbrev twoObj : Obj := .cells #[.int .i64 1, .int .i64 2] 3 (0, 0)
section
variable {w : World} {B b : Nat} {v : Value} {sl : List Int} {N k : Nat} {acc : List Int}
theorem RS.below {W W' : World} (h : RS w B b v sl N k acc W) (hb : Below W.heap.size W W') : RS w B b v sl N k acc W' := h.grown ⟨h.1.below3 hb, below_grown hb _⟩
theorem RS.alloc {W : World} (h : RS w B b v sl N k acc W) (o : Obj) : RS w B b v sl N k acc (W.alloc o) := h.below ((Below.refl _ _).alloc (Nat.le_refl _) o)
theorem RS.drew {W : World} (h : RS w B b v sl N k acc W) : RS w B b v sl N k acc W.drew := h.same ⟨rfl, rfl, rfl, rfl⟩
theorem rs_run_at {W : World} (h : RS w B b v sl N k acc W) (hk : k ≤ sl.length) (hl : sl.length ≤ 4294967296) (hall : AllS sl) (g : Nat) (hg : W.heap[g]? = some twoObj) :
    Calls Tryd.prog 17 #[.pointer (some ⟨b, 0, none⟩), .slice (some ⟨g, 0, none⟩) 2 2] W fun e w' => e = .returned (.string (textOf ((sl.drop k).take (runN [1, 2] (sl.drop k))))) ∧ RS w B b v sl N (k + runN [1, 2] (sl.drop k)) acc w' := by
  have hgb : g ≠ b := by
    intro e
    rw [e, h.1.blk] at hg
    cases hg
  have hcs : ClsAt W g 0 [1, 2] := by
    intro j x hx
    rw [Lib.cell_of_heap hg]
    match j, hx with
    | 0, hx => simp at hx; subst hx; rfl
    | 1, hx => simp at hx; subst hx; rfl
    | j + 2, hx => simp at hx
  exact (run_any h.1 hk hl hall g 0 2 (Array.getElem?_eq_some_iff.1 hg).1 hgb hcs (by decide)).mono fun e w' ⟨h1, h2⟩ => ⟨h1, h.grown h2⟩
theorem rs_wstr (l : List Int) (hl : AllS l) (hacc : acc.length ≤ 1000000) (hll : l.length ≤ 1000000) : EverT (RS w B b v sl N k acc) 70 #[.pointer (some ⟨N, 0, none⟩), .string (textOf l)] (.returned (.tuple #[.int .i64 (textOf l).size, .nilIface])) (RS w B b v sl N k (acc ++ l)) := by
  intro W h
  have hN : N ≤ W.heap.size := by rw [h.2.2.2.1]; exact h.2.2.1.size
  have hlen := (encL_len acc).2
  have hlen2 := (encL_len l).2
  have hz : (textOf l).size = (encL l).length := by rw [Lib.size_eq, textOf_list]
  refine (Tryd.Builder_WriteString_k N N _ (textOf l) W h.2.1 (by rw [Lib.byteCells_length]; omega) hN).mono fun e w' ⟨x, y, z, _⟩ => ⟨x, ?_⟩
  refine ⟨h.1.below2 z h.2.2.2.2.1 h.2.2.2.2.2, .inr ?_, grown_ext h.2.2.1 (z.mono (by rw [h.2.2.2.1]; exact Nat.le_refl _)), h.2.2.2.1, h.2.2.2.2.1, h.2.2.2.2.2⟩
  rw [encL_append, Lib.byteCells_append]
  rw [Lib.strCells_eq, textOf_list] at y
  exact y
theorem rs_peek_end (hk : k = sl.length) (hl : sl.length ≤ 4294967296) : EverT (RS w B b v sl N k acc) 20 #[.pointer (some ⟨b, 0, none⟩)] (.returned (.int .i32 (-1))) (RS w B b v sl N k acc) :=
  fun _ h => (peek_end h.1 hk hl).mono fun _ _ ⟨x, y⟩ => ⟨x, h.same y⟩
/-- The marks' cells, as they were when the builder was made. -/
theorem rs_contains {gm : Nat} {ms : List Int} (x : Int) (c : Nat) (hm : ∀ (j : Nat) (n : Int), ms[j]? = some n → w.cell? ⟨gm, 0 + j, none⟩ = some (.int .i32 n)) (hg : gm < w.heap.size) (hb : gm ≠ b) (hml : ms.length ≤ 100) :
    EverT (RS w B b v sl N k acc) 126 #[.slice (some ⟨gm, 0, none⟩) ms.length c, .int .i32 x] (.returned (.bool (decide (x ∈ ms)))) (RS w B b v sl N k acc) :=
  fun W h => (contains_any ms x (by omega) _ gm 0 c W (fun _ => rfl) (fun j n hn => (World.cell?_of_block (h.2.2.1.block gm hg (fun e => hb (Option.some.inj e)))).trans (hm j n hn))).mono fun _ _ ⟨x, y⟩ => ⟨x, y ▸ h⟩
end
/-- The loop's relation. -/
def WA (w : World) (B b : Nat) (v : Value) (sl ms : List Int) (N k : Nat) (g : Nat) (wr : World) : Prop :=
  ∃ p acc, acc ++ wmL ms (sl.drop p) = wmL ms (sl.drop k) ∧ p = k + acc.length ∧ p ≤ sl.length ∧ sl.length - p ≤ g ∧ RS w B b v sl N p acc wr
def WdPost (B : Nat) (w : World) (b : Nat) (v : Value) (sl ms : List Int) (k : Nat) (e : Ending) (w' : World) : Prop :=
  e = .returned (.string (textOf (wmL ms (sl.drop k)))) ∧ Moves B w b v sl (k + (wmL ms (sl.drop k)).length) w'
set_option maxHeartbeats 8000000 in
set_option maxRecDepth 100000 in
theorem nword_any {B : Nat} {w : World} {b : Nat} {v : Value} {sl : List Int} {k : Nat} (h : Sc B w b v sl k) (hk : k ≤ sl.length) (hl : sl.length ≤ 100000) (hall : AllS sl)
    (gm c : Nat) (ms : List Int) (hm : ∀ (j : Nat) (n : Int), ms[j]? = some n → w.cell? ⟨gm, 0 + j, none⟩ = some (.int .i32 n)) (hg : gm < w.heap.size) (hb : gm ≠ b) (hml : ms.length ≤ 100) (hm1 : (-1 : Int) ∉ ms) :
    Calls Tryd.prog 117 #[.pointer (some ⟨b, 0, none⟩), .slice (some ⟨gm, 0, none⟩) ms.length c] w (WdPost B w b v sl ms k) := by
  have HALL := Lib.hid hall
  have HM := Lib.hid hm
  have HM1 := Lib.hid hm1
  obtain ⟨N, hN⟩ : ∃ N, N = w.heap.size := ⟨_, rfl⟩
  have HST := Lib.hid (rs_start h hN)
  have HNN := Lib.hid hN
  clear h hall hm hm1 hN
  go_enter Tryd.func117, Tryd.ntmps117
  go_wp2
  rw [← HNN.out]
  go_loopg [] (sl.length - k) (fun g wr => WA w B b v sl ms N k g wr)
  case atStart => exact ⟨k, [], rfl, rfl, hk, Nat.le_refl _, HST.out⟩
  case round =>
    clear HST
    have HA := HALL
    obtain ⟨p, acc, hq, hpk, hpl, hpg, hR⟩ := hrel
    have hacc : acc.length ≤ 1000000 := by omega
    obtain ⟨r, hr⟩ : ∃ r, r = runN [1, 2] (sl.drop p) := ⟨_, rfl⟩
    have hrl : p + r ≤ sl.length := by have := runN_le [1, 2] (sl.drop p); rw [List.length_drop] at this; omega
    obtain ⟨t, ht⟩ : ∃ t, t = (sl.drop p).take r := ⟨_, rfl⟩
    have htl : t.length = r := by rw [ht, List.length_take, List.length_drop]; omega
    have hta : AllS t := fun n hn => HA.out n (List.mem_of_mem_drop (List.mem_of_mem_take (ht ▸ hn)))
    have hcut : wmL ms (sl.drop p) = t ++ wmL ms (sl.drop (p + r)) := by rw [ht, ← List.drop_drop, hr]; exact wm_run ms (sl.drop p)
    have cR : ∀ {W : World}, RS w B b v sl N p acc W → Calls Tryd.prog 17 #[.pointer (some ⟨b, 0, none⟩), .slice (some ⟨W.heap.size, 0, none⟩) 2 2] (W.alloc twoObj) fun e w' => e = .returned (.string (textOf t)) ∧ RS w B b v sl N (p + r) acc w' := fun {W} x => by
      have := rs_run_at (x.alloc twoObj) hpl (by omega) HA.out W.heap.size (heap_alloc_new _ _)
      rw [← hr, ← ht] at this
      exact this
    have cR' : ∀ {W : World}, RS w B b v sl N p acc W → Calls Tryd.prog 17 #[.pointer (some ⟨b, 0, none⟩), .slice (some ⟨W.heap.size, 0, none⟩) 2 2] (W.alloc twoObj).drew fun e w' => e = .returned (.string (textOf t)) ∧ RS w B b v sl N (p + r) acc w' := fun {W} x => by
      have := rs_run_at (x.alloc twoObj).drew hpl (by omega) HA.out W.heap.size (heap_alloc_new W _)
      rw [← hr, ← ht] at this
      exact this
    have cW := rs_wstr (w := w) (B := B) (b := b) (v := v) (sl := sl) (N := N) (k := p + r) (acc := acc) t hta hacc (by omega)
    have hq2 : (acc ++ t) ++ wmL ms (sl.drop (p + r)) = wmL ms (sl.drop k) := by rw [← hq, hcut, List.append_assoc]
    obtain ⟨acc2, hacc2⟩ : ∃ a, a = acc ++ t := ⟨_, rfl⟩
    rw [← hacc2] at cW hq2
    have hal2 : acc2.length = acc.length + r := by rw [hacc2, List.length_append, htl]
    obtain ⟨p2, hp2⟩ : ∃ q, q = p + r := ⟨_, rfl⟩
    rw [← hp2] at cR cR' cW hq2 hrl
    have hpk2 : p2 = k + acc2.length := by omega
    have hc0 : ∀ x, sl[p2]? = some x → cls x ∉ ([1, 2] : List Int) := fun x hx => by
      refine runN_drop [1, 2] (sl.drop p) x ?_
      rw [← hr, List.drop_drop, List.getElem?_drop, Nat.add_zero, ← hp2]
      exact hx
    have HC0 := Lib.hid hc0
    have HQ2 := Lib.hid hq2
    have HPK := Lib.hid hpk2
    have hp2g : sl.length - p2 ≤ gk := by omega
    have hal3 : acc2.length ≤ 1000000 := by omega
    clear hq hcut hr ht htl hta hacc2 hal2 hp2 hpk2 hq2 hpk hc0 HA hacc hpg
    by_cases hpe : p2 = sl.length
    · have hfin : wmL ms (sl.drop k) = acc2 := by rw [← HQ2.out, hpe, List.drop_length]; exact List.append_nil _
      have cP := rs_peek_end (w := w) (B := B) (b := b) (v := v) (N := N) (acc := acc2) hpe (by omega)
      have cC := rs_contains (w := w) (B := B) (b := b) (v := v) (sl := sl) (N := N) (k := p2) (acc := acc2) (-1) c HM.out hg hb hml
      rw [decide_eq_false HM1.out] at cC
      have cS := rs_string (w := w) (B := B) (b := b) (v := v) (sl := sl) (N := N) (k := p2) (acc := acc2)
      have HF := Lib.hid hfin
      clear hfin hpe
      go_wp2_with (first
        | (go_at_call 17; (with_reducible refine (cR (by assumption)).mono ?_); rintro e x1 ⟨rfl, hR1⟩)
        | (go_at_call 70; (with_reducible refine (cW.at (by assumption)).mono ?_); rintro e x2 ⟨rfl, hR2⟩)
        | (go_at_call 20; (with_reducible refine (cP.at (by assumption)).mono ?_); rintro e x3 ⟨rfl, hR3⟩)
        | (go_at_call 126; (with_reducible refine (cC.at (by assumption)).mono ?_); rintro e x4 ⟨rfl, hR4⟩)
        | (go_at_call 73; (with_reducible refine (cS.at (by assumption)).mono ?_); rintro e x5 ⟨rfl, hR5⟩))
      (try rw [Exit.noGoto_ret])
      go_ret
      refine ⟨by rw [HF.out]; rfl, ?_⟩
      rw [HF.out, ← HPK.out]
      exact ⟨hR5.1, hR5.2.2.1⟩
    · obtain ⟨x, hx⟩ : ∃ x, sl[p2]? = some x := ⟨_, List.getElem?_eq_getElem (by omega)⟩
      have hcx := HC0.out x hx
      have hmk := wm_mark ms sl p2 x hx hcx
      have cP := rs_peek (w := w) (B := B) (b := b) (v := v) (N := N) (acc := acc2) hx (by omega)
      have cC := rs_contains (w := w) (B := B) (b := b) (v := v) (sl := sl) (N := N) (k := p2) (acc := acc2) x c HM.out hg hb hml
      by_cases hin : x ∈ ms
      · rw [if_pos hin] at hmk
        rw [decide_eq_true hin] at cC
        have hxs : sgn x = true := HALL.out x (List.mem_of_getElem? hx)
        have cN := rs_next (w := w) (B := B) (b := b) (v := v) (N := N) (acc := acc2) hx (by omega)
        have cWr := rs_write (w := w) (B := B) (b := b) (v := v) (sl := sl) (N := N) (k := p2 + 1) (acc := acc2) x hxs hal3
        obtain ⟨g, rfl⟩ : ∃ g, gk = g + 1 := ⟨gk - 1, by omega⟩
        have hfin : ∀ W, RS w B b v sl N (p2 + 1) (acc2 ++ [x]) W → WA w B b v sl ms N k g W := fun W y => ⟨p2 + 1, acc2 ++ [x], by rw [← HQ2.out, hmk, List.append_assoc]; rfl, by have := HPK.out; rw [List.length_append]; simp; omega, by omega, by omega, y⟩
        have HF := Lib.hid hfin
        clear hfin hpe hx hcx hmk hin hxs
        go_wp2_with (first
          | (go_at_call 17; (with_reducible refine (cR (by assumption)).mono ?_); rintro e x1 ⟨rfl, hR1⟩)
          | (go_at_call 70; (with_reducible refine (cW.at (by assumption)).mono ?_); rintro e x2 ⟨rfl, hR2⟩)
          | (go_at_call 20; (with_reducible refine (cP.at (by assumption)).mono ?_); rintro e x3 ⟨rfl, hR3⟩)
          | (go_at_call 126; (with_reducible refine (cC.at (by assumption)).mono ?_); rintro e x4 ⟨rfl, hR4⟩)
          | (go_at_call 11; (with_reducible refine (cN.at (by assumption)).mono ?_); rintro e x5 ⟨rfl, hR5⟩)
          | (go_at_call 76; (with_reducible refine (cWr.at (by assumption)).mono ?_); rintro e x6 ⟨rfl, hR6⟩))
        go_roundg g
        case measure => omega
        case rel => exact HF.out _ hR6
      · rw [if_neg hin] at hmk
        rw [decide_eq_false hin] at cC
        have cS := rs_string (w := w) (B := B) (b := b) (v := v) (sl := sl) (N := N) (k := p2) (acc := acc2)
        have hfin : wmL ms (sl.drop k) = acc2 := by rw [← HQ2.out, hmk, List.append_nil]
        have HF := Lib.hid hfin
        clear hfin hpe hx hcx hmk hin
        go_wp2_with (first
          | (go_at_call 17; (with_reducible refine (cR (by assumption)).mono ?_); rintro e x1 ⟨rfl, hR1⟩)
          | (go_at_call 70; (with_reducible refine (cW.at (by assumption)).mono ?_); rintro e x2 ⟨rfl, hR2⟩)
          | (go_at_call 20; (with_reducible refine (cP.at (by assumption)).mono ?_); rintro e x3 ⟨rfl, hR3⟩)
          | (go_at_call 126; (with_reducible refine (cC.at (by assumption)).mono ?_); rintro e x4 ⟨rfl, hR4⟩)
          | (go_at_call 73; (with_reducible refine (cS.at (by assumption)).mono ?_); rintro e x5 ⟨rfl, hR5⟩))
        (try rw [Exit.noGoto_ret])
        go_ret
        refine ⟨by rw [HF.out]; rfl, ?_⟩
        rw [HF.out, ← HPK.out]
        exact ⟨hR5.1, hR5.2.2.1⟩
end Go.Proofs.YtjalhcbomjgkoaaDoor

/-
  BLANKS WITHIN A LINE, A LINE's END (package nt).
-/
namespace Go.Proofs.YtjalhcbomjgkoaaDoor
open Go.RowKit
set_option linter.unusedVariables false

section
variable {w : World} {B b : Nat} {v : Value} {sl : List Int} {k : Nat}
theorem Moves.to {k' : Nat} {W W' : World} (h : Moves B w b v sl k W) (m : Moves B W b v sl k' W') : Moves B w b v sl k' W' := ⟨m.1, grown_trans h.2 m.2⟩
theorem Moves.same {W W' : World} (h : Moves B w b v sl k W) (s : Same W W') : Moves B w b v sl k W' := ⟨s.sc h.1, grown_trans h.2 (same_grown s _)⟩
theorem Moves.start (h : Sc B w b v sl k) : Moves B w b v sl k w := ⟨h, same_grown (Same.refl _) _⟩
theorem mv_end (hk : k ≤ sl.length) (hl : sl.length ≤ 4294967296) {W : World} (h : Moves B w b v sl k W) : Calls Tryd.prog 21 #[.pointer (some ⟨b, 0, none⟩)] W fun e w' => e = .returned (.bool (decide (k = sl.length))) ∧ Moves B w b v sl k w' := by
  by_cases he : k = sl.length
  · rw [decide_eq_true he]; exact (end_yes h.1 he hl).mono fun _ _ ⟨x, y⟩ => ⟨x, h.same y⟩
  · rw [decide_eq_false he]; exact (end_no h.1 (by omega) hl).mono fun _ _ ⟨x, y⟩ => ⟨x, h.same y⟩
theorem mv_place {W : World} (h : Moves B w b v sl k W) : Calls Tryd.prog 22 #[.pointer (some ⟨b, 0, none⟩)] W fun e w' => e = .returned (.int .i64 k) ∧ Moves B w b v sl k w' := (place_any h.1).mono fun _ _ ⟨x, y⟩ => ⟨x, h.same y⟩
theorem mv_peek {x : Int} (hx : sl[k]? = some x) (hl : sl.length ≤ 4294967296) {W : World} (h : Moves B w b v sl k W) : Calls Tryd.prog 20 #[.pointer (some ⟨b, 0, none⟩)] W fun e w' => e = .returned (.int .i32 x) ∧ Moves B w b v sl k w' := (peek_sign h.1 hx hl).mono fun _ _ ⟨x, y⟩ => ⟨x, h.same y⟩
/-- The sign at a place, or -1. -/
def pk (sl : List Int) (k : Nat) : Int := (sl[k]?).getD (-1)
theorem mv_pk (hk : k ≤ sl.length) (hl : sl.length ≤ 4294967296) {W : World} (h : Moves B w b v sl k W) : Calls Tryd.prog 20 #[.pointer (some ⟨b, 0, none⟩)] W fun e w' => e = .returned (.int .i32 (pk sl k)) ∧ Moves B w b v sl k w' := by
  unfold pk
  cases hx : sl[k]? with
  | none => exact (peek_end h.1 (by have := List.getElem?_eq_none_iff.1 hx; omega) hl).mono fun _ _ ⟨x, y⟩ => ⟨x, h.same y⟩
  | some x => exact mv_peek hx hl h
theorem mv_next {x : Int} (hx : sl[k]? = some x) (hl : sl.length ≤ 4294967296) {W : World} (h : Moves B w b v sl k W) : Calls Tryd.prog 11 #[.pointer (some ⟨b, 0, none⟩)] W fun e w' => e = .returned (.int .i32 x) ∧ Moves B w b v sl (k + 1) w' := (next_sign' h.1 hx hl).mono fun _ _ ⟨x, y⟩ => ⟨x, h.to y⟩
theorem mv_back (j : Nat) (hj : j ≤ sl.length) (hl : sl.length ≤ 4294967296) {W : World} (h : Moves B w b v sl k W) : Calls Tryd.prog 19 #[.pointer (some ⟨b, 0, none⟩), .int .i64 j] W fun e w' => e = .returned (.bool true) ∧ Moves B w b v sl j w' := (back_yes h.1 j hj hl).mono fun _ _ ⟨x, y⟩ => ⟨x, h.to y⟩
theorem mv_is (hk : k ≤ sl.length) (hl : sl.length ≤ 4294967296) (c : Int) (s : ByteArray) (hp : Parts s.data.toList [c] []) (hsz : s.size ≤ 4294967296) {W : World} (h : Moves B w b v sl k W) :
    Calls Tryd.prog 13 #[.pointer (some ⟨b, 0, none⟩), .string s] W fun e w' => e = .returned (.bool (decide (sl[k]? = some c))) ∧ Moves B w b v sl (k + if sl[k]? = some c then 1 else 0) w' := (is_one h.1 hk hl c s hp hsz).mono fun _ _ ⟨x, y⟩ => ⟨x, h.to y⟩
theorem mv_is_yes (hk : k ≤ sl.length) (hl : sl.length ≤ 4294967296) (c : Int) (s : ByteArray) (hp : Parts s.data.toList [c] []) (hsz : s.size ≤ 4294967296) (hx : sl[k]? = some c) {W : World} (h : Moves B w b v sl k W) :
    Calls Tryd.prog 13 #[.pointer (some ⟨b, 0, none⟩), .string s] W fun e w' => e = .returned (.bool true) ∧ Moves B w b v sl (k + 1) w' := by
  have := mv_is hk hl c s hp hsz h
  rw [if_pos hx, decide_eq_true hx] at this
  exact this
theorem mv_is_no (hk : k ≤ sl.length) (hl : sl.length ≤ 4294967296) (c : Int) (s : ByteArray) (hp : Parts s.data.toList [c] []) (hsz : s.size ≤ 4294967296) (hx : ¬ sl[k]? = some c) {W : World} (h : Moves B w b v sl k W) :
    Calls Tryd.prog 13 #[.pointer (some ⟨b, 0, none⟩), .string s] W fun e w' => e = .returned (.bool false) ∧ Moves B w b v sl k w' := by
  have := mv_is hk hl c s hp hsz h
  rw [if_neg hx, decide_eq_false hx] at this
  exact this
theorem pre_two (c d : Int) (sl : List Int) (p : Nat) : [c, d].isPrefixOf (sl.drop p) = decide (sl[p]? = some c ∧ sl[p + 1]? = some d) := by
  cases hx : sl[p]? with
  | none => rw [List.drop_eq_nil_of_le (List.getElem?_eq_none_iff.1 hx)]; simp
  | some x =>
    rw [drop_cons sl p x hx]
    have e1 := pre_one d sl (p + 1)
    rw [show [c, d].isPrefixOf (x :: sl.drop (p + 1)) = ((c == x) && [d].isPrefixOf (sl.drop (p + 1))) from rfl, e1]
    by_cases h1 : x = c
    · subst h1; simp
    · have : (c == x) = false := by simpa using Ne.symm h1
      rw [this]; simp [h1]
theorem mv_is2_yes (hk : k ≤ sl.length) (hl : sl.length ≤ 4294967296) (c d : Int) (s : ByteArray) (hp : Parts s.data.toList [c, d] []) (hsz : s.size ≤ 4294967296) (hx : sl[k]? = some c ∧ sl[k + 1]? = some d) {W : World} (h : Moves B w b v sl k W) :
    Calls Tryd.prog 13 #[.pointer (some ⟨b, 0, none⟩), .string s] W fun e w' => e = .returned (.bool true) ∧ Moves B w b v sl (k + 2) w' :=
  (is_any h.1 hk hl s [c, d] hp hsz).mono fun e w' ⟨x, y⟩ => by
    unfold isN at y
    rw [pre_two, decide_eq_true hx] at x y
    rw [if_pos rfl] at y
    exact ⟨x, h.to y⟩
theorem mv_is2_no (hk : k ≤ sl.length) (hl : sl.length ≤ 4294967296) (c d : Int) (s : ByteArray) (hp : Parts s.data.toList [c, d] []) (hsz : s.size ≤ 4294967296) (hx : ¬ (sl[k]? = some c ∧ sl[k + 1]? = some d)) {W : World} (h : Moves B w b v sl k W) :
    Calls Tryd.prog 13 #[.pointer (some ⟨b, 0, none⟩), .string s] W fun e w' => e = .returned (.bool false) ∧ Moves B w b v sl k w' :=
  (is_any h.1 hk hl s [c, d] hp hsz).mono fun e w' ⟨x, y⟩ => by
    unfold isN at y
    rw [pre_two, decide_eq_false hx] at x y
    rw [if_neg (by decide), Nat.add_zero] at y
    exact ⟨x, h.to y⟩
end
theorem parts_two (c d : Int) (h0 : 0 ≤ c) (h1 : c ≤ 127) (h2 : 0 ≤ d) (h3 : d ≤ 127) : Parts (⟨#[c.toNat.toUInt8, d.toNat.toUInt8]⟩ : ByteArray).data.toList [c, d] [] := by
  refine ⟨?_, fun n hn => ?_, .inl rfl⟩
  · rw [List.append_nil, encL_cons, encL_cons, encL_nil, List.append_nil]
    unfold Lib.encodeRune
    rw [Lib.encodeRuneZ_one h0 h1, Lib.encodeRuneZ_one h2 h3]
    rfl
  · simp at hn
    rw [sgn_iff]; omega
theorem p1310 : Parts (⟨#[13, 10]⟩ : ByteArray).data.toList [13, 10] [] := parts_two 13 10 (by decide) (by decide) (by decide) (by decide)
theorem p9494 : Parts (⟨#[94, 94]⟩ : ByteArray).data.toList [94, 94] [] := parts_two 94 94 (by decide) (by decide) (by decide) (by decide)
/-! ### The plain functions -/
def gpc (n : Int) : Bool := (n == 32) || (n == 9)
def gapP (sl : List Int) (k : Nat) : Nat := k + ((sl.drop k).takeWhile gpc).length
def notN (n : Int) : Bool := !(n == 10)
def noteF (sl : List Int) (k : Nat) : Nat := k + ((sl.drop k).takeWhile notN).length
def noteP (sl : List Int) (k : Nat) : Nat := if sl[k]? = some 35 then noteF sl k else k
theorem while_step (f : Int → Bool) (sl : List Int) (k : Nat) (c : Int) (h : sl[k]? = some c) (hf : f c = true) : k + ((sl.drop k).takeWhile f).length = (k + 1) + ((sl.drop (k + 1)).takeWhile f).length := by
  rw [drop_cons sl k c h, List.takeWhile_cons, if_pos hf, List.length_cons]; omega
theorem while_stop (f : Int → Bool) (sl : List Int) (k : Nat) (h : ∀ c, sl[k]? = some c → f c = false) : k + ((sl.drop k).takeWhile f).length = k := by
  cases hx : sl[k]? with
  | none => rw [List.drop_eq_nil_of_le (List.getElem?_eq_none_iff.1 hx)]; rfl
  | some c => rw [drop_cons sl k c hx, List.takeWhile_cons, if_neg (by rw [h c hx]; decide)]; rfl
theorem takeWhile_len (f : Int → Bool) : ∀ l : List Int, (l.takeWhile f).length ≤ l.length
  | [] => Nat.le_refl _
  | n :: l => by rw [List.takeWhile_cons]; split <;> simp [takeWhile_len f l]
theorem while_le (f : Int → Bool) (sl : List Int) (k : Nat) (h : k ≤ sl.length) : k + ((sl.drop k).takeWhile f).length ≤ sl.length := by
  have := takeWhile_len f (sl.drop k)
  rw [List.length_drop] at this; omega
theorem gapP_le (sl : List Int) (k : Nat) (h : k ≤ sl.length) : gapP sl k ≤ sl.length ∧ k ≤ gapP sl k := ⟨while_le _ _ _ h, by unfold gapP; omega⟩
theorem noteP_le (sl : List Int) (k : Nat) (h : k ≤ sl.length) : noteP sl k ≤ sl.length ∧ k ≤ noteP sl k := by
  unfold noteP noteF
  split
  · exact ⟨while_le _ _ _ h, by omega⟩
  · exact ⟨h, Nat.le_refl _⟩
/-- The line's end, if it may come at a place. -/
def overE (sl : List Int) (i : Nat) : Nat × Bool :=
  if i = sl.length then (i, true) else if sl[i]? = some 10 then (i + 1, true) else if sl[i]? = some 13 ∧ sl[i + 1]? = some 10 then (i + 2, true) else (i, false)
def overP (sl : List Int) (k : Nat) : Nat × Bool := overE sl (noteP sl (gapP sl k))
theorem overE_le (sl : List Int) (i : Nat) (h : i ≤ sl.length) : (overE sl i).1 ≤ sl.length ∧ i ≤ (overE sl i).1 ∧ ((overE sl i).2 = true → i < sl.length → i < (overE sl i).1) := by
  unfold overE
  split
  · exact ⟨by dsimp only; omega, Nat.le_refl _, fun _ h => by omega⟩
  split
  · rename_i h1 h2
    have := (List.getElem?_eq_some_iff.1 h2).1
    exact ⟨by dsimp only; omega, by dsimp only; omega, fun _ _ => by dsimp only; omega⟩
  split
  · rename_i h1 h2 h3
    have := (List.getElem?_eq_some_iff.1 h3.2).1
    exact ⟨by dsimp only; omega, by dsimp only; omega, fun _ _ => by dsimp only; omega⟩
  · exact ⟨h, Nat.le_refl _, fun h => by cases h⟩
theorem overP_le (sl : List Int) (k : Nat) (h : k ≤ sl.length) : (overP sl k).1 ≤ sl.length ∧ k ≤ (overP sl k).1 ∧ ((overP sl k).2 = true → k < sl.length → k < (overP sl k).1) := by
  have h1 := gapP_le sl k h
  have h2 := noteP_le sl (gapP sl k) h1.1
  have h3 := overE_le sl _ h2.1
  refine ⟨h3.1, by unfold overP; omega, fun h4 h5 => ?_⟩
  unfold overP at *
  by_cases h6 : noteP sl (gapP sl k) = sl.length
  · omega
  · have := h3.2.2 h4 (by omega); omega
def SkI (B : Nat) (w : World) (b : Nat) (v : Value) (sl : List Int) (k g : Nat) (wr : World) : Prop :=
  ∃ p, gapP sl p = gapP sl k ∧ p ≤ sl.length ∧ sl.length - p ≤ g ∧ Moves B w b v sl p wr
set_option maxHeartbeats 4000000 in
set_option maxRecDepth 100000 in
theorem nskip_any {B : Nat} {w : World} {b : Nat} {v : Value} {sl : List Int} {k : Nat} (h : Sc B w b v sl k) (hk : k ≤ sl.length) (hl : sl.length ≤ 4294967296) :
    Calls Tryd.prog 92 #[.pointer (some ⟨b, 0, none⟩)] w fun e w' => e = .returned (.tuple #[]) ∧ Moves B w b v sl (gapP sl k) w' := by
  have HS := Lib.hid (Moves.start h)
  clear h
  go_enter Tryd.func92, Tryd.ntmps92
  go_wp2
  go_loopg [] (sl.length - k) (fun g wr => SkI B w b v sl k g wr)
  case atStart => exact ⟨k, rfl, hk, Nat.le_refl _, HS.out⟩
  case round =>
    obtain ⟨p, hp, hpl, hpg, hM⟩ := hrel
    have HP := Lib.hid hp
    by_cases h1 : sl[p]? = some 32
    · have c1 := mv_is_yes hpl hl 32 _ p32 (by decide) h1 hM
      have hlt := (List.getElem?_eq_some_iff.1 h1).1
      obtain ⟨g, rfl⟩ : ∃ g, gk = g + 1 := ⟨gk - 1, by omega⟩
      have HF : Hid (gapP sl (p + 1) = gapP sl k) := Lib.hid (by rw [← hp]; exact (while_step gpc sl p 32 h1 rfl).symm)
      clear hp h1 hM
      go_wp2_with (go_at_call 13; (with_reducible refine c1.mono ?_); rintro e x1 ⟨rfl, m1⟩)
      go_roundg g
      case measure => omega
      case rel => exact ⟨p + 1, HF.out, by omega, by omega, m1⟩
    · have c1 := mv_is_no hpl hl 32 _ p32 (by decide) h1 hM
      by_cases h2 : sl[p]? = some 9
      · have c2 := fun (W : World) (x : Moves B w b v sl p W) => mv_is_yes hpl hl 9 _ p9 (by decide) h2 x
        have hlt := (List.getElem?_eq_some_iff.1 h2).1
        obtain ⟨g, rfl⟩ : ∃ g, gk = g + 1 := ⟨gk - 1, by omega⟩
        have HF : Hid (gapP sl (p + 1) = gapP sl k) := Lib.hid (by rw [← hp]; exact (while_step gpc sl p 9 h2 rfl).symm)
        clear hp h1 h2 hM
        go_wp2_with (first
          | (go_at_call 13; (with_reducible refine c1.mono ?_); rintro e x1 ⟨rfl, m1⟩)
          | (go_at_call 13; (with_reducible refine (c2 _ (by assumption)).mono ?_); rintro e x2 ⟨rfl, m2⟩))
        go_roundg g
        case measure => omega
        case rel => exact ⟨p + 1, HF.out, by omega, by omega, m2⟩
      · have c2 := fun (W : World) (x : Moves B w b v sl p W) => mv_is_no hpl hl 9 _ p9 (by decide) h2 x
        have HF : Hid (gapP sl k = p) := Lib.hid (by
          rw [← hp]
          refine while_stop gpc sl p (fun c hc => ?_)
          unfold gpc
          have n1 : c ≠ 32 := fun e => h1 (by rw [hc, e])
          have n2 : c ≠ 9 := fun e => h2 (by rw [hc, e])
          simp [n1, n2])
        clear hp h1 h2 hM
        go_wp2_with (first
          | (go_at_call 13; (with_reducible refine c1.mono ?_); rintro e x1 ⟨rfl, m1⟩)
          | (go_at_call 13; (with_reducible refine (c2 _ (by assumption)).mono ?_); rintro e x2 ⟨rfl, m2⟩))
        (try rw [Exit.noGoto_ret])
        go_end0
        exact ⟨rfl, by rw [HF.out]; exact m2⟩
def NoI (B : Nat) (w : World) (b : Nat) (v : Value) (sl : List Int) (k g : Nat) (wr : World) : Prop :=
  ∃ p, noteF sl p = noteF sl k ∧ p ≤ sl.length ∧ sl.length - p ≤ g ∧ Moves B w b v sl p wr
/-- What the four ways of a line's end say of the three calls at its end. -/
theorem over_ways (sl : List Int) (i : Nat) (h : i ≤ sl.length) :
    (i = sl.length ∧ overE sl i = (i, true)) ∨ (¬ i = sl.length ∧ ((sl[i]? = some 10 ∧ overE sl i = (i + 1, true)) ∨ (¬ sl[i]? = some 10 ∧ (((sl[i]? = some 13 ∧ sl[i + 1]? = some 10) ∧ overE sl i = (i + 2, true)) ∨ (¬ (sl[i]? = some 13 ∧ sl[i + 1]? = some 10) ∧ overE sl i = (i, false)))))) := by
  unfold overE
  by_cases h1 : i = sl.length
  · exact .inl ⟨h1, by rw [if_pos h1]⟩
  refine .inr ⟨h1, ?_⟩
  rw [if_neg h1]
  by_cases h2 : sl[i]? = some 10
  · exact .inl ⟨h2, by rw [if_pos h2]⟩
  refine .inr ⟨h2, ?_⟩
  rw [if_neg h2]
  by_cases h3 : sl[i]? = some 13 ∧ sl[i + 1]? = some 10
  · exact .inl ⟨h3, by rw [if_pos h3]⟩
  · exact .inr ⟨h3, by rw [if_neg h3]⟩
/-- The three calls at a line's end, at place i: one for each way. -/
def Three (B : Nat) (w : World) (b : Nat) (v : Value) (sl : List Int) (i : Nat) (e0 e1 e2 : Bool) (j1 j2 : Nat) : Prop :=
  (∀ {W : World}, Moves B w b v sl i W → Calls Tryd.prog 21 #[.pointer (some ⟨b, 0, none⟩)] W fun e w' => e = .returned (.bool e0) ∧ Moves B w b v sl i w') ∧
  (∀ {W : World}, Moves B w b v sl i W → Calls Tryd.prog 13 #[.pointer (some ⟨b, 0, none⟩), .string ⟨#[10]⟩] W fun e w' => e = .returned (.bool e1) ∧ Moves B w b v sl j1 w') ∧
  (∀ {W : World}, Moves B w b v sl i W → Calls Tryd.prog 13 #[.pointer (some ⟨b, 0, none⟩), .string ⟨#[13, 10]⟩] W fun e w' => e = .returned (.bool e2) ∧ Moves B w b v sl j2 w')
theorem three_ways {B : Nat} {w : World} {b : Nat} {v : Value} (sl : List Int) (i : Nat) (h : i ≤ sl.length) (hl : sl.length ≤ 4294967296) : ∃ e0 e1 e2 j1 j2, Three B w b v sl i e0 e1 e2 j1 j2 ∧
    ((e0 = true ∧ i = sl.length ∧ overE sl i = (i, true)) ∨ (e0 = false ∧ ¬ i = sl.length ∧ ((e1 = true ∧ overE sl i = (j1, true)) ∨ (e1 = false ∧ j1 = i ∧ ((e2 = true ∧ overE sl i = (j2, true)) ∨ (e2 = false ∧ overE sl i = (j2, false))))))) := by
  have hE := fun {W : World} (x : Moves B w b v sl i W) => mv_end h hl x
  by_cases h2 : sl[i]? = some 10
  · have h3 : ¬ (sl[i]? = some 13 ∧ sl[i + 1]? = some 10) := fun e => by rw [h2] at e; exact absurd e.1 (by decide)
    refine ⟨_, _, _, _, _, ⟨hE, fun x => mv_is_yes h hl 10 _ p10 (by decide) h2 x, fun x => mv_is2_no h hl 13 10 _ p1310 (by decide) h3 x⟩, ?_⟩
    rcases over_ways sl i h with ⟨a, b⟩ | ⟨a, ⟨b, c⟩ | ⟨b, _⟩⟩
    · exact .inl ⟨decide_eq_true a, a, b⟩
    · exact .inr ⟨decide_eq_false a, a, .inl ⟨rfl, c⟩⟩
    · exact absurd h2 b
  · by_cases h3 : sl[i]? = some 13 ∧ sl[i + 1]? = some 10
    · refine ⟨_, _, _, _, _, ⟨hE, fun x => mv_is_no h hl 10 _ p10 (by decide) h2 x, fun x => mv_is2_yes h hl 13 10 _ p1310 (by decide) h3 x⟩, ?_⟩
      rcases over_ways sl i h with ⟨a, b⟩ | ⟨a, ⟨b, c⟩ | ⟨b, ⟨c, d⟩ | ⟨c, d⟩⟩⟩
      · exact .inl ⟨decide_eq_true a, a, b⟩
      · exact absurd b h2
      · exact .inr ⟨decide_eq_false a, a, .inr ⟨rfl, rfl, .inl ⟨rfl, d⟩⟩⟩
      · exact absurd h3 c
    · refine ⟨_, _, _, _, _, ⟨hE, fun x => mv_is_no h hl 10 _ p10 (by decide) h2 x, fun x => mv_is2_no h hl 13 10 _ p1310 (by decide) h3 x⟩, ?_⟩
      rcases over_ways sl i h with ⟨a, b⟩ | ⟨a, ⟨b, c⟩ | ⟨b, ⟨c, d⟩ | ⟨c, d⟩⟩⟩
      · exact .inl ⟨decide_eq_true a, a, b⟩
      · exact absurd b h2
      · exact absurd c h3
      · exact .inr ⟨decide_eq_false a, a, .inr ⟨rfl, rfl, .inr ⟨rfl, d⟩⟩⟩
def EnPost (B : Nat) (w : World) (b : Nat) (v : Value) (sl : List Int) (r : Nat × Bool) (e : Ending) (w' : World) : Prop := e = .returned (.bool r.2) ∧ Moves B w b v sl r.1 w'
set_option maxHeartbeats 8000000 in
set_option maxRecDepth 100000 in
theorem nend_any {B : Nat} {w : World} {b : Nat} {v : Value} {sl : List Int} {k : Nat} (h : Sc B w b v sl k) (hk : k ≤ sl.length) (hl : sl.length ≤ 4294967296) :
    Calls Tryd.prog 68 #[.pointer (some ⟨b, 0, none⟩)] w (EnPost B w b v sl (overP sl k)) := by
  have cS : ∀ {W : World}, Moves B w b v sl k W → Calls Tryd.prog 92 #[.pointer (some ⟨b, 0, none⟩)] W fun e w' => e = .returned (.tuple #[]) ∧ Moves B w b v sl (gapP sl k) w' := fun {W} x => (nskip_any x.1 hk hl).mono fun _ _ ⟨a, y⟩ => ⟨a, x.to y⟩
  have h0 := Moves.start h
  obtain ⟨r, hr⟩ : ∃ r, r = overP sl k := ⟨_, rfl⟩
  rw [← hr]
  unfold overP at hr
  have hq := (gapP_le sl k hk).1
  obtain ⟨q, hqq⟩ : ∃ q, q = gapP sl k := ⟨_, rfl⟩
  rw [← hqq] at cS hr hq
  have hi := (noteP_le sl q hq).1
  obtain ⟨i, hii⟩ : ∃ i, i = noteP sl q := ⟨_, rfl⟩
  rw [← hii] at hr hi
  obtain ⟨e0, e1, e2, j1, j2, ⟨cE, cN, cR⟩, hw⟩ := three_ways (B := B) (w := w) (b := b) (v := v) sl i hi hl
  have HR := Lib.hid hr
  clear h hr hqq
  have cP : ∀ {W : World}, Moves B w b v sl q W → Calls Tryd.prog 20 #[.pointer (some ⟨b, 0, none⟩)] W fun e w' => e = .returned (.int .i32 (pk sl q)) ∧ Moves B w b v sl q w' := fun {W} x => mv_pk hq hl x
  by_cases h35 : sl[q]? = some 35
  · have hp : pk sl q = 35 := by unfold pk; rw [h35]; rfl
    rw [hp] at cP
    have hif : i = noteF sl q := by rw [hii]; unfold noteP; rw [if_pos h35]
    have HI := Lib.hid hif
    clear hp hif hii h35
    go_enter Tryd.func68, Tryd.ntmps68
    go_wp2_with (first
      | (go_at_call 92; (with_reducible refine (cS (by assumption)).mono ?_); rintro e x1 ⟨rfl, m1⟩)
      | (go_at_call 20; (with_reducible refine (cP (by assumption)).mono ?_); rintro e x2 ⟨rfl, m2⟩))
    go_loopg [] (sl.length - q) (fun g wr => NoI B w b v sl q g wr)
    case atStart => exact ⟨q, rfl, hq, Nat.le_refl _, m2⟩
    case round =>
      clear m1 m2 h0 cP cS
      obtain ⟨p, hp, hpl, hpg, hM⟩ := hrel
      have HP := Lib.hid hp
      have cEp : ∀ {W : World}, Moves B w b v sl p W → Calls Tryd.prog 21 #[.pointer (some ⟨b, 0, none⟩)] W fun e w' => e = .returned (.bool (decide (p = sl.length))) ∧ Moves B w b v sl p w' := fun {W} x => mv_end hpl hl x
      clear hp
      by_cases hpe : p = sl.length
      · rw [decide_eq_true hpe] at cEp
        have hpi : i = p := by
          rw [HI.out, ← HP.out]
          exact while_stop notN sl p (fun c hc => by rw [hpe, List.getElem?_eq_none (Nat.le_refl _)] at hc; cases hc)
        subst hpi
        rcases hw with ⟨rfl, _, w1⟩ | ⟨_, hne, _⟩
        · have HW := Lib.hid w1
          clear w1 hpe
          go_wp2_with (go_at_call 21; (with_reducible refine (cEp (by assumption)).mono ?_); rintro e x1 ⟨rfl, m1⟩; clear hM; have hM := m1; clear m1)
          (try rw [Exit.noGoto_ret])
          go_ret
          rw [HR.out, HW.out]
          exact ⟨rfl, hM⟩
        · exact absurd hpe hne
      · rw [decide_eq_false hpe] at cEp
        obtain ⟨c, hx⟩ : ∃ c, sl[p]? = some c := ⟨_, List.getElem?_eq_getElem (by omega)⟩
        have cPp : ∀ {W : World}, Moves B w b v sl p W → Calls Tryd.prog 20 #[.pointer (some ⟨b, 0, none⟩)] W fun e w' => e = .returned (.int .i32 c) ∧ Moves B w b v sl p w' := fun {W} x => mv_peek hx hl x
        by_cases hc : c = 10
        · have hpi : i = p := by
            rw [HI.out, ← HP.out]
            exact while_stop notN sl p (fun c' hc' => by rw [hx, hc] at hc'; cases hc'; rfl)
          subst hpi
          subst hc
          clear hx
          rcases hw with ⟨rfl, _, w1⟩ | ⟨rfl, _, ⟨rfl, w1⟩ | ⟨rfl, rfl, ⟨rfl, w1⟩ | ⟨rfl, w1⟩⟩⟩
          all_goals
            have HW := Lib.hid w1
            clear w1 hpe
            go_wp2_with (first
              | (go_at_call 21; (with_reducible refine (cE (by assumption)).mono ?_); rintro e x1 ⟨rfl, m1⟩; clear hM; have hM := m1; clear m1)
              | (go_at_call 20; (with_reducible refine (cPp (by assumption)).mono ?_); rintro e x4 ⟨rfl, m4⟩; clear hM; have hM := m4; clear m4)
              | (go_at_call 13; (with_reducible refine (cN (by assumption)).mono ?_); rintro e x2 ⟨rfl, m2⟩; clear hM; have hM := m2; clear m2)
              | (go_at_call 13; (with_reducible refine (cR (by assumption)).mono ?_); rintro e x3 ⟨rfl, m3⟩; clear hM; have hM := m3; clear m3))
            (try rw [Exit.noGoto_ret])
            go_ret
            rw [HR.out, HW.out]
            exact ⟨rfl, hM⟩
        · have g10 : (c != 10) = true := by simpa using hc
          have cX : ∀ {W : World}, Moves B w b v sl p W → Calls Tryd.prog 11 #[.pointer (some ⟨b, 0, none⟩)] W fun e w' => e = .returned (.int .i32 c) ∧ Moves B w b v sl (p + 1) w' := fun {W} x => mv_next hx hl x
          obtain ⟨g, rfl⟩ : ∃ g, gk = g + 1 := ⟨gk - 1, by omega⟩
          have HF : Hid (noteF sl (p + 1) = noteF sl q) := Lib.hid (by rw [← HP.out]; exact (while_step notN sl p c hx (by unfold notN; simpa using hc)).symm)
          clear hx hc hw
          go_wp2_with (first
            | (go_at_call 21; (with_reducible refine (cEp (by assumption)).mono ?_); rintro e x1 ⟨rfl, m1⟩)
            | (go_at_call 20; (with_reducible refine (cPp (by assumption)).mono ?_); rintro e x4 ⟨rfl, m4⟩)
            | (go_at_call 11; (with_reducible refine (cX (by assumption)).mono ?_); rintro e x5 ⟨rfl, m5⟩))
          go_roundg g
          case measure => omega
          case rel => exact ⟨p + 1, HF.out, by omega, by omega, m5⟩
  · have hiq : i = q := by rw [hii]; unfold noteP; rw [if_neg h35]
    have hp : (pk sl q == 35) = false := by
      unfold pk
      cases hx : sl[q]? with
      | none => rfl
      | some c => rw [hx] at h35; simpa using h35
    subst hiq
    obtain ⟨z, hz⟩ : ∃ z, z = pk sl i := ⟨_, rfl⟩
    rw [← hz] at cP hp
    clear hii h35 hz
    rcases hw with ⟨rfl, _, w1⟩ | ⟨rfl, _, ⟨rfl, w1⟩ | ⟨rfl, rfl, ⟨rfl, w1⟩ | ⟨rfl, w1⟩⟩⟩
    all_goals
      have HW := Lib.hid w1
      clear w1
      go_enter Tryd.func68, Tryd.ntmps68
      go_wp2_with (first
        | (go_at_call 92; (with_reducible refine (cS (by assumption)).mono ?_); rintro e x1 ⟨rfl, m1⟩; clear h0; have hM := m1; clear m1)
        | (go_at_call 20; (with_reducible refine (cP (by assumption)).mono ?_); rintro e x2 ⟨rfl, m2⟩; clear hM; have hM := m2; clear m2)
        | (go_at_call 21; (with_reducible refine (cE (by assumption)).mono ?_); rintro e x3 ⟨rfl, m3⟩; clear hM; have hM := m3; clear m3)
        | (go_at_call 13; (with_reducible refine (cN (by assumption)).mono ?_); rintro e x4 ⟨rfl, m4⟩; clear hM; have hM := m4; clear m4)
        | (go_at_call 13; (with_reducible refine (cR (by assumption)).mono ?_); rintro e x5 ⟨rfl, m5⟩; clear hM; have hM := m5; clear m5))
      go_ret
      rw [HR.out, HW.out]
      exact ⟨rfl, hM⟩
end Go.Proofs.YtjalhcbomjgkoaaDoor

/-
  COMPARING: integers, texts, lists of texts; the first that isn't 0; whether a type is known.
-/
namespace Go.Proofs.YtjalhcbomjgkoaaDoor
open Go.RowKit
set_option linter.unusedVariables false

theorem ret_iT {k : IntKind} {a b : Int} (h : a = b) : Ending.returned (.int k a) = .returned (.int k b) := by rw [h]
theorem ret_bT {a b : Bool} (h : a = b) : Ending.returned (.bool a) = .returned (.bool b) := by rw [h]
/-- The order of integers. -/
def ordT (a b : Int) : Int := if a < b then -1 else if b < a then 1 else 0
theorem nanInt_any (a : Int) (w : World) : Calls Tryd.prog 81 #[.int .i64 a] w fun e w' => e = .returned (.bool false) ∧ w = w' := by
  go_enter Tryd.func81, Tryd.ntmps81
  go_wp2
  go_ret
  exact ⟨ret_bT (by simp), rfl⟩
theorem cmpInt_any (a b : Int) (w : World) : Calls Tryd.prog 52 #[.int .i64 a, .int .i64 b] w fun e w' => e = .returned (.int .i64 (ordT a b)) ∧ w = w' := by
  go_enter Tryd.func52, Tryd.ntmps52
  go_wp2_with (go_at_call 81; (with_reducible refine (nanInt_any _ _).mono ?_); rintro e w' ⟨rfl, rfl⟩)
  all_goals (go_ret; refine ⟨ret_iT ?_, rfl⟩; unfold ordT; omega)
theorem nanStr_any (a : ByteArray) (w : World) : Calls Tryd.prog 99 #[.string a] w fun e w' => e = .returned (.bool false) ∧ w = w' := by
  go_enter Tryd.func99, Tryd.ntmps99
  go_wp2
  go_ret
  exact ⟨ret_bT (by simp), rfl⟩
/-- The order of texts, byte by byte. -/
def ordS (a b : ByteArray) : Int := if Op.bytesLess a.toList b.toList = true then -1 else if (a.toList == b.toList) = true then 0 else 1
theorem cmpStr_any (a b : ByteArray) (w : World) : Calls Tryd.prog 82 #[.string a, .string b] w fun e w' => e = .returned (.int .i64 (ordS a b)) ∧ w = w' := by
  cases h1 : Op.bytesLess a.toList b.toList
  · cases h2 : (a.toList == b.toList)
    · have H : Hid (ordS a b = 1) := Lib.hid (by unfold ordS; rw [h1, h2, if_neg (by decide), if_neg (by decide)])
      go_enter Tryd.func82, Tryd.ntmps82
      go_wp2_with (go_at_call 99; (with_reducible refine (nanStr_any _ _).mono ?_); rintro e w' ⟨rfl, rfl⟩)
      go_ret
      exact ⟨ret_iT H.out.symm, rfl⟩
    · have H : Hid (ordS a b = 0) := Lib.hid (by unfold ordS; rw [h1, h2, if_neg (by decide), if_pos rfl])
      go_enter Tryd.func82, Tryd.ntmps82
      go_wp2_with (go_at_call 99; (with_reducible refine (nanStr_any _ _).mono ?_); rintro e w' ⟨rfl, rfl⟩)
      go_ret
      exact ⟨ret_iT H.out.symm, rfl⟩
  · have H : Hid (ordS a b = -1) := Lib.hid (by unfold ordS; rw [h1, if_pos rfl])
    go_enter Tryd.func82, Tryd.ntmps82
    go_wp2_with (go_at_call 99; (with_reducible refine (nanStr_any _ _).mono ?_); rintro e w' ⟨rfl, rfl⟩)
    go_ret
    exact ⟨ret_iT H.out.symm, rfl⟩
abbrev lS : List UInt8 := [104, 116, 116, 112, 58, 47, 47, 119, 119, 119, 46, 119, 51, 46, 111, 114, 103, 47, 50, 48, 48, 49, 47, 88, 77, 76, 83, 99, 104, 101, 109, 97, 35, 115, 116, 114, 105, 110, 103]
abbrev lI : List UInt8 := [104, 116, 116, 112, 58, 47, 47, 119, 119, 119, 46, 119, 51, 46, 111, 114, 103, 47, 50, 48, 48, 49, 47, 88, 77, 76, 83, 99, 104, 101, 109, 97, 35, 105, 110, 116, 101, 103, 101, 114]
abbrev lB : List UInt8 := [104, 116, 116, 112, 58, 47, 47, 119, 119, 119, 46, 119, 51, 46, 111, 114, 103, 47, 50, 48, 48, 49, 47, 88, 77, 76, 83, 99, 104, 101, 109, 97, 35, 98, 111, 111, 108, 101, 97, 110]
abbrev lL : List UInt8 := [104, 116, 116, 112, 58, 47, 47, 119, 119, 119, 46, 119, 51, 46, 111, 114, 103, 47, 49, 57, 57, 57, 47, 48, 50, 47, 50, 50, 45, 114, 100, 102, 45, 115, 121, 110, 116, 97, 120, 45, 110, 115, 35, 108, 97, 110, 103, 83, 116, 114, 105, 110, 103]
def known (b : ByteArray) : Bool := (b.toList == lS) || (b.toList == lI) || (b.toList == lB) || (b.toList == lL)
set_option maxRecDepth 100000 in
theorem known_any (b : ByteArray) (w : World) : Calls Tryd.prog 59 #[.string b] w fun e w' => e = .returned (.bool (known b)) ∧ w = w' := by
  obtain ⟨r, hr⟩ : ∃ r, r = known b := ⟨_, rfl⟩
  rw [← hr]
  unfold known at hr
  cases h1 : (b.toList == lS) <;> cases h2 : (b.toList == lI) <;> cases h3 : (b.toList == lB) <;> cases h4 : (b.toList == lL)
  all_goals
    rw [h1, h2, h3, h4] at hr
    have H := Lib.hid hr
    clear hr
    go_enter Tryd.func59, Tryd.ntmps59
    go_wp2
    go_ret
    exact ⟨ret_bT H.out.symm, rfl⟩
/-- The first that is not 0. -/
def orT (x y : Int) : Int := if x = 0 then y else x
theorem orInt_any (x y : Int) (w : World) (g c : Nat) (h0 : w.cell? ⟨g, 0, none⟩ = some (.int .i64 x)) (h1 : w.cell? ⟨g, 1, none⟩ = some (.int .i64 y)) :
    Calls Tryd.prog 51 #[.slice (some ⟨g, 0, none⟩) 2 c] w fun e w' => e = .returned (.int .i64 (orT x y)) ∧ w = w' := by
  go_enter Tryd.func51, Tryd.ntmps51
  go_wp2
  go_loopg [5, 8] 2 (fun g s5 s8 wr => ∃ k : Nat, k + g = 2 ∧ s8 = .int .i64 k ∧ Hid (1 ≤ k → x = 0) ∧ Hid (2 ≤ k → y = 0) ∧ w = wr)
  case atStart => exact ⟨0, rfl, rfl, Lib.hid (by omega), Lib.hid (by omega), rfl⟩
  case round =>
    obtain ⟨k, hkg, rfl, H0, H1, rfl⟩ := hrel
    obtain rfl | rfl | rfl : k = 0 ∨ k = 1 ∨ k = 2 := by omega
    · by_cases hx : x = 0
      · have hb : (x != 0) = false := by simpa using hx
        have HX := Lib.hid hx
        clear hx
        go_wp2
        go_roundg 1
        case measure => omega
        case rel => exact ⟨1, rfl, rfl, Lib.hid (fun _ => HX.out), Lib.hid (by omega), rfl⟩
      · have hb : (x != 0) = true := by simpa using hx
        have HX : Hid (orT x y = x) := Lib.hid (if_neg hx)
        clear hx
        go_wp2
        (try rw [Exit.noGoto_ret])
        go_ret
        exact ⟨ret_iT HX.out.symm, rfl⟩
    · have HX : Hid (orT x y = y) := Lib.hid (if_pos (H0.out (by omega)))
      by_cases hy : y = 0
      · have hb : (y != 0) = false := by simpa using hy
        have HY := Lib.hid hy
        clear hy
        go_wp2
        go_roundg 0
        case measure => omega
        case rel => exact ⟨2, rfl, rfl, Lib.hid (fun _ => H0.out (by omega)), Lib.hid (fun _ => HY.out), rfl⟩
      · have hb : (y != 0) = true := by simpa using hy
        clear hy
        go_wp2
        (try rw [Exit.noGoto_ret])
        go_ret
        exact ⟨ret_iT HX.out.symm, rfl⟩
    · have HX : Hid (orT x y = 0) := Lib.hid (by unfold orT; rw [if_pos (H0.out (by omega)), H1.out (by omega)])
      go_wp2
      go_ret
      exact ⟨ret_iT HX.out.symm, rfl⟩
theorem orErr_any (x y : Int) (w : World) (g c : Nat) (h0 : w.cell? ⟨g, 0, none⟩ = some (.int .i64 x)) (h1 : w.cell? ⟨g, 1, none⟩ = some (.int .i64 y)) :
    Calls Tryd.prog 84 #[.slice (some ⟨g, 0, none⟩) 2 c] w fun e w' => e = .returned (.int .i64 (orT x y)) ∧ w = w' := by
  go_enter Tryd.func84, Tryd.ntmps84
  go_wp2
  go_loopg [5, 8] 2 (fun g s5 s8 wr => ∃ k : Nat, k + g = 2 ∧ s8 = .int .i64 k ∧ Hid (1 ≤ k → x = 0) ∧ Hid (2 ≤ k → y = 0) ∧ w = wr)
  case atStart => exact ⟨0, rfl, rfl, Lib.hid (by omega), Lib.hid (by omega), rfl⟩
  case round =>
    obtain ⟨k, hkg, rfl, H0, H1, rfl⟩ := hrel
    obtain rfl | rfl | rfl : k = 0 ∨ k = 1 ∨ k = 2 := by omega
    · by_cases hx : x = 0
      · have hb : (x != 0) = false := by simpa using hx
        have HX := Lib.hid hx
        clear hx
        go_wp2
        go_roundg 1
        case measure => omega
        case rel => exact ⟨1, rfl, rfl, Lib.hid (fun _ => HX.out), Lib.hid (by omega), rfl⟩
      · have hb : (x != 0) = true := by simpa using hx
        have HX : Hid (orT x y = x) := Lib.hid (if_neg hx)
        clear hx
        go_wp2
        (try rw [Exit.noGoto_ret])
        go_ret
        exact ⟨ret_iT HX.out.symm, rfl⟩
    · have HX : Hid (orT x y = y) := Lib.hid (if_pos (H0.out (by omega)))
      by_cases hy : y = 0
      · have hb : (y != 0) = false := by simpa using hy
        have HY := Lib.hid hy
        clear hy
        go_wp2
        go_roundg 0
        case measure => omega
        case rel => exact ⟨2, rfl, rfl, Lib.hid (fun _ => H0.out (by omega)), Lib.hid (fun _ => HY.out), rfl⟩
      · have hb : (y != 0) = true := by simpa using hy
        clear hy
        go_wp2
        (try rw [Exit.noGoto_ret])
        go_ret
        exact ⟨ret_iT HX.out.symm, rfl⟩
    · have HX : Hid (orT x y = 0) := Lib.hid (by unfold orT; rw [if_pos (H0.out (by omega)), H1.out (by omega)])
      go_wp2
      go_ret
      exact ⟨ret_iT HX.out.symm, rfl⟩
end Go.Proofs.YtjalhcbomjgkoaaDoor
