/-
  MERGED (a claim has at most 60 files): ReadE, ReadF.
-/
import Derived.Test.YtpnfjjgihkmjmaaGreatDoorZ07
/-
  READING WHAT STANDS BEHIND A BACKSLASH: all ways.
-/
namespace Go.Proofs.YtpnfjjgihkmjmaaGreatDoor
open Go.RowKit
set_option linter.unusedVariables false

/-- What stands behind a backslash. -/
def ef (sl : List Int) (p : Nat) : Nat × Option Int :=
  match sl[p]? with
  | none => (p, none)
  | some c => if c = 117 then rd 4 0 (sl.drop (p + 1)) (p + 1) else if c = 85 then rd 8 0 (sl.drop (p + 1)) (p + 1) else if 0 ≤ unl c then (p + 1, some (unl c)) else (p, none)
set_option maxHeartbeats 4000000 in
set_option maxRecDepth 100000 in
theorem escape_none {B : Nat} {w : World} {b : Nat} {v : Value} {sl : List Int} {k : Nat} {c : Int} (h : Sc B w b v sl k)
    (hP : ∀ W, Same w W → Calls Tryz.prog 66 #[.pointer (some ⟨b, 0, none⟩)] W fun e w' => e = .returned (.int .i32 c) ∧ Same w w')
    (hu : unl c = -1) (h1 : c ≠ 117) (h2 : c ≠ 85) (t : TypeId) (fr : Nat × Nat) (htab : ∀ W, Same w W → W.heap[0]? = some (.cells escCells t fr)) :
    Calls Tryz.prog 131 #[.pointer (some ⟨b, 0, none⟩)] w fun e w' => e = .returned (.tuple #[.int .i32 0, .bool false]) ∧ Moves B w b v sl k w' := by
  have hE : ∀ W, Same w W → Calls Tryz.prog 134 #[.int .i32 c] W fun e w' => e = .returned (.tuple #[.int .i32 0, .bool false]) ∧ Sc B w' b v sl k ∧ w.grownBy w' (some b) := fun W s => (escaped_any c W t fr (htab W s)).mono fun _ _ ⟨x, y⟩ => ⟨by rw [x, ← escRes_no c hu], (s.sc h).below3 y, grown_trans (same_grown s _) (below_grown y _)⟩
  have e1 : (c == 117) = false := by simpa using h1
  have e2 : (c == 85) = false := by simpa using h2
  have hs0 : Same w w := Same.refl w
  clear h hu htab h1 h2
  go_enter Tryz.func131, Tryz.ntmps131
  go_wp2_with (first
    | (go_at_call 66; (with_reducible refine (hP _ (by assumption)).mono ?_); rintro e w3 ⟨rfl, hs3⟩)
    | (go_at_call 134; (with_reducible refine (hE _ (by assumption)).mono ?_); rintro e w4 ⟨rfl, hsc4, hg4⟩))
  go_ret2
  exact ⟨rfl, hsc4, hg4⟩

set_option maxHeartbeats 4000000 in
set_option maxRecDepth 100000 in
theorem escape_u4 {B : Nat} {w : World} {b : Nat} {v : Value} {sl : List Int} {k : Nat} (h : Sc B w b v sl k) (hl : sl.length ≤ 4294967296) (hx : sl[k]? = some 117) :
    Calls Tryz.prog 131 #[.pointer (some ⟨b, 0, none⟩)] w (RdPost B w b v sl (rd 4 0 (sl.drop (k + 1)) (k + 1))) := by
  have hki : k < sl.length := (List.getElem?_eq_some_iff.1 hx).1
  have hP := peek_sign h hx hl
  obtain ⟨r, hr⟩ : ∃ r, r = rd 4 0 (sl.drop (k + 1)) (k + 1) := ⟨_, rfl⟩
  have hN : ∀ W, Sc B W b v sl (k + 1) → Calls Tryz.prog 133 #[.pointer (some ⟨b, 0, none⟩), .int .i64 4] W (RdPost B W b v sl r) := fun W s => by
    rw [hr]; exact number_any s (by omega) hl 4 (by omega) (by omega)
  have HS := Lib.hid h
  rw [← hr]
  clear h hx hr
  go_enter Tryz.func131, Tryz.ntmps131
  go_wp2_with (first
    | (go_at_call 66; (with_reducible refine hP.mono ?_); rintro e w3 ⟨rfl, hs3⟩; have h3 := hs3.sc HS.out; have c13 := h3.c1; have f13 := h3.f1; have h4 : Sc B (w3.setCell ⟨b, 1, none⟩ (.int .i64 ((k : Int) + 1))) b v sl (k + 1) := h3.place (k + 1))
    | (go_at_call 133; (with_reducible refine (hN _ (by assumption)).mono ?_); rintro e w4 ⟨rfl, hM4⟩))
  go_ret2
  exact ⟨rfl, hM4.1, grown_trans (grown_trans (same_grown hs3 _) (grown_set w3 b 1 _)) hM4.2⟩
set_option maxHeartbeats 4000000 in
set_option maxRecDepth 100000 in
theorem escape_u8 {B : Nat} {w : World} {b : Nat} {v : Value} {sl : List Int} {k : Nat} (h : Sc B w b v sl k) (hl : sl.length ≤ 4294967296) (hx : sl[k]? = some 85) :
    Calls Tryz.prog 131 #[.pointer (some ⟨b, 0, none⟩)] w (RdPost B w b v sl (rd 8 0 (sl.drop (k + 1)) (k + 1))) := by
  have hki : k < sl.length := (List.getElem?_eq_some_iff.1 hx).1
  have hP := peek_sign h hx hl
  obtain ⟨r, hr⟩ : ∃ r, r = rd 8 0 (sl.drop (k + 1)) (k + 1) := ⟨_, rfl⟩
  have hN : ∀ W, Sc B W b v sl (k + 1) → Calls Tryz.prog 133 #[.pointer (some ⟨b, 0, none⟩), .int .i64 8] W (RdPost B W b v sl r) := fun W s => by
    rw [hr]; exact number_any s (by omega) hl 8 (by omega) (by omega)
  have HS := Lib.hid h
  rw [← hr]
  clear h hx hr
  go_enter Tryz.func131, Tryz.ntmps131
  go_wp2_with (first
    | (go_at_call 66; (with_reducible refine hP.mono ?_); rintro e w3 ⟨rfl, hs3⟩; have h3 := hs3.sc HS.out; have c13 := h3.c1; have f13 := h3.f1; have h4 : Sc B (w3.setCell ⟨b, 1, none⟩ (.int .i64 ((k : Int) + 1))) b v sl (k + 1) := h3.place (k + 1))
    | (go_at_call 133; (with_reducible refine (hN _ (by assumption)).mono ?_); rintro e w4 ⟨rfl, hM4⟩))
  go_ret2
  exact ⟨rfl, hM4.1, grown_trans (grown_trans (same_grown hs3 _) (grown_set w3 b 1 _)) hM4.2⟩
theorem unl_m (c : Int) (h : ¬ 0 ≤ unl c) : unl c = -1 := by revert h; unfold unl; omega
theorem escape_any {B : Nat} {w : World} {b : Nat} {v : Value} {sl : List Int} {k : Nat} (h : Sc B w b v sl k) (hk : k ≤ sl.length) (hl : sl.length ≤ 4294967296)
    (t : TypeId) (fr : Nat × Nat) (htab : ∀ W, Same w W → W.heap[0]? = some (.cells escCells t fr)) :
    Calls Tryz.prog 131 #[.pointer (some ⟨b, 0, none⟩)] w (RdPost B w b v sl (ef sl k)) := by
  unfold ef
  cases hx : sl[k]? with
  | none =>
    have hke : k = sl.length := by have := List.getElem?_eq_none_iff.1 hx; omega
    exact escape_none h (fun W s => (peek_end (s.sc h) hke hl).mono fun _ _ ⟨x, y⟩ => ⟨x, s.trans y⟩) (by decide) (by decide) (by decide) t fr htab
  | some c =>
    dsimp only
    by_cases h1 : c = 117
    · rw [if_pos h1]; exact escape_u4 h hl (h1 ▸ hx)
    rw [if_neg h1]
    by_cases h2 : c = 85
    · rw [if_pos h2]; exact escape_u8 h hl (h2 ▸ hx)
    rw [if_neg h2]
    by_cases h3 : 0 ≤ unl c
    · rw [if_pos h3]; exact escape_letter h hl hx rfl h3 t fr htab
    · rw [if_neg h3]
      exact escape_none h (fun W s => (peek_sign (s.sc h) hx hl).mono fun _ _ ⟨x, y⟩ => ⟨x, s.trans y⟩) (unl_m c h3) h1 h2 t fr htab
theorem rd_le : ∀ (m : Nat) (S : Int) (l : List Int) (p : Nat), p - 1 ≤ (rd m S l p).1 ∧ (rd m S l p).1 ≤ p + l.length
  | 0, S, l, p => by rw [rd_zero]; split <;> simp <;> omega
  | m + 1, S, [], p => by rw [rd_end]; simp
  | m + 1, S, d :: l, p => by
    rw [rd_cons]
    have := rd_le m (S * 16 + hexv d) l (p + 1)
    split <;> simp <;> omega
theorem rd_sgn : ∀ (m : Nat) (S : Int) (l : List Int) (p : Nat) (n : Int), (rd m S l p).2 = some n → sgn n = true ∧ p ≤ (rd m S l p).1
  | 0, S, l, p, n => by rw [rd_zero]; split <;> simp <;> rintro rfl <;> assumption
  | m + 1, S, [], p, n => by rw [rd_end]; simp
  | m + 1, S, d :: l, p, n => by
    rw [rd_cons]
    split
    · simp
    · intro h
      have := rd_sgn m (S * 16 + hexv d) l (p + 1) n h
      exact ⟨this.1, by omega⟩
end Go.Proofs.YtpnfjjgihkmjmaaGreatDoor

/-
  'readQuoted' and 'Quoted': all ways.
-/
namespace Go.Proofs.YtpnfjjgihkmjmaaGreatDoor
open Go.RowKit
set_option linter.unusedVariables false

/-- From place p on, acc being read; at most f signs are to come. -/
def qf (sl : List Int) : Nat → Nat → List Int → Nat × Option (List Int)
  | 0, p, _ => (p, none)
  | f + 1, p, acc => match sl[p]? with
    | none => (p, none)
    | some c => if c = 34 then (p + 1, some acc) else if c = 10 ∨ c = 13 then (p, none) else if c = 92 then
        (match (ef sl (p + 1)).2 with
          | none => ((ef sl (p + 1)).1, none)
          | some n => qf sl f (ef sl (p + 1)).1 (acc ++ [n]))
      else qf sl f (p + 1) (acc ++ [c])
theorem ef_le (sl : List Int) (p : Nat) (h : p ≤ sl.length) : (ef sl p).1 ≤ sl.length ∧ p ≤ (ef sl p).1 := by
  unfold ef
  cases hx : sl[p]? with
  | none => exact ⟨h, Nat.le_refl _⟩
  | some c =>
    have hp := (List.getElem?_eq_some_iff.1 hx).1
    dsimp only
    have h4 := rd_le 4 0 (sl.drop (p + 1)) (p + 1)
    have h8 := rd_le 8 0 (sl.drop (p + 1)) (p + 1)
    rw [List.length_drop] at h4 h8
    split
    · omega
    split
    · omega
    split <;> simp <;> omega
theorem unl_sgn (c : Int) (h : 0 ≤ unl c) : sgn (unl c) = true := by
  have : unl c = 9 ∨ unl c = 10 ∨ unl c = 13 ∨ unl c = 8 ∨ unl c = 12 ∨ unl c = 34 ∨ unl c = 92 ∨ unl c = 39 := by revert h; unfold unl; omega
  rw [sgn_iff]; omega
theorem ef_sgn (sl : List Int) (p : Nat) (n : Int) (h : (ef sl p).2 = some n) : sgn n = true := by
  unfold ef at h
  cases hx : sl[p]? with
  | none => rw [hx] at h; cases h
  | some c =>
    rw [hx] at h
    dsimp only at h
    split at h
    · exact (rd_sgn _ _ _ _ _ h).1
    split at h
    · exact (rd_sgn _ _ _ _ _ h).1
    split at h
    · rename_i hu
      simp at h
      rw [← h]; exact unl_sgn c hu
    · cases h
def QPost (B : Nat) (w : World) (b : Nat) (v : Value) (sl : List Int) (r : Nat × Option (List Int)) (e : Ending) (w' : World) : Prop :=
  e = .returned (.tuple #[.string (textOf (r.2.getD [])), .bool r.2.isSome]) ∧ Moves B w b v sl r.1 w'
/-- The loop's relation. -/
def QA (w : World) (B b : Nat) (v : Value) (sl : List Int) (N : Nat) (r : Nat × Option (List Int)) (g : Nat) (wr : World) : Prop :=
  ∃ p acc, r = qf sl g p acc ∧ p ≤ sl.length ∧ sl.length - p ≤ g ∧ acc.length + g ≤ 100000 ∧ RS w B b v sl N p acc wr
section
variable {w : World} {B b : Nat} {v : Value} {sl : List Int} {N k : Nat} {acc : List Int}
theorem rs_endy (hk : k = sl.length) (hl : sl.length ≤ 4294967296) : EverT (RS w B b v sl N k acc) 35 #[.pointer (some ⟨b, 0, none⟩)] (.returned (.bool true)) (RS w B b v sl N k acc) :=
  fun _ h => (end_yes h.1 hk hl).mono fun _ _ ⟨x, y⟩ => ⟨x, h.same y⟩
theorem rs_escape (hk : k ≤ sl.length) (hl : sl.length ≤ 4294967296) (t : TypeId) (fr : Nat × Nat) (htab : ∀ W, w.grownBy W (some b) → W.heap[0]? = some (.cells escCells t fr)) (q : Nat) (o : Option Int) (he1 : (ef sl k).1 = q) (he2 : (ef sl k).2 = o) :
    EverT (RS w B b v sl N k acc) 131 #[.pointer (some ⟨b, 0, none⟩)] (.returned (.tuple #[.int .i32 (o.getD 0), .bool o.isSome])) (RS w B b v sl N q acc) := by
  subst he1 he2
  exact fun _ h => (escape_any h.1 hk hl t fr (fun W s => htab W (grown_trans h.2.2.1 (same_grown s _)))).mono fun _ _ ⟨x, y⟩ => ⟨x, h.grown y⟩
end
theorem text_nil : textOf [] = ⟨#[]⟩ := rfl

set_option maxHeartbeats 8000000 in
set_option maxRecDepth 100000 in
theorem readq_any {B : Nat} {w : World} {b : Nat} {v : Value} {sl : List Int} {k : Nat} (h : Sc B w b v sl k) (hl : sl.length ≤ 100000) (hall : AllS sl) (hx0 : sl[k]? = some 34)
    (t : TypeId) (fr : Nat × Nat) (htab : w.heap[0]? = some (.cells escCells t fr)) :
    Calls Tryz.prog 125 #[.pointer (some ⟨b, 0, none⟩)] w (QPost B w b v sl (qf sl (sl.length - (k + 1)) (k + 1) [])) := by
  have hb0 : (0 : Nat) ≠ b := by
    intro e
    rw [e, h.blk] at htab
    simp only [Option.some.injEq, Obj.cells.injEq] at htab
    have := congrArg Array.size htab.1
    simp [escCells] at this
  have hT : ∀ W, w.grownBy W (some b) → W.heap[0]? = some (.cells escCells t fr) := fun W g => (g.block 0 (Array.getElem?_eq_some_iff.1 htab).1 (fun e => hb0 (by cases e; rfl))).trans htab
  have hkl : k < sl.length := (List.getElem?_eq_some_iff.1 hx0).1
  have hP := peek_sign h hx0 (by omega)
  have hbw : b < w.heap.size := (Array.getElem?_eq_some_iff.1 h.blk).1
  have hvw : ∀ g, v.ownBlock = some g → g < w.heap.size := fun g hg => (World.ownsRow.lt h.row g hg).2
  have HS := Lib.hid h
  have HA := Lib.hid hall
  obtain ⟨r, hr⟩ : ∃ r, r = qf sl (sl.length - (k + 1)) (k + 1) [] := ⟨_, rfl⟩
  have HR := Lib.hid hr
  rw [← hr]
  clear h hall htab hx0 hr
  go_enter Tryz.func125, Tryz.ntmps125
  go_wp2_with (go_at_call 66; (with_reducible refine hP.mono ?_); rintro e w3 ⟨rfl, hs3⟩; have h3 := hs3.sc HS.out; have c13 := h3.c1; have f13 := h3.f1)
  obtain ⟨N, hN⟩ : ∃ N, N = w3.heap.size := ⟨_, rfl⟩
  have hNw : N = w.heap.size := by rw [hN, hs3.heap]
  have hstart : RS w B b v sl N (k + 1) [] ((w3.setCell ⟨b, 1, none⟩ (.int .i64 ((k : Int) + 1))).alloc (.cells #[.pointer none, .slice none 0 0] 94)) := by
    have hp1 : Sc B (w3.setCell ⟨b, 1, none⟩ (.int .i64 ((k : Int) + 1))) b v sl (k + 1) := h3.place (k + 1)
    have hfr := Lib.fresh_isBuilder 94 5 (w3.setCell ⟨b, 1, none⟩ (.int .i64 ((k : Int) + 1)))
    rw [World.size_setCell, ← hN] at hfr
    refine ⟨hp1.below3 ((Below.refl _ _).alloc (Nat.le_refl _) _), Lib.IsBuilderF.of hfr, ?_, hNw, by rw [hNw]; exact hbw, by rw [hNw]; exact hvw⟩
    exact grown_trans (grown_trans (same_grown hs3 _) (grown_set w3 b 1 _)) (below_grown ((Below.refl _ _).alloc (Nat.le_refl _) _) _)
  have HST := Lib.hid hstart
  clear hstart h3 c13 f13
  rw [← hN]
  have HNN := Lib.hid hN
  have HNW := Lib.hid hNw
  clear hN hNw
  go_loopg [] (sl.length - (k + 1)) (fun g wr => QA w B b v sl N r g wr)
  case atStart => exact ⟨k + 1, [], HR.out, by omega, by omega, by simp; omega, HST.out⟩
  case round =>
    clear HR HST hP
    obtain ⟨p, acc, hq, hpl, hpg, hag, hR⟩ := hrel
    have hacc : acc.length ≤ 1000000 := by omega
    by_cases hpe : p = sl.length
    · have hrr : r = (p, none) := by
        rw [hq]
        cases gk with
        | zero => rfl
        | succ g => unfold qf; rw [hpe, List.getElem?_eq_none (Nat.le_refl _)]
      have cE := rs_endy (w := w) (B := B) (b := b) (v := v) (N := N) (acc := acc) hpe (by omega)
      have HRR := Lib.hid hrr
      clear hq hrr hpe
      go_wp2_with (go_at_call 35; (with_reducible refine (cE.at (by assumption)).mono ?_); rintro e x1 ⟨rfl, hR1⟩)
      go_ret2
      rw [HRR.out]
      exact ⟨by rw [show ((p, (none : Option (List Int))).2.getD []) = [] from rfl, text_nil]; rfl, hR1.1, hR1.2.2.1⟩
    · have hpl2 : p < sl.length := by omega
      obtain ⟨g, rfl⟩ : ∃ g, gk = g + 1 := ⟨gk - 1, by omega⟩
      obtain ⟨c, hx⟩ : ∃ c, sl[p]? = some c := ⟨_, List.getElem?_eq_getElem hpl2⟩
      have hcs : sgn c = true := HA.out c (List.mem_of_getElem? hx)
      have cE := rs_end (w := w) (B := B) (b := b) (v := v) (N := N) (acc := acc) hpl2 (by omega)
      have cN := rs_next (w := w) (B := B) (b := b) (v := v) (N := N) (acc := acc) hx (by omega)
      unfold qf at hq
      rw [hx] at hq
      dsimp only at hq
      clear hx hpe
      by_cases h34 : c = 34
      · rw [if_pos h34] at hq
        subst h34
        have cS := rs_string (w := w) (B := B) (b := b) (v := v) (sl := sl) (N := N) (k := p + 1) (acc := acc)
        have HQ := Lib.hid hq
        clear hq hcs hT
        go_wp2_with (first
          | (go_at_call 35; (with_reducible refine (cE.at (by assumption)).mono ?_); rintro e x1 ⟨rfl, hR1⟩)
          | (go_at_call 67; (with_reducible refine (cN.at (by assumption)).mono ?_); rintro e x2 ⟨rfl, hR2⟩)
          | (go_at_call 47; (with_reducible refine (cS.at (by assumption)).mono ?_); rintro e x3 ⟨rfl, hR3⟩))
        go_ret2
        rw [HQ.out]
        exact ⟨rfl, hR3.1, hR3.2.2.1⟩
      rw [if_neg h34] at hq
      have g34 : (c == 34) = false := by simpa using h34
      by_cases hnl : c = 10 ∨ c = 13
      · rw [if_pos hnl] at hq
        have HQ := Lib.hid hq
        clear hq hcs hT h34
        rcases hnl with rfl | rfl
        all_goals
          clear g34
          go_wp2_with (first
            | (go_at_call 35; (with_reducible refine (cE.at (by assumption)).mono ?_); rintro e x1 ⟨rfl, hR1⟩)
            | (go_at_call 67; (with_reducible refine (cN.at (by assumption)).mono ?_); rintro e x2 ⟨rfl, hR2⟩; have c12 := hR2.1.c1; have f12 := hR2.1.f1))
          go_ret2
          rw [HQ.out]
          refine ⟨by rw [show ((p, (none : Option (List Int))).2.getD []) = [] from rfl, text_nil]; rfl, by exact hR2.1.place p, grown_trans hR2.2.2.1 (grown_set x2 b 1 _)⟩
      rw [if_neg hnl] at hq
      have g10 : (c == 10) = false := by have : c ≠ 10 := fun e => hnl (.inl e)
                                         simpa using this
      have g13 : (c == 13) = false := by have : c ≠ 13 := fun e => hnl (.inr e)
                                         simpa using this
      by_cases h92 : c = 92
      · rw [if_pos h92] at hq
        subst h92
        obtain ⟨hle1, hle2⟩ := ef_le sl (p + 1) (by omega)
        obtain ⟨q, hq1⟩ : ∃ q, (ef sl (p + 1)).1 = q := ⟨_, rfl⟩
        rw [hq1] at hq hle1 hle2
        clear g34 g10 g13 h34 hnl hcs
        cases ho : (ef sl (p + 1)).2 with
        | none =>
          rw [ho] at hq
          dsimp only at hq
          have cL := rs_escape (w := w) (B := B) (b := b) (v := v) (N := N) (acc := acc) (k := p + 1) (by omega) (by omega) t fr hT q none hq1 ho
          have HQ := Lib.hid hq
          clear hq hT ho hq1
          go_wp2_with (first
            | (go_at_call 35; (with_reducible refine (cE.at (by assumption)).mono ?_); rintro e x1 ⟨rfl, hR1⟩)
            | (go_at_call 67; (with_reducible refine (cN.at (by assumption)).mono ?_); rintro e x2 ⟨rfl, hR2⟩)
            | (go_at_call 131; (with_reducible refine (cL.at (by assumption)).mono ?_); rintro e x3 ⟨rfl, hR3⟩))
          go_ret2
          rw [HQ.out]
          exact ⟨by rw [show ((q, (none : Option (List Int))).2.getD []) = [] from rfl, text_nil]; rfl, hR3.1, hR3.2.2.1⟩
        | some n =>
          rw [ho] at hq
          dsimp only at hq
          have hn := ef_sgn sl (p + 1) n ho
          have cL := rs_escape (w := w) (B := B) (b := b) (v := v) (N := N) (acc := acc) (k := p + 1) (by omega) (by omega) t fr hT q (some n) hq1 ho
          have cW := rs_write (w := w) (B := B) (b := b) (v := v) (sl := sl) (N := N) (k := q) (acc := acc) n hn hacc
          have hfin : ∀ W, RS w B b v sl N q (acc ++ [n]) W → QA w B b v sl N r g W := fun W x => ⟨q, acc ++ [n], hq, hle1, by omega, by simp; omega, x⟩
          have HF := Lib.hid hfin
          clear hq hT ho hq1 hfin hn
          go_wp2_with (first
            | (go_at_call 35; (with_reducible refine (cE.at (by assumption)).mono ?_); rintro e x1 ⟨rfl, hR1⟩)
            | (go_at_call 67; (with_reducible refine (cN.at (by assumption)).mono ?_); rintro e x2 ⟨rfl, hR2⟩)
            | (go_at_call 131; (with_reducible refine (cL.at (by assumption)).mono ?_); rintro e x3 ⟨rfl, hR3⟩)
            | (go_at_call 112; (with_reducible refine (cW.at (by assumption)).mono ?_); rintro e x4 ⟨rfl, hR4⟩))
          go_roundg g
          case measure => omega
          case rel => exact HF.out _ hR4
      · rw [if_neg h92] at hq
        have g92 : (c == 92) = false := by simpa using h92
        have cW := rs_write (w := w) (B := B) (b := b) (v := v) (sl := sl) (N := N) (k := p + 1) (acc := acc) c hcs hacc
        have hfin : ∀ W, RS w B b v sl N (p + 1) (acc ++ [c]) W → QA w B b v sl N r g W := fun W x => ⟨p + 1, acc ++ [c], hq, by omega, by omega, by simp; omega, x⟩
        have HF := Lib.hid hfin
        clear hq hT hfin hcs h34 hnl h92
        go_wp2_with (first
          | (go_at_call 35; (with_reducible refine (cE.at (by assumption)).mono ?_); rintro e x1 ⟨rfl, hR1⟩)
          | (go_at_call 67; (with_reducible refine (cN.at (by assumption)).mono ?_); rintro e x2 ⟨rfl, hR2⟩)
          | (go_at_call 112; (with_reducible refine (cW.at (by assumption)).mono ?_); rintro e x3 ⟨rfl, hR3⟩))
        go_roundg g
        case measure => omega
        case rel => exact HF.out _ hR3
end Go.Proofs.YtpnfjjgihkmjmaaGreatDoor
