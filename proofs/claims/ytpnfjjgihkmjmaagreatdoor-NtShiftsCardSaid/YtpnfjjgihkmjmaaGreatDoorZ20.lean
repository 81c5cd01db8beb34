/-
  MERGED (a claim has at most 60 files): NRead, NForm, NTri, NPrs.
-/
import Derived.Test.YtpnfjjgihkmjmaaGreatDoorZ19
/-
  READING A TERM (package nt): all ways.
-/
namespace Go.Proofs.YtpnfjjgihkmjmaaGreatDoor
open Go.RowKit
set_option linter.unusedVariables false
set_option linter.unusedSimpArgs false

/-- The table's cells, whatever the scanner does. -/
theorem tab_grown {w W : World} {b : Nat} {v : Value} {sl : List Int} {B k : Nat} {t : TypeId} {fr : Nat × Nat} (h : Sc B w b v sl k) (htab : w.heap[0]? = some (.cells escCells t fr)) (g : w.grownBy W (some b)) : W.heap[0]? = some (.cells escCells t fr) := by
  refine (g.block 0 (Array.getElem?_eq_some_iff.1 htab).1 (fun e => ?_)).trans htab
  have e : 0 = b := Option.some.inj e
  rw [e, h.blk] at htab
  simp only [Option.some.injEq, Obj.cells.injEq] at htab
  have := congrArg Array.size htab.1
  simp [escCells] at this
def LtPost (B : Nat) (w : World) (b : Nat) (v : Value) (sl : List Int) (r : Nat × Option Tm) (e : Ending) (w' : World) : Prop :=
  match r.2 with
  | some t => e = .returned (.tuple #[.agg #[.string t.ta, .string t.tb, .string t.tc], .bool true]) ∧ Moves B w b v sl r.1 w'
  | none => (∃ x : Value, e = .returned (.tuple #[x, .bool false])) ∧ Moves B w b v sl r.1 w'
/-- A scanner that moves, and a box that the call has made at first. -/
def Mb (B : Nat) (w : World) (b : Nat) (v : Value) (sl : List Int) (k : Nat) (cs : Array Value) (W : World) : Prop := Moves B w b v sl k W ∧ Fb W w.heap.size 74 cs ∧ b < w.heap.size ∧ (∀ g, v.ownBlock = some g → g < w.heap.size)
section
variable {w : World} {B b : Nat} {v : Value} {sl : List Int} {k : Nat} {cs : Array Value}
theorem Mb.start (h : Sc B w b v sl k) (cs : Array Value) : Mb B w b v sl k cs (w.alloc (.cells cs 74)) :=
  ⟨⟨h.below3 ((Below.refl _ _).alloc (Nat.le_refl _) _), below_grown ((Below.refl _ _).alloc (Nat.le_refl _) _) _⟩, Fb.new _ _ _, (Array.getElem?_eq_some_iff.1 h.blk).1, fun g hg => (World.ownsRow.lt h.row g hg).2⟩
theorem Mb.to {k' : Nat} {W W' : World} (h : Mb B w b v sl k cs W) (m : Moves B W b v sl k' W') : Mb B w b v sl k' cs W' :=
  ⟨h.1.to m, (m.2.block _ h.2.1.lt (fun e => by have := Option.some.inj e; have := h.2.2.1; omega)).trans h.2.1, h.2.2⟩
theorem Mb.cells {x y z : Value} {W : World} (h : Mb B w b v sl k #[x, y, z] W) : W.cell? ⟨w.heap.size, 0, none⟩ = some x ∧ W.cell? ⟨w.heap.size, 1, none⟩ = some y ∧ W.cell? ⟨w.heap.size, 2, none⟩ = some z ∧ W.frozen? ⟨w.heap.size, 0, none⟩ = false ∧ W.frozen? ⟨w.heap.size, 1, none⟩ = false ∧ W.frozen? ⟨w.heap.size, 2, none⟩ = false ∧ w.heap.size < W.heap.size :=
  ⟨h.2.1.cell 0, h.2.1.cell 1, h.2.1.cell 2, h.2.1.free 0, h.2.1.free 1, h.2.1.free 2, h.2.1.lt⟩
theorem Mb.setc {W : World} (h : Mb B w b v sl k cs W) (i : Nat) (y : Value) : Moves B w b v sl k (W.setCell ⟨w.heap.size, i, none⟩ y) := by
  have hg := grown_set W w.heap.size i y
  refine ⟨⟨(Below.heap_setCell _ _ _ _ (by have := h.2.2.1; dsimp only; omega)).trans h.1.1.blk, ?_, h.1.1.ge⟩, ⟨hg.os.trans h.1.2.os, hg.tape.trans h.1.2.tape, hg.output.trans h.1.2.output, Nat.le_trans h.1.2.size hg.size, fun j hj hr => ?_⟩⟩
  · refine h.1.1.row.kept hg (Or.inr (fun e => ?_))
    have := h.2.2.2 _ e
    omega
  · exact (Below.heap_setCell _ _ _ _ (by dsimp only; omega)).trans (h.1.2.block j hj hr)
theorem Mb.store {x y z : Value} {W : World} (h : Mb B w b v sl k #[x, y, z] W) (x' y' z' : Value) : Mb B w b v sl k #[x', y', z'] (((W.setCell ⟨w.heap.size, 0, none⟩ x').setCell ⟨w.heap.size, 1, none⟩ y').setCell ⟨w.heap.size, 2, none⟩ z') := by
  have h1 : Mb B w b v sl k #[x', y, z] (W.setCell ⟨w.heap.size, 0, none⟩ x') := ⟨h.setc 0 x', heap_setCell_same _ _ 0 _ _ x' h.2.1, h.2.2⟩
  have h2 : Mb B w b v sl k #[x', y', z] ((W.setCell ⟨w.heap.size, 0, none⟩ x').setCell ⟨w.heap.size, 1, none⟩ y') := ⟨h1.setc 1 y', heap_setCell_same _ _ 1 _ _ y' h1.2.1, h1.2.2⟩
  exact ⟨h2.setc 2 z', heap_setCell_same _ _ 2 _ _ z' h2.2.1, h2.2.2⟩
theorem mb_quoted (hk : k ≤ sl.length) (hl : sl.length ≤ 100000) (hall : AllS sl) {k0 : Nat} (hsc : Sc B w b v sl k0) (t : TypeId) (fr : Nat × Nat) (htab : w.heap[0]? = some (.cells escCells t fr)) {W : World} (h : Mb B w b v sl k cs W) :
    Calls Tryz.prog 113 #[.pointer (some ⟨b, 0, none⟩)] W fun e w' => match (qd sl k).2 with
      | some l => e = .returned (.tuple #[.string (textOf l), .int .i64 (qd sl k).1, .int .i64 0]) ∧ Mb B w b v sl (qd sl k).1 cs w'
      | none => e = .returned (.tuple #[.string ⟨#[]⟩, .int .i64 (qd sl k).1, .int .i64 1]) ∧ Mb B w b v sl k cs w' := by
  refine (quoted_any h.1.1 hk hl hall t fr (tab_grown hsc htab h.1.2)).mono fun e w' hp => ?_
  unfold QdPost at hp
  cases ho : (qd sl k).2 with
  | none => rw [ho] at hp; exact ⟨hp.1, h.to hp.2⟩
  | some l => rw [ho] at hp; exact ⟨hp.1, h.to hp.2⟩
theorem mb_iri (hk : k ≤ sl.length) (hl : sl.length ≤ 100000) (hall : AllS sl) {W : World} (h : Mb B w b v sl k cs W) :
    Calls Tryz.prog 101 #[.pointer (some ⟨b, 0, none⟩)] W fun e w' => e = .returned (.tuple #[.string (textOf ((irP sl k).2.getD [])), .bool (irP sl k).2.isSome]) ∧ Mb B w b v sl (irP sl k).1 cs w' :=
  (niri_any h.1.1 hk hl hall).mono fun _ _ ⟨x, y⟩ => ⟨x, h.to y⟩
theorem mb_back (j : Nat) (hj : j ≤ sl.length) (hl : sl.length ≤ 4294967296) {W : World} (h : Mb B w b v sl k cs W) : Calls Tryz.prog 92 #[.pointer (some ⟨b, 0, none⟩), .int .i64 j] W fun e w' => e = .returned (.bool true) ∧ Mb B w b v sl j cs w' := (back_yes h.1.1 j hj hl).mono fun _ _ ⟨x, y⟩ => ⟨x, h.to y⟩
theorem mb_at (hk : k ≤ sl.length) (hl : sl.length ≤ 4294967296) {W : World} (h : Mb B w b v sl k cs W) :
    Calls Tryz.prog 68 #[.pointer (some ⟨b, 0, none⟩), .string ⟨#[64]⟩] W fun e w' => e = .returned (.bool (decide (sl[k]? = some 64))) ∧ Mb B w b v sl (k + if sl[k]? = some 64 then 1 else 0) cs w' := (is_one h.1.1 hk hl 64 _ p64 (by decide)).mono fun _ _ ⟨x, y⟩ => ⟨x, h.to y⟩
theorem mb_hats (hk : k ≤ sl.length) (hl : sl.length ≤ 4294967296) {W : World} (h : Mb B w b v sl k cs W) :
    Calls Tryz.prog 68 #[.pointer (some ⟨b, 0, none⟩), .string ⟨#[94, 94]⟩] W fun e w' => e = .returned (.bool (decide (sl[k]? = some 94 ∧ sl[k + 1]? = some 94))) ∧ Mb B w b v sl (k + if sl[k]? = some 94 ∧ sl[k + 1]? = some 94 then 2 else 0) cs w' := by
  by_cases hx : sl[k]? = some 94 ∧ sl[k + 1]? = some 94
  · rw [if_pos hx, decide_eq_true hx]
    exact (mv_is2_yes hk hl 94 94 _ p9494 (by decide) hx (Moves.start h.1.1)).mono fun _ _ ⟨x, y⟩ => ⟨x, h.to y⟩
  · rw [if_neg hx, decide_eq_false hx]
    exact (mv_is2_no hk hl 94 94 _ p9494 (by decide) hx (Moves.start h.1.1)).mono fun _ _ ⟨x, y⟩ => ⟨x, h.to y⟩
/-- The marks stand in a row that is there. -/
theorem word_at {W : World} (h : Sc B W b v sl k) (hk : k ≤ sl.length) (hl : sl.length ≤ 100000) (hall : AllS sl) (ms : List Int) (c : Nat) (hml : ms.length ≤ 100) (hm1 : (-1 : Int) ∉ ms) :
    Calls Tryz.prog 103 #[.pointer (some ⟨b, 0, none⟩), .slice (some ⟨W.heap.size, 0, none⟩) ms.length c] (W.alloc (.cells (ms.map (Value.int .i32)).toArray 21)) fun e w' => e = .returned (.string (textOf (wmL ms (sl.drop k)))) ∧ Moves B W b v sl (k + (wmL ms (sl.drop k)).length) w' := by
  have hb : Below W.heap.size W (W.alloc (.cells (ms.map (Value.int .i32)).toArray 21)) := (Below.refl _ _).alloc (Nat.le_refl _) _
  have hne : W.heap.size ≠ b := by have := (Array.getElem?_eq_some_iff.1 h.blk).1; omega
  have h2 : Moves B W b v sl k (W.alloc (.cells (ms.map (Value.int .i32)).toArray 21)) := ⟨h.below3 hb, below_grown hb _⟩
  refine (nword_any h2.1 hk hl hall W.heap.size c ms (fun j n hj => ?_) (by simp) hne hml hm1).mono fun _ _ ⟨x, y⟩ => ⟨x, h2.to y⟩
  rw [(Fb.new W 21 (ms.map (Value.int .i32)).toArray).cell]
  simp [hj]
theorem mb_word (hk : k ≤ sl.length) (hl : sl.length ≤ 100000) (hall : AllS sl) {W : World} (h : Mb B w b v sl k cs W) :
    Calls Tryz.prog 103 #[.pointer (some ⟨b, 0, none⟩), .slice (some ⟨W.heap.size, 0, none⟩) 1 1] (W.alloc (.cells #[.int .i32 45] 21)) fun e w' => e = .returned (.string (textOf (wmL msL (sl.drop k)))) ∧ Mb B w b v sl (k + (wmL msL (sl.drop k)).length) cs w' :=
  (word_at h.1.1 hk hl hall msL 1 (by decide) (by decide)).mono fun _ _ ⟨x, y⟩ => ⟨x, h.to y⟩
end
set_option maxHeartbeats 8000000 in
set_option maxRecDepth 100000 in
theorem nlit_any {B : Nat} {w : World} {b : Nat} {v : Value} {sl : List Int} {k : Nat} (h : Sc B w b v sl k) (hk : k ≤ sl.length) (hl : sl.length ≤ 100000) (hall : AllS sl) (t : TypeId) (fr : Nat × Nat) (htab : w.heap[0]? = some (.cells escCells t fr)) :
    Calls Tryz.prog 102 #[.pointer (some ⟨b, 0, none⟩)] w (LtPost B w b v sl (litP sl k)) := by
  have h0 := Mb.start h #[.string mt, .string mt, .string mt]
  have cQ := mb_quoted (cs := #[.string mt, .string mt, .string mt]) hk hl hall h t fr htab h0
  have hq := qd_le sl k hk
  obtain ⟨r, hr⟩ : ∃ r, r = litP sl k := ⟨_, rfl⟩
  rw [← hr]
  unfold litP at hr
  obtain ⟨p, hp⟩ : ∃ p, p = (qd sl k).1 := ⟨_, rfl⟩
  rw [← hp] at cQ hq hr
  have hpl := hq.1
  cases ho : (qd sl k).2 with
  | none =>
    rw [ho] at cQ hr
    dsimp only at cQ hr
    have cB : ∀ {W : World}, Mb B w b v sl k #[.string mt, .string mt, .string mt] W → Calls Tryz.prog 92 #[.pointer (some ⟨b, 0, none⟩), .int .i64 p] W _ := fun {W} x => mb_back p hpl (by omega) x
    have HR := Lib.hid hr
    clear h htab hq hr ho hp h0
    go_enter Tryz.func102, Tryz.ntmps102
    go_wp2_with (first
      | (go_at_call 113; (with_reducible refine cQ.mono ?_); rintro e w1 ⟨rfl, m1⟩)
      | (go_at_call 92; (with_reducible refine (cB m1).mono ?_); rintro e w2 ⟨rfl, m2⟩; obtain ⟨x0, x1, x2, f0, f1, f2, hz⟩ := m2.cells))
    refine bodyPost_ret (v := .tuple #[.agg #[.string mt, .string mt, .string mt], .bool false]) (by simp [results, Tryz.results102, go_sem, x0, x1, x2, hz]) rfl ?_
    rw [HR.out]
    exact ⟨⟨_, rfl⟩, (m2.store _ _ _).1⟩
  | some l =>
    rw [ho] at cQ hr
    dsimp only at cQ hr
    have hlen := (hq.2.2 l ho hall).2
    have cH : ∀ {W : World}, Mb B w b v sl p #[.string mt, .string mt, .string mt] W → Calls Tryz.prog 68 #[.pointer (some ⟨b, 0, none⟩), .string ⟨#[94, 94]⟩] W _ := fun {W} x => mb_hats hpl (by omega) x
    unfold tailP at hr
    have HA := Lib.hid hall
    clear h htab hq ho hp h0
    by_cases hh : sl[p]? = some 94 ∧ sl[p + 1]? = some 94
    · rw [if_pos hh, decide_eq_true hh] at cH
      rw [if_pos hh] at hr
      have hp2 : p + 2 ≤ sl.length := by have := (List.getElem?_eq_some_iff.1 hh.2).1; omega
      have cI : ∀ {W : World}, Mb B w b v sl (p + 2) #[.string mt, .string mt, .string mt] W → Calls Tryz.prog 101 #[.pointer (some ⟨b, 0, none⟩)] W _ := fun {W} x => mb_iri hp2 hl HA.out x
      cases hu : (irP sl (p + 2)).2 with
      | none =>
        rw [hu] at cI hr
        simp only [Option.getD_none, Option.isSome_none, Option.map_none] at cI hr
        obtain ⟨z, hz⟩ : ∃ z, z = textOf [] := ⟨_, rfl⟩
        rw [← hz] at cI
        have HR := Lib.hid hr
        clear hr hu hh hz
        go_enter Tryz.func102, Tryz.ntmps102
        go_wp2_with (first
          | (go_at_call 113; (with_reducible refine cQ.mono ?_); rintro e w1 ⟨rfl, m1⟩)
          | (go_at_call 68; (with_reducible refine (cH m1).mono ?_); rintro e w2 ⟨rfl, m2⟩)
          | (go_at_call 101; (with_reducible refine (cI m2).mono ?_); rintro e w3 ⟨rfl, m3⟩; obtain ⟨x0, x1, x2, f0, f1, f2, hz⟩ := m3.cells))
        refine bodyPost_ret (v := .tuple #[.agg #[.string (textOf l), .string z, .string mt], .bool false]) (by simp [results, Tryz.results102, go_sem, x0, x1, x2, hz]) rfl ?_
        rw [HR.out]
        exact ⟨⟨_, rfl⟩, (m3.store _ _ _).1⟩
      | some u =>
        rw [hu] at cI hr
        simp only [Option.getD_some, Option.isSome_some, Option.map_some] at cI hr
        obtain ⟨z, hz⟩ : ∃ z, z = textOf u := ⟨_, rfl⟩
        rw [← hz] at cI hr
        have HR := Lib.hid hr
        clear hr hu hh hz
        go_enter Tryz.func102, Tryz.ntmps102
        go_wp2_with (first
          | (go_at_call 113; (with_reducible refine cQ.mono ?_); rintro e w1 ⟨rfl, m1⟩)
          | (go_at_call 68; (with_reducible refine (cH m1).mono ?_); rintro e w2 ⟨rfl, m2⟩)
          | (go_at_call 101; (with_reducible refine (cI m2).mono ?_); rintro e w3 ⟨rfl, m3⟩; obtain ⟨x0, x1, x2, f0, f1, f2, hz⟩ := m3.cells))
        refine bodyPost_ret (v := .tuple #[.agg #[.string (textOf l), .string z, .string mt], .bool true]) (by simp [results, Tryz.results102, go_sem, x0, x1, x2, hz]) rfl ?_
        rw [HR.out]
        exact ⟨rfl, (m3.store _ _ _).1⟩
    · rw [if_neg hh, decide_eq_false hh, Nat.add_zero] at cH
      rw [if_neg hh] at hr
      have cT : ∀ {W : World}, Mb B w b v sl p #[.string mt, .string mt, .string mt] W → Calls Tryz.prog 68 #[.pointer (some ⟨b, 0, none⟩), .string ⟨#[64]⟩] W _ := fun {W} x => mb_at hpl (by omega) x
      by_cases ha : sl[p]? = some 64
      · rw [if_pos ha, decide_eq_true ha] at cT
        rw [if_pos ha] at hr
        have hp1 : p + 1 ≤ sl.length := (List.getElem?_eq_some_iff.1 ha).1
        have cW : ∀ {W : World}, Mb B w b v sl (p + 1) #[.string mt, .string mt, .string mt] W → Calls Tryz.prog 103 #[.pointer (some ⟨b, 0, none⟩), .slice (some ⟨W.heap.size, 0, none⟩) 1 1] (W.alloc (.cells #[.int .i32 45] 21)) _ := fun {W} x => mb_word hp1 hl HA.out x
        obtain ⟨z, hz⟩ : ∃ z, z = textOf (wmL msL (sl.drop (p + 1))) := ⟨_, rfl⟩
        rw [← hz] at cW hr
        have HR := Lib.hid hr
        clear hr hh ha hz
        go_enter Tryz.func102, Tryz.ntmps102
        go_wp2_with (first
          | (go_at_call 113; (with_reducible refine cQ.mono ?_); rintro e w1 ⟨rfl, m1⟩)
          | (go_at_call 68; (with_reducible refine (cH m1).mono ?_); rintro e w2 ⟨rfl, m2⟩)
          | (go_at_call 68; (with_reducible refine (cT m2).mono ?_); rintro e w3 ⟨rfl, m3⟩)
          | (go_at_call 103; (with_reducible refine (cW m3).mono ?_); rintro e w4 ⟨rfl, m4⟩; obtain ⟨x0, x1, x2, f0, f1, f2, hz⟩ := m4.cells))
        refine bodyPost_ret (v := .tuple #[.agg #[.string (textOf l), .string XL, .string z], .bool true]) (by simp [results, Tryz.results102, go_sem, x0, x1, x2, hz]) rfl ?_
        rw [HR.out]
        exact ⟨rfl, (m4.store _ _ _).1⟩
      · rw [if_neg ha, decide_eq_false ha, Nat.add_zero] at cT
        rw [if_neg ha] at hr
        have cP : ∀ {W : World}, Mb B w b v sl p #[.string mt, .string mt, .string mt] W → Calls Tryz.prog 33 #[.string (textOf l)] W fun e w' => e = .returned (.agg #[.string (textOf l), .string XS, .string mt]) ∧ Mb B w b v sl p #[.string mt, .string mt, .string mt] w' := fun {W} x => (plain_any (textOf l) W).mono fun _ _ ⟨a, y⟩ => ⟨a, x.to ⟨x.1.1.below3 y, below_grown y _⟩⟩
        have HR := Lib.hid hr
        clear hr hh ha
        go_enter Tryz.func102, Tryz.ntmps102
        go_wp2_with (first
          | (go_at_call 113; (with_reducible refine cQ.mono ?_); rintro e w1 ⟨rfl, m1⟩)
          | (go_at_call 68; (with_reducible refine (cH m1).mono ?_); rintro e w2 ⟨rfl, m2⟩)
          | (go_at_call 68; (with_reducible refine (cT m2).mono ?_); rintro e w3 ⟨rfl, m3⟩)
          | (go_at_call 33; (with_reducible refine (cP m3).mono ?_); rintro e w4 ⟨rfl, m4⟩; obtain ⟨x0, x1, x2, f0, f1, f2, hz⟩ := m4.cells))
        refine bodyPost_ret (v := .tuple #[.agg #[.string (textOf l), .string XS, .string mt], .bool true]) (by simp [results, Tryz.results102, go_sem, x0, x1, x2, hz]) rfl ?_
        rw [HR.out]
        exact ⟨rfl, (m4.store _ _ _).1⟩
end Go.Proofs.YtpnfjjgihkmjmaaGreatDoor

/-
  WHAT HAS A TERM's FORM; 'Read' (package nt): all ways.
-/
namespace Go.Proofs.YtpnfjjgihkmjmaaGreatDoor
open Go.RowKit
set_option linter.unusedVariables false
set_option linter.unusedSimpArgs false

def FmPost (B : Nat) (w : World) (b : Nat) (v : Value) (sl : List Int) (r : Nat × Option Tm) (e : Ending) (w' : World) : Prop :=
  match r.2 with
  | some t => e = .returned (.tuple #[t.val, .bool true]) ∧ Moves B w b v sl r.1 w'
  | none => (∃ x : Value, e = .returned (.tuple #[x, .bool false])) ∧ Moves B w b v sl r.1 w'
theorem litP_lit {sl : List Int} {k : Nat} {t : Tm} (h : (litP sl k).2 = some t) : t.val = .iface 74 (.agg #[.string t.ta, .string t.tb, .string t.tc]) := by
  unfold litP at h
  cases ho : (qd sl k).2 with
  | none => rw [ho] at h; cases h
  | some l =>
    rw [ho] at h
    dsimp only at h
    unfold tailP at h
    split at h
    · cases hu : (irP sl ((qd sl k).1 + 2)).2 with
      | none => rw [hu] at h; cases h
      | some u => rw [hu] at h; simp at h; subst h; rfl
    split at h
    · simp at h; subst h; rfl
    · simp at h; subst h; rfl
set_option maxHeartbeats 8000000 in
set_option maxRecDepth 100000 in
theorem nform_any {B : Nat} {w : World} {b : Nat} {v : Value} {sl : List Int} {k : Nat} (h : Sc B w b v sl k) (hk : k ≤ sl.length) (hl : sl.length ≤ 100000) (hall : AllS sl) (t : TypeId) (fr : Nat × Nat) (htab : w.heap[0]? = some (.cells escCells t fr)) :
    Calls Tryz.prog 91 #[.pointer (some ⟨b, 0, none⟩)] w (FmPost B w b v sl (formP sl k)) := by
  have h0 := Moves.start h
  have cP : ∀ {W : World}, Moves B w b v sl k W → Calls Tryz.prog 66 #[.pointer (some ⟨b, 0, none⟩)] W fun e w' => e = .returned (.int .i32 (pk sl k)) ∧ Moves B w b v sl k w' := fun {W} x => mv_pk hk (by omega) x
  obtain ⟨r, hr⟩ : ∃ r, r = formP sl k := ⟨_, rfl⟩
  rw [← hr]
  unfold formP at hr
  have hnone : ∀ c : Int, ¬ sl[k]? = some c → c ≠ -1 → pk sl k ≠ c := fun c hc h1 => by
    unfold pk
    cases hx : sl[k]? with
    | none => simpa using h1.symm
    | some d => rw [hx] at hc; simpa using hc
  by_cases h60 : sl[k]? = some 60
  · rw [if_pos h60] at hr
    have e : pk sl k = 60 := by unfold pk; rw [h60]; rfl
    rw [e] at cP
    have cI : ∀ {W : World}, Moves B w b v sl k W → Calls Tryz.prog 101 #[.pointer (some ⟨b, 0, none⟩)] W fun e w' => e = .returned (.tuple #[.string (textOf ((irP sl k).2.getD [])), .bool (irP sl k).2.isSome]) ∧ Moves B w b v sl (irP sl k).1 w' :=
      fun {W} x => (niri_any x.1 hk hl hall).mono fun _ _ ⟨a, y⟩ => ⟨a, x.to y⟩
    cases hu : (irP sl k).2 with
    | none =>
      rw [hu] at cI hr
      simp only [Option.getD_none, Option.isSome_none, Option.map_none] at cI hr
      obtain ⟨z, hz⟩ : ∃ z, z = textOf [] := ⟨_, rfl⟩
      rw [← hz] at cI
      have HR := Lib.hid hr
      clear h htab hr hu hz h60 e hnone hall
      go_enter Tryz.func91, Tryz.ntmps91
      go_wp2_with (first
        | (go_at_call 66; (with_reducible refine (cP h0).mono ?_); rintro e w1 ⟨rfl, m1⟩)
        | (go_at_call 101; (with_reducible refine (cI m1).mono ?_); rintro e w2 ⟨rfl, m2⟩))
      go_ret2
      rw [HR.out]
      exact ⟨⟨_, rfl⟩, m2⟩
    | some u =>
      rw [hu] at cI hr
      simp only [Option.getD_some, Option.isSome_some, Option.map_some] at cI hr
      obtain ⟨z, hz⟩ : ∃ z, z = textOf u := ⟨_, rfl⟩
      rw [← hz] at cI hr
      have HR := Lib.hid hr
      clear h htab hr hu hz h60 e hnone hall
      go_enter Tryz.func91, Tryz.ntmps91
      go_wp2_with (first
        | (go_at_call 66; (with_reducible refine (cP h0).mono ?_); rintro e w1 ⟨rfl, m1⟩)
        | (go_at_call 101; (with_reducible refine (cI m1).mono ?_); rintro e w2 ⟨rfl, m2⟩))
      go_ret2
      rw [HR.out]
      exact ⟨rfl, m2⟩
  rw [if_neg h60] at hr
  by_cases h34 : sl[k]? = some 34
  · rw [if_pos h34] at hr
    have e : pk sl k = 34 := by unfold pk; rw [h34]; rfl
    rw [e] at cP
    have cL : ∀ {W : World}, Moves B w b v sl k W → Calls Tryz.prog 102 #[.pointer (some ⟨b, 0, none⟩)] W (LtPost B W b v sl (litP sl k)) := fun {W} x => nlit_any x.1 hk hl hall t fr (tab_grown h htab x.2)
    have hlv : ∀ t, (litP sl k).2 = some t → t.val = .iface 74 (.agg #[.string t.ta, .string t.tb, .string t.tc]) := fun t ht => litP_lit ht
    unfold LtPost at cL
    rw [← hr] at cL hlv
    obtain ⟨p, o⟩ := r
    cases o with
    | none =>
      dsimp only at cL
      clear h htab hr h60 h34 e hnone hlv hall
      go_enter Tryz.func91, Tryz.ntmps91
      go_wp2_with (first
        | (go_at_call 66; (with_reducible refine (cP h0).mono ?_); rintro e w1 ⟨rfl, m1⟩)
        | (go_at_call 102; (with_reducible refine (cL m1).mono ?_); rintro e w2 ⟨⟨x, rfl⟩, m2⟩))
      go_ret2
      exact ⟨⟨_, rfl⟩, m1.to m2⟩
    | some t =>
      have hv := hlv t rfl
      dsimp only at cL
      have HV := Lib.hid hv
      clear h htab hr h60 h34 e hnone hlv hv hall
      obtain ⟨a, ha⟩ : ∃ a, a = t.ta := ⟨_, rfl⟩
      obtain ⟨b', hb⟩ : ∃ a, a = t.tb := ⟨_, rfl⟩
      obtain ⟨c, hc⟩ : ∃ a, a = t.tc := ⟨_, rfl⟩
      rw [← ha, ← hb, ← hc] at cL HV
      clear ha hb hc
      go_enter Tryz.func91, Tryz.ntmps91
      go_wp2_with (first
        | (go_at_call 66; (with_reducible refine (cP h0).mono ?_); rintro e w1 ⟨rfl, m1⟩)
        | (go_at_call 102; (with_reducible refine (cL m1).mono ?_); rintro e w2 ⟨rfl, m2⟩))
      go_ret2
      exact ⟨by rw [HV.out]; rfl, m1.to m2⟩
  rw [if_neg h34] at hr
  by_cases h95 : sl[k]? = some 95
  · rw [if_pos h95] at hr
    have e : pk sl k = 95 := by unfold pk; rw [h95]; rfl
    rw [e] at cP
    have hk1 : k + 1 ≤ sl.length := (List.getElem?_eq_some_iff.1 h95).1
    have cN : ∀ {W : World}, Moves B w b v sl k W → Calls Tryz.prog 67 #[.pointer (some ⟨b, 0, none⟩)] W _ := fun {W} x => mv_next h95 (by omega) x
    have cC : ∀ {W : World}, Moves B w b v sl (k + 1) W → Calls Tryz.prog 68 #[.pointer (some ⟨b, 0, none⟩), .string ⟨#[58]⟩] W _ := fun {W} x => mv_is hk1 (by omega) 58 _ p58 (by decide) x
    by_cases h58 : sl[k + 1]? = some 58
    · rw [if_pos h58, decide_eq_true h58] at cC
      rw [if_pos h58] at hr
      have hk2 : k + 1 + 1 ≤ sl.length := (List.getElem?_eq_some_iff.1 h58).1
      have cW : ∀ {W : World}, Moves B w b v sl (k + 1 + 1) W → Calls Tryz.prog 103 #[.pointer (some ⟨b, 0, none⟩), .slice (some ⟨W.heap.size, 0, none⟩) 2 2] (W.alloc (.cells #[.int .i32 95, .int .i32 45] 21)) fun e w' => e = .returned (.string (textOf (wmL msB (sl.drop (k + 1 + 1))))) ∧ Moves B w b v sl (k + 1 + 1 + (wmL msB (sl.drop (k + 1 + 1))).length) w' :=
        fun {W} x => (word_at x.1 hk2 hl hall msB 2 (by decide) (by decide)).mono fun _ _ ⟨a, y⟩ => ⟨a, x.to y⟩
      obtain ⟨z, hz⟩ : ∃ z, z = textOf (wmL msB (sl.drop (k + 1 + 1))) := ⟨_, rfl⟩
      rw [show k + 2 = k + 1 + 1 from rfl] at hr
      rw [← hz] at cW hr
      have HR := Lib.hid hr
      clear h htab hr h60 h34 h95 h58 e hnone hz hall
      go_enter Tryz.func91, Tryz.ntmps91
      go_wp2_with (first
        | (go_at_call 66; (with_reducible refine (cP h0).mono ?_); rintro e w1 ⟨rfl, m1⟩)
        | (go_at_call 67; (with_reducible refine (cN m1).mono ?_); rintro e w2 ⟨rfl, m2⟩)
        | (go_at_call 68; (with_reducible refine (cC m2).mono ?_); rintro e w3 ⟨rfl, m3⟩)
        | (go_at_call 103; (with_reducible refine (cW m3).mono ?_); rintro e w4 ⟨rfl, m4⟩))
      go_ret2
      rw [HR.out]
      exact ⟨rfl, m4⟩
    · rw [if_neg h58, decide_eq_false h58, Nat.add_zero] at cC
      rw [if_neg h58] at hr
      have HR := Lib.hid hr
      clear h htab hr h60 h34 h95 h58 e hnone hall
      go_enter Tryz.func91, Tryz.ntmps91
      go_wp2_with (first
        | (go_at_call 66; (with_reducible refine (cP h0).mono ?_); rintro e w1 ⟨rfl, m1⟩)
        | (go_at_call 67; (with_reducible refine (cN m1).mono ?_); rintro e w2 ⟨rfl, m2⟩)
        | (go_at_call 68; (with_reducible refine (cC m2).mono ?_); rintro e w3 ⟨rfl, m3⟩))
      go_ret2
      rw [HR.out]
      exact ⟨⟨_, rfl⟩, m3⟩
  · rw [if_neg h95] at hr
    have g1 : (pk sl k == 60) = false := by rw [beq_eq_false_iff_ne]; exact hnone 60 h60 (by decide)
    have g2 : (pk sl k == 34) = false := by rw [beq_eq_false_iff_ne]; exact hnone 34 h34 (by decide)
    have g3 : (pk sl k == 95) = false := by rw [beq_eq_false_iff_ne]; exact hnone 95 h95 (by decide)
    obtain ⟨c, hc⟩ : ∃ c, c = pk sl k := ⟨_, rfl⟩
    rw [← hc] at cP g1 g2 g3
    have HR := Lib.hid hr
    clear h htab hr h60 h34 h95 hnone hc hall
    go_enter Tryz.func91, Tryz.ntmps91
    go_wp2_with (go_at_call 66; (with_reducible refine (cP h0).mono ?_); rintro e w1 ⟨rfl, m1⟩)
    go_ret2
    rw [HR.out]
    exact ⟨⟨_, rfl⟩, m1⟩
def RePost (B : Nat) (w : World) (b : Nat) (v : Value) (sl : List Int) (k : Nat) (r : Option Tm × Nat × Int) (e : Ending) (w' : World) : Prop :=
  match r.1 with
  | some t => e = .returned (.tuple #[t.val, .int .i64 r.2.1, .int .i64 0]) ∧ Moves B w b v sl r.2.1 w'
  | none => e = .returned (.tuple #[.nilIface, .int .i64 r.2.1, .int .i64 r.2.2]) ∧ Moves B w b v sl k w'
set_option maxHeartbeats 8000000 in
set_option maxRecDepth 100000 in
theorem nread_any {B : Nat} {w : World} {b : Nat} {v : Value} {sl : List Int} {k : Nat} (h : Sc B w b v sl k) (hk : k ≤ sl.length) (hl : sl.length ≤ 100000) (hall : AllS sl) (t : TypeId) (fr : Nat × Nat) (htab : w.heap[0]? = some (.cells escCells t fr)) :
    Calls Tryz.prog 69 #[.pointer (some ⟨b, 0, none⟩)] w (RePost B w b v sl k (readP sl k)) := by
  have h0 := Moves.start h
  have cP : ∀ {j : Nat} {W : World}, Moves B w b v sl j W → Calls Tryz.prog 38 #[.pointer (some ⟨b, 0, none⟩)] W _ := fun {j} {W} x => mv_place x
  have cB : ∀ {j : Nat} {W : World}, Moves B w b v sl j W → Calls Tryz.prog 92 #[.pointer (some ⟨b, 0, none⟩), .int .i64 k] W _ := fun {j} {W} x => mv_back k hk (by omega) x
  have cF : ∀ {W : World}, Moves B w b v sl k W → Calls Tryz.prog 91 #[.pointer (some ⟨b, 0, none⟩)] W (FmPost B W b v sl (formP sl k)) := fun {W} x => nform_any x.1 hk hl hall t fr (tab_grown h htab x.2)
  have hf := formP_le sl k hk hall
  unfold FmPost at cF
  obtain ⟨r, hr⟩ : ∃ r, r = readP sl k := ⟨_, rfl⟩
  rw [← hr]
  unfold readP at hr
  obtain ⟨p, hp⟩ : ∃ p, p = (formP sl k).1 := ⟨_, rfl⟩
  rw [← hp] at cF hr hf
  cases ho : (formP sl k).2 with
  | none =>
    rw [ho] at cF hr
    dsimp only at cF hr
    have HR := Lib.hid hr
    clear h htab hr ho hp hf hall
    go_enter Tryz.func69, Tryz.ntmps69
    go_wp2_with (first
      | (go_at_call 38; (with_reducible refine (cP h0).mono ?_); rintro e w1 ⟨rfl, m1⟩; clear h0)
      | (go_at_call 91; (with_reducible refine (cF m1).mono ?_); rintro e w2 ⟨⟨x, rfl⟩, m2⟩; have m2' := m1.to m2; clear m1)
      | (go_at_call 38; (with_reducible refine (cP m2').mono ?_); rintro e w3 ⟨rfl, m3⟩; clear m2')
      | (go_at_call 92; (with_reducible refine (cB m3).mono ?_); rintro e w4 ⟨rfl, m4⟩))
    go_ret3
    rw [HR.out]
    exact ⟨rfl, m4⟩
  | some u =>
    rw [ho] at cF hr
    dsimp only at cF hr
    have hfew := ((hf.2.2 u ho).1).few hl
    have cG : ∀ {W : World}, Moves B w b v sl p W → Calls Tryz.prog 23 #[u.val] W fun e w' => e = .returned (.bool (goodT u)) ∧ Moves B w b v sl p w' := fun {W} x => (goodT_any u hfew W).mono fun _ _ ⟨a, y⟩ => ⟨a, x.to ⟨x.1.below3 y, below_grown y _⟩⟩
    obtain ⟨uv, huv⟩ : ∃ x, x = u.val := ⟨_, rfl⟩
    rw [← huv] at cF cG
    have HUV := Lib.hid huv
    by_cases hg : goodT u = true
    · rw [hg] at cG
      rw [if_pos hg] at hr
      have HR := Lib.hid hr
      clear h htab hr ho hp hf hall hfew hg huv
      go_enter Tryz.func69, Tryz.ntmps69
      go_wp2_with (first
        | (go_at_call 38; (with_reducible refine (cP h0).mono ?_); rintro e w1 ⟨rfl, m1⟩; clear h0)
        | (go_at_call 91; (with_reducible refine (cF m1).mono ?_); rintro e w2 ⟨rfl, m2⟩; have m2' := m1.to m2; clear m1)
        | (go_at_call 38; (with_reducible refine (cP m2').mono ?_); rintro e w3 ⟨rfl, m3⟩; clear m2')
        | (go_at_call 23; (with_reducible refine (cG m3).mono ?_); rintro e w4 ⟨rfl, m4⟩))
      go_ret3
      rw [HR.out]
      exact ⟨by rw [HUV.out]; rfl, m4⟩
    · have hg' : goodT u = false := by simpa using hg
      rw [hg'] at cG
      rw [if_neg hg] at hr
      have HR := Lib.hid hr
      clear h htab hr ho hp hf hall hfew hg hg' huv
      go_enter Tryz.func69, Tryz.ntmps69
      go_wp2_with (first
        | (go_at_call 38; (with_reducible refine (cP h0).mono ?_); rintro e w1 ⟨rfl, m1⟩; clear h0)
        | (go_at_call 91; (with_reducible refine (cF m1).mono ?_); rintro e w2 ⟨rfl, m2⟩; have m2' := m1.to m2; clear m1)
        | (go_at_call 38; (with_reducible refine (cP m2').mono ?_); rintro e w3 ⟨rfl, m3⟩; clear m2')
        | (go_at_call 23; (with_reducible refine (cG m3).mono ?_); rintro e w4 ⟨rfl, m4⟩)
        | (go_at_call 92; (with_reducible refine (cB m4).mono ?_); rintro e w5 ⟨rfl, m5⟩))
      go_ret3
      rw [HR.out]
      exact ⟨rfl, m5⟩
end Go.Proofs.YtpnfjjgihkmjmaaGreatDoor

/-
  A LINE's TRIPLE (package nt): all ways.
-/
namespace Go.Proofs.YtpnfjjgihkmjmaaGreatDoor
open Go.RowKit
set_option linter.unusedVariables false
set_option linter.unusedSimpArgs false

/-- May a term stand in a part of a triple? -/
def mayB (t : Tm) (part : Nat) : Bool := (t.kind == 1) || (((t.kind == 0) && !(part == 1)) || ((t.kind == 2) && (part == 2)))
/-- A part of a triple, blanks ahead: the term and the place behind it, or the error's place and the error. -/
noncomputable def partP (sl : List Int) (k part : Nat) : Option Tm × Nat × Int :=
  match (readP sl (gapP sl k)).1 with
  | none => readP sl (gapP sl k)
  | some t => if mayB t part = true then (some t, (readP sl (gapP sl k)).2.1, 0) else (none, gapP sl k, 3)
/-- g parts are to come, ts are there. -/
noncomputable def triC (sl : List Int) : Nat → Nat → Nat → List Tm → Option (List Tm) × Nat × Int
  | 0, _, p, ts => if sl[gapP sl p]? = some 46 then (some ts, gapP sl p + 1, 0) else (none, gapP sl p, 1)
  | g + 1, part, p, ts => match (partP sl p part).1 with
    | none => (none, (partP sl p part).2.1, (partP sl p part).2.2)
    | some t => triC sl g (part + 1) (partP sl p part).2.1 (ts ++ [t])
noncomputable def triP (sl : List Int) (k : Nat) : Option (List Tm) × Nat × Int := triC sl 3 0 k []
theorem partP_le (sl : List Int) (k part : Nat) (h : k ≤ sl.length) (hs : AllS sl) : (partP sl k part).2.1 ≤ sl.length ∧ k ≤ (partP sl k part).2.1 ∧ ∀ t, (partP sl k part).1 = some t → t.soft sl.length ∧ k < (partP sl k part).2.1 ∧ goodT t = true ∧ mayB t part = true := by
  have hg := gapP_le sl k h
  have hr := readP_le sl (gapP sl k) hg.1 hs
  unfold partP
  cases ho : (readP sl (gapP sl k)).1 with
  | none => exact ⟨hr.1, by dsimp only; omega, fun t ht => by rw [ho] at ht; cases ht⟩
  | some t =>
    dsimp only
    by_cases hm : mayB t part = true
    · rw [if_pos hm]
      refine ⟨hr.1, by dsimp only; omega, fun u hu => ?_⟩
      simp at hu
      subst hu
      have := hr.2.2 t ho
      exact ⟨this.1, by dsimp only; omega, this.2.2.1, hm⟩
    · rw [if_neg hm]
      exact ⟨hg.1, hg.2, fun u hu => by cases hu⟩
/-- What a triple is made of. -/
def Tri (N : Nat) (ts : List Tm) : Prop := ∀ (j : Nat) t, ts[j]? = some t → t.soft N ∧ goodT t = true ∧ mayB t j = true
theorem tri_snoc {N : Nat} {ts : List Tm} {t : Tm} (h : Tri N ts) (h1 : t.soft N) (h2 : goodT t = true) (h3 : mayB t ts.length = true) : Tri N (ts ++ [t]) := fun j u hu => by
  by_cases hj : j < ts.length
  · rw [List.getElem?_append_left hj] at hu
    exact h j u hu
  · rw [List.getElem?_append_right (by omega)] at hu
    have : j = ts.length := by have := (List.getElem?_eq_some_iff.1 hu).1; simp at this; omega
    subst this
    simp at hu
    subst hu
    exact ⟨h1, h2, h3⟩
theorem triC_le (sl : List Int) (hs : AllS sl) : ∀ (g part p : Nat) (ts : List Tm), p ≤ sl.length → ts.length = part → Tri sl.length ts →
    (triC sl g part p ts).2.1 ≤ sl.length ∧ p ≤ (triC sl g part p ts).2.1 ∧ ∀ us, (triC sl g part p ts).1 = some us → us.length = part + g ∧ Tri sl.length us ∧ p < (triC sl g part p ts).2.1
  | 0, part, p, ts, h, hl, ht => by
    have hg := gapP_le sl p h
    unfold triC
    split
    · rename_i hx
      have := (List.getElem?_eq_some_iff.1 hx).1
      exact ⟨by dsimp only; omega, by dsimp only; omega, fun us hu => by simp at hu; subst hu; exact ⟨hl, ht, by dsimp only; omega⟩⟩
    · exact ⟨hg.1, hg.2, fun us hu => by cases hu⟩
  | g + 1, part, p, ts, h, hl, ht => by
    have hp := partP_le sl p part h hs
    unfold triC
    cases ho : (partP sl p part).1 with
    | none => exact ⟨hp.1, hp.2.1, fun us hu => by cases hu⟩
    | some t =>
      have ho2 := hp.2.2 t ho
      have ih := triC_le sl hs g (part + 1) (partP sl p part).2.1 (ts ++ [t]) hp.1 (by simp [hl]) (tri_snoc ht ho2.1 ho2.2.2.1 (by rw [hl]; exact ho2.2.2.2))
      exact ⟨ih.1, by dsimp only; omega, fun us hu => by
        obtain ⟨a, b, c⟩ := ih.2.2 us hu
        exact ⟨by omega, b, by dsimp only; omega⟩⟩
theorem triP_le (sl : List Int) (hs : AllS sl) (k : Nat) (h : k ≤ sl.length) : (triP sl k).2.1 ≤ sl.length ∧ k ≤ (triP sl k).2.1 ∧ ∀ us, (triP sl k).1 = some us → us.length = 3 ∧ Tri sl.length us ∧ k < (triP sl k).2.1 :=
  triC_le sl hs 3 0 k [] h rfl (fun j t ht => by simp at ht)
theorem readP_code {sl : List Int} {k : Nat} (h : (readP sl k).1 = none) : ¬ (readP sl k).2.2 = 0 := by
  unfold readP at *
  cases ho : (formP sl k).2 with
  | none => exact (by decide : ¬ (1 : Int) = 0)
  | some t =>
    rw [ho] at h
    dsimp only at h ⊢
    by_cases hg : goodT t = true
    · rw [if_pos hg] at h; cases h
    · rw [if_neg hg]; exact (by decide : ¬ (3 : Int) = 0)
/-! ### mayStand -/
set_option maxRecDepth 100000 in
set_option maxHeartbeats 2000000 in
theorem nmay_any (t : Tm) (part : Nat) (w : World) : Calls Tryz.prog 63 #[t.val, .int .i64 part] w fun e w' => e = .returned (.bool (mayB t part)) ∧ Below w.heap.size w w' := by
  have cK := kind_any t
  obtain ⟨r, hr⟩ : ∃ r, r = mayB t part := ⟨_, rfl⟩
  rw [← hr]
  unfold mayB at hr
  have hk : t.kind = 0 ∨ t.kind = 1 ∨ t.kind = 2 ∨ t.kind = 3 := by cases t <;> simp [Tm.kind]
  obtain ⟨k, hkk⟩ : ∃ k, k = t.kind := ⟨_, rfl⟩
  obtain ⟨v, hv⟩ : ∃ k, k = t.val := ⟨_, rfl⟩
  rw [← hkk] at cK hr hk
  rw [← hv] at cK ⊢
  have e1 : ((part : Int) != 1) = !(part == 1) := by rw [Bool.eq_iff_iff, bne_iff_ne, Bool.not_eq_true', beq_eq_false_iff_ne]; omega
  have e2 : ((part : Int) == 2) = (part == 2) := by rw [Bool.eq_iff_iff, beq_iff_eq, beq_iff_eq]; omega
  obtain ⟨p1, hp1⟩ : ∃ p, p = (part == 1) := ⟨_, rfl⟩
  obtain ⟨p2, hp2⟩ : ∃ p, p = (part == 2) := ⟨_, rfl⟩
  rw [← hp1] at e1 hr
  rw [← hp2] at e2 hr
  clear hkk hv hp1 hp2
  rcases hk with rfl | rfl | rfl | rfl
  all_goals
    have HR : Hid (r = _) := Lib.hid hr
    clear hr
    go_enter Tryz.func63, Tryz.ntmps63
    go_wp2_with (go_at_call 25; (with_reducible refine (cK _).mono ?_); rintro e w1 ⟨rfl, hb1⟩)
    go_ret
    exact ⟨ret_bool (by rw [HR.out]; simp), hb1⟩
/-! ### readTriple -/
/-- A scanner that moves, the result's box, the parts'. -/
def Mt (B : Nat) (w : World) (b : Nat) (v : Value) (sl : List Int) (k : Nat) (ps : Array Value) (W : World) : Prop :=
  Moves B w b v sl k W ∧ Fb W w.heap.size 71 #[.nilIface, .nilIface, .nilIface] ∧ Fb W (w.heap.size + 1) 121 ps ∧ b < w.heap.size ∧ (∀ g, v.ownBlock = some g → g < w.heap.size)
section
variable {w : World} {B b : Nat} {v : Value} {sl : List Int} {k : Nat} {ps : Array Value}
theorem Mt.start (h : Sc B w b v sl k) (ps : Array Value) : Mt B w b v sl k ps ((w.alloc (.cells #[.nilIface, .nilIface, .nilIface] 71)).alloc (.cells ps 121)) :=
  have hb : Below w.heap.size w ((w.alloc (.cells #[.nilIface, .nilIface, .nilIface] 71)).alloc (.cells ps 121)) := ((Below.refl _ _).alloc (Nat.le_refl _) _).alloc (by simp) _
  ⟨⟨h.below3 hb, below_grown hb _⟩, (Fb.new _ _ _).alloc _, by simpa using Fb.new (w.alloc (.cells #[.nilIface, .nilIface, .nilIface] 71)) 121 ps, (Array.getElem?_eq_some_iff.1 h.blk).1, fun g hg => (World.ownsRow.lt h.row g hg).2⟩
theorem Mt.to {k' : Nat} {W W' : World} (h : Mt B w b v sl k ps W) (m : Moves B W b v sl k' W') : Mt B w b v sl k' ps W' :=
  ⟨h.1.to m, (m.2.block _ h.2.1.lt (fun e => by have := Option.some.inj e; have := h.2.2.2.1; omega)).trans h.2.1, (m.2.block _ h.2.2.1.lt (fun e => by have := Option.some.inj e; have := h.2.2.2.1; omega)).trans h.2.2.1, h.2.2.2⟩
theorem Mt.setm {W : World} (h : Mt B w b v sl k ps W) (g i : Nat) (hg : w.heap.size ≤ g) (y : Value) : Moves B w b v sl k (W.setCell ⟨g, i, none⟩ y) := by
  have hgr := grown_set W g i y
  refine ⟨⟨(Below.heap_setCell _ _ _ _ (by have := h.2.2.2.1; dsimp only; omega)).trans h.1.1.blk, ?_, h.1.1.ge⟩, ⟨hgr.os.trans h.1.2.os, hgr.tape.trans h.1.2.tape, hgr.output.trans h.1.2.output, Nat.le_trans h.1.2.size hgr.size, fun j hj hr => ?_⟩⟩
  · refine h.1.1.row.kept hgr (Or.inr (fun e => ?_))
    have := h.2.2.2.2 _ e
    omega
  · exact (Below.heap_setCell _ _ _ _ (by dsimp only; omega)).trans (h.1.2.block j hj hr)
theorem Mt.put {W : World} (h : Mt B w b v sl k ps W) (i : Nat) (y : Value) : Mt B w b v sl k (ps.setIfInBounds i y) (W.setCell ⟨w.heap.size + 1, i, none⟩ y) :=
  ⟨h.setm _ i (by omega) y, (Below.heap_setCell _ _ _ _ (by dsimp only; omega)).trans h.2.1, heap_setCell_same _ _ i _ _ y h.2.2.1, h.2.2.2⟩
theorem Mt.store {W : World} (h : Mt B w b v sl k ps W) (x y z : Value) : Moves B w b v sl k (((W.setCell ⟨w.heap.size, 0, none⟩ x).setCell ⟨w.heap.size, 1, none⟩ y).setCell ⟨w.heap.size, 2, none⟩ z) := by
  have h1 : Moves B w b v sl k (W.setCell ⟨w.heap.size, 0, none⟩ x) := h.setm _ 0 (Nat.le_refl _) x
  have key : ∀ {W : World} (i : Nat) (y : Value), Moves B w b v sl k W → b < w.heap.size → (∀ g, v.ownBlock = some g → g < w.heap.size) → Moves B w b v sl k (W.setCell ⟨w.heap.size, i, none⟩ y) := fun {W} i y m hb hv => by
    have hgr := grown_set W w.heap.size i y
    refine ⟨⟨(Below.heap_setCell _ _ _ _ (by dsimp only; omega)).trans m.1.blk, ?_, m.1.ge⟩, ⟨hgr.os.trans m.2.os, hgr.tape.trans m.2.tape, hgr.output.trans m.2.output, Nat.le_trans m.2.size hgr.size, fun j hj hr => ?_⟩⟩
    · refine m.1.row.kept hgr (Or.inr (fun e => ?_))
      have := hv _ e
      omega
    · exact (Below.heap_setCell _ _ _ _ (by dsimp only; omega)).trans (m.2.block j hj hr)
  exact key 2 z (key 1 y h1 h.2.2.2.1 h.2.2.2.2) h.2.2.2.1 h.2.2.2.2
theorem Mt.res {W : World} (h : Mt B w b v sl k ps W) : W.cell? ⟨w.heap.size, 0, none⟩ = some .nilIface ∧ W.cell? ⟨w.heap.size, 1, none⟩ = some .nilIface ∧ W.cell? ⟨w.heap.size, 2, none⟩ = some .nilIface ∧ W.frozen? ⟨w.heap.size, 0, none⟩ = false ∧ W.frozen? ⟨w.heap.size, 1, none⟩ = false ∧ W.frozen? ⟨w.heap.size, 2, none⟩ = false ∧ w.heap.size < W.heap.size :=
  ⟨h.2.1.cell 0, h.2.1.cell 1, h.2.1.cell 2, h.2.1.free 0, h.2.1.free 1, h.2.1.free 2, h.2.1.lt⟩
theorem Mt.part {W : World} {x y z : Value} (h : Mt B w b v sl k #[x, y, z] W) : W.cell? ⟨w.heap.size + 1, 0, none⟩ = some x ∧ W.cell? ⟨w.heap.size + 1, 1, none⟩ = some y ∧ W.cell? ⟨w.heap.size + 1, 2, none⟩ = some z ∧ W.frozen? ⟨w.heap.size + 1, 0, none⟩ = false ∧ W.frozen? ⟨w.heap.size + 1, 1, none⟩ = false ∧ W.frozen? ⟨w.heap.size + 1, 2, none⟩ = false ∧ w.heap.size + 1 < W.heap.size :=
  ⟨h.2.2.1.cell 0, h.2.2.1.cell 1, h.2.2.1.cell 2, h.2.2.1.free 0, h.2.2.1.free 1, h.2.2.1.free 2, h.2.2.1.lt⟩
end
theorem iface_of {t : Tm} (h : t.kind < 3) : ∃ ty x, t.val = .iface ty x := by
  cases t with
  | blank s => exact ⟨_, _, rfl⟩
  | iri s => exact ⟨_, _, rfl⟩
  | lit a b c => exact ⟨_, _, rfl⟩
  | odd n => exact ⟨_, _, rfl⟩
  | none => exact absurd h (by decide)
/-- The parts' cells. -/
def padT (ts : List Tm) : Array Value := (ts.map Tm.val ++ List.replicate (3 - ts.length) Value.nilIface).toArray
def TrPost (B : Nat) (w : World) (b : Nat) (v : Value) (sl : List Int) (r : Option (List Tm) × Nat × Int) (e : Ending) (w' : World) : Prop :=
  match r.1 with
  | some ts => e = .returned (.tuple #[.agg (ts.map Tm.val).toArray, .int .i64 0, .int .i64 0]) ∧ Moves B w b v sl r.2.1 w'
  | none => e = .returned (.tuple #[.agg #[.nilIface, .nilIface, .nilIface], .int .i64 r.2.1, .int .i64 r.2.2]) ∧ ∃ j, Moves B w b v sl j w'
def TrI (B : Nat) (w : World) (b : Nat) (v : Value) (sl : List Int) (r : Option (List Tm) × Nat × Int) (g : Nat) (s11 : Value) (wr : World) : Prop :=
  ∃ (i p : Nat) (ts : List Tm), i + g = 3 ∧ s11 = .int .i64 i ∧ ts.length = i ∧ p ≤ sl.length ∧ Hid (r = triC sl g i p ts) ∧ (∀ t ∈ ts, t.kind < 3) ∧ Mt B w b v sl p (padT ts) wr
set_option maxHeartbeats 16000000 in
set_option maxRecDepth 100000 in
theorem ntriple_any {B : Nat} {w : World} {b : Nat} {v : Value} {sl : List Int} {k : Nat} (h : Sc B w b v sl k) (hk : k ≤ sl.length) (hl : sl.length ≤ 100000) (hall : AllS sl) (t : TypeId) (fr : Nat × Nat) (htab : w.heap[0]? = some (.cells escCells t fr)) :
    Calls Tryz.prog 37 #[.pointer (some ⟨b, 0, none⟩)] w (TrPost B w b v sl (triP sl k)) := by
  have h0 : Mt B w b v sl k (padT []) _ := Mt.start h _
  obtain ⟨r, hr⟩ : ∃ r, r = triP sl k := ⟨_, rfl⟩
  have HR := Lib.hid hr
  have H0 := Lib.hid h0
  have HALL := Lib.hid hall
  have htb : ∀ W, w.grownBy W (some b) → W.heap[0]? = some (.cells escCells t fr) := fun W g => tab_grown h htab g
  have HTB := Lib.hid htb
  rw [← hr]
  clear h htab hr h0 hall htb
  go_enter Tryz.func37, Tryz.ntmps37
  go_wp2
  go_loopg [11] 3 (fun g s11 wr => TrI B w b v sl r g s11 wr)
  case atStart => exact ⟨0, k, [], rfl, rfl, rfl, hk, Lib.hid HR.out, (fun t ht => by cases ht), H0.out⟩
  case round =>
    clear H0
    obtain ⟨i, p, ts, hig, rfl, hts, hpl, HC, hkd, hM⟩ := hrel
    have hgp := gapP_le sl p hpl
    have cS : ∀ {W : World}, Mt B w b v sl p (padT ts) W → Calls Tryz.prog 65 #[.pointer (some ⟨b, 0, none⟩)] W fun e w' => e = .returned (.tuple #[]) ∧ Mt B w b v sl (gapP sl p) (padT ts) w' := fun {W} x => (nskip_any x.1.1 hpl (by omega)).mono fun _ _ ⟨a, y⟩ => ⟨a, x.to y⟩
    obtain ⟨q, hq⟩ : ∃ q, q = gapP sl p := ⟨_, rfl⟩
    rw [← hq] at cS hgp
    have cPl : ∀ {W : World}, Mt B w b v sl q (padT ts) W → Calls Tryz.prog 38 #[.pointer (some ⟨b, 0, none⟩)] W fun e w' => e = .returned (.int .i64 q) ∧ Mt B w b v sl q (padT ts) w' := fun {W} x => (place_any x.1.1).mono fun _ _ ⟨a, y⟩ => ⟨a, x.to ⟨y.sc x.1.1, same_grown y _⟩⟩
    cases gk with
    | zero =>
      have hi : i = 3 := by omega
      subst hi
      obtain ⟨t0, t1, t2, rfl⟩ : ∃ a b c, ts = [a, b, c] := by
        match ts, hts with
        | [a, b, c], _ => exact ⟨a, b, c, rfl⟩
      have hpad : padT [t0, t1, t2] = #[t0.val, t1.val, t2.val] := rfl
      rw [hpad] at cS cPl hM
      have hc := HC.out
      unfold triC at hc
      rw [← hq] at hc
      have cD : ∀ {W : World}, Mt B w b v sl q #[t0.val, t1.val, t2.val] W → Calls Tryz.prog 68 #[.pointer (some ⟨b, 0, none⟩), .string ⟨#[46]⟩] W fun e w' => e = .returned (.bool (decide (sl[q]? = some 46))) ∧ Mt B w b v sl (q + if sl[q]? = some 46 then 1 else 0) #[t0.val, t1.val, t2.val] w' := fun {W} x => (is_one x.1.1 hgp.1 (by omega) 46 _ p46 (by decide)).mono fun _ _ ⟨a, y⟩ => ⟨a, x.to y⟩
      obtain ⟨ty0, wv0, hv0⟩ := iface_of (hkd t0 (by simp))
      obtain ⟨ty1, wv1, hv1⟩ := iface_of (hkd t1 (by simp))
      obtain ⟨ty2, wv2, hv2⟩ := iface_of (hkd t2 (by simp))
      have HV0 := Lib.hid hv0
      have HV1 := Lib.hid hv1
      have HV2 := Lib.hid hv2
      rw [hv0, hv1, hv2] at cS cPl hM cD
      clear hv0 hv1 hv2 hpad hts hig hkd
      by_cases hd : sl[q]? = some 46
      · rw [if_pos hd] at hc
        rw [if_pos hd, decide_eq_true hd] at cD
        have HE := Lib.hid hc
        clear hc hd hq HC
        go_wp2_with (first
          | (go_at_call 65; (with_reducible refine (cS hM).mono ?_); rintro e w1 ⟨rfl, m1⟩; clear hM)
          | (go_at_call 68; (with_reducible refine (cD m1).mono ?_); rintro e w2 ⟨rfl, m2⟩; obtain ⟨x0, x1, x2, f0, f1, f2, hz⟩ := m2.res; obtain ⟨y0, y1, y2, _, _, _, hz2⟩ := m2.part))
        refine bodyPost_ret (v := .tuple #[.agg #[.iface ty0 wv0, .iface ty1 wv1, .iface ty2 wv2], .int .i64 0, .int .i64 0]) (by simp [results, Tryz.results37, go_sem, x0, x1, x2, hz]) rfl ?_
        rw [HE.out]
        refine ⟨?_, m2.store _ _ _⟩
        show _ = Ending.returned (.tuple #[.agg #[t0.val, t1.val, t2.val], .int .i64 0, .int .i64 0])
        rw [HV0.out, HV1.out, HV2.out]
      · rw [if_neg hd] at hc
        rw [if_neg hd, decide_eq_false hd, Nat.add_zero] at cD
        have HE := Lib.hid hc
        clear hc hd hq HC
        go_wp2_with (first
          | (go_at_call 65; (with_reducible refine (cS hM).mono ?_); rintro e w1 ⟨rfl, m1⟩; clear hM)
          | (go_at_call 68; (with_reducible refine (cD m1).mono ?_); rintro e w2 ⟨rfl, m2⟩)
          | (go_at_call 38; (with_reducible refine (cPl m2).mono ?_); rintro e w3 ⟨rfl, m3⟩; obtain ⟨x0, x1, x2, f0, f1, f2, hz⟩ := m3.res))
        refine bodyPost_ret (v := .tuple #[.agg #[.nilIface, .nilIface, .nilIface], .int .i64 q, .int .i64 1]) (by simp [results, Tryz.results37, go_sem, x0, x1, x2, hz]) rfl ?_
        rw [HE.out]
        exact ⟨rfl, _, m3.store _ _ _⟩
    | succ g =>
      obtain rfl | rfl | rfl : i = 0 ∨ i = 1 ∨ i = 2 := by omega
      · obtain rfl : ts = [] := List.length_eq_zero_iff.1 hts
        have hpad : padT [] = #[.nilIface, .nilIface, .nilIface] := rfl
        rw [hpad] at cS cPl hM
        clear hpad
        obtain rfl : g = 2 := by omega
        have hp := partP_le sl p 0 hpl HALL.out
        have hc := HC.out
        unfold triC at hc
        have hpp : partP sl p 0 = match (readP sl q).1 with
          | none => readP sl q
          | some t => if mayB t 0 = true then (some t, (readP sl q).2.1, 0) else (none, q, 3) := by rw [hq]; rfl
        have cR : ∀ {W : World}, Mt B w b v sl q #[.nilIface, .nilIface, .nilIface] W → Calls Tryz.prog 69 #[.pointer (some ⟨b, 0, none⟩)] W (RePost B W b v sl q (readP sl q)) := fun {W} x => nread_any x.1.1 hgp.1 hl HALL.out t fr (HTB.out _ x.1.2)
        unfold RePost at cR
        have HKD := Lib.hid hkd
        clear hkd
        cases ho : (readP sl q).1 with
        | none =>
          rw [ho] at cR hpp
          dsimp only at cR hpp
          have hcode : ¬ (readP sl q).2.2 = 0 := readP_code ho
          rw [hpp, ho] at hc
          dsimp only at hc
          obtain ⟨code, hcd⟩ : ∃ c, c = (readP sl q).2.2 := ⟨_, rfl⟩
          obtain ⟨pl, hpl2⟩ : ∃ c, c = (readP sl q).2.1 := ⟨_, rfl⟩
          rw [← hcd] at cR hc hcode
          rw [← hpl2] at cR hc
          have hcb : (code != 0) = true := by rw [bne_iff_ne]; exact hcode
          have HE := Lib.hid hc
          clear hc hpp ho hcd hpl2 hcode hp hq HC hts hig
          go_wp2_with (first
            | (go_at_call 65; (with_reducible refine (cS hM).mono ?_); rintro e w1 ⟨rfl, m1⟩; clear hM)
            | (go_at_call 38; (with_reducible refine (cPl m1).mono ?_); rintro e w2 ⟨rfl, m2⟩; clear m1)
            | (go_at_call 69; (with_reducible refine (cR m2).mono ?_); rintro e w3 ⟨rfl, m3⟩; have m3' := m2.to m3; obtain ⟨x0, x1, x2, f0, f1, f2, hz⟩ := m3'.res))
          (try rw [Exit.noGoto_ret])
          refine bodyPost_ret (v := .tuple #[.agg #[.nilIface, .nilIface, .nilIface], .int .i64 pl, .int .i64 code]) (by simp [results, Tryz.results37, go_sem, x0, x1, x2, hz]) rfl ?_
          rw [HE.out]
          exact ⟨rfl, _, m3'.store _ _ _⟩
        | some u =>
          rw [ho] at cR hpp
          dsimp only at cR hpp
          obtain ⟨pl, hpl2⟩ : ∃ c, c = (readP sl q).2.1 := ⟨_, rfl⟩
          rw [← hpl2] at cR hpp
          have cMy : ∀ {W : World}, Mt B w b v sl pl #[.nilIface, .nilIface, .nilIface] W → Calls Tryz.prog 63 #[u.val, .int .i64 0] W fun e w' => e = .returned (.bool (mayB u 0)) ∧ Mt B w b v sl pl #[.nilIface, .nilIface, .nilIface] w' := fun {W} x => (nmay_any u 0 W).mono fun _ _ ⟨a, y⟩ => ⟨a, x.to ⟨x.1.1.below3 y, below_grown y _⟩⟩
          have hk3 : u.kind < 3 := ((readP_le sl q hgp.1 HALL.out).2.2 u ho).1.2
          obtain ⟨ty, uw, huv⟩ := iface_of hk3
          rw [huv] at cR cMy
          have HUV := Lib.hid huv
          by_cases hm : mayB u 0 = true
          · rw [if_pos hm] at hpp
            rw [hm] at cMy
            rw [hpp] at hc hp
            dsimp only at hc hp
            have hfin : ∀ W, Mt B w b v sl pl #[.nilIface, .nilIface, .nilIface] W → TrI B w b v sl r 2 (.int .i64 ((0 : Int) + 1)) (W.setCell ⟨w.heap.size + 1, 0, none⟩ (.iface ty uw)) := fun W x => by
              refine ⟨0 + 1, pl, [] ++ [u], rfl, by first | rfl | go_num, rfl, hp.1, Lib.hid hc, fun t ht => ?_, ?_⟩
              · rcases List.mem_append.1 ht with ht | ht
                · exact HKD.out t ht
                · simp at ht; subst ht; exact hk3
              · have := x.put 0 (.iface ty uw)
                rw [← huv] at this ⊢
                exact this
            have HF := Lib.hid hfin
            clear hc hpp ho hpl2 hp hq HC hts hig hm huv hfin hk3
            go_wp2_with (first
              | (go_at_call 65; (with_reducible refine (cS hM).mono ?_); rintro e w1 ⟨rfl, m1⟩; clear hM)
              | (go_at_call 38; (with_reducible refine (cPl m1).mono ?_); rintro e w2 ⟨rfl, m2⟩; clear m1)
              | (go_at_call 69; (with_reducible refine (cR m2).mono ?_); rintro e w3 ⟨rfl, m3⟩; have m3' := m2.to m3; clear m2 m3)
              | (go_at_call 63; (with_reducible refine (cMy m3').mono ?_); rintro e w4 ⟨rfl, m4⟩; clear m3'; obtain ⟨y0, y1, y2, g0, g1, g2, hz2⟩ := m4.part))
            go_roundg 2
            case measure => exact Nat.lt_succ_self _
            case rel => exact HF.out _ m4
          · have hm' : mayB u 0 = false := by simpa using hm
            rw [if_neg hm] at hpp
            rw [hm'] at cMy
            rw [hpp] at hc
            dsimp only at hc
            have HE := Lib.hid hc
            clear hc hpp ho hpl2 hp hq HC hts hig hm hm' huv hk3
            go_wp2_with (first
              | (go_at_call 65; (with_reducible refine (cS hM).mono ?_); rintro e w1 ⟨rfl, m1⟩; clear hM)
              | (go_at_call 38; (with_reducible refine (cPl m1).mono ?_); rintro e w2 ⟨rfl, m2⟩; clear m1)
              | (go_at_call 69; (with_reducible refine (cR m2).mono ?_); rintro e w3 ⟨rfl, m3⟩; have m3' := m2.to m3; clear m2 m3)
              | (go_at_call 63; (with_reducible refine (cMy m3').mono ?_); rintro e w4 ⟨rfl, m4⟩; clear m3'; obtain ⟨x0, x1, x2, f0, f1, f2, hz⟩ := m4.res))
            (try rw [Exit.noGoto_ret])
            refine bodyPost_ret (v := .tuple #[.agg #[.nilIface, .nilIface, .nilIface], .int .i64 q, .int .i64 3]) (by simp [results, Tryz.results37, go_sem, x0, x1, x2, hz]) rfl ?_
            rw [HE.out]
            exact ⟨rfl, _, m4.store _ _ _⟩
      · obtain ⟨t0, rfl⟩ : ∃ t0 : Tm, ts = [t0] := by
          match ts, hts with
          | [t0], _ => exact ⟨t0, rfl⟩
        have hpad : padT [t0] = #[t0.val, .nilIface, .nilIface] := rfl
        rw [hpad] at cS cPl hM
        clear hpad
        obtain rfl : g = 1 := by omega
        have hp := partP_le sl p 1 hpl HALL.out
        have hc := HC.out
        unfold triC at hc
        have hpp : partP sl p 1 = match (readP sl q).1 with
          | none => readP sl q
          | some t => if mayB t 1 = true then (some t, (readP sl q).2.1, 0) else (none, q, 3) := by rw [hq]; rfl
        have cR : ∀ {W : World}, Mt B w b v sl q #[t0.val, .nilIface, .nilIface] W → Calls Tryz.prog 69 #[.pointer (some ⟨b, 0, none⟩)] W (RePost B W b v sl q (readP sl q)) := fun {W} x => nread_any x.1.1 hgp.1 hl HALL.out t fr (HTB.out _ x.1.2)
        unfold RePost at cR
        have HKD := Lib.hid hkd
        clear hkd
        cases ho : (readP sl q).1 with
        | none =>
          rw [ho] at cR hpp
          dsimp only at cR hpp
          have hcode : ¬ (readP sl q).2.2 = 0 := readP_code ho
          rw [hpp, ho] at hc
          dsimp only at hc
          obtain ⟨code, hcd⟩ : ∃ c, c = (readP sl q).2.2 := ⟨_, rfl⟩
          obtain ⟨pl, hpl2⟩ : ∃ c, c = (readP sl q).2.1 := ⟨_, rfl⟩
          rw [← hcd] at cR hc hcode
          rw [← hpl2] at cR hc
          have hcb : (code != 0) = true := by rw [bne_iff_ne]; exact hcode
          have HE := Lib.hid hc
          clear hc hpp ho hcd hpl2 hcode hp hq HC hts hig
          go_wp2_with (first
            | (go_at_call 65; (with_reducible refine (cS hM).mono ?_); rintro e w1 ⟨rfl, m1⟩; clear hM)
            | (go_at_call 38; (with_reducible refine (cPl m1).mono ?_); rintro e w2 ⟨rfl, m2⟩; clear m1)
            | (go_at_call 69; (with_reducible refine (cR m2).mono ?_); rintro e w3 ⟨rfl, m3⟩; have m3' := m2.to m3; obtain ⟨x0, x1, x2, f0, f1, f2, hz⟩ := m3'.res))
          (try rw [Exit.noGoto_ret])
          refine bodyPost_ret (v := .tuple #[.agg #[.nilIface, .nilIface, .nilIface], .int .i64 pl, .int .i64 code]) (by simp [results, Tryz.results37, go_sem, x0, x1, x2, hz]) rfl ?_
          rw [HE.out]
          exact ⟨rfl, _, m3'.store _ _ _⟩
        | some u =>
          rw [ho] at cR hpp
          dsimp only at cR hpp
          obtain ⟨pl, hpl2⟩ : ∃ c, c = (readP sl q).2.1 := ⟨_, rfl⟩
          rw [← hpl2] at cR hpp
          have cMy : ∀ {W : World}, Mt B w b v sl pl #[t0.val, .nilIface, .nilIface] W → Calls Tryz.prog 63 #[u.val, .int .i64 1] W fun e w' => e = .returned (.bool (mayB u 1)) ∧ Mt B w b v sl pl #[t0.val, .nilIface, .nilIface] w' := fun {W} x => (nmay_any u 1 W).mono fun _ _ ⟨a, y⟩ => ⟨a, x.to ⟨x.1.1.below3 y, below_grown y _⟩⟩
          have hk3 : u.kind < 3 := ((readP_le sl q hgp.1 HALL.out).2.2 u ho).1.2
          obtain ⟨ty, uw, huv⟩ := iface_of hk3
          rw [huv] at cR cMy
          have HUV := Lib.hid huv
          by_cases hm : mayB u 1 = true
          · rw [if_pos hm] at hpp
            rw [hm] at cMy
            rw [hpp] at hc hp
            dsimp only at hc hp
            have hfin : ∀ W, Mt B w b v sl pl #[t0.val, .nilIface, .nilIface] W → TrI B w b v sl r 1 (.int .i64 ((1 : Int) + 1)) (W.setCell ⟨w.heap.size + 1, 1, none⟩ (.iface ty uw)) := fun W x => by
              refine ⟨1 + 1, pl, [t0] ++ [u], rfl, by first | rfl | go_num, rfl, hp.1, Lib.hid hc, fun t ht => ?_, ?_⟩
              · rcases List.mem_append.1 ht with ht | ht
                · exact HKD.out t ht
                · simp at ht; subst ht; exact hk3
              · have := x.put 1 (.iface ty uw)
                rw [← huv] at this ⊢
                exact this
            have HF := Lib.hid hfin
            clear hc hpp ho hpl2 hp hq HC hts hig hm huv hfin hk3
            go_wp2_with (first
              | (go_at_call 65; (with_reducible refine (cS hM).mono ?_); rintro e w1 ⟨rfl, m1⟩; clear hM)
              | (go_at_call 38; (with_reducible refine (cPl m1).mono ?_); rintro e w2 ⟨rfl, m2⟩; clear m1)
              | (go_at_call 69; (with_reducible refine (cR m2).mono ?_); rintro e w3 ⟨rfl, m3⟩; have m3' := m2.to m3; clear m2 m3)
              | (go_at_call 63; (with_reducible refine (cMy m3').mono ?_); rintro e w4 ⟨rfl, m4⟩; clear m3'; obtain ⟨y0, y1, y2, g0, g1, g2, hz2⟩ := m4.part))
            go_roundg 1
            case measure => exact Nat.lt_succ_self _
            case rel => exact HF.out _ m4
          · have hm' : mayB u 1 = false := by simpa using hm
            rw [if_neg hm] at hpp
            rw [hm'] at cMy
            rw [hpp] at hc
            dsimp only at hc
            have HE := Lib.hid hc
            clear hc hpp ho hpl2 hp hq HC hts hig hm hm' huv hk3
            go_wp2_with (first
              | (go_at_call 65; (with_reducible refine (cS hM).mono ?_); rintro e w1 ⟨rfl, m1⟩; clear hM)
              | (go_at_call 38; (with_reducible refine (cPl m1).mono ?_); rintro e w2 ⟨rfl, m2⟩; clear m1)
              | (go_at_call 69; (with_reducible refine (cR m2).mono ?_); rintro e w3 ⟨rfl, m3⟩; have m3' := m2.to m3; clear m2 m3)
              | (go_at_call 63; (with_reducible refine (cMy m3').mono ?_); rintro e w4 ⟨rfl, m4⟩; clear m3'; obtain ⟨x0, x1, x2, f0, f1, f2, hz⟩ := m4.res))
            (try rw [Exit.noGoto_ret])
            refine bodyPost_ret (v := .tuple #[.agg #[.nilIface, .nilIface, .nilIface], .int .i64 q, .int .i64 3]) (by simp [results, Tryz.results37, go_sem, x0, x1, x2, hz]) rfl ?_
            rw [HE.out]
            exact ⟨rfl, _, m4.store _ _ _⟩
      · obtain ⟨t0, t1, rfl⟩ : ∃ t0 t1 : Tm, ts = [t0, t1] := by
          match ts, hts with
          | [t0, t1], _ => exact ⟨t0, t1, rfl⟩
        have hpad : padT [t0, t1] = #[t0.val, t1.val, .nilIface] := rfl
        rw [hpad] at cS cPl hM
        clear hpad
        obtain rfl : g = 0 := by omega
        have hp := partP_le sl p 2 hpl HALL.out
        have hc := HC.out
        unfold triC at hc
        have hpp : partP sl p 2 = match (readP sl q).1 with
          | none => readP sl q
          | some t => if mayB t 2 = true then (some t, (readP sl q).2.1, 0) else (none, q, 3) := by rw [hq]; rfl
        have cR : ∀ {W : World}, Mt B w b v sl q #[t0.val, t1.val, .nilIface] W → Calls Tryz.prog 69 #[.pointer (some ⟨b, 0, none⟩)] W (RePost B W b v sl q (readP sl q)) := fun {W} x => nread_any x.1.1 hgp.1 hl HALL.out t fr (HTB.out _ x.1.2)
        unfold RePost at cR
        have HKD := Lib.hid hkd
        clear hkd
        cases ho : (readP sl q).1 with
        | none =>
          rw [ho] at cR hpp
          dsimp only at cR hpp
          have hcode : ¬ (readP sl q).2.2 = 0 := readP_code ho
          rw [hpp, ho] at hc
          dsimp only at hc
          obtain ⟨code, hcd⟩ : ∃ c, c = (readP sl q).2.2 := ⟨_, rfl⟩
          obtain ⟨pl, hpl2⟩ : ∃ c, c = (readP sl q).2.1 := ⟨_, rfl⟩
          rw [← hcd] at cR hc hcode
          rw [← hpl2] at cR hc
          have hcb : (code != 0) = true := by rw [bne_iff_ne]; exact hcode
          have HE := Lib.hid hc
          clear hc hpp ho hcd hpl2 hcode hp hq HC hts hig
          go_wp2_with (first
            | (go_at_call 65; (with_reducible refine (cS hM).mono ?_); rintro e w1 ⟨rfl, m1⟩; clear hM)
            | (go_at_call 38; (with_reducible refine (cPl m1).mono ?_); rintro e w2 ⟨rfl, m2⟩; clear m1)
            | (go_at_call 69; (with_reducible refine (cR m2).mono ?_); rintro e w3 ⟨rfl, m3⟩; have m3' := m2.to m3; obtain ⟨x0, x1, x2, f0, f1, f2, hz⟩ := m3'.res))
          (try rw [Exit.noGoto_ret])
          refine bodyPost_ret (v := .tuple #[.agg #[.nilIface, .nilIface, .nilIface], .int .i64 pl, .int .i64 code]) (by simp [results, Tryz.results37, go_sem, x0, x1, x2, hz]) rfl ?_
          rw [HE.out]
          exact ⟨rfl, _, m3'.store _ _ _⟩
        | some u =>
          rw [ho] at cR hpp
          dsimp only at cR hpp
          obtain ⟨pl, hpl2⟩ : ∃ c, c = (readP sl q).2.1 := ⟨_, rfl⟩
          rw [← hpl2] at cR hpp
          have cMy : ∀ {W : World}, Mt B w b v sl pl #[t0.val, t1.val, .nilIface] W → Calls Tryz.prog 63 #[u.val, .int .i64 2] W fun e w' => e = .returned (.bool (mayB u 2)) ∧ Mt B w b v sl pl #[t0.val, t1.val, .nilIface] w' := fun {W} x => (nmay_any u 2 W).mono fun _ _ ⟨a, y⟩ => ⟨a, x.to ⟨x.1.1.below3 y, below_grown y _⟩⟩
          have hk3 : u.kind < 3 := ((readP_le sl q hgp.1 HALL.out).2.2 u ho).1.2
          obtain ⟨ty, uw, huv⟩ := iface_of hk3
          rw [huv] at cR cMy
          have HUV := Lib.hid huv
          by_cases hm : mayB u 2 = true
          · rw [if_pos hm] at hpp
            rw [hm] at cMy
            rw [hpp] at hc hp
            dsimp only at hc hp
            have hfin : ∀ W, Mt B w b v sl pl #[t0.val, t1.val, .nilIface] W → TrI B w b v sl r 0 (.int .i64 ((2 : Int) + 1)) (W.setCell ⟨w.heap.size + 1, 2, none⟩ (.iface ty uw)) := fun W x => by
              refine ⟨2 + 1, pl, [t0, t1] ++ [u], rfl, by first | rfl | go_num, rfl, hp.1, Lib.hid hc, fun t ht => ?_, ?_⟩
              · rcases List.mem_append.1 ht with ht | ht
                · exact HKD.out t ht
                · simp at ht; subst ht; exact hk3
              · have := x.put 2 (.iface ty uw)
                rw [← huv] at this ⊢
                exact this
            have HF := Lib.hid hfin
            clear hc hpp ho hpl2 hp hq HC hts hig hm huv hfin hk3
            go_wp2_with (first
              | (go_at_call 65; (with_reducible refine (cS hM).mono ?_); rintro e w1 ⟨rfl, m1⟩; clear hM)
              | (go_at_call 38; (with_reducible refine (cPl m1).mono ?_); rintro e w2 ⟨rfl, m2⟩; clear m1)
              | (go_at_call 69; (with_reducible refine (cR m2).mono ?_); rintro e w3 ⟨rfl, m3⟩; have m3' := m2.to m3; clear m2 m3)
              | (go_at_call 63; (with_reducible refine (cMy m3').mono ?_); rintro e w4 ⟨rfl, m4⟩; clear m3'; obtain ⟨y0, y1, y2, g0, g1, g2, hz2⟩ := m4.part))
            go_roundg 0
            case measure => exact Nat.lt_succ_self _
            case rel => exact HF.out _ m4
          · have hm' : mayB u 2 = false := by simpa using hm
            rw [if_neg hm] at hpp
            rw [hm'] at cMy
            rw [hpp] at hc
            dsimp only at hc
            have HE := Lib.hid hc
            clear hc hpp ho hpl2 hp hq HC hts hig hm hm' huv hk3
            go_wp2_with (first
              | (go_at_call 65; (with_reducible refine (cS hM).mono ?_); rintro e w1 ⟨rfl, m1⟩; clear hM)
              | (go_at_call 38; (with_reducible refine (cPl m1).mono ?_); rintro e w2 ⟨rfl, m2⟩; clear m1)
              | (go_at_call 69; (with_reducible refine (cR m2).mono ?_); rintro e w3 ⟨rfl, m3⟩; have m3' := m2.to m3; clear m2 m3)
              | (go_at_call 63; (with_reducible refine (cMy m3').mono ?_); rintro e w4 ⟨rfl, m4⟩; clear m3'; obtain ⟨x0, x1, x2, f0, f1, f2, hz⟩ := m4.res))
            (try rw [Exit.noGoto_ret])
            refine bodyPost_ret (v := .tuple #[.agg #[.nilIface, .nilIface, .nilIface], .int .i64 q, .int .i64 3]) (by simp [results, Tryz.results37, go_sem, x0, x1, x2, hz]) rfl ?_
            rw [HE.out]
            exact ⟨rfl, _, m4.store _ _ _⟩
end Go.Proofs.YtpnfjjgihkmjmaaGreatDoor

/-
  LINES OF TRIPLES: plain; a slice of triples; the world in which they are parsed.
-/
namespace Go.Proofs.YtpnfjjgihkmjmaaGreatDoor
open Go.RowKit
set_option linter.unusedVariables false

/-- From place k on, acc being read; at most g signs are to come. -/
noncomputable def prsC (sl : List Int) : Nat → Nat → List (List Tm) → List (List Tm) × Nat × Int
  | 0, _, acc => (acc, 0, 0)
  | g + 1, k, acc =>
    if k = sl.length then (acc, 0, 0)
    else if (overP sl k).2 = true then prsC sl g (overP sl k).1 acc
    else match (triP sl (overP sl k).1).1 with
      | none => ([], (triP sl (overP sl k).1).2.1, (triP sl (overP sl k).1).2.2)
      | some ts => if (overP sl (triP sl (overP sl k).1).2.1).2 = true then prsC sl g (overP sl (triP sl (overP sl k).1).2.1).1 (acc ++ [ts]) else ([], (overP sl (triP sl (overP sl k).1).2.1).1, 1)
/-- Of any bytes, their signs and what is none's behind them. -/
noncomputable def prsB (sl : List Int) (rest : List UInt8) : List (List Tm) × Nat × Int := if rest = [] then prsC sl sl.length 0 [] else ([], sl.length, 1)
/-- Triples that are ones. -/
def Trs (N : Nat) (l : List (List Tm)) : Prop := ∀ ts ∈ l, ts.length = 3 ∧ Tri N ts
theorem trs_snoc {N : Nat} {l : List (List Tm)} {ts : List Tm} (h : Trs N l) (h1 : ts.length = 3) (h2 : Tri N ts) : Trs N (l ++ [ts]) := fun x hx => by
  rcases List.mem_append.1 hx with hx | hx
  · exact h x hx
  · simp at hx; subst hx; exact ⟨h1, h2⟩
theorem trs_nil (N : Nat) : Trs N [] := fun x hx => by cases hx
theorem prsC_trs (sl : List Int) (hs : AllS sl) : ∀ (g k : Nat) (acc : List (List Tm)), k ≤ sl.length → Trs sl.length acc → Trs sl.length (prsC sl g k acc).1 ∧ (prsC sl g k acc).1.length ≤ acc.length + g
  | 0, k, acc, h, ha => ⟨ha, Nat.le_refl _⟩
  | g + 1, k, acc, h, ha => by
    have ho := overP_le sl k h
    have ht := triP_le sl hs (overP sl k).1 ho.1
    unfold prsC
    split
    · exact ⟨ha, by dsimp only; omega⟩
    split
    · have := prsC_trs sl hs g (overP sl k).1 acc ho.1 ha
      exact ⟨this.1, by omega⟩
    · cases hu : (triP sl (overP sl k).1).1 with
      | none => exact ⟨trs_nil _, Nat.zero_le _⟩
      | some ts =>
        obtain ⟨a, b, c⟩ := ht.2.2 ts hu
        have ho2 := overP_le sl _ ht.1
        dsimp only
        split
        · have := prsC_trs sl hs g _ (acc ++ [ts]) ho2.1 (trs_snoc ha a b)
          exact ⟨this.1, by have := this.2; simp at this; omega⟩
        · exact ⟨trs_nil _, Nat.zero_le _⟩
/-! ### Slices of triples -/
def cellsT (l : List (List Tm)) : List Value := l.flatMap fun ts => ts.map Tm.val
theorem cellsT_snoc (l : List (List Tm)) (ts : List Tm) : cellsT (l ++ [ts]) = cellsT l ++ ts.map Tm.val := by simp [cellsT]
def TrsV (B : Nat) (W : World) (v : Value) (l : List (List Tm)) : Prop := W.ownsRow B 71 3 v l.length (cellsT l)
theorem trsV_nil (B : Nat) (W : World) : TrsV B W (.slice none 0 0) [] := World.ownsRow_nil _ _ _ _
theorem TrsV.shape {B : Nat} {W : World} {v : Value} {l : List (List Tm)} (h : TrsV B W v l) : ∃ A c, v = .slice A l.length c := by
  rcases id h.2 with ⟨hv, hl⟩ | ⟨g, cap, cur, hv, _⟩
  · exact ⟨none, 0, by rw [hv, hl]⟩
  · exact ⟨_, cap, hv⟩
theorem TrsV.ne {B B' : Nat} {W : World} {v v' : Value} {l : List (List Tm)} {sl : List Int} {b k : Nat} (h : TrsV B W v l) (hs : Sc B' W b v' sl k) : v.ownBlock ≠ some b := by
  intro e
  rcases id h.2 with ⟨hv, _⟩ | ⟨g, cap, cur, hv, _, hg, _⟩
  · rw [hv] at e; cases e
  · rw [hv] at e
    simp [Value.ownBlock] at e
    subst e
    rw [hs.blk] at hg
    cases hg
theorem TrsV.apart {B B' : Nat} {W : World} {v v' : Value} {l : List (List Tm)} {sl : List Int} {b k : Nat} (h : TrsV B W v l) (hs : Sc B' W b v' sl k) : v'.ownBlock = none ∨ v'.ownBlock ≠ v.ownBlock := by
  rcases hs.row.2 with ⟨hv', _⟩ | ⟨g', cap', cur', hv', _, hg', _⟩
  · left; rw [hv']; rfl
  · right
    intro e
    rcases id h.2 with ⟨hv, _⟩ | ⟨g, cap, cur, hv, _, hg, _⟩
    · rw [hv, hv'] at e; cases e
    · rw [hv, hv'] at e
      simp [Value.ownBlock] at e
      subst e
      rw [hg'] at hg
      cases hg
theorem TrsV.below {B : Nat} {w w' : World} {v : Value} {l : List (List Tm)} (h : TrsV B w v l) (hb : Below w.heap.size w w') : TrsV B w' v l := by
  refine ⟨h.1, ?_⟩
  rcases id h.2 with x | ⟨g, cap, cur, hv, hg, hh, rest⟩
  · exact .inl x
  · exact .inr ⟨g, cap, cur, hv, hg, (hb.block g (Array.getElem?_eq_some_iff.1 hh).1).trans hh, rest⟩
/-- While lines are parsed. -/
def Ps (w : World) (b : Nat) (v : Value) (sl : List Int) (k : Nat) (vL : Value) (acc : List (List Tm)) (W : World) : Prop := Sc w.heap.size W b v sl k ∧ TrsV w.heap.size W vL acc ∧ Below w.heap.size w W
section
variable {w : World} {b : Nat} {v : Value} {sl : List Int} {k : Nat} {vL : Value} {acc : List (List Tm)}
theorem Ps.moves {k' : Nat} {W W' : World} (h : Ps w b v sl k vL acc W) (m : Moves w.heap.size W b v sl k' W') : Ps w b v sl k' vL acc W' :=
  ⟨m.1, World.ownsRow.kept h.2.1 m.2 (Or.inr (h.2.1.ne h.1)), h.2.2.grown m.2 h.2.2.size (fun j hj => by cases hj; exact h.1.ge)⟩
theorem Ps.below {W W' : World} (h : Ps w b v sl k vL acc W) (hb : Below W.heap.size W W') : Ps w b v sl k vL acc W' := ⟨h.1.below3 hb, h.2.1.below hb, h.2.2.trans (hb.mono h.2.2.size)⟩
theorem Ps.alloc {W : World} (h : Ps w b v sl k vL acc W) (o : Obj) : Ps w b v sl k vL acc (W.alloc o) := h.below ((Below.refl _ _).alloc (Nat.le_refl _) o)
theorem Ps.app {W w5 : World} {v' : Value} {ts : List Tm} {n : Nat} {news : List Value} (h : Ps w b v sl k vL acc W) (hn : n = acc.length + 1) (hw : news = ts.map Tm.val) (hown : w5.ownsRow w.heap.size 71 3 v' n (cellsT acc ++ news)) (hg : W.grownBy w5 vL.ownBlock) : Ps w b v sl k v' (acc ++ [ts]) w5 := by
  subst hn hw
  refine ⟨⟨(hg.block b (Array.getElem?_eq_some_iff.1 h.1.blk).1 (fun e => h.2.1.ne h.1 e.symm)).trans h.1.blk, h.1.row.kept hg (h.2.1.apart h.1), h.1.ge⟩, ?_, h.2.2.grown hg h.2.2.size (fun j hj => (World.ownsRow.lt h.2.1 j hj).1)⟩
  unfold TrsV
  rw [cellsT_snoc, List.length_append]
  exact hown
theorem ps_end (hk : k ≤ sl.length) (hl : sl.length ≤ 4294967296) {W : World} (h : Ps w b v sl k vL acc W) : Calls Tryz.prog 35 #[.pointer (some ⟨b, 0, none⟩)] W fun e w' => e = .returned (.bool (decide (k = sl.length))) ∧ Ps w b v sl k vL acc w' :=
  (mv_end hk hl (Moves.start h.1)).mono fun _ _ ⟨x, y⟩ => ⟨x, h.moves y⟩
theorem ps_over (hk : k ≤ sl.length) (hl : sl.length ≤ 4294967296) {W : World} (h : Ps w b v sl k vL acc W) : Calls Tryz.prog 36 #[.pointer (some ⟨b, 0, none⟩)] W fun e w' => e = .returned (.bool (overP sl k).2) ∧ Ps w b v sl (overP sl k).1 vL acc w' :=
  (nend_any h.1 hk hl).mono fun _ _ ⟨x, y⟩ => ⟨x, h.moves y⟩
theorem ps_place {W : World} (h : Ps w b v sl k vL acc W) : Calls Tryz.prog 38 #[.pointer (some ⟨b, 0, none⟩)] W fun e w' => e = .returned (.int .i64 k) ∧ Ps w b v sl k vL acc w' :=
  (place_any h.1).mono fun _ _ ⟨x, y⟩ => ⟨x, h.moves ⟨y.sc h.1, same_grown y _⟩⟩
theorem ps_triple (hk : k ≤ sl.length) (hl : sl.length ≤ 100000) (hall : AllS sl) (t : TypeId) (fr : Nat × Nat) (htab : w.heap[0]? = some (.cells escCells t fr)) {W : World} (h : Ps w b v sl k vL acc W) :
    Calls Tryz.prog 37 #[.pointer (some ⟨b, 0, none⟩)] W fun e w' => match (triP sl k).1 with
      | some ts => e = .returned (.tuple #[.agg (ts.map Tm.val).toArray, .int .i64 0, .int .i64 0]) ∧ Ps w b v sl (triP sl k).2.1 vL acc w'
      | none => e = .returned (.tuple #[.agg #[.nilIface, .nilIface, .nilIface], .int .i64 (triP sl k).2.1, .int .i64 (triP sl k).2.2]) ∧ ∃ j, Ps w b v sl j vL acc w' := by
  have h0 : W.heap[0]? = some (.cells escCells t fr) := (h.2.2.block 0 (Array.getElem?_eq_some_iff.1 htab).1).trans htab
  refine (ntriple_any h.1 hk hl hall t fr h0).mono fun e w' hp => ?_
  unfold TrPost at hp
  cases ho : (triP sl k).1 with
  | none => rw [ho] at hp; exact ⟨hp.1, by obtain ⟨j, hj⟩ := hp.2; exact ⟨j, h.moves hj⟩⟩
  | some ts => rw [ho] at hp; exact ⟨hp.1, h.moves hp.2⟩
end
theorem triP_code {sl : List Int} (hs : AllS sl) {k : Nat} (hk : k ≤ sl.length) (h : (triP sl k).1 = none) : ¬ (triP sl k).2.2 = 0 := by
  have key : ∀ (g part p : Nat) (ts : List Tm), (triC sl g part p ts).1 = none → ¬ (triC sl g part p ts).2.2 = 0 := by
    intro g
    induction g with
    | zero =>
      intro part p ts h
      unfold triC at *
      split
      · rename_i hx; rw [if_pos hx] at h; cases h
      · exact (by decide : ¬ (1 : Int) = 0)
    | succ g ih =>
      intro part p ts h
      unfold triC at h ⊢
      cases ho : (partP sl p part).1 with
      | none =>
        dsimp only
        unfold partP at ho ⊢
        cases hr : (readP sl (gapP sl p)).1 with
        | none => exact readP_code hr
        | some t =>
          rw [hr] at ho
          dsimp only at ho ⊢
          by_cases hm : mayB t part = true
          · rw [if_pos hm] at ho; cases ho
          · rw [if_neg hm]; exact (by decide : ¬ (3 : Int) = 0)
      | some t =>
        rw [ho] at h
        dsimp only at h ⊢
        exact ih _ _ _ h
  exact key 3 0 k [] h
theorem tripInfo : (Tryz.prog.info? 71).map (fun i => (i.zero, i.size, i.bytes)) = some (some (.agg #[.nilIface, .nilIface, .nilIface]), 3, 48) := by kernel_rfl
end Go.Proofs.YtpnfjjgihkmjmaaGreatDoor
