/-
  MERGED (a claim has at most 60 files): NRead, NForm, NPl.
-/
import Derived.Test.YtjalhcbomjgkoaaGreatDoorZ17
import Derived.ProofKit
/-
  READING A TERM (package nt): all ways.
-/
namespace Go.Proofs.YtjalhcbomjgkoaaGreatDoor
open Go.RowKit
set_option linter.unusedVariables false
set_option linter.unusedSimpArgs false

/-- The table's cells, whatever the scanner does. -/
theorem tab_grown {w W : World} {b : Nat} {v : Value} {sl : List Int} {B k : Nat} {t : TypeId} {fr : Nat × Nat} (h : Sc B w b v sl k) (htab : w.heap[0]? = some (.cells escCells t fr)) (g : w.grownBy W (some b)) : W.heap[0]? = some (.cells escCells t fr) := by
  refine (g.block 0 (Array.getElem?_eq_some_iff.1 htab).1 (fun e => ?_)).trans htab
  have e : 0 = b := Option.some.inj e
  rw [e, h.blk] at htab
  simp only [Option.some.injEq, Obj.cells.injEq] at htab
  have := congrArg Array.size htab.1
  simp [escCells] at this
def LtPost (B : Nat) (w : World) (b : Nat) (v : Value) (sl : List Int) (r : Nat × Option Tm) (e : Ending) (w' : World) : Prop :=
  match r.2 with
  | some t => e = .returned (.tuple #[.agg #[.string t.ta, .string t.tb, .string t.tc], .bool true]) ∧ Moves B w b v sl r.1 w'
  | none => (∃ x : Value, e = .returned (.tuple #[x, .bool false])) ∧ Moves B w b v sl r.1 w'
/-- A scanner that moves, and a box that the call has made at first. -/
def Mb (B : Nat) (w : World) (b : Nat) (v : Value) (sl : List Int) (k : Nat) (cs : Array Value) (W : World) : Prop := Moves B w b v sl k W ∧ Fb W w.heap.size 78 cs ∧ b < w.heap.size ∧ (∀ g, v.ownBlock = some g → g < w.heap.size)
section
variable {w : World} {B b : Nat} {v : Value} {sl : List Int} {k : Nat} {cs : Array Value}
theorem Mb.start (h : Sc B w b v sl k) (cs : Array Value) : Mb B w b v sl k cs (w.alloc (.cells cs 78)) :=
  ⟨⟨h.below3 ((Below.refl _ _).alloc (Nat.le_refl _) _), below_grown ((Below.refl _ _).alloc (Nat.le_refl _) _) _⟩, Fb.new _ _ _, (Array.getElem?_eq_some_iff.1 h.blk).1, fun g hg => (World.ownsRow.lt h.row g hg).2⟩
theorem Mb.to {k' : Nat} {W W' : World} (h : Mb B w b v sl k cs W) (m : Moves B W b v sl k' W') : Mb B w b v sl k' cs W' :=
  ⟨h.1.to m, (m.2.block _ h.2.1.lt (fun e => by have := Option.some.inj e; have := h.2.2.1; omega)).trans h.2.1, h.2.2⟩
theorem Mb.cells {x y z : Value} {W : World} (h : Mb B w b v sl k #[x, y, z] W) : W.cell? ⟨w.heap.size, 0, none⟩ = some x ∧ W.cell? ⟨w.heap.size, 1, none⟩ = some y ∧ W.cell? ⟨w.heap.size, 2, none⟩ = some z ∧ W.frozen? ⟨w.heap.size, 0, none⟩ = false ∧ W.frozen? ⟨w.heap.size, 1, none⟩ = false ∧ W.frozen? ⟨w.heap.size, 2, none⟩ = false ∧ w.heap.size < W.heap.size :=
  ⟨h.2.1.cell 0, h.2.1.cell 1, h.2.1.cell 2, h.2.1.free 0, h.2.1.free 1, h.2.1.free 2, h.2.1.lt⟩
theorem Mb.setc {W : World} (h : Mb B w b v sl k cs W) (i : Nat) (y : Value) : Moves B w b v sl k (W.setCell ⟨w.heap.size, i, none⟩ y) := by
  have hg := grown_set W w.heap.size i y
  refine ⟨⟨(Below.heap_setCell _ _ _ _ (by have := h.2.2.1; dsimp only; omega)).trans h.1.1.blk, ?_, h.1.1.ge⟩, ⟨hg.os.trans h.1.2.os, hg.tape.trans h.1.2.tape, hg.output.trans h.1.2.output, Nat.le_trans h.1.2.size hg.size, fun j hj hr => ?_⟩⟩
  · refine h.1.1.row.kept hg (Or.inr (fun e => ?_))
    have := h.2.2.2 _ e
    omega
  · exact (Below.heap_setCell _ _ _ _ (by dsimp only; omega)).trans (h.1.2.block j hj hr)
theorem Mb.store {x y z : Value} {W : World} (h : Mb B w b v sl k #[x, y, z] W) (x' y' z' : Value) : Mb B w b v sl k #[x', y', z'] (((W.setCell ⟨w.heap.size, 0, none⟩ x').setCell ⟨w.heap.size, 1, none⟩ y').setCell ⟨w.heap.size, 2, none⟩ z') := by
  have h1 : Mb B w b v sl k #[x', y, z] (W.setCell ⟨w.heap.size, 0, none⟩ x') := ⟨h.setc 0 x', heap_setCell_same _ _ 0 _ _ x' h.2.1, h.2.2⟩
  have h2 : Mb B w b v sl k #[x', y', z] ((W.setCell ⟨w.heap.size, 0, none⟩ x').setCell ⟨w.heap.size, 1, none⟩ y') := ⟨h1.setc 1 y', heap_setCell_same _ _ 1 _ _ y' h1.2.1, h1.2.2⟩
  exact ⟨h2.setc 2 z', heap_setCell_same _ _ 2 _ _ z' h2.2.1, h2.2.2⟩
theorem mb_quoted (hk : k ≤ sl.length) (hl : sl.length ≤ 100000) (hall : AllS sl) {k0 : Nat} (hsc : Sc B w b v sl k0) (t : TypeId) (fr : Nat × Nat) (htab : w.heap[0]? = some (.cells escCells t fr)) {W : World} (h : Mb B w b v sl k cs W) :
    Calls Tryz.prog 125 #[.pointer (some ⟨b, 0, none⟩)] W fun e w' => match (qd sl k).2 with
      | some l => e = .returned (.tuple #[.string (textOf l), .int .i64 (qd sl k).1, .int .i64 0]) ∧ Mb B w b v sl (qd sl k).1 cs w'
      | none => e = .returned (.tuple #[.string ⟨#[]⟩, .int .i64 (qd sl k).1, .int .i64 1]) ∧ Mb B w b v sl k cs w' := by
  refine (quoted_any h.1.1 hk hl hall t fr (tab_grown hsc htab h.1.2)).mono fun e w' hp => ?_
  unfold QdPost at hp
  cases ho : (qd sl k).2 with
  | none => rw [ho] at hp; exact ⟨hp.1, h.to hp.2⟩
  | some l => rw [ho] at hp; exact ⟨hp.1, h.to hp.2⟩
theorem mb_iri (hk : k ≤ sl.length) (hl : sl.length ≤ 100000) (hall : AllS sl) {W : World} (h : Mb B w b v sl k cs W) :
    Calls Tryz.prog 115 #[.pointer (some ⟨b, 0, none⟩)] W fun e w' => e = .returned (.tuple #[.string (textOf ((irP sl k).2.getD [])), .bool (irP sl k).2.isSome]) ∧ Mb B w b v sl (irP sl k).1 cs w' :=
  (niri_any h.1.1 hk hl hall).mono fun _ _ ⟨x, y⟩ => ⟨x, h.to y⟩
theorem mb_back (j : Nat) (hj : j ≤ sl.length) (hl : sl.length ≤ 4294967296) {W : World} (h : Mb B w b v sl k cs W) : Calls Tryz.prog 105 #[.pointer (some ⟨b, 0, none⟩), .int .i64 j] W fun e w' => e = .returned (.bool true) ∧ Mb B w b v sl j cs w' := (back_yes h.1.1 j hj hl).mono fun _ _ ⟨x, y⟩ => ⟨x, h.to y⟩
theorem mb_at (hk : k ≤ sl.length) (hl : sl.length ≤ 4294967296) {W : World} (h : Mb B w b v sl k cs W) :
    Calls Tryz.prog 88 #[.pointer (some ⟨b, 0, none⟩), .string ⟨#[64]⟩] W fun e w' => e = .returned (.bool (decide (sl[k]? = some 64))) ∧ Mb B w b v sl (k + if sl[k]? = some 64 then 1 else 0) cs w' := (is_one h.1.1 hk hl 64 _ p64 (by decide)).mono fun _ _ ⟨x, y⟩ => ⟨x, h.to y⟩
theorem mb_hats (hk : k ≤ sl.length) (hl : sl.length ≤ 4294967296) {W : World} (h : Mb B w b v sl k cs W) :
    Calls Tryz.prog 88 #[.pointer (some ⟨b, 0, none⟩), .string ⟨#[94, 94]⟩] W fun e w' => e = .returned (.bool (decide (sl[k]? = some 94 ∧ sl[k + 1]? = some 94))) ∧ Mb B w b v sl (k + if sl[k]? = some 94 ∧ sl[k + 1]? = some 94 then 2 else 0) cs w' := by
  by_cases hx : sl[k]? = some 94 ∧ sl[k + 1]? = some 94
  · rw [if_pos hx, decide_eq_true hx]
    exact (mv_is2_yes hk hl 94 94 _ p9494 (by decide) hx (Moves.start h.1.1)).mono fun _ _ ⟨x, y⟩ => ⟨x, h.to y⟩
  · rw [if_neg hx, decide_eq_false hx]
    exact (mv_is2_no hk hl 94 94 _ p9494 (by decide) hx (Moves.start h.1.1)).mono fun _ _ ⟨x, y⟩ => ⟨x, h.to y⟩
/-- The marks stand in a row that is there. -/
theorem word_at {W : World} (h : Sc B W b v sl k) (hk : k ≤ sl.length) (hl : sl.length ≤ 100000) (hall : AllS sl) (ms : List Int) (c : Nat) (hml : ms.length ≤ 100) (hm1 : (-1 : Int) ∉ ms) :
    Calls Tryz.prog 117 #[.pointer (some ⟨b, 0, none⟩), .slice (some ⟨W.heap.size, 0, none⟩) ms.length c] (W.alloc (.cells (ms.map (Value.int .i32)).toArray 21)) fun e w' => e = .returned (.string (textOf (wmL ms (sl.drop k)))) ∧ Moves B W b v sl (k + (wmL ms (sl.drop k)).length) w' := by
  have hb : Below W.heap.size W (W.alloc (.cells (ms.map (Value.int .i32)).toArray 21)) := (Below.refl _ _).alloc (Nat.le_refl _) _
  have hne : W.heap.size ≠ b := by have := (Array.getElem?_eq_some_iff.1 h.blk).1; omega
  have h2 : Moves B W b v sl k (W.alloc (.cells (ms.map (Value.int .i32)).toArray 21)) := ⟨h.below3 hb, below_grown hb _⟩
  refine (nword_any h2.1 hk hl hall W.heap.size c ms (fun j n hj => ?_) (by simp) hne hml hm1).mono fun _ _ ⟨x, y⟩ => ⟨x, h2.to y⟩
  rw [(Fb.new W 21 (ms.map (Value.int .i32)).toArray).cell]
  simp [hj]
theorem mb_word (hk : k ≤ sl.length) (hl : sl.length ≤ 100000) (hall : AllS sl) {W : World} (h : Mb B w b v sl k cs W) :
    Calls Tryz.prog 117 #[.pointer (some ⟨b, 0, none⟩), .slice (some ⟨W.heap.size, 0, none⟩) 1 1] (W.alloc (.cells #[.int .i32 45] 21)) fun e w' => e = .returned (.string (textOf (wmL msL (sl.drop k)))) ∧ Mb B w b v sl (k + (wmL msL (sl.drop k)).length) cs w' :=
  (word_at h.1.1 hk hl hall msL 1 (by decide) (by decide)).mono fun _ _ ⟨x, y⟩ => ⟨x, h.to y⟩
end
set_option maxHeartbeats 8000000 in
set_option maxRecDepth 100000 in
theorem nlit_any {B : Nat} {w : World} {b : Nat} {v : Value} {sl : List Int} {k : Nat} (h : Sc B w b v sl k) (hk : k ≤ sl.length) (hl : sl.length ≤ 100000) (hall : AllS sl) (t : TypeId) (fr : Nat × Nat) (htab : w.heap[0]? = some (.cells escCells t fr)) :
    Calls Tryz.prog 116 #[.pointer (some ⟨b, 0, none⟩)] w (LtPost B w b v sl (litP sl k)) := by
  have h0 := Mb.start h #[.string mt, .string mt, .string mt]
  have cQ := mb_quoted (cs := #[.string mt, .string mt, .string mt]) hk hl hall h t fr htab h0
  have hq := qd_le sl k hk
  obtain ⟨r, hr⟩ : ∃ r, r = litP sl k := ⟨_, rfl⟩
  rw [← hr]
  unfold litP at hr
  obtain ⟨p, hp⟩ : ∃ p, p = (qd sl k).1 := ⟨_, rfl⟩
  rw [← hp] at cQ hq hr
  have hpl := hq.1
  cases ho : (qd sl k).2 with
  | none =>
    rw [ho] at cQ hr
    dsimp only at cQ hr
    have cB : ∀ {W : World}, Mb B w b v sl k #[.string mt, .string mt, .string mt] W → Calls Tryz.prog 105 #[.pointer (some ⟨b, 0, none⟩), .int .i64 p] W _ := fun {W} x => mb_back p hpl (by omega) x
    have HR := Lib.hid hr
    clear h htab hq hr ho hp h0
    go_enter Tryz.func116, Tryz.ntmps116
    go_wp2_with (first
      | (go_at_call 125; (with_reducible refine cQ.mono ?_); rintro e w1 ⟨rfl, m1⟩)
      | (go_at_call 105; (with_reducible refine (cB m1).mono ?_); rintro e w2 ⟨rfl, m2⟩; obtain ⟨x0, x1, x2, f0, f1, f2, hz⟩ := m2.cells))
    refine bodyPost_ret (v := .tuple #[.agg #[.string mt, .string mt, .string mt], .bool false]) (by simp [results, Tryz.results116, go_sem, x0, x1, x2, hz]) rfl ?_
    rw [HR.out]
    exact ⟨⟨_, rfl⟩, (m2.store _ _ _).1⟩
  | some l =>
    rw [ho] at cQ hr
    dsimp only at cQ hr
    have hlen := (hq.2.2 l ho hall).2
    have cH : ∀ {W : World}, Mb B w b v sl p #[.string mt, .string mt, .string mt] W → Calls Tryz.prog 88 #[.pointer (some ⟨b, 0, none⟩), .string ⟨#[94, 94]⟩] W _ := fun {W} x => mb_hats hpl (by omega) x
    unfold tailP at hr
    have HA := Lib.hid hall
    clear h htab hq ho hp h0
    by_cases hh : sl[p]? = some 94 ∧ sl[p + 1]? = some 94
    · rw [if_pos hh, decide_eq_true hh] at cH
      rw [if_pos hh] at hr
      have hp2 : p + 2 ≤ sl.length := by have := (List.getElem?_eq_some_iff.1 hh.2).1; omega
      have cI : ∀ {W : World}, Mb B w b v sl (p + 2) #[.string mt, .string mt, .string mt] W → Calls Tryz.prog 115 #[.pointer (some ⟨b, 0, none⟩)] W _ := fun {W} x => mb_iri hp2 hl HA.out x
      cases hu : (irP sl (p + 2)).2 with
      | none =>
        rw [hu] at cI hr
        simp only [Option.getD_none, Option.isSome_none, Option.map_none] at cI hr
        obtain ⟨z, hz⟩ : ∃ z, z = textOf [] := ⟨_, rfl⟩
        rw [← hz] at cI
        have HR := Lib.hid hr
        clear hr hu hh hz
        go_enter Tryz.func116, Tryz.ntmps116
        go_wp2_with (first
          | (go_at_call 125; (with_reducible refine cQ.mono ?_); rintro e w1 ⟨rfl, m1⟩)
          | (go_at_call 88; (with_reducible refine (cH m1).mono ?_); rintro e w2 ⟨rfl, m2⟩)
          | (go_at_call 115; (with_reducible refine (cI m2).mono ?_); rintro e w3 ⟨rfl, m3⟩; obtain ⟨x0, x1, x2, f0, f1, f2, hz⟩ := m3.cells))
        refine bodyPost_ret (v := .tuple #[.agg #[.string (textOf l), .string z, .string mt], .bool false]) (by simp [results, Tryz.results116, go_sem, x0, x1, x2, hz]) rfl ?_
        rw [HR.out]
        exact ⟨⟨_, rfl⟩, (m3.store _ _ _).1⟩
      | some u =>
        rw [hu] at cI hr
        simp only [Option.getD_some, Option.isSome_some, Option.map_some] at cI hr
        obtain ⟨z, hz⟩ : ∃ z, z = textOf u := ⟨_, rfl⟩
        rw [← hz] at cI hr
        have HR := Lib.hid hr
        clear hr hu hh hz
        go_enter Tryz.func116, Tryz.ntmps116
        go_wp2_with (first
          | (go_at_call 125; (with_reducible refine cQ.mono ?_); rintro e w1 ⟨rfl, m1⟩)
          | (go_at_call 88; (with_reducible refine (cH m1).mono ?_); rintro e w2 ⟨rfl, m2⟩)
          | (go_at_call 115; (with_reducible refine (cI m2).mono ?_); rintro e w3 ⟨rfl, m3⟩; obtain ⟨x0, x1, x2, f0, f1, f2, hz⟩ := m3.cells))
        refine bodyPost_ret (v := .tuple #[.agg #[.string (textOf l), .string z, .string mt], .bool true]) (by simp [results, Tryz.results116, go_sem, x0, x1, x2, hz]) rfl ?_
        rw [HR.out]
        exact ⟨rfl, (m3.store _ _ _).1⟩
    · rw [if_neg hh, decide_eq_false hh, Nat.add_zero] at cH
      rw [if_neg hh] at hr
      have cT : ∀ {W : World}, Mb B w b v sl p #[.string mt, .string mt, .string mt] W → Calls Tryz.prog 88 #[.pointer (some ⟨b, 0, none⟩), .string ⟨#[64]⟩] W _ := fun {W} x => mb_at hpl (by omega) x
      by_cases ha : sl[p]? = some 64
      · rw [if_pos ha, decide_eq_true ha] at cT
        rw [if_pos ha] at hr
        have hp1 : p + 1 ≤ sl.length := (List.getElem?_eq_some_iff.1 ha).1
        have cW : ∀ {W : World}, Mb B w b v sl (p + 1) #[.string mt, .string mt, .string mt] W → Calls Tryz.prog 117 #[.pointer (some ⟨b, 0, none⟩), .slice (some ⟨W.heap.size, 0, none⟩) 1 1] (W.alloc (.cells #[.int .i32 45] 21)) _ := fun {W} x => mb_word hp1 hl HA.out x
        obtain ⟨z, hz⟩ : ∃ z, z = textOf (wmL msL (sl.drop (p + 1))) := ⟨_, rfl⟩
        rw [← hz] at cW hr
        have HR := Lib.hid hr
        clear hr hh ha hz
        go_enter Tryz.func116, Tryz.ntmps116
        go_wp2_with (first
          | (go_at_call 125; (with_reducible refine cQ.mono ?_); rintro e w1 ⟨rfl, m1⟩)
          | (go_at_call 88; (with_reducible refine (cH m1).mono ?_); rintro e w2 ⟨rfl, m2⟩)
          | (go_at_call 88; (with_reducible refine (cT m2).mono ?_); rintro e w3 ⟨rfl, m3⟩)
          | (go_at_call 117; (with_reducible refine (cW m3).mono ?_); rintro e w4 ⟨rfl, m4⟩; obtain ⟨x0, x1, x2, f0, f1, f2, hz⟩ := m4.cells))
        refine bodyPost_ret (v := .tuple #[.agg #[.string (textOf l), .string XL, .string z], .bool true]) (by simp [results, Tryz.results116, go_sem, x0, x1, x2, hz]) rfl ?_
        rw [HR.out]
        exact ⟨rfl, (m4.store _ _ _).1⟩
      · rw [if_neg ha, decide_eq_false ha, Nat.add_zero] at cT
        rw [if_neg ha] at hr
        have cP : ∀ {W : World}, Mb B w b v sl p #[.string mt, .string mt, .string mt] W → Calls Tryz.prog 50 #[.string (textOf l)] W fun e w' => e = .returned (.agg #[.string (textOf l), .string XS, .string mt]) ∧ Mb B w b v sl p #[.string mt, .string mt, .string mt] w' := fun {W} x => (plain_any (textOf l) W).mono fun _ _ ⟨a, y⟩ => ⟨a, x.to ⟨x.1.1.below3 y, below_grown y _⟩⟩
        have HR := Lib.hid hr
        clear hr hh ha
        go_enter Tryz.func116, Tryz.ntmps116
        go_wp2_with (first
          | (go_at_call 125; (with_reducible refine cQ.mono ?_); rintro e w1 ⟨rfl, m1⟩)
          | (go_at_call 88; (with_reducible refine (cH m1).mono ?_); rintro e w2 ⟨rfl, m2⟩)
          | (go_at_call 88; (with_reducible refine (cT m2).mono ?_); rintro e w3 ⟨rfl, m3⟩)
          | (go_at_call 50; (with_reducible refine (cP m3).mono ?_); rintro e w4 ⟨rfl, m4⟩; obtain ⟨x0, x1, x2, f0, f1, f2, hz⟩ := m4.cells))
        refine bodyPost_ret (v := .tuple #[.agg #[.string (textOf l), .string XS, .string mt], .bool true]) (by simp [results, Tryz.results116, go_sem, x0, x1, x2, hz]) rfl ?_
        rw [HR.out]
        exact ⟨rfl, (m4.store _ _ _).1⟩
end Go.Proofs.YtjalhcbomjgkoaaGreatDoor

/-
  WHAT HAS A TERM's FORM; 'Read' (package nt): all ways.
-/
namespace Go.Proofs.YtjalhcbomjgkoaaGreatDoor
open Go.RowKit
set_option linter.unusedVariables false
set_option linter.unusedSimpArgs false

def FmPost (B : Nat) (w : World) (b : Nat) (v : Value) (sl : List Int) (r : Nat × Option Tm) (e : Ending) (w' : World) : Prop :=
  match r.2 with
  | some t => e = .returned (.tuple #[t.val, .bool true]) ∧ Moves B w b v sl r.1 w'
  | none => (∃ x : Value, e = .returned (.tuple #[x, .bool false])) ∧ Moves B w b v sl r.1 w'
theorem litP_lit {sl : List Int} {k : Nat} {t : Tm} (h : (litP sl k).2 = some t) : t.val = .iface 78 (.agg #[.string t.ta, .string t.tb, .string t.tc]) := by
  unfold litP at h
  cases ho : (qd sl k).2 with
  | none => rw [ho] at h; cases h
  | some l =>
    rw [ho] at h
    dsimp only at h
    unfold tailP at h
    split at h
    · cases hu : (irP sl ((qd sl k).1 + 2)).2 with
      | none => rw [hu] at h; cases h
      | some u => rw [hu] at h; simp at h; subst h; rfl
    split at h
    · simp at h; subst h; rfl
    · simp at h; subst h; rfl
set_option maxHeartbeats 8000000 in
set_option maxRecDepth 100000 in
theorem nform_any {B : Nat} {w : World} {b : Nat} {v : Value} {sl : List Int} {k : Nat} (h : Sc B w b v sl k) (hk : k ≤ sl.length) (hl : sl.length ≤ 100000) (hall : AllS sl) (t : TypeId) (fr : Nat × Nat) (htab : w.heap[0]? = some (.cells escCells t fr)) :
    Calls Tryz.prog 104 #[.pointer (some ⟨b, 0, none⟩)] w (FmPost B w b v sl (formP sl k)) := by
  have h0 := Moves.start h
  have cP : ∀ {W : World}, Moves B w b v sl k W → Calls Tryz.prog 86 #[.pointer (some ⟨b, 0, none⟩)] W fun e w' => e = .returned (.int .i32 (pk sl k)) ∧ Moves B w b v sl k w' := fun {W} x => mv_pk hk (by omega) x
  obtain ⟨r, hr⟩ : ∃ r, r = formP sl k := ⟨_, rfl⟩
  rw [← hr]
  unfold formP at hr
  have hnone : ∀ c : Int, ¬ sl[k]? = some c → c ≠ -1 → pk sl k ≠ c := fun c hc h1 => by
    unfold pk
    cases hx : sl[k]? with
    | none => simpa using h1.symm
    | some d => rw [hx] at hc; simpa using hc
  by_cases h60 : sl[k]? = some 60
  · rw [if_pos h60] at hr
    have e : pk sl k = 60 := by unfold pk; rw [h60]; rfl
    rw [e] at cP
    have cI : ∀ {W : World}, Moves B w b v sl k W → Calls Tryz.prog 115 #[.pointer (some ⟨b, 0, none⟩)] W fun e w' => e = .returned (.tuple #[.string (textOf ((irP sl k).2.getD [])), .bool (irP sl k).2.isSome]) ∧ Moves B w b v sl (irP sl k).1 w' :=
      fun {W} x => (niri_any x.1 hk hl hall).mono fun _ _ ⟨a, y⟩ => ⟨a, x.to y⟩
    cases hu : (irP sl k).2 with
    | none =>
      rw [hu] at cI hr
      simp only [Option.getD_none, Option.isSome_none, Option.map_none] at cI hr
      obtain ⟨z, hz⟩ : ∃ z, z = textOf [] := ⟨_, rfl⟩
      rw [← hz] at cI
      have HR := Lib.hid hr
      clear h htab hr hu hz h60 e hnone hall
      go_enter Tryz.func104, Tryz.ntmps104
      go_wp2_with (first
        | (go_at_call 86; (with_reducible refine (cP h0).mono ?_); rintro e w1 ⟨rfl, m1⟩)
        | (go_at_call 115; (with_reducible refine (cI m1).mono ?_); rintro e w2 ⟨rfl, m2⟩))
      go_ret2
      rw [HR.out]
      exact ⟨⟨_, rfl⟩, m2⟩
    | some u =>
      rw [hu] at cI hr
      simp only [Option.getD_some, Option.isSome_some, Option.map_some] at cI hr
      obtain ⟨z, hz⟩ : ∃ z, z = textOf u := ⟨_, rfl⟩
      rw [← hz] at cI hr
      have HR := Lib.hid hr
      clear h htab hr hu hz h60 e hnone hall
      go_enter Tryz.func104, Tryz.ntmps104
      go_wp2_with (first
        | (go_at_call 86; (with_reducible refine (cP h0).mono ?_); rintro e w1 ⟨rfl, m1⟩)
        | (go_at_call 115; (with_reducible refine (cI m1).mono ?_); rintro e w2 ⟨rfl, m2⟩))
      go_ret2
      rw [HR.out]
      exact ⟨rfl, m2⟩
  rw [if_neg h60] at hr
  by_cases h34 : sl[k]? = some 34
  · rw [if_pos h34] at hr
    have e : pk sl k = 34 := by unfold pk; rw [h34]; rfl
    rw [e] at cP
    have cL : ∀ {W : World}, Moves B w b v sl k W → Calls Tryz.prog 116 #[.pointer (some ⟨b, 0, none⟩)] W (LtPost B W b v sl (litP sl k)) := fun {W} x => nlit_any x.1 hk hl hall t fr (tab_grown h htab x.2)
    have hlv : ∀ t, (litP sl k).2 = some t → t.val = .iface 78 (.agg #[.string t.ta, .string t.tb, .string t.tc]) := fun t ht => litP_lit ht
    unfold LtPost at cL
    rw [← hr] at cL hlv
    obtain ⟨p, o⟩ := r
    cases o with
    | none =>
      dsimp only at cL
      clear h htab hr h60 h34 e hnone hlv hall
      go_enter Tryz.func104, Tryz.ntmps104
      go_wp2_with (first
        | (go_at_call 86; (with_reducible refine (cP h0).mono ?_); rintro e w1 ⟨rfl, m1⟩)
        | (go_at_call 116; (with_reducible refine (cL m1).mono ?_); rintro e w2 ⟨⟨x, rfl⟩, m2⟩))
      go_ret2
      exact ⟨⟨_, rfl⟩, m1.to m2⟩
    | some t =>
      have hv := hlv t rfl
      dsimp only at cL
      have HV := Lib.hid hv
      clear h htab hr h60 h34 e hnone hlv hv hall
      obtain ⟨a, ha⟩ : ∃ a, a = t.ta := ⟨_, rfl⟩
      obtain ⟨b', hb⟩ : ∃ a, a = t.tb := ⟨_, rfl⟩
      obtain ⟨c, hc⟩ : ∃ a, a = t.tc := ⟨_, rfl⟩
      rw [← ha, ← hb, ← hc] at cL HV
      clear ha hb hc
      go_enter Tryz.func104, Tryz.ntmps104
      go_wp2_with (first
        | (go_at_call 86; (with_reducible refine (cP h0).mono ?_); rintro e w1 ⟨rfl, m1⟩)
        | (go_at_call 116; (with_reducible refine (cL m1).mono ?_); rintro e w2 ⟨rfl, m2⟩))
      go_ret2
      exact ⟨by rw [HV.out]; rfl, m1.to m2⟩
  rw [if_neg h34] at hr
  by_cases h95 : sl[k]? = some 95
  · rw [if_pos h95] at hr
    have e : pk sl k = 95 := by unfold pk; rw [h95]; rfl
    rw [e] at cP
    have hk1 : k + 1 ≤ sl.length := (List.getElem?_eq_some_iff.1 h95).1
    have cN : ∀ {W : World}, Moves B w b v sl k W → Calls Tryz.prog 87 #[.pointer (some ⟨b, 0, none⟩)] W _ := fun {W} x => mv_next h95 (by omega) x
    have cC : ∀ {W : World}, Moves B w b v sl (k + 1) W → Calls Tryz.prog 88 #[.pointer (some ⟨b, 0, none⟩), .string ⟨#[58]⟩] W _ := fun {W} x => mv_is hk1 (by omega) 58 _ p58 (by decide) x
    by_cases h58 : sl[k + 1]? = some 58
    · rw [if_pos h58, decide_eq_true h58] at cC
      rw [if_pos h58] at hr
      have hk2 : k + 1 + 1 ≤ sl.length := (List.getElem?_eq_some_iff.1 h58).1
      have cW : ∀ {W : World}, Moves B w b v sl (k + 1 + 1) W → Calls Tryz.prog 117 #[.pointer (some ⟨b, 0, none⟩), .slice (some ⟨W.heap.size, 0, none⟩) 2 2] (W.alloc (.cells #[.int .i32 95, .int .i32 45] 21)) fun e w' => e = .returned (.string (textOf (wmL msB (sl.drop (k + 1 + 1))))) ∧ Moves B w b v sl (k + 1 + 1 + (wmL msB (sl.drop (k + 1 + 1))).length) w' :=
        fun {W} x => (word_at x.1 hk2 hl hall msB 2 (by decide) (by decide)).mono fun _ _ ⟨a, y⟩ => ⟨a, x.to y⟩
      obtain ⟨z, hz⟩ : ∃ z, z = textOf (wmL msB (sl.drop (k + 1 + 1))) := ⟨_, rfl⟩
      rw [show k + 2 = k + 1 + 1 from rfl] at hr
      rw [← hz] at cW hr
      have HR := Lib.hid hr
      clear h htab hr h60 h34 h95 h58 e hnone hz hall
      go_enter Tryz.func104, Tryz.ntmps104
      go_wp2_with (first
        | (go_at_call 86; (with_reducible refine (cP h0).mono ?_); rintro e w1 ⟨rfl, m1⟩)
        | (go_at_call 87; (with_reducible refine (cN m1).mono ?_); rintro e w2 ⟨rfl, m2⟩)
        | (go_at_call 88; (with_reducible refine (cC m2).mono ?_); rintro e w3 ⟨rfl, m3⟩)
        | (go_at_call 117; (with_reducible refine (cW m3).mono ?_); rintro e w4 ⟨rfl, m4⟩))
      go_ret2
      rw [HR.out]
      exact ⟨rfl, m4⟩
    · rw [if_neg h58, decide_eq_false h58, Nat.add_zero] at cC
      rw [if_neg h58] at hr
      have HR := Lib.hid hr
      clear h htab hr h60 h34 h95 h58 e hnone hall
      go_enter Tryz.func104, Tryz.ntmps104
      go_wp2_with (first
        | (go_at_call 86; (with_reducible refine (cP h0).mono ?_); rintro e w1 ⟨rfl, m1⟩)
        | (go_at_call 87; (with_reducible refine (cN m1).mono ?_); rintro e w2 ⟨rfl, m2⟩)
        | (go_at_call 88; (with_reducible refine (cC m2).mono ?_); rintro e w3 ⟨rfl, m3⟩))
      go_ret2
      rw [HR.out]
      exact ⟨⟨_, rfl⟩, m3⟩
  · rw [if_neg h95] at hr
    have g1 : (pk sl k == 60) = false := by rw [beq_eq_false_iff_ne]; exact hnone 60 h60 (by decide)
    have g2 : (pk sl k == 34) = false := by rw [beq_eq_false_iff_ne]; exact hnone 34 h34 (by decide)
    have g3 : (pk sl k == 95) = false := by rw [beq_eq_false_iff_ne]; exact hnone 95 h95 (by decide)
    obtain ⟨c, hc⟩ : ∃ c, c = pk sl k := ⟨_, rfl⟩
    rw [← hc] at cP g1 g2 g3
    have HR := Lib.hid hr
    clear h htab hr h60 h34 h95 hnone hc hall
    go_enter Tryz.func104, Tryz.ntmps104
    go_wp2_with (go_at_call 86; (with_reducible refine (cP h0).mono ?_); rintro e w1 ⟨rfl, m1⟩)
    go_ret2
    rw [HR.out]
    exact ⟨⟨_, rfl⟩, m1⟩
def RePost (B : Nat) (w : World) (b : Nat) (v : Value) (sl : List Int) (k : Nat) (r : Option Tm × Nat × Int) (e : Ending) (w' : World) : Prop :=
  match r.1 with
  | some t => e = .returned (.tuple #[t.val, .int .i64 r.2.1, .int .i64 0]) ∧ Moves B w b v sl r.2.1 w'
  | none => e = .returned (.tuple #[.nilIface, .int .i64 r.2.1, .int .i64 r.2.2]) ∧ Moves B w b v sl k w'
set_option maxHeartbeats 8000000 in
set_option maxRecDepth 100000 in
theorem nread_any {B : Nat} {w : World} {b : Nat} {v : Value} {sl : List Int} {k : Nat} (h : Sc B w b v sl k) (hk : k ≤ sl.length) (hl : sl.length ≤ 100000) (hall : AllS sl) (t : TypeId) (fr : Nat × Nat) (htab : w.heap[0]? = some (.cells escCells t fr)) :
    Calls Tryz.prog 89 #[.pointer (some ⟨b, 0, none⟩)] w (RePost B w b v sl k (readP sl k)) := by
  have h0 := Moves.start h
  have cP : ∀ {j : Nat} {W : World}, Moves B w b v sl j W → Calls Tryz.prog 62 #[.pointer (some ⟨b, 0, none⟩)] W _ := fun {j} {W} x => mv_place x
  have cB : ∀ {j : Nat} {W : World}, Moves B w b v sl j W → Calls Tryz.prog 105 #[.pointer (some ⟨b, 0, none⟩), .int .i64 k] W _ := fun {j} {W} x => mv_back k hk (by omega) x
  have cF : ∀ {W : World}, Moves B w b v sl k W → Calls Tryz.prog 104 #[.pointer (some ⟨b, 0, none⟩)] W (FmPost B W b v sl (formP sl k)) := fun {W} x => nform_any x.1 hk hl hall t fr (tab_grown h htab x.2)
  have hf := formP_le sl k hk hall
  unfold FmPost at cF
  obtain ⟨r, hr⟩ : ∃ r, r = readP sl k := ⟨_, rfl⟩
  rw [← hr]
  unfold readP at hr
  obtain ⟨p, hp⟩ : ∃ p, p = (formP sl k).1 := ⟨_, rfl⟩
  rw [← hp] at cF hr hf
  cases ho : (formP sl k).2 with
  | none =>
    rw [ho] at cF hr
    dsimp only at cF hr
    have HR := Lib.hid hr
    clear h htab hr ho hp hf hall
    go_enter Tryz.func89, Tryz.ntmps89
    go_wp2_with (first
      | (go_at_call 62; (with_reducible refine (cP h0).mono ?_); rintro e w1 ⟨rfl, m1⟩; clear h0)
      | (go_at_call 104; (with_reducible refine (cF m1).mono ?_); rintro e w2 ⟨⟨x, rfl⟩, m2⟩; have m2' := m1.to m2; clear m1)
      | (go_at_call 62; (with_reducible refine (cP m2').mono ?_); rintro e w3 ⟨rfl, m3⟩; clear m2')
      | (go_at_call 105; (with_reducible refine (cB m3).mono ?_); rintro e w4 ⟨rfl, m4⟩))
    go_ret3
    rw [HR.out]
    exact ⟨rfl, m4⟩
  | some u =>
    rw [ho] at cF hr
    dsimp only at cF hr
    have hfew := ((hf.2.2 u ho).1).few hl
    have cG : ∀ {W : World}, Moves B w b v sl p W → Calls Tryz.prog 15 #[u.val] W fun e w' => e = .returned (.bool (goodT u)) ∧ Moves B w b v sl p w' := fun {W} x => (goodT_any u hfew W).mono fun _ _ ⟨a, y⟩ => ⟨a, x.to ⟨x.1.below3 y, below_grown y _⟩⟩
    obtain ⟨uv, huv⟩ : ∃ x, x = u.val := ⟨_, rfl⟩
    rw [← huv] at cF cG
    have HUV := Lib.hid huv
    by_cases hg : goodT u = true
    · rw [hg] at cG
      rw [if_pos hg] at hr
      have HR := Lib.hid hr
      clear h htab hr ho hp hf hall hfew hg huv
      go_enter Tryz.func89, Tryz.ntmps89
      go_wp2_with (first
        | (go_at_call 62; (with_reducible refine (cP h0).mono ?_); rintro e w1 ⟨rfl, m1⟩; clear h0)
        | (go_at_call 104; (with_reducible refine (cF m1).mono ?_); rintro e w2 ⟨rfl, m2⟩; have m2' := m1.to m2; clear m1)
        | (go_at_call 62; (with_reducible refine (cP m2').mono ?_); rintro e w3 ⟨rfl, m3⟩; clear m2')
        | (go_at_call 15; (with_reducible refine (cG m3).mono ?_); rintro e w4 ⟨rfl, m4⟩))
      go_ret3
      rw [HR.out]
      exact ⟨by rw [HUV.out]; rfl, m4⟩
    · have hg' : goodT u = false := by simpa using hg
      rw [hg'] at cG
      rw [if_neg hg] at hr
      have HR := Lib.hid hr
      clear h htab hr ho hp hf hall hfew hg hg' huv
      go_enter Tryz.func89, Tryz.ntmps89
      go_wp2_with (first
        | (go_at_call 62; (with_reducible refine (cP h0).mono ?_); rintro e w1 ⟨rfl, m1⟩; clear h0)
        | (go_at_call 104; (with_reducible refine (cF m1).mono ?_); rintro e w2 ⟨rfl, m2⟩; have m2' := m1.to m2; clear m1)
        | (go_at_call 62; (with_reducible refine (cP m2').mono ?_); rintro e w3 ⟨rfl, m3⟩; clear m2')
        | (go_at_call 15; (with_reducible refine (cG m3).mono ?_); rintro e w4 ⟨rfl, m4⟩)
        | (go_at_call 105; (with_reducible refine (cB m4).mono ?_); rintro e w5 ⟨rfl, m5⟩))
      go_ret3
      rw [HR.out]
      exact ⟨rfl, m5⟩
end Go.Proofs.YtjalhcbomjgkoaaGreatDoor

/-
  WHAT THE LAWS MAKE OF A TERM OF THE DOCUMENT's (becklaw04.Plain); a box; a scanner and a box.
-/
namespace Go.Proofs.YtjalhcbomjgkoaaGreatDoor
open Go.RowKit
set_option linter.unusedVariables false
set_option linter.unusedSimpArgs false

/-- The term that the law makes of one. -/
def pl3 (k : Int) (a b c : ByteArray) : Tm := if k % 18446744073709551616 % 3 = 0 then .blank a else if k % 18446744073709551616 % 3 = 1 then .iri a else .lit a b c
set_option maxHeartbeats 2000000 in
theorem plain3_any (k : Int) (hk : -9223372036854775808 ≤ k ∧ k ≤ 9223372036854775807) (a b c : ByteArray) (w : World) : Calls Tryz.prog 51 #[F4 k a b c] w fun e w' => e = .returned (T4 (pl3 k a b c)) ∧ Below w.heap.size w w' := by
  obtain ⟨r, hr⟩ : ∃ r, r = k % 18446744073709551616 % 3 := ⟨_, rfl⟩
  have h3 : r = 0 ∨ r = 1 ∨ r = 2 := by omega
  have hw : wrap64 ((IntKind.u64.wrap k).tmod 3) = r := by
    rw [show IntKind.u64.wrap k = k % 18446744073709551616 from rfl, Int.tmod_eq_emod_of_nonneg (by omega), ← hr]
    exact IntWalk.wrap64_in r ⟨by omega, by omega⟩
  unfold pl3
  rw [← hr]
  clear hr hk
  rcases h3 with rfl | rfl | rfl
  · rw [if_pos rfl]
    simp only [T4, Tm.kind, Tm.ta, Tm.tb, Tm.tc]
    go_enter Tryz.func51, Tryz.ntmps51
    go_wp2
    exact bodyPost_ret (v := F4 0 a mt mt) (by simp [results, Tryz.results51, go_sem]) rfl ⟨rfl, ((Below.refl _ _).alloc (Nat.le_refl _) _).alloc (by simp) _⟩
  · rw [if_neg (by decide), if_pos rfl]
    simp only [T4, Tm.kind, Tm.ta, Tm.tb, Tm.tc]
    go_enter Tryz.func51, Tryz.ntmps51
    go_wp2
    exact bodyPost_ret (v := F4 1 a mt mt) (by simp [results, Tryz.results51, go_sem]) rfl ⟨rfl, ((Below.refl _ _).alloc (Nat.le_refl _) _).alloc (by simp) _⟩
  · rw [if_neg (by decide), if_neg (by decide)]
    simp only [T4, Tm.kind, Tm.ta, Tm.tb, Tm.tc]
    go_enter Tryz.func51, Tryz.ntmps51
    go_wp2
    exact bodyPost_ret (v := F4 2 a b c) (by simp [results, Tryz.results51, go_sem]) rfl ⟨rfl, ((Below.refl _ _).alloc (Nat.le_refl _) _).alloc (by simp) _⟩
theorem pl3_small (k : Int) (a b c : ByteArray) : (pl3 k a b c).ta.size ≤ a.size ∧ (pl3 k a b c).tb.size ≤ b.size ∧ (pl3 k a b c).tc.size ≤ c.size := by
  unfold pl3
  split
  · exact ⟨Nat.le_refl _, Nat.zero_le _, Nat.zero_le _⟩
  split
  · exact ⟨Nat.le_refl _, Nat.zero_le _, Nat.zero_le _⟩
  · exact ⟨Nat.le_refl _, Nat.le_refl _, Nat.le_refl _⟩
theorem pl3_real (k : Int) (a b c : ByteArray) (w : World) : Calls Tryz.prog 10 #[T4 (pl3 k a b c)] w fun e w' => e = .returned (pl3 k a b c).val ∧ Below w.heap.size w w' := by
  apply real_any
  unfold pl3
  split
  · exact .inl rfl
  split
  · exact .inr (.inl rfl)
  · exact .inr (.inr (.inl rfl))
theorem pl3_val (k : Int) (a b c : ByteArray) : ∃ ty x, (pl3 k a b c).val = .iface ty x := by
  unfold pl3
  split
  · exact ⟨_, _, rfl⟩
  split
  · exact ⟨_, _, rfl⟩
  · exact ⟨_, _, rfl⟩
theorem tS_len (t : Tm) : (tS t).length ≤ 6 * t.ta.size + t.tb.size + t.tc.size + 8 := by
  cases t with
  | iri s => have := sg_small s; unfold tS; simp [Tm.ta, Tm.tb, Tm.tc]; omega
  | blank s => have := sg_small s; unfold tS; simp [Tm.ta, Tm.tb, Tm.tc]; omega
  | lit a b c =>
    have h1 := sg_small a
    have h2 := sg_small b
    have h3 := sg_small c
    have h4 := body_six (sgP a).1
    have h5 := quoS_len (sgP a).1
    unfold tS tailS
    simp only [Tm.ta, Tm.tb, Tm.tc, List.length_append]
    split
    · split
      · simp; omega
      · simp; omega
    · simp; omega
  | odd n => unfold tS; simp
  | none => unfold tS; simp
/-- A box, wherever. -/
def Ny (w : World) (g : Nat) (cs : Array Value) (W : World) : Prop := Below w.heap.size w W ∧ Fb W g 23 cs
section
variable {w : World} {g : Nat} {cs : Array Value}
theorem Ny.below {W W' : World} (h : Ny w g cs W) (hb : Below W.heap.size W W') : Ny w g cs W' := ⟨h.1.trans (hb.mono h.1.size), h.2.below hb⟩
theorem Ny.mk {W : World} (hb : Below w.heap.size w W) (cs : Array Value) : Ny w W.heap.size cs (W.alloc (.cells cs 23)) := ⟨hb.alloc hb.size _, Fb.new _ _ _⟩
theorem Ny.cells {x0 x1 x2 x3 : Value} {W : World} (h : Ny w g #[x0, x1, x2, x3] W) : W.cell? ⟨g, 0, none⟩ = some x0 ∧ W.cell? ⟨g, 1, none⟩ = some x1 ∧ W.cell? ⟨g, 2, none⟩ = some x2 ∧ W.cell? ⟨g, 3, none⟩ = some x3 := ⟨h.2.cell 0, h.2.cell 1, h.2.cell 2, h.2.cell 3⟩
theorem ny_of {W : World} {f : Nat} {args : Array Value} {y : Value} (h : Ny w g cs W) (k : Calls Tryz.prog f args W fun e w' => e = .returned y ∧ Below W.heap.size W w') :
    Calls Tryz.prog f args W fun e w' => e = .returned y ∧ Ny w g cs w' := k.mono fun _ _ ⟨x, z⟩ => ⟨x, h.below z⟩
end
/-- The scanner, and the box. -/
def Nz (w : World) (b : Nat) (v : Value) (sl : List Int) (k g : Nat) (cs : Array Value) (W : World) : Prop := Sc w.heap.size W b v sl k ∧ Ny w g cs W ∧ g ≠ b
section
variable {w : World} {b : Nat} {v : Value} {sl : List Int} {k g : Nat} {cs : Array Value}
theorem Nz.of {W W' : World} (h : Ny w g cs W) (hs : Sc W.heap.size W' b v sl k) (hb : Below W.heap.size W W') : Nz w b v sl k g cs W' := ⟨hs.mono h.1.size, h.below hb, fun e => by have := h.2.lt; have := hs.ge; omega⟩
theorem Nz.below {W W' : World} (h : Nz w b v sl k g cs W) (hb : Below W.heap.size W W') : Nz w b v sl k g cs W' := ⟨h.1.below hb, h.2.1.below hb, h.2.2⟩
theorem Nz.drew {W : World} (h : Nz w b v sl k g cs W) : Nz w b v sl k g cs W.drew := ⟨(show Same W W.drew from ⟨rfl, rfl, rfl, rfl⟩).sc h.1, ⟨Below.drew h.2.1.1, h.2.1.2⟩, h.2.2⟩
theorem Nz.moves {k' : Nat} {W W' : World} (h : Nz w b v sl k g cs W) (m : Moves w.heap.size W b v sl k' W') : Nz w b v sl k' g cs W' :=
  ⟨m.1, ⟨h.2.1.1.grown m.2 h.2.1.1.size (fun j hj => by cases hj; exact h.1.ge), (m.2.block _ h.2.1.2.lt (fun e => h.2.2 (Option.some.inj e))).trans h.2.1.2⟩, h.2.2⟩
theorem Nz.all {x0 x1 x2 x3 : Value} {W : World} (h : Nz w b v sl k g #[x0, x1, x2, x3] W) : W.cell? ⟨g, 0, none⟩ = some x0 ∧ W.cell? ⟨g, 1, none⟩ = some x1 ∧ W.cell? ⟨g, 2, none⟩ = some x2 ∧ W.cell? ⟨g, 3, none⟩ = some x3 ∧ Nz w b v sl k g #[x0, x1, x2, x3] W :=
  ⟨h.2.1.2.cell 0, h.2.1.2.cell 1, h.2.1.2.cell 2, h.2.1.2.cell 3, h⟩
theorem nz_of {W : World} {f : Nat} {args : Array Value} {y : Value} (h : Nz w b v sl k g cs W) (c : Calls Tryz.prog f args W fun e w' => e = .returned y ∧ Below W.heap.size W w') :
    Calls Tryz.prog f args W fun e w' => e = .returned y ∧ Nz w b v sl k g cs w' := c.mono fun _ _ ⟨x, z⟩ => ⟨x, h.below z⟩
theorem nz_place {W : World} (h : Nz w b v sl k g cs W) : Calls Tryz.prog 62 #[.pointer (some ⟨b, 0, none⟩)] W fun e w' => e = .returned (.int .i64 k) ∧ Nz w b v sl k g cs w' :=
  (place_any h.1).mono fun _ _ ⟨x, y⟩ => ⟨x, y.sc h.1, ⟨y.below h.2.1.1, by have := h.2.1.2; unfold Fb at this ⊢; rw [y.heap]; exact this⟩, h.2.2⟩
end
end Go.Proofs.YtjalhcbomjgkoaaGreatDoor
