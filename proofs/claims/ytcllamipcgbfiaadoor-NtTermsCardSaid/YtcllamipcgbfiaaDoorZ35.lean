/-
  MERGED (a claim has at most 60 files): NRef, NRead.
-/
import Derived.Test.YtcllamipcgbfiaaDoorZ17
import Derived.Laws.StructEq
import Derived.Test.YtcllamipcgbfiaaDoorZ31
/-
  A TERM AS THE DOCUMENT's (becklaw03.Ref).
-/
namespace Go.Proofs.YtcllamipcgbfiaaDoor
open Go.RowKit
set_option linter.unusedVariables false
set_option linter.unusedSimpArgs false

set_option maxRecDepth 100000 in
theorem lref_any (t : Tm) (w : World) : Calls Tryd.prog 25 #[t.val] w fun e w' => e = .returned (F4 t.kind t.ta t.tb t.tc) ∧ Below w.heap.size w w' := by
  cases t with
  | blank s =>
    simp only [Tm.val, Tm.kind, Tm.ta, Tm.tb, Tm.tc]
    have hBB := asBB
    go_enter Tryd.func25, Tryd.ntmps25
    go_wp2
    exact bodyPost_ret (v := F4 0 s mt mt) (by simp [results, Tryd.results25, go_sem]) rfl ⟨rfl, ((Below.refl _ _).alloc (Nat.le_refl _) _).alloc (by simp) _⟩
  | iri s =>
    simp only [Tm.val, Tm.kind, Tm.ta, Tm.tb, Tm.tc]
    have hIB := asIB
    have hII := asII
    go_enter Tryd.func25, Tryd.ntmps25
    go_wp2
    exact bodyPost_ret (v := F4 1 s mt mt) (by simp [results, Tryd.results25, go_sem]) rfl ⟨rfl, ((Below.refl _ _).alloc (Nat.le_refl _) _).alloc (by simp) _⟩
  | lit a b c =>
    simp only [Tm.val, Tm.kind, Tm.ta, Tm.tb, Tm.tc]
    have hLB := asLB
    have hLI := asLI
    have hLL := asLL
    go_enter Tryd.func25, Tryd.ntmps25
    go_wp2
    exact bodyPost_ret (v := F4 2 a b c) (by simp [results, Tryd.results25, go_sem]) rfl ⟨rfl, ((Below.refl _ _).alloc (Nat.le_refl _) _).alloc (by simp) _⟩
  | odd n =>
    simp only [Tm.val, Tm.kind, Tm.ta, Tm.tb, Tm.tc]
    have hOB := asOB
    have hOI := asOI
    have hOL := asOL
    go_enter Tryd.func25, Tryd.ntmps25
    go_wp2
    exact bodyPost_ret (v := F4 3 mt mt mt) (by simp [results, Tryd.results25, go_sem]) rfl ⟨rfl, (Below.refl _ _).alloc (Nat.le_refl _) _⟩
  | none =>
    simp only [Tm.val, Tm.kind, Tm.ta, Tm.tb, Tm.tc]
    have hNB := asNB
    have hNI := asNI
    have hNL := asNL
    go_enter Tryd.func25, Tryd.ntmps25
    go_wp2
    exact bodyPost_ret (v := F4 3 mt mt mt) (by simp [results, Tryd.results25, go_sem]) rfl ⟨rfl, (Below.refl _ _).alloc (Nat.le_refl _) _⟩
theorem eqlT4 (k : Int) (a b c : ByteArray) (k' : Int) (a' b' c' : ByteArray) (w : World) :
    (binOp .eql 23 (F4 k a b c) (F4 k' a' b' c')).run Tryd.prog w = .ok (.bool ((k == k') && ((a.toList == a'.toList) && ((b.toList == b'.toList) && (c.toList == c'.toList))))) w := by
  go_simp
  by_cases hk : k = k'
  · by_cases h1 : a.toList = a'.toList <;> by_cases h2 : b.toList = b'.toList <;> by_cases h3 : c.toList = c'.toList <;> simp [hk, h1, h2, h3]
  · simp [hk]
end Go.Proofs.YtcllamipcgbfiaaDoor

/-
  READING A TERM (package nt): all ways.
-/
namespace Go.Proofs.YtcllamipcgbfiaaDoor
open Go.RowKit
set_option linter.unusedVariables false
set_option linter.unusedSimpArgs false

/-- The table's cells, whatever the scanner does. -/
theorem tab_grown {w W : World} {b : Nat} {v : Value} {sl : List Int} {B k : Nat} {t : TypeId} {fr : Nat × Nat} (h : Sc B w b v sl k) (htab : w.heap[0]? = some (.cells escCells t fr)) (g : w.grownBy W (some b)) : W.heap[0]? = some (.cells escCells t fr) := by
  refine (g.block 0 (Array.getElem?_eq_some_iff.1 htab).1 (fun e => ?_)).trans htab
  have e : 0 = b := Option.some.inj e
  rw [e, h.blk] at htab
  simp only [Option.some.injEq, Obj.cells.injEq] at htab
  have := congrArg Array.size htab.1
  simp [escCells] at this
def LtPost (B : Nat) (w : World) (b : Nat) (v : Value) (sl : List Int) (r : Nat × Option Tm) (e : Ending) (w' : World) : Prop :=
  match r.2 with
  | some t => e = .returned (.tuple #[.agg #[.string t.ta, .string t.tb, .string t.tc], .bool true]) ∧ Moves B w b v sl r.1 w'
  | none => (∃ x : Value, e = .returned (.tuple #[x, .bool false])) ∧ Moves B w b v sl r.1 w'
/-- A scanner that moves, and a box that the call has made at first. -/
def Mb (B : Nat) (w : World) (b : Nat) (v : Value) (sl : List Int) (k : Nat) (cs : Array Value) (W : World) : Prop := Moves B w b v sl k W ∧ Fb W w.heap.size 80 cs ∧ b < w.heap.size ∧ (∀ g, v.ownBlock = some g → g < w.heap.size)
section
variable {w : World} {B b : Nat} {v : Value} {sl : List Int} {k : Nat} {cs : Array Value}
theorem Mb.start (h : Sc B w b v sl k) (cs : Array Value) : Mb B w b v sl k cs (w.alloc (.cells cs 80)) :=
  ⟨⟨h.below3 ((Below.refl _ _).alloc (Nat.le_refl _) _), below_grown ((Below.refl _ _).alloc (Nat.le_refl _) _) _⟩, Fb.new _ _ _, (Array.getElem?_eq_some_iff.1 h.blk).1, fun g hg => (World.ownsRow.lt h.row g hg).2⟩
theorem Mb.to {k' : Nat} {W W' : World} (h : Mb B w b v sl k cs W) (m : Moves B W b v sl k' W') : Mb B w b v sl k' cs W' :=
  ⟨h.1.to m, (m.2.block _ h.2.1.lt (fun e => by have := Option.some.inj e; have := h.2.2.1; omega)).trans h.2.1, h.2.2⟩
theorem Mb.cells {x y z : Value} {W : World} (h : Mb B w b v sl k #[x, y, z] W) : W.cell? ⟨w.heap.size, 0, none⟩ = some x ∧ W.cell? ⟨w.heap.size, 1, none⟩ = some y ∧ W.cell? ⟨w.heap.size, 2, none⟩ = some z ∧ W.frozen? ⟨w.heap.size, 0, none⟩ = false ∧ W.frozen? ⟨w.heap.size, 1, none⟩ = false ∧ W.frozen? ⟨w.heap.size, 2, none⟩ = false ∧ w.heap.size < W.heap.size :=
  ⟨h.2.1.cell 0, h.2.1.cell 1, h.2.1.cell 2, h.2.1.free 0, h.2.1.free 1, h.2.1.free 2, h.2.1.lt⟩
theorem Mb.setc {W : World} (h : Mb B w b v sl k cs W) (i : Nat) (y : Value) : Moves B w b v sl k (W.setCell ⟨w.heap.size, i, none⟩ y) := by
  have hg := grown_set W w.heap.size i y
  refine ⟨⟨(Below.heap_setCell _ _ _ _ (by have := h.2.2.1; dsimp only; omega)).trans h.1.1.blk, ?_, h.1.1.ge⟩, ⟨hg.os.trans h.1.2.os, hg.tape.trans h.1.2.tape, hg.output.trans h.1.2.output, Nat.le_trans h.1.2.size hg.size, fun j hj hr => ?_⟩⟩
  · refine h.1.1.row.kept hg (Or.inr (fun e => ?_))
    have := h.2.2.2 _ e
    omega
  · exact (Below.heap_setCell _ _ _ _ (by dsimp only; omega)).trans (h.1.2.block j hj hr)
theorem Mb.store {x y z : Value} {W : World} (h : Mb B w b v sl k #[x, y, z] W) (x' y' z' : Value) : Mb B w b v sl k #[x', y', z'] (((W.setCell ⟨w.heap.size, 0, none⟩ x').setCell ⟨w.heap.size, 1, none⟩ y').setCell ⟨w.heap.size, 2, none⟩ z') := by
  have h1 : Mb B w b v sl k #[x', y, z] (W.setCell ⟨w.heap.size, 0, none⟩ x') := ⟨h.setc 0 x', heap_setCell_same _ _ 0 _ _ x' h.2.1, h.2.2⟩
  have h2 : Mb B w b v sl k #[x', y', z] ((W.setCell ⟨w.heap.size, 0, none⟩ x').setCell ⟨w.heap.size, 1, none⟩ y') := ⟨h1.setc 1 y', heap_setCell_same _ _ 1 _ _ y' h1.2.1, h1.2.2⟩
  exact ⟨h2.setc 2 z', heap_setCell_same _ _ 2 _ _ z' h2.2.1, h2.2.2⟩
theorem mb_quoted (hk : k ≤ sl.length) (hl : sl.length ≤ 100000) (hall : AllS sl) {k0 : Nat} (hsc : Sc B w b v sl k0) (t : TypeId) (fr : Nat × Nat) (htab : w.heap[0]? = some (.cells escCells t fr)) {W : World} (h : Mb B w b v sl k cs W) :
    Calls Tryd.prog 112 #[.pointer (some ⟨b, 0, none⟩)] W fun e w' => match (qd sl k).2 with
      | some l => e = .returned (.tuple #[.string (textOf l), .int .i64 (qd sl k).1, .int .i64 0]) ∧ Mb B w b v sl (qd sl k).1 cs w'
      | none => e = .returned (.tuple #[.string ⟨#[]⟩, .int .i64 (qd sl k).1, .int .i64 1]) ∧ Mb B w b v sl k cs w' := by
  refine (quoted_any h.1.1 hk hl hall t fr (tab_grown hsc htab h.1.2)).mono fun e w' hp => ?_
  unfold QdPost at hp
  cases ho : (qd sl k).2 with
  | none => rw [ho] at hp; exact ⟨hp.1, h.to hp.2⟩
  | some l => rw [ho] at hp; exact ⟨hp.1, h.to hp.2⟩
theorem mb_iri (hk : k ≤ sl.length) (hl : sl.length ≤ 100000) (hall : AllS sl) {W : World} (h : Mb B w b v sl k cs W) :
    Calls Tryd.prog 88 #[.pointer (some ⟨b, 0, none⟩)] W fun e w' => e = .returned (.tuple #[.string (textOf ((irP sl k).2.getD [])), .bool (irP sl k).2.isSome]) ∧ Mb B w b v sl (irP sl k).1 cs w' :=
  (niri_any h.1.1 hk hl hall).mono fun _ _ ⟨x, y⟩ => ⟨x, h.to y⟩
theorem mb_back (j : Nat) (hj : j ≤ sl.length) (hl : sl.length ≤ 4294967296) {W : World} (h : Mb B w b v sl k cs W) : Calls Tryd.prog 21 #[.pointer (some ⟨b, 0, none⟩), .int .i64 j] W fun e w' => e = .returned (.bool true) ∧ Mb B w b v sl j cs w' := (back_yes h.1.1 j hj hl).mono fun _ _ ⟨x, y⟩ => ⟨x, h.to y⟩
theorem mb_at (hk : k ≤ sl.length) (hl : sl.length ≤ 4294967296) {W : World} (h : Mb B w b v sl k cs W) :
    Calls Tryd.prog 91 #[.pointer (some ⟨b, 0, none⟩), .string ⟨#[64]⟩] W fun e w' => e = .returned (.bool (decide (sl[k]? = some 64))) ∧ Mb B w b v sl (k + if sl[k]? = some 64 then 1 else 0) cs w' := (is_one h.1.1 hk hl 64 _ p64 (by decide)).mono fun _ _ ⟨x, y⟩ => ⟨x, h.to y⟩
theorem mb_hats (hk : k ≤ sl.length) (hl : sl.length ≤ 4294967296) {W : World} (h : Mb B w b v sl k cs W) :
    Calls Tryd.prog 91 #[.pointer (some ⟨b, 0, none⟩), .string ⟨#[94, 94]⟩] W fun e w' => e = .returned (.bool (decide (sl[k]? = some 94 ∧ sl[k + 1]? = some 94))) ∧ Mb B w b v sl (k + if sl[k]? = some 94 ∧ sl[k + 1]? = some 94 then 2 else 0) cs w' := by
  by_cases hx : sl[k]? = some 94 ∧ sl[k + 1]? = some 94
  · rw [if_pos hx, decide_eq_true hx]
    exact (mv_is2_yes hk hl 94 94 _ p9494 (by decide) hx (Moves.start h.1.1)).mono fun _ _ ⟨x, y⟩ => ⟨x, h.to y⟩
  · rw [if_neg hx, decide_eq_false hx]
    exact (mv_is2_no hk hl 94 94 _ p9494 (by decide) hx (Moves.start h.1.1)).mono fun _ _ ⟨x, y⟩ => ⟨x, h.to y⟩
/-- The marks stand in a row that is there. -/
theorem word_at {W : World} (h : Sc B W b v sl k) (hk : k ≤ sl.length) (hl : sl.length ≤ 100000) (hall : AllS sl) (ms : List Int) (c : Nat) (hml : ms.length ≤ 100) (hm1 : (-1 : Int) ∉ ms) :
    Calls Tryd.prog 92 #[.pointer (some ⟨b, 0, none⟩), .slice (some ⟨W.heap.size, 0, none⟩) ms.length c] (W.alloc (.cells (ms.map (Value.int .i32)).toArray 21)) fun e w' => e = .returned (.string (textOf (wmL ms (sl.drop k)))) ∧ Moves B W b v sl (k + (wmL ms (sl.drop k)).length) w' := by
  have hb : Below W.heap.size W (W.alloc (.cells (ms.map (Value.int .i32)).toArray 21)) := (Below.refl _ _).alloc (Nat.le_refl _) _
  have hne : W.heap.size ≠ b := by have := (Array.getElem?_eq_some_iff.1 h.blk).1; omega
  have h2 : Moves B W b v sl k (W.alloc (.cells (ms.map (Value.int .i32)).toArray 21)) := ⟨h.below3 hb, below_grown hb _⟩
  refine (nword_any h2.1 hk hl hall W.heap.size c ms (fun j n hj => ?_) (by simp) hne hml hm1).mono fun _ _ ⟨x, y⟩ => ⟨x, h2.to y⟩
  rw [(Fb.new W 21 (ms.map (Value.int .i32)).toArray).cell]
  simp [hj]
theorem mb_word (hk : k ≤ sl.length) (hl : sl.length ≤ 100000) (hall : AllS sl) {W : World} (h : Mb B w b v sl k cs W) :
    Calls Tryd.prog 92 #[.pointer (some ⟨b, 0, none⟩), .slice (some ⟨W.heap.size, 0, none⟩) 1 1] (W.alloc (.cells #[.int .i32 45] 21)) fun e w' => e = .returned (.string (textOf (wmL msL (sl.drop k)))) ∧ Mb B w b v sl (k + (wmL msL (sl.drop k)).length) cs w' :=
  (word_at h.1.1 hk hl hall msL 1 (by decide) (by decide)).mono fun _ _ ⟨x, y⟩ => ⟨x, h.to y⟩
end
set_option maxHeartbeats 8000000 in
set_option maxRecDepth 100000 in
theorem nlit_any {B : Nat} {w : World} {b : Nat} {v : Value} {sl : List Int} {k : Nat} (h : Sc B w b v sl k) (hk : k ≤ sl.length) (hl : sl.length ≤ 100000) (hall : AllS sl) (t : TypeId) (fr : Nat × Nat) (htab : w.heap[0]? = some (.cells escCells t fr)) :
    Calls Tryd.prog 89 #[.pointer (some ⟨b, 0, none⟩)] w (LtPost B w b v sl (litP sl k)) := by
  have h0 := Mb.start h #[.string mt, .string mt, .string mt]
  have cQ := mb_quoted (cs := #[.string mt, .string mt, .string mt]) hk hl hall h t fr htab h0
  have hq := qd_le sl k hk
  obtain ⟨r, hr⟩ : ∃ r, r = litP sl k := ⟨_, rfl⟩
  rw [← hr]
  unfold litP at hr
  obtain ⟨p, hp⟩ : ∃ p, p = (qd sl k).1 := ⟨_, rfl⟩
  rw [← hp] at cQ hq hr
  have hpl := hq.1
  cases ho : (qd sl k).2 with
  | none =>
    rw [ho] at cQ hr
    dsimp only at cQ hr
    have cB : ∀ {W : World}, Mb B w b v sl k #[.string mt, .string mt, .string mt] W → Calls Tryd.prog 21 #[.pointer (some ⟨b, 0, none⟩), .int .i64 p] W _ := fun {W} x => mb_back p hpl (by omega) x
    have HR := Lib.hid hr
    clear h htab hq hr ho hp h0
    go_enter Tryd.func89, Tryd.ntmps89
    go_wp2_with (first
      | (go_at_call 112; (with_reducible refine cQ.mono ?_); rintro e w1 ⟨rfl, m1⟩)
      | (go_at_call 21; (with_reducible refine (cB m1).mono ?_); rintro e w2 ⟨rfl, m2⟩; obtain ⟨x0, x1, x2, f0, f1, f2, hz⟩ := m2.cells))
    refine bodyPost_ret (v := .tuple #[.agg #[.string mt, .string mt, .string mt], .bool false]) (by simp [results, Tryd.results89, go_sem, x0, x1, x2, hz]) rfl ?_
    rw [HR.out]
    exact ⟨⟨_, rfl⟩, (m2.store _ _ _).1⟩
  | some l =>
    rw [ho] at cQ hr
    dsimp only at cQ hr
    have hlen := (hq.2.2 l ho hall).2
    have cH : ∀ {W : World}, Mb B w b v sl p #[.string mt, .string mt, .string mt] W → Calls Tryd.prog 91 #[.pointer (some ⟨b, 0, none⟩), .string ⟨#[94, 94]⟩] W _ := fun {W} x => mb_hats hpl (by omega) x
    unfold tailP at hr
    have HA := Lib.hid hall
    clear h htab hq ho hp h0
    by_cases hh : sl[p]? = some 94 ∧ sl[p + 1]? = some 94
    · rw [if_pos hh, decide_eq_true hh] at cH
      rw [if_pos hh] at hr
      have hp2 : p + 2 ≤ sl.length := by have := (List.getElem?_eq_some_iff.1 hh.2).1; omega
      have cI : ∀ {W : World}, Mb B w b v sl (p + 2) #[.string mt, .string mt, .string mt] W → Calls Tryd.prog 88 #[.pointer (some ⟨b, 0, none⟩)] W _ := fun {W} x => mb_iri hp2 hl HA.out x
      cases hu : (irP sl (p + 2)).2 with
      | none =>
        rw [hu] at cI hr
        simp only [Option.getD_none, Option.isSome_none, Option.map_none] at cI hr
        obtain ⟨z, hz⟩ : ∃ z, z = textOf [] := ⟨_, rfl⟩
        rw [← hz] at cI
        have HR := Lib.hid hr
        clear hr hu hh hz
        go_enter Tryd.func89, Tryd.ntmps89
        go_wp2_with (first
          | (go_at_call 112; (with_reducible refine cQ.mono ?_); rintro e w1 ⟨rfl, m1⟩)
          | (go_at_call 91; (with_reducible refine (cH m1).mono ?_); rintro e w2 ⟨rfl, m2⟩)
          | (go_at_call 88; (with_reducible refine (cI m2).mono ?_); rintro e w3 ⟨rfl, m3⟩; obtain ⟨x0, x1, x2, f0, f1, f2, hz⟩ := m3.cells))
        refine bodyPost_ret (v := .tuple #[.agg #[.string (textOf l), .string z, .string mt], .bool false]) (by simp [results, Tryd.results89, go_sem, x0, x1, x2, hz]) rfl ?_
        rw [HR.out]
        exact ⟨⟨_, rfl⟩, (m3.store _ _ _).1⟩
      | some u =>
        rw [hu] at cI hr
        simp only [Option.getD_some, Option.isSome_some, Option.map_some] at cI hr
        obtain ⟨z, hz⟩ : ∃ z, z = textOf u := ⟨_, rfl⟩
        rw [← hz] at cI hr
        have HR := Lib.hid hr
        clear hr hu hh hz
        go_enter Tryd.func89, Tryd.ntmps89
        go_wp2_with (first
          | (go_at_call 112; (with_reducible refine cQ.mono ?_); rintro e w1 ⟨rfl, m1⟩)
          | (go_at_call 91; (with_reducible refine (cH m1).mono ?_); rintro e w2 ⟨rfl, m2⟩)
          | (go_at_call 88; (with_reducible refine (cI m2).mono ?_); rintro e w3 ⟨rfl, m3⟩; obtain ⟨x0, x1, x2, f0, f1, f2, hz⟩ := m3.cells))
        refine bodyPost_ret (v := .tuple #[.agg #[.string (textOf l), .string z, .string mt], .bool true]) (by simp [results, Tryd.results89, go_sem, x0, x1, x2, hz]) rfl ?_
        rw [HR.out]
        exact ⟨rfl, (m3.store _ _ _).1⟩
    · rw [if_neg hh, decide_eq_false hh, Nat.add_zero] at cH
      rw [if_neg hh] at hr
      have cT : ∀ {W : World}, Mb B w b v sl p #[.string mt, .string mt, .string mt] W → Calls Tryd.prog 91 #[.pointer (some ⟨b, 0, none⟩), .string ⟨#[64]⟩] W _ := fun {W} x => mb_at hpl (by omega) x
      by_cases ha : sl[p]? = some 64
      · rw [if_pos ha, decide_eq_true ha] at cT
        rw [if_pos ha] at hr
        have hp1 : p + 1 ≤ sl.length := (List.getElem?_eq_some_iff.1 ha).1
        have cW : ∀ {W : World}, Mb B w b v sl (p + 1) #[.string mt, .string mt, .string mt] W → Calls Tryd.prog 92 #[.pointer (some ⟨b, 0, none⟩), .slice (some ⟨W.heap.size, 0, none⟩) 1 1] (W.alloc (.cells #[.int .i32 45] 21)) _ := fun {W} x => mb_word hp1 hl HA.out x
        obtain ⟨z, hz⟩ : ∃ z, z = textOf (wmL msL (sl.drop (p + 1))) := ⟨_, rfl⟩
        rw [← hz] at cW hr
        have HR := Lib.hid hr
        clear hr hh ha hz
        go_enter Tryd.func89, Tryd.ntmps89
        go_wp2_with (first
          | (go_at_call 112; (with_reducible refine cQ.mono ?_); rintro e w1 ⟨rfl, m1⟩)
          | (go_at_call 91; (with_reducible refine (cH m1).mono ?_); rintro e w2 ⟨rfl, m2⟩)
          | (go_at_call 91; (with_reducible refine (cT m2).mono ?_); rintro e w3 ⟨rfl, m3⟩)
          | (go_at_call 92; (with_reducible refine (cW m3).mono ?_); rintro e w4 ⟨rfl, m4⟩; obtain ⟨x0, x1, x2, f0, f1, f2, hz⟩ := m4.cells))
        refine bodyPost_ret (v := .tuple #[.agg #[.string (textOf l), .string XL, .string z], .bool true]) (by simp [results, Tryd.results89, go_sem, x0, x1, x2, hz]) rfl ?_
        rw [HR.out]
        exact ⟨rfl, (m4.store _ _ _).1⟩
      · rw [if_neg ha, decide_eq_false ha, Nat.add_zero] at cT
        rw [if_neg ha] at hr
        have cP : ∀ {W : World}, Mb B w b v sl p #[.string mt, .string mt, .string mt] W → Calls Tryd.prog 54 #[.string (textOf l)] W fun e w' => e = .returned (.agg #[.string (textOf l), .string XS, .string mt]) ∧ Mb B w b v sl p #[.string mt, .string mt, .string mt] w' := fun {W} x => (plain_any (textOf l) W).mono fun _ _ ⟨a, y⟩ => ⟨a, x.to ⟨x.1.1.below3 y, below_grown y _⟩⟩
        have HR := Lib.hid hr
        clear hr hh ha
        go_enter Tryd.func89, Tryd.ntmps89
        go_wp2_with (first
          | (go_at_call 112; (with_reducible refine cQ.mono ?_); rintro e w1 ⟨rfl, m1⟩)
          | (go_at_call 91; (with_reducible refine (cH m1).mono ?_); rintro e w2 ⟨rfl, m2⟩)
          | (go_at_call 91; (with_reducible refine (cT m2).mono ?_); rintro e w3 ⟨rfl, m3⟩)
          | (go_at_call 54; (with_reducible refine (cP m3).mono ?_); rintro e w4 ⟨rfl, m4⟩; obtain ⟨x0, x1, x2, f0, f1, f2, hz⟩ := m4.cells))
        refine bodyPost_ret (v := .tuple #[.agg #[.string (textOf l), .string XS, .string mt], .bool true]) (by simp [results, Tryd.results89, go_sem, x0, x1, x2, hz]) rfl ?_
        rw [HR.out]
        exact ⟨rfl, (m4.store _ _ _).1⟩
end Go.Proofs.YtcllamipcgbfiaaDoor
