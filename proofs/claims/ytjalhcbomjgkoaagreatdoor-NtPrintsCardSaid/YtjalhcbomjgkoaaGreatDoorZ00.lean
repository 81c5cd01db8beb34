/-
  MERGED (a claim has at most 60 files): TBase, NArg, Utf, Dec.
-/
import Derived.Test.YtjalhcbomjgkoaaGreatDoorProg
import Derived.WalkKit
import Derived.WalkLawsBesides
import Derived.Below
import Derived.IntWalk
import Derived.Lib.Hide
import Derived.Deep.LoopGhost
import Derived.Laws.StructEq
import Derived.Outline
import Derived.Test.YtjalhcbomjgkoaaGreatDoorRows
import Derived.ProofKit
import Derived.OpenShut
import Derived.Deep.Slices
import Derived.Lib.SmallJoins
import Derived.Lib.MapLaws
import Derived.Lib.RuneBytes
import Derived.Laws.RangeAny
/-
  TERMS AS VALUES; what fieldsOf, Kind and asLiteral say of one.
-/
namespace Go.Proofs.YtjalhcbomjgkoaaGreatDoor
open Go.RowKit
set_option linter.unusedVariables false

/-- A block of the call's own, known whole. -/
def Fb (w : World) (g : Nat) (t : TypeId) (cs : Array Value) : Prop := w.heap[g]? = some (.cells cs t (0, 0))
theorem Fb.lt {w : World} {g : Nat} {t : TypeId} {cs : Array Value} (h : Fb w g t cs) : g < w.heap.size := (Array.getElem?_eq_some_iff.1 h).1
theorem Fb.cell {w : World} {g : Nat} {t : TypeId} {cs : Array Value} (h : Fb w g t cs) (i : Nat) : w.cell? ⟨g, i, none⟩ = cs[i]? := by
  unfold Fb at h
  simp [World.cell?, h]
theorem Fb.new (w : World) (t : TypeId) (cs : Array Value) : Fb (w.alloc (.cells cs t)) w.heap.size t cs := heap_alloc_new w _
theorem Fb.alloc {w : World} {g : Nat} {t : TypeId} {cs : Array Value} (h : Fb w g t cs) (o : Obj) : Fb (w.alloc o) g t cs := (Below.heap_alloc w o g h.lt).trans h
theorem Fb.below {w w' : World} {g : Nat} {t : TypeId} {cs : Array Value} (h : Fb w g t cs) (hb : Below w.heap.size w w') : Fb w' g t cs := (hb.block g h.lt).trans h
theorem Fb.drew {w : World} {g : Nat} {t : TypeId} {cs : Array Value} (h : Fb w g t cs) : Fb w.drew g t cs := h
/-- A term, or what is none. -/
inductive Tm where
  | blank (s : ByteArray)
  | iri (s : ByteArray)
  | lit (a b c : ByteArray)
  | odd (n : Int)
  | none
def Tm.val : Tm → Value
  | .blank s => .iface 83 (.agg #[.string s])
  | .iri s => .iface 50 (.agg #[.string s])
  | .lit a b c => .iface 78 (.agg #[.string a, .string b, .string c])
  | .odd n => .iface 85 (.agg #[.int .i64 n])
  | .none => .nilIface
abbrev XS : ByteArray := ⟨#[104, 116, 116, 112, 58, 47, 47, 119, 119, 119, 46, 119, 51, 46, 111, 114, 103, 47, 50, 48, 48, 49, 47, 88, 77, 76, 83, 99, 104, 101, 109, 97, 35, 115, 116, 114, 105, 110, 103]⟩
abbrev XI : ByteArray := ⟨#[104, 116, 116, 112, 58, 47, 47, 119, 119, 119, 46, 119, 51, 46, 111, 114, 103, 47, 50, 48, 48, 49, 47, 88, 77, 76, 83, 99, 104, 101, 109, 97, 35, 105, 110, 116, 101, 103, 101, 114]⟩
abbrev XB : ByteArray := ⟨#[104, 116, 116, 112, 58, 47, 47, 119, 119, 119, 46, 119, 51, 46, 111, 114, 103, 47, 50, 48, 48, 49, 47, 88, 77, 76, 83, 99, 104, 101, 109, 97, 35, 98, 111, 111, 108, 101, 97, 110]⟩
abbrev XL : ByteArray := ⟨#[104, 116, 116, 112, 58, 47, 47, 119, 119, 119, 46, 119, 51, 46, 111, 114, 103, 47, 49, 57, 57, 57, 47, 48, 50, 47, 50, 50, 45, 114, 100, 102, 45, 115, 121, 110, 116, 97, 120, 45, 110, 115, 35, 108, 97, 110, 103, 83, 116, 114, 105, 110, 103]⟩
abbrev mt : ByteArray := ⟨#[]⟩
def Tm.kind : Tm → Int
  | .blank _ => 0
  | .iri _ => 1
  | .lit _ _ _ => 2
  | _ => 3
def Tm.ta : Tm → ByteArray
  | .blank s => s
  | .iri s => s
  | .lit a _ _ => a
  | _ => mt
def Tm.tb : Tm → ByteArray
  | .lit _ b _ => b
  | _ => mt
def Tm.tc : Tm → ByteArray
  | .lit _ _ c => c
  | _ => mt
abbrev F4 (k : Int) (a b c : ByteArray) : Value := .agg #[.int .i64 k, .string a, .string b, .string c]
theorem asBB (v : Value) (w : World) : (Instr.typeAssert (.iface 83 v) 28 83 true).run Tryz.prog w = .ok (.tuple #[v, .bool true]) w := by kernel_rfl
theorem asBI (v : Value) (w : World) : (Instr.typeAssert (.iface 83 v) 28 50 true).run Tryz.prog w = .ok (.tuple #[.agg #[.string mt], .bool false]) w := by kernel_rfl
theorem asBL (v : Value) (w : World) : (Instr.typeAssert (.iface 83 v) 28 78 true).run Tryz.prog w = .ok (.tuple #[.agg #[.string mt, .string mt, .string mt], .bool false]) w := by kernel_rfl
theorem asIB (v : Value) (w : World) : (Instr.typeAssert (.iface 50 v) 28 83 true).run Tryz.prog w = .ok (.tuple #[.agg #[.string mt], .bool false]) w := by kernel_rfl
theorem asII (v : Value) (w : World) : (Instr.typeAssert (.iface 50 v) 28 50 true).run Tryz.prog w = .ok (.tuple #[v, .bool true]) w := by kernel_rfl
theorem asIL (v : Value) (w : World) : (Instr.typeAssert (.iface 50 v) 28 78 true).run Tryz.prog w = .ok (.tuple #[.agg #[.string mt, .string mt, .string mt], .bool false]) w := by kernel_rfl
theorem asLB (v : Value) (w : World) : (Instr.typeAssert (.iface 78 v) 28 83 true).run Tryz.prog w = .ok (.tuple #[.agg #[.string mt], .bool false]) w := by kernel_rfl
theorem asLI (v : Value) (w : World) : (Instr.typeAssert (.iface 78 v) 28 50 true).run Tryz.prog w = .ok (.tuple #[.agg #[.string mt], .bool false]) w := by kernel_rfl
theorem asLL (v : Value) (w : World) : (Instr.typeAssert (.iface 78 v) 28 78 true).run Tryz.prog w = .ok (.tuple #[v, .bool true]) w := by kernel_rfl
theorem asOB (v : Value) (w : World) : (Instr.typeAssert (.iface 85 v) 28 83 true).run Tryz.prog w = .ok (.tuple #[.agg #[.string mt], .bool false]) w := by kernel_rfl
theorem asOI (v : Value) (w : World) : (Instr.typeAssert (.iface 85 v) 28 50 true).run Tryz.prog w = .ok (.tuple #[.agg #[.string mt], .bool false]) w := by kernel_rfl
theorem asOL (v : Value) (w : World) : (Instr.typeAssert (.iface 85 v) 28 78 true).run Tryz.prog w = .ok (.tuple #[.agg #[.string mt, .string mt, .string mt], .bool false]) w := by kernel_rfl
theorem asNB (w : World) : (Instr.typeAssert .nilIface 28 83 true).run Tryz.prog w = .ok (.tuple #[.agg #[.string mt], .bool false]) w := by kernel_rfl
theorem asNI (w : World) : (Instr.typeAssert .nilIface 28 50 true).run Tryz.prog w = .ok (.tuple #[.agg #[.string mt], .bool false]) w := by kernel_rfl
theorem asNL (w : World) : (Instr.typeAssert .nilIface 28 78 true).run Tryz.prog w = .ok (.tuple #[.agg #[.string mt, .string mt, .string mt], .bool false]) w := by kernel_rfl
set_option maxRecDepth 100000 in
theorem fieldsOf_any (t : Tm) (w : World) : Calls Tryz.prog 45 #[t.val] w fun e w' => e = .returned (F4 t.kind t.ta t.tb t.tc) ∧ Below w.heap.size w w' := by
  cases t with
  | blank s =>
    simp only [Tm.val, Tm.kind, Tm.ta, Tm.tb, Tm.tc]
    have hBB := asBB
    go_enter Tryz.func45, Tryz.ntmps45
    go_wp2
    exact bodyPost_ret (v := F4 0 s mt mt) (by simp [results, Tryz.results45, go_sem]) rfl ⟨rfl, ((Below.refl _ _).alloc (Nat.le_refl _) _).alloc (by simp) _⟩
  | iri s =>
    simp only [Tm.val, Tm.kind, Tm.ta, Tm.tb, Tm.tc]
    have hIB := asIB
    have hII := asII
    go_enter Tryz.func45, Tryz.ntmps45
    go_wp2
    exact bodyPost_ret (v := F4 1 s mt mt) (by simp [results, Tryz.results45, go_sem]) rfl ⟨rfl, ((Below.refl _ _).alloc (Nat.le_refl _) _).alloc (by simp) _⟩
  | lit a b c =>
    simp only [Tm.val, Tm.kind, Tm.ta, Tm.tb, Tm.tc]
    have hLB := asLB
    have hLI := asLI
    have hLL := asLL
    go_enter Tryz.func45, Tryz.ntmps45
    go_wp2
    exact bodyPost_ret (v := F4 2 a b c) (by simp [results, Tryz.results45, go_sem]) rfl ⟨rfl, ((Below.refl _ _).alloc (Nat.le_refl _) _).alloc (by simp) _⟩
  | odd n =>
    simp only [Tm.val, Tm.kind, Tm.ta, Tm.tb, Tm.tc]
    have hOB := asOB
    have hOI := asOI
    have hOL := asOL
    go_enter Tryz.func45, Tryz.ntmps45
    go_wp2
    exact bodyPost_ret (v := F4 3 mt mt mt) (by simp [results, Tryz.results45, go_sem]) rfl ⟨rfl, (Below.refl _ _).alloc (Nat.le_refl _) _⟩
  | none =>
    simp only [Tm.val, Tm.kind, Tm.ta, Tm.tb, Tm.tc]
    have hNB := asNB
    have hNI := asNI
    have hNL := asNL
    go_enter Tryz.func45, Tryz.ntmps45
    go_wp2
    exact bodyPost_ret (v := F4 3 mt mt mt) (by simp [results, Tryz.results45, go_sem]) rfl ⟨rfl, (Below.refl _ _).alloc (Nat.le_refl _) _⟩
theorem fld0 (k : Int) (a b d : ByteArray) (w : World) : (Instr.field 92 (F4 k a b d) 0).run Tryz.prog w = .ok (.int .i64 k) w := by kernel_rfl
set_option maxRecDepth 100000 in
theorem kind_any (t : Tm) (w : World) : Calls Tryz.prog 17 #[t.val] w fun e w' => e = .returned (.int .i64 t.kind) ∧ Below w.heap.size w w' := by
  have c := fieldsOf_any t
  obtain ⟨k, hk⟩ : ∃ k, k = t.kind := ⟨_, rfl⟩
  obtain ⟨a, ha⟩ : ∃ a, a = t.ta := ⟨_, rfl⟩
  obtain ⟨b, hb⟩ : ∃ a, a = t.tb := ⟨_, rfl⟩
  obtain ⟨d, hd⟩ : ∃ a, a = t.tc := ⟨_, rfl⟩
  obtain ⟨v, hv⟩ : ∃ a, a = t.val := ⟨_, rfl⟩
  rw [← hk, ← ha, ← hb, ← hd, ← hv] at c
  rw [← hk, ← hv]
  have hfld := fld0
  clear hk ha hb hd hv
  go_enter Tryz.func17, Tryz.ntmps17
  go_wp2_with (go_at_call 45; (with_reducible refine (c _).mono ?_); rintro e w1 ⟨rfl, hb1⟩)
  go_ret
  exact ⟨rfl, hb1⟩
/-- What asLiteral says of one. -/
abbrev L3 (a b c : ByteArray) (ok : Bool) : Value := .tuple #[.agg #[.string a, .string b, .string c], .bool ok]
def Tm.isLit : Tm → Bool
  | .lit _ _ _ => true
  | _ => false
def Tm.la (t : Tm) : ByteArray := if t.isLit then t.ta else mt
set_option maxRecDepth 100000 in
theorem asLit_any (t : Tm) (w : World) : Calls Tryz.prog 39 #[t.val] w fun e w' => e = .returned (L3 t.la t.tb t.tc t.isLit) ∧ Below w.heap.size w w' := by
  cases t with
  | blank s =>
    simp only [Tm.val, Tm.la, Tm.isLit, Tm.ta, Tm.tb, Tm.tc]
    have hBL := asBL
    go_enter Tryz.func39, Tryz.ntmps39
    go_wp2
    exact bodyPost_ret (v := L3 mt mt mt false) (by simp [results, Tryz.results39, go_sem]) rfl ⟨rfl, ((Below.refl _ _).alloc (Nat.le_refl _) _).alloc (by simp) _⟩
  | iri s =>
    simp only [Tm.val, Tm.la, Tm.isLit, Tm.ta, Tm.tb, Tm.tc]
    have hIL := asIL
    go_enter Tryz.func39, Tryz.ntmps39
    go_wp2
    exact bodyPost_ret (v := L3 mt mt mt false) (by simp [results, Tryz.results39, go_sem]) rfl ⟨rfl, ((Below.refl _ _).alloc (Nat.le_refl _) _).alloc (by simp) _⟩
  | lit a b c =>
    simp only [Tm.val, Tm.la, Tm.isLit, Tm.ta, Tm.tb, Tm.tc]
    have hLL := asLL
    go_enter Tryz.func39, Tryz.ntmps39
    go_wp2
    exact bodyPost_ret (v := L3 a b c true) (by simp [results, Tryz.results39, go_sem]) rfl ⟨rfl, ((Below.refl _ _).alloc (Nat.le_refl _) _).alloc (by simp) _⟩
  | odd n =>
    simp only [Tm.val, Tm.la, Tm.isLit, Tm.ta, Tm.tb, Tm.tc]
    have hOL := asOL
    go_enter Tryz.func39, Tryz.ntmps39
    go_wp2
    exact bodyPost_ret (v := L3 mt mt mt false) (by simp [results, Tryz.results39, go_sem]) rfl ⟨rfl, ((Below.refl _ _).alloc (Nat.le_refl _) _).alloc (by simp) _⟩
  | none =>
    simp only [Tm.val, Tm.la, Tm.isLit, Tm.ta, Tm.tb, Tm.tc]
    have hNL := asNL
    go_enter Tryz.func39, Tryz.ntmps39
    go_wp2
    exact bodyPost_ret (v := L3 mt mt mt false) (by simp [results, Tryz.results39, go_sem]) rfl ⟨rfl, ((Below.refl _ _).alloc (Nat.le_refl _) _).alloc (by simp) _⟩
end Go.Proofs.YtjalhcbomjgkoaaGreatDoor

/-
  A SLICE AS THE CALL GETS IT, CELL BY CELL; terms and triples of the document's, as they come.
-/
namespace Go.Proofs.YtjalhcbomjgkoaaGreatDoor
open Go.ChangeShapes Go.WideShapes Go.ChangeAt Go.RowKit
set_option linter.unusedVariables false
set_option maxRecDepth 100000

/-- A slice's elements, n cells each. -/
def SlAt (W : World) (A : Option Addr) (n : Nat) (l : List (List Value)) : Prop := ∀ (j : Nat) (cs : List Value), l[j]? = some cs → ∃ g o, A = some ⟨g, o, none⟩ ∧ g < W.heap.size ∧ ∀ (i : Nat) (v : Value), cs[i]? = some v → W.cell? ⟨g, o + j * n + i, none⟩ = some v
theorem SlAt.below {W W' : World} {A : Option Addr} {n : Nat} {l : List (List Value)} (h : SlAt W A n l) (hb : Below W.heap.size W W') : SlAt W' A n l := fun j cs hj => by
  obtain ⟨g, o, e, hg, hc⟩ := h j cs hj
  exact ⟨g, o, e, Nat.lt_of_lt_of_le hg hb.size, fun i v hv => (hb.cell (p := ⟨g, o + j * n + i, none⟩) hg).trans (hc i v hv)⟩
theorem at_add (g o j : Nat) : (⟨g, o, none⟩ : Addr).add j = ⟨g, o + j, none⟩ := by
  by_cases h : j = 0
  · subst h; simp [Addr.add]
  · simp [Addr.add, h]
theorem cells_map {α : Type} {p : α → Prop} {f : α → List Value} : ∀ l : List (List Value), (∀ cs ∈ l, ∃ t, p t ∧ cs = f t) → ∃ ts : List α, l = ts.map f ∧ ∀ t ∈ ts, p t
  | [], _ => ⟨[], rfl, fun t h => by cases h⟩
  | c :: l, h => by
    obtain ⟨t, h1, h2⟩ := h c List.mem_cons_self
    obtain ⟨ts, h3, h4⟩ := cells_map l fun cs hc => h cs (List.mem_cons_of_mem _ hc)
    refine ⟨t :: ts, by rw [h2, h3]; rfl, fun u hu => ?_⟩
    rcases List.mem_cons.1 hu with rfl | hu
    · exact h1
    · exact h4 u hu
section
variable {H : Type} {enc : TypeId × Value → H} {W : World}
theorem slice_opened {t e : TypeId} {n0 : Nat} {fuel : Nat} {v : Value} {y : DataW H × List MemPlace} (ht : Tryz.prog.underlying t = some (.slice e)) (hn : Tryz.prog.cellsOf e = n0) (hpos : 0 < n0)
    (h : DataW.trod enc Tryz.prog W 0 (fun _ => true) true fuel t [v] = some y) (hlt : ∀ z ∈ y.2, z.block < W.heap.size) :
    ∃ A l cap, v = .slice A (List.length (α := List Value) l) cap ∧ l.length ≤ cap ∧ cap ≤ maxLen ∧ SlAt W A n0 l ∧ ∀ cs ∈ l, ∃ fu z, DataW.trod enc Tryz.prog W 0 (fun _ => true) true fu e cs = some z := by
  rcases Go.Deep.open_slice ht h with ⟨hcs, hx⟩ | ⟨a, len, cap, m, n, D, Pl, hcs, _, hl, hm, hmm, hx, hi⟩
  · simp at hcs
    exact ⟨none, [], 0, hcs, Nat.le_refl _, by decide, fun j x hx => by simp at hx, fun cs h => by cases h⟩
  · simp at hcs
    simp only [if_true] at hmm
    rw [hn] at hx hi
    subst hmm
    by_cases h0 : len = 0
    · subst h0
      exact ⟨some a, [], m, hcs, by simp, hm, fun j x hx => by simp at hx, fun cs h => by cases h⟩
    · obtain ⟨g, o, spot⟩ := a
      obtain ⟨cs0, hc0, _⟩ := hi 0 (by omega)
      have hz := (World.cells?_some hc0).2.2 0 hpos
      have hl0 := (World.cells?_some hc0).2.1
      obtain ⟨u, hu⟩ : ∃ u, cs0[0]? = some u := ⟨_, List.getElem?_eq_getElem (by omega)⟩
      rw [hu] at hz
      have hspot : spot = none := by simpa [Addr.add] using World.cell?_spot hz
      subst hspot
      have hg : g < W.heap.size := hlt (.cell g o) (by rw [hx]; exact List.mem_append_left _ (MemPlace.mem_row.2 ⟨0, Nat.mul_pos (by omega) hpos, by simp⟩))
      have each : ∀ i, i < len → ∃ cs, (∀ (d : Nat) (v : Value), cs[d]? = some v → W.cell? ⟨g, o + i * n0 + d, none⟩ = some v) ∧ ∃ z, DataW.trod enc Tryz.prog W 0 (fun _ => true) true n e cs = some z := fun i him => by
        obtain ⟨cs', hc', ht'⟩ := hi i (by omega)
        rw [at_add] at hc'
        have hcl := (World.cells?_some hc').2.1
        refine ⟨cs', fun d v hv => ?_, _, ht'⟩
        have hd := (List.getElem?_eq_some_iff.1 hv).1
        have := (World.cells?_some hc').2.2 d (by omega)
        rw [at_add] at this
        rw [this, hv]
      obtain ⟨V, hV⟩ := Go.Deep.choose_lt (α := List Value) (p := fun i cs => (∀ (d : Nat) (v : Value), cs[d]? = some v → W.cell? ⟨g, o + i * n0 + d, none⟩ = some v) ∧ ∃ z, DataW.trod enc Tryz.prog W 0 (fun _ => true) true n e cs = some z) each
      refine ⟨some ⟨g, o, none⟩, (List.range len).map V, m, by rw [hcs]; simp, by simpa using hl, hm, fun j a ha => ?_, fun cs hcs => ?_⟩
      · have hj : j < len := by have := (List.getElem?_eq_some_iff.1 ha).1; simpa using this
        refine ⟨g, o, rfl, hg, ?_⟩
        rw [List.getElem?_map, List.getElem?_range hj] at ha
        obtain rfl : V j = a := by simpa using ha
        exact (hV j hj).1
      · obtain ⟨i, hi, rfl⟩ := List.mem_map.1 hcs
        exact ⟨n, (hV i (List.mem_range.1 hi)).2⟩
end
/-! ### Terms and triples -/
structure Dw where
  k : Int
  a : ByteArray
  b : ByteArray
  c : ByteArray
def Dw.ok (r : Dw) : Prop := (-9223372036854775808 ≤ r.k ∧ r.k ≤ 9223372036854775807) ∧ r.a.size ≤ maxLen ∧ r.b.size ≤ maxLen ∧ r.c.size ≤ maxLen
def Dw.cells (r : Dw) : List Value := [.int .i64 r.k, .string r.a, .string r.b, .string r.c]
structure Dt where
  s : Dw
  p : Dw
  o : Dw
def Dt.ok (t : Dt) : Prop := t.s.ok ∧ t.p.ok ∧ t.o.ok
def Dt.cells (t : Dt) : List Value := t.s.cells ++ (t.p.cells ++ t.o.cells)
theorem cellsT_four : Tryz.prog.cellsOf 23 = 4 := by kernel_rfl
theorem cellsR_twelve : Tryz.prog.cellsOf 57 = 12 := by kernel_rfl
section
variable {H : Type} {enc : TypeId × Value → H} {W : World}
set_option maxRecDepth 100000 in
theorem rw_opened {fuel : Nat} {cs : List Value} {z : DataW H × List MemPlace} (h : DataW.trod enc Tryz.prog W 0 (fun _ => true) true fuel 23 cs = some z) : ∃ r : Dw, r.ok ∧ cs = r.cells := by
  obtain ⟨xs, n, _, hx, hlen, hxl, hf⟩ := DataW.trod_struct Tryz.underlying23 h
  rw [cellsT_four] at hlen
  match xs, hxl with
  | [y0, y1, y2, y3], _ =>
    match cs, hlen with
    | [v0, v1, v2, v3], _ =>
      have t0 := hf 0 _ rfl
      have t1 := hf 1 _ rfl
      have t2 := hf 2 _ rfl
      have t3 := hf 3 _ rfl
      have hI : Tryz.prog.cellsOf 3 = 1 := by kernel_rfl
      have hS : Tryz.prog.cellsOf 9 = 1 := by kernel_rfl
      simp [hI, hS] at t0 t1 t2 t3
      obtain ⟨k, e0, _, w0⟩ := DataW.trod_int Tryz.underlying3 t0
      obtain ⟨a, e1, _, w1⟩ := DataW.trod_string Tryz.underlying9 t1
      obtain ⟨b, e2, _, w2⟩ := DataW.trod_string Tryz.underlying9 t2
      obtain ⟨c, e3, _, w3⟩ := DataW.trod_string Tryz.underlying9 t3
      simp at e0 e1 e2 e3
      subst e0 e1 e2 e3
      exact ⟨⟨k, a, b, c⟩, ⟨bounds_i64 w0, w1, w2, w3⟩, rfl⟩
set_option maxRecDepth 100000 in
theorem rt_opened {fuel : Nat} {cs : List Value} {z : DataW H × List MemPlace} (h : DataW.trod enc Tryz.prog W 0 (fun _ => true) true fuel 57 cs = some z) : ∃ r : Dt, r.ok ∧ cs = r.cells := by
  obtain ⟨xs, n, _, hx, hlen, hxl, hf⟩ := DataW.trod_struct Tryz.underlying57 h
  rw [cellsR_twelve] at hlen
  match xs, hxl with
  | [y0, y1, y2], _ =>
    have t0 : DataW.trod enc Tryz.prog W 0 (fun _ => true) true n 23 ((cs.drop 0).take 4) = some y0 := by
      have h := hf 0 _ rfl
      simpa [cellsT_four] using h
    have t1 : DataW.trod enc Tryz.prog W 0 (fun _ => true) true n 23 ((cs.drop 4).take 4) = some y1 := by
      have h := hf 1 _ rfl
      simpa [cellsT_four] using h
    have t2 : DataW.trod enc Tryz.prog W 0 (fun _ => true) true n 23 ((cs.drop 8).take 4) = some y2 := by
      have h := hf 2 _ rfl
      simpa [cellsT_four] using h
    obtain ⟨r0, o0, e0⟩ := rw_opened t0
    obtain ⟨r1, o1, e1⟩ := rw_opened t1
    obtain ⟨r2, o2, e2⟩ := rw_opened t2
    refine ⟨⟨r0, r1, r2⟩, ⟨o0, o1, o2⟩, ?_⟩
    show cs = r0.cells ++ (r1.cells ++ r2.cells)
    rw [← e0, ← e1, ← e2]
    match cs, hlen with
    | [v0, v1, v2, v3, v4, v5, v6, v7, v8, v9, v10, v11], _ => rfl
set_option maxRecDepth 100000 in
theorem rts_opened {fuel : Nat} {v : Value} {y : DataW H × List MemPlace} (h : DataW.trod enc Tryz.prog W 0 (fun _ => true) true fuel 52 [v] = some y) (hlt : ∀ z ∈ y.2, z.block < W.heap.size) :
    ∃ A l cap, v = .slice A (List.length (α := Dt) l) cap ∧ l.length ≤ cap ∧ cap ≤ maxLen ∧ SlAt W A 12 (l.map Dt.cells) ∧ ∀ t ∈ l, t.ok := by
  obtain ⟨A, l, cap, hv, h1, h2, h3, h4⟩ := slice_opened Tryz.underlying52 cellsR_twelve (by decide) h hlt
  obtain ⟨ts, rfl, hok⟩ := cells_map (p := Dt.ok) (f := Dt.cells) l fun cs hc => by
    obtain ⟨fu, z, hz⟩ := h4 cs hc
    exact rt_opened hz
  rw [List.length_map] at hv h1
  exact ⟨A, ts, cap, hv, h1, h2, h3, hok⟩
def u8c (x : Int) : List Value := [.int .u8 x]
set_option maxRecDepth 100000 in
theorem u8s_opened {fuel : Nat} {v : Value} {y : DataW H × List MemPlace} (h : DataW.trod enc Tryz.prog W 0 (fun _ => true) true fuel 103 [v] = some y) (hlt : ∀ z ∈ y.2, z.block < W.heap.size) :
    ∃ A l cap, v = .slice A (List.length (α := Int) l) cap ∧ l.length ≤ cap ∧ cap ≤ maxLen ∧ SlAt W A 1 (l.map u8c) ∧ ∀ x ∈ l, 0 ≤ x ∧ x ≤ 255 := by
  have hU : Tryz.prog.cellsOf 5 = 1 := by kernel_rfl
  obtain ⟨A, l, cap, hv, h1, h2, h3, h4⟩ := slice_opened Tryz.underlying103 hU (by decide) h hlt
  obtain ⟨ts, rfl, hok⟩ := cells_map (p := fun x : Int => 0 ≤ x ∧ x ≤ 255) (f := u8c) l fun cs hc => by
    obtain ⟨fu, z, hz⟩ := h4 cs hc
    obtain ⟨k, e0, _, w0⟩ := DataW.trod_int Tryz.underlying5 hz
    exact ⟨k, bounds_u8 w0, e0⟩
  rw [List.length_map] at hv h1
  exact ⟨A, ts, cap, hv, h1, h2, h3, hok⟩
set_option maxRecDepth 100000 in
/-- A triple by value. -/
theorem rt_value {b0 : Nat} {v : Value} {d : DataW H} {ps : List MemPlace} (hv : Value.okWide Tryz.prog W .any b0 57 v) (h : DataW.Trod enc Tryz.prog W 0 (fun _ => true) true 57 v d ps) :
    ∃ r : Dt, r.ok ∧ v = .agg r.cells.toArray := by
  obtain ⟨cs, rfl, _⟩ := okWide_struct Tryz.underlying57 hv
  obtain ⟨fuel, hf⟩ := h
  obtain ⟨r, h1, h2⟩ := rt_opened (cs := cs.toList) (by simpa [Value.cells] using hf)
  exact ⟨r, h1, by rw [← h2]⟩
end
end Go.Proofs.YtjalhcbomjgkoaaGreatDoor

/-
  PLAIN LEAN, NO RUN: texts as lists of signs and their UTF-8 bytes: what is decoded is what was encoded; every list of bytes is the bytes of some signs and a rest that is empty or begins with what is no sign's.
-/
namespace Go.Proofs.YtjalhcbomjgkoaaGreatDoor
open Go.Lib

def sgn (n : Int) : Bool := decide (0 ≤ n ∧ n ≤ 1114111 ∧ (n < 55296 ∨ 57343 < n))
def AllS (l : List Int) : Prop := ∀ n ∈ l, sgn n = true
def encL (l : List Int) : List UInt8 := l.flatMap encodeRune
def Bad (r : List UInt8) : Prop := r ≠ [] ∧ (decodeL r).1 = 65533 ∧ (decodeL r).2 = 1

theorem sgn_iff (n : Int) : sgn n = true ↔ 0 ≤ n ∧ n ≤ 1114111 ∧ (n < 55296 ∨ 57343 < n) := by unfold sgn; simp
theorem encL_nil : encL [] = [] := rfl
theorem encL_cons (n : Int) (l : List Int) : encL (n :: l) = encodeRune n ++ encL l := by simp [encL]
theorem encL_append (a b : List Int) : encL (a ++ b) = encL a ++ encL b := by simp [encL]
theorem enc_len (n : Int) : 1 ≤ (encodeRune n).length ∧ (encodeRune n).length ≤ 4 := by
  have := runeCells_le n
  rwa [runeCells_length] at this
theorem encL_len (l : List Int) : l.length ≤ (encL l).length ∧ (encL l).length ≤ 4 * l.length := by
  induction l with
  | nil => simp [encL]
  | cons n t ih => rw [encL_cons]; have := enc_len n; simp; omega
theorem AllS.tail {n : Int} {l : List Int} (h : AllS (n :: l)) : AllS l := fun m hm => h m (List.mem_cons_of_mem _ hm)
theorem AllS.head {n : Int} {l : List Int} (h : AllS (n :: l)) : sgn n = true := h n List.mem_cons_self
theorem AllS.append {a b : List Int} (h : AllS a) (k : AllS b) : AllS (a ++ b) := fun n hn => by
  rcases List.mem_append.1 hn with x | x
  · exact h n x
  · exact k n x
theorem AllS.left {a b : List Int} (h : AllS (a ++ b)) : AllS a := fun n hn => h n (List.mem_append.2 (.inl hn))
theorem AllS.right {a b : List Int} (h : AllS (a ++ b)) : AllS b := fun n hn => h n (List.mem_append.2 (.inr hn))
theorem allS_nil : AllS [] := fun _ h => by cases h
theorem u8n (z : Int) (_h0 : 0 ≤ z) (h1 : z < 256) : (z.toNat.toUInt8).toNat = z.toNat := by simp; omega

/-- What was encoded is decoded, whatever stands behind. -/
theorem dec_enc (n : Int) (t : List UInt8) (h : sgn n = true) : decodeL (encodeRune n ++ t) = (n.toNat, (encodeRune n).length) := by
  obtain ⟨h0, h1, h2⟩ := (sgn_iff n).1 h
  rw [decodeL_N]
  unfold encodeRune
  by_cases a : n ≤ 127
  · rw [encodeRuneZ_one h0 a]
    simp only [List.map_cons, List.map_nil, List.cons_append, List.nil_append, List.getD_cons_zero, List.length_cons, List.length_nil]
    rw [u8n n h0 (by omega), decodeN_ascii _ _ _ _ _ (by omega)]
  by_cases b : n ≤ 2047
  · rw [encodeRuneZ_two (by omega) b]
    simp only [List.map_cons, List.map_nil, List.cons_append, List.nil_append, List.getD_cons_zero, List.getD_cons_succ, List.length_cons, List.length_nil]
    rw [u8n _ (by omega) (by omega), u8n _ (by omega) (by omega)]
    unfold decodeN
    rw [if_neg (by omega), if_pos ⟨by omega, by omega, by omega⟩, if_pos (by omega)]
    congr 1; omega
  by_cases c : n ≤ 65535
  · rw [encodeRuneZ_three (by omega)]
    simp only [List.map_cons, List.map_nil, List.cons_append, List.nil_append, List.getD_cons_zero, List.getD_cons_succ, List.length_cons, List.length_nil]
    rw [u8n _ (by omega) (by omega), u8n _ (by omega) (by omega), u8n _ (by omega) (by omega)]
    unfold decodeN
    rw [if_neg (by omega), if_neg (by omega), if_pos ⟨by omega, ⟨by omega, by omega⟩, by omega, by omega⟩, if_pos (by omega)]
    congr 1; omega
  · rw [encodeRuneZ_four (by omega) h1]
    simp only [List.map_cons, List.map_nil, List.cons_append, List.nil_append, List.getD_cons_zero, List.getD_cons_succ, List.length_cons, List.length_nil]
    rw [u8n _ (by omega) (by omega), u8n _ (by omega) (by omega), u8n _ (by omega) (by omega), u8n _ (by omega) (by omega)]
    unfold decodeN
    rw [if_neg (by omega), if_neg (by omega), if_neg (by omega), if_pos ⟨by omega, ⟨by omega, by omega⟩, ⟨by omega, by omega⟩, by omega, by omega⟩, if_pos (by omega)]
    congr 1; omega

theorem decodeL_nil : decodeL [] = (0, 1) := by decide
/-- A sign's own bytes are no bad ones. -/
theorem dec_good (n : Int) (t : List UInt8) (h : sgn n = true) : ¬ ((decodeL (encodeRune n ++ t)).1 = 65533 ∧ (decodeL (encodeRune n ++ t)).2 = 1) := by
  rw [dec_enc n t h]
  rintro ⟨h1, h2⟩
  have : n = 65533 := by have := (sgn_iff n).1 h; simp at h1; omega
  subst this
  simp [encodeRune, encodeRuneZ] at h2
theorem dec_sgn (l : List UInt8) (_hne : l ≠ []) (hv : ¬ ((decodeL l).1 = 65533 ∧ (decodeL l).2 = 1)) : sgn (decodeL l).1 = true := by
  rw [decodeL_N] at hv ⊢
  rw [sgn_iff]
  rcases decodeN_shape l.length (l.getD 0 0).toNat (l.getD 1 0).toNat (l.getD 2 0).toNat (l.getD 3 0).toNat with ⟨c, e⟩ | ⟨c1, c2, c3, cv, e⟩ | ⟨c1, c2, c3, c4, cv, cs, e⟩ | ⟨c1, c2, c3, c4, c5, cv, cw, e⟩ | e <;> rw [e] at hv ⊢
  · dsimp only; omega
  · dsimp only; omega
  · dsimp only; omega
  · dsimp only; omega
  · exact absurd ⟨rfl, rfl⟩ hv

/-- Every list of bytes: some signs' bytes, and a rest that is empty or begins badly. -/
theorem split_any : ∀ (f : Nat) (l : List UInt8), l.length ≤ f → ∃ sl rest, l = encL sl ++ rest ∧ AllS sl ∧ (rest = [] ∨ Bad rest)
  | 0, l, h => ⟨[], l, rfl, allS_nil, .inl (List.length_eq_zero_iff.1 (by omega))⟩
  | f + 1, l, h => by
    by_cases hne : l = []
    · exact ⟨[], [], by simp [hne, encL], allS_nil, .inl rfl⟩
    by_cases hv : (decodeL l).1 = 65533 ∧ (decodeL l).2 = 1
    · exact ⟨[], l, rfl, allS_nil, .inr ⟨hne, hv⟩⟩
    · have hw := decodeL_width l
      obtain ⟨sl, rest, h1, h2, h3⟩ := split_any f (l.drop (decodeL l).2) (by simp; omega)
      refine ⟨((decodeL l).1 : Int) :: sl, rest, ?_, ?_, h3⟩
      · rw [encL_cons, encode_decode l hne hv, List.append_assoc, ← h1, List.take_append_drop]
      · intro n hn
        rcases List.mem_cons.1 hn with rfl | hn
        · exact dec_sgn l hne hv
        · exact h2 n hn
theorem split_bytes (l : List UInt8) : ∃ sl rest, l = encL sl ++ rest ∧ AllS sl ∧ (rest = [] ∨ Bad rest) := split_any _ l (Nat.le_refl _)

/-- The signs of a text, and the rest, are its own. -/
theorem split_one : ∀ (a b : List Int) (r t : List UInt8), encL a ++ r = encL b ++ t → AllS a → AllS b → (r = [] ∨ Bad r) → (t = [] ∨ Bad t) → a = b ∧ r = t
  | [], [], r, t, h, _, _, _, _ => ⟨rfl, by simpa [encL] using h⟩
  | [], n :: b, r, t, h, _, hb, hr, _ => by
    exfalso
    rw [encL_nil, List.nil_append, encL_cons, List.append_assoc] at h
    rcases hr with rfl | hr
    · have := enc_len n
      have := congrArg List.length h
      simp at this; omega
    · exact dec_good n (encL b ++ t) hb.head (h ▸ hr.2)
  | n :: a, [], r, t, h, ha, _, _, ht => by
    exfalso
    rw [encL_nil, List.nil_append, encL_cons, List.append_assoc] at h
    rcases ht with rfl | ht
    · rw [List.append_eq_nil_iff] at h
      have := enc_len n
      rw [h.1] at this
      simp at this
    · exact dec_good n (encL a ++ r) ha.head (h ▸ ht.2)
  | n :: a, m :: b, r, t, h, ha, hb, hr, ht => by
    rw [encL_cons, List.append_assoc, encL_cons, List.append_assoc] at h
    have e1 := dec_enc n (encL a ++ r) ha.head
    have e2 := dec_enc m (encL b ++ t) hb.head
    rw [h, e2] at e1
    have h1 := (sgn_iff n).1 ha.head
    have h2 := (sgn_iff m).1 hb.head
    have : m = n := by have := congrArg Prod.fst e1; simp at this; omega
    subst this
    obtain ⟨x, y⟩ := split_one a b r t (List.append_cancel_left h) ha.tail hb.tail hr ht
    exact ⟨by rw [x], y⟩
end Go.Proofs.YtjalhcbomjgkoaaGreatDoor

/-
  PLAIN LEAN, NO RUN: the document's way to read one sign of bytes, arithmetic by arithmetic, against the decoder.
-/
namespace Go.Proofs.YtjalhcbomjgkoaaGreatDoor
open Go.Lib

theorem dA (N b0 b1 b2 b3 : Nat) (h : b0 < 128) : decodeN N b0 b1 b2 b3 = (b0, 1) := decodeN_ascii _ _ _ _ _ h
theorem dE (N b0 b1 b2 b3 : Nat) (h : (128 ≤ b0 ∧ b0 < 192) ∨ 248 ≤ b0) (h0 : b0 < 256) : decodeN N b0 b1 b2 b3 = (65533, 1) := by
  unfold decodeN
  rw [if_neg (by omega), if_neg (by omega), if_neg (by omega), if_neg (by omega)]
theorem dB (N b0 b1 b2 b3 n : Nat) (h : 192 ≤ b0 ∧ b0 < 224) (hn : 1 < N) (h1 : 128 ≤ b1 ∧ b1 ≤ 191) (e : n + 128 = (b0 - 192) * 64 + b1) (k : 128 ≤ n) : decodeN N b0 b1 b2 b3 = (n, 2) := by
  unfold decodeN
  rw [if_neg (by omega), if_pos ⟨by omega, by omega, by omega⟩, if_pos (by omega)]
  congr 1; omega
theorem dBbad (N b0 b1 b2 b3 : Nat) (h : 192 ≤ b0 ∧ b0 < 224) (g : N ≤ 1 ∨ b1 < 128 ∨ 191 < b1 ∨ (b0 - 192) * 64 + b1 < 256) : decodeN N b0 b1 b2 b3 = (65533, 1) := by
  unfold decodeN
  rw [if_neg (by omega)]
  split
  · rw [if_neg (by omega)]
  · rw [if_neg (by omega), if_neg (by omega)]
theorem dC (N b0 b1 b2 b3 n : Nat) (h : 224 ≤ b0 ∧ b0 < 240) (hn : 2 < N) (h1 : 128 ≤ b1 ∧ b1 ≤ 191) (h2 : 128 ≤ b2 ∧ b2 ≤ 191) (e : n + 128 * 64 + 128 = (b0 - 224) * 4096 + b1 * 64 + b2) (k : 2048 ≤ n) (g : n < 55296 ∨ 57343 < n) : decodeN N b0 b1 b2 b3 = (n, 3) := by
  unfold decodeN
  rw [if_neg (by omega), if_neg (by omega), if_pos ⟨by omega, ⟨by omega, by omega⟩, by omega, by omega⟩, if_pos (by omega)]
  congr 1; omega
theorem dCbad (N b0 b1 b2 b3 : Nat) (h : 224 ≤ b0 ∧ b0 < 240) (g : N ≤ 2 ∨ b1 < 128 ∨ 191 < b1 ∨ b2 < 128 ∨ 191 < b2 ∨ (b0 - 224) * 4096 + b1 * 64 + b2 < 2048 + 8320 ∨ (55296 + 8320 ≤ (b0 - 224) * 4096 + b1 * 64 + b2 ∧ (b0 - 224) * 4096 + b1 * 64 + b2 ≤ 57343 + 8320)) (c1 : b1 < 256) (c2 : b2 < 256) : decodeN N b0 b1 b2 b3 = (65533, 1) := by
  unfold decodeN
  rw [if_neg (by omega), if_neg (by omega)]
  split
  · rw [if_neg (by omega)]
  · rw [if_neg (by omega)]
theorem dD (N b0 b1 b2 b3 n : Nat) (h : 240 ≤ b0 ∧ b0 < 248) (hn : 3 < N) (h1 : 128 ≤ b1 ∧ b1 ≤ 191) (h2 : 128 ≤ b2 ∧ b2 ≤ 191) (h3 : 128 ≤ b3 ∧ b3 ≤ 191) (e : n + 532608 = (b0 - 240) * 262144 + b1 * 4096 + b2 * 64 + b3) (k : 65536 ≤ n) (g : n ≤ 1114111) : decodeN N b0 b1 b2 b3 = (n, 4) := by
  unfold decodeN
  rw [if_neg (by omega), if_neg (by omega), if_neg (by omega), if_pos ⟨by omega, ⟨by omega, by omega⟩, ⟨by omega, by omega⟩, by omega, by omega⟩, if_pos (by omega)]
  congr 1; omega
theorem dDbad (N b0 b1 b2 b3 : Nat) (h : 240 ≤ b0 ∧ b0 < 248) (g : N ≤ 3 ∨ b1 < 128 ∨ 191 < b1 ∨ b2 < 128 ∨ 191 < b2 ∨ b3 < 128 ∨ 191 < b3 ∨ (b0 - 240) * 262144 + b1 * 4096 + b2 * 64 + b3 < 65536 + 532608 ∨ 1114111 + 532608 < (b0 - 240) * 262144 + b1 * 4096 + b2 * 64 + b3) (c1 : b1 < 256) (c2 : b2 < 256) (c3 : b3 < 256) : decodeN N b0 b1 b2 b3 = (65533, 1) := by
  unfold decodeN
  rw [if_neg (by omega), if_neg (by omega), if_neg (by omega)]
  split
  · rw [if_neg (by omega)]
  · rfl

/-- What 'first' answers. -/
def fstF (s : ByteArray) : Int := if Utf8.decode s 0 = (65533, 1) then -1 else (Utf8.decode s 0).1
def sndF (s : ByteArray) : Int := if Utf8.decode s 0 = (65533, 1) then 0 else (Utf8.decode s 0).2
theorem F_bad (s : ByteArray) (h : Utf8.decode s 0 = (65533, 1)) : (-1 : Int) = fstF s ∧ (0 : Int) = sndF s := by unfold fstF sndF; rw [if_pos h, if_pos h]; exact ⟨rfl, rfl⟩
theorem F_ok (s : ByteArray) (n k : Nat) (h : Utf8.decode s 0 = (n, k)) (hk : k = 1 → n ≠ 65533) (a b : Int) (ha : a = n) (hb : b = k) : a = fstF s ∧ b = sndF s := by
  unfold fstF sndF
  rw [h, if_neg, if_neg]
  · exact ⟨ha, hb⟩
  · intro e; simp only [Prod.mk.injEq] at e; exact hk e.2 e.1
  · intro e; simp only [Prod.mk.injEq] at e; exact hk e.2 e.1
/-- A byte of s, or 0 behind its end. -/
def byteAt (s : ByteArray) (i : Nat) : Nat := (s.get! i).toNat
theorem byteAt_lt (s : ByteArray) (i : Nat) : byteAt s i < 256 := (s.get! i).toNat_lt
theorem byteAt_eq (s : ByteArray) (i : Nat) (h : i < s.size) : (s[i]'h).toNat = byteAt s i := by
  unfold byteAt
  have := get_at s i h
  rw [Nat.add_zero] at this
  rw [this]
theorem dec0 (s : ByteArray) : Utf8.decode s 0 = decodeN s.size (byteAt s 0) (byteAt s 1) (byteAt s 2) (byteAt s 3) := by
  rw [decode_at]; rfl
end Go.Proofs.YtjalhcbomjgkoaaGreatDoor
