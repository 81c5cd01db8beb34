/-
  TERMS AS VALUES; what fieldsOf, Kind and asLiteral say of one.
-/
import Derived.Test.YtaoelnfflkkeeaaGreatDoorProg
import Derived.WalkKit
import Derived.WalkLawsBesides
import Derived.Below
import Derived.IntWalk
import Derived.Lib.Hide
import Derived.Deep.LoopGhost
import Derived.Laws.StructEq
import Derived.Outline
namespace Go.Proofs.YtaoelnfflkkeeaaGreatDoor
open Go.RowKit
set_option linter.unusedVariables false

/-- A block of the call's own, known whole. -/
def Fb (w : World) (g : Nat) (t : TypeId) (cs : Array Value) : Prop := w.heap[g]? = some (.cells cs t (0, 0))
theorem Fb.lt {w : World} {g : Nat} {t : TypeId} {cs : Array Value} (h : Fb w g t cs) : g < w.heap.size := (Array.getElem?_eq_some_iff.1 h).1
theorem Fb.cell {w : World} {g : Nat} {t : TypeId} {cs : Array Value} (h : Fb w g t cs) (i : Nat) : w.cell? ⟨g, i, none⟩ = cs[i]? := by
  unfold Fb at h
  simp [World.cell?, h]
theorem Fb.new (w : World) (t : TypeId) (cs : Array Value) : Fb (w.alloc (.cells cs t)) w.heap.size t cs := heap_alloc_new w _
theorem Fb.alloc {w : World} {g : Nat} {t : TypeId} {cs : Array Value} (h : Fb w g t cs) (o : Obj) : Fb (w.alloc o) g t cs := (Below.heap_alloc w o g h.lt).trans h
theorem Fb.below {w w' : World} {g : Nat} {t : TypeId} {cs : Array Value} (h : Fb w g t cs) (hb : Below w.heap.size w w') : Fb w' g t cs := (hb.block g h.lt).trans h
theorem Fb.drew {w : World} {g : Nat} {t : TypeId} {cs : Array Value} (h : Fb w g t cs) : Fb w.drew g t cs := h
/-- A term, or what is none. -/
inductive Tm where
  | blank (s : ByteArray)
  | iri (s : ByteArray)
  | lit (a b c : ByteArray)
  | odd (n : Int)
  | none
def Tm.val : Tm → Value
  | .blank s => .iface 58 (.agg #[.string s])
  | .iri s => .iface 50 (.agg #[.string s])
  | .lit a b c => .iface 53 (.agg #[.string a, .string b, .string c])
  | .odd n => .iface 60 (.agg #[.int .i64 n])
  | .none => .nilIface
abbrev XI : ByteArray := ⟨#[104, 116, 116, 112, 58, 47, 47, 119, 119, 119, 46, 119, 51, 46, 111, 114, 103, 47, 50, 48, 48, 49, 47, 88, 77, 76, 83, 99, 104, 101, 109, 97, 35, 105, 110, 116, 101, 103, 101, 114]⟩
abbrev XL : ByteArray := ⟨#[104, 116, 116, 112, 58, 47, 47, 119, 119, 119, 46, 119, 51, 46, 111, 114, 103, 47, 49, 57, 57, 57, 47, 48, 50, 47, 50, 50, 45, 114, 100, 102, 45, 115, 121, 110, 116, 97, 120, 45, 110, 115, 35, 108, 97, 110, 103, 83, 116, 114, 105, 110, 103]⟩
abbrev mt : ByteArray := ⟨#[]⟩
def Tm.kind : Tm → Int
  | .blank _ => 0
  | .iri _ => 1
  | .lit _ _ _ => 2
  | _ => 3
def Tm.ta : Tm → ByteArray
  | .blank s => s
  | .iri s => s
  | .lit a _ _ => a
  | _ => mt
def Tm.tb : Tm → ByteArray
  | .lit _ b _ => b
  | _ => mt
def Tm.tc : Tm → ByteArray
  | .lit _ _ c => c
  | _ => mt
abbrev F4 (k : Int) (a b c : ByteArray) : Value := .agg #[.int .i64 k, .string a, .string b, .string c]
theorem asBB (v : Value) (w : World) : (Instr.typeAssert (.iface 58 v) 28 58 true).run Tryz.prog w = .ok (.tuple #[v, .bool true]) w := by kernel_rfl
theorem asBL (v : Value) (w : World) : (Instr.typeAssert (.iface 58 v) 28 53 true).run Tryz.prog w = .ok (.tuple #[.agg #[.string mt, .string mt, .string mt], .bool false]) w := by kernel_rfl
theorem asIB (v : Value) (w : World) : (Instr.typeAssert (.iface 50 v) 28 58 true).run Tryz.prog w = .ok (.tuple #[.agg #[.string mt], .bool false]) w := by kernel_rfl
theorem asII (v : Value) (w : World) : (Instr.typeAssert (.iface 50 v) 28 50 true).run Tryz.prog w = .ok (.tuple #[v, .bool true]) w := by kernel_rfl
theorem asIL (v : Value) (w : World) : (Instr.typeAssert (.iface 50 v) 28 53 true).run Tryz.prog w = .ok (.tuple #[.agg #[.string mt, .string mt, .string mt], .bool false]) w := by kernel_rfl
theorem asLB (v : Value) (w : World) : (Instr.typeAssert (.iface 53 v) 28 58 true).run Tryz.prog w = .ok (.tuple #[.agg #[.string mt], .bool false]) w := by kernel_rfl
theorem asLI (v : Value) (w : World) : (Instr.typeAssert (.iface 53 v) 28 50 true).run Tryz.prog w = .ok (.tuple #[.agg #[.string mt], .bool false]) w := by kernel_rfl
theorem asLL (v : Value) (w : World) : (Instr.typeAssert (.iface 53 v) 28 53 true).run Tryz.prog w = .ok (.tuple #[v, .bool true]) w := by kernel_rfl
theorem asOB (v : Value) (w : World) : (Instr.typeAssert (.iface 60 v) 28 58 true).run Tryz.prog w = .ok (.tuple #[.agg #[.string mt], .bool false]) w := by kernel_rfl
theorem asOI (v : Value) (w : World) : (Instr.typeAssert (.iface 60 v) 28 50 true).run Tryz.prog w = .ok (.tuple #[.agg #[.string mt], .bool false]) w := by kernel_rfl
theorem asOL (v : Value) (w : World) : (Instr.typeAssert (.iface 60 v) 28 53 true).run Tryz.prog w = .ok (.tuple #[.agg #[.string mt, .string mt, .string mt], .bool false]) w := by kernel_rfl
theorem asNB (w : World) : (Instr.typeAssert .nilIface 28 58 true).run Tryz.prog w = .ok (.tuple #[.agg #[.string mt], .bool false]) w := by kernel_rfl
theorem asNI (w : World) : (Instr.typeAssert .nilIface 28 50 true).run Tryz.prog w = .ok (.tuple #[.agg #[.string mt], .bool false]) w := by kernel_rfl
theorem asNL (w : World) : (Instr.typeAssert .nilIface 28 53 true).run Tryz.prog w = .ok (.tuple #[.agg #[.string mt, .string mt, .string mt], .bool false]) w := by kernel_rfl
set_option maxRecDepth 100000 in
theorem fieldsOf_any (t : Tm) (w : World) : Calls Tryz.prog 29 #[t.val] w fun e w' => e = .returned (F4 t.kind t.ta t.tb t.tc) ∧ Below w.heap.size w w' := by
  cases t with
  | blank s =>
    simp only [Tm.val, Tm.kind, Tm.ta, Tm.tb, Tm.tc]
    have hBB := asBB
    go_enter Tryz.func29, Tryz.ntmps29
    go_wp2
    exact bodyPost_ret (v := F4 0 s mt mt) (by simp [results, Tryz.results29, go_sem]) rfl ⟨rfl, ((Below.refl _ _).alloc (Nat.le_refl _) _).alloc (by simp) _⟩
  | iri s =>
    simp only [Tm.val, Tm.kind, Tm.ta, Tm.tb, Tm.tc]
    have hIB := asIB
    have hII := asII
    go_enter Tryz.func29, Tryz.ntmps29
    go_wp2
    exact bodyPost_ret (v := F4 1 s mt mt) (by simp [results, Tryz.results29, go_sem]) rfl ⟨rfl, ((Below.refl _ _).alloc (Nat.le_refl _) _).alloc (by simp) _⟩
  | lit a b c =>
    simp only [Tm.val, Tm.kind, Tm.ta, Tm.tb, Tm.tc]
    have hLB := asLB
    have hLI := asLI
    have hLL := asLL
    go_enter Tryz.func29, Tryz.ntmps29
    go_wp2
    exact bodyPost_ret (v := F4 2 a b c) (by simp [results, Tryz.results29, go_sem]) rfl ⟨rfl, ((Below.refl _ _).alloc (Nat.le_refl _) _).alloc (by simp) _⟩
  | odd n =>
    simp only [Tm.val, Tm.kind, Tm.ta, Tm.tb, Tm.tc]
    have hOB := asOB
    have hOI := asOI
    have hOL := asOL
    go_enter Tryz.func29, Tryz.ntmps29
    go_wp2
    exact bodyPost_ret (v := F4 3 mt mt mt) (by simp [results, Tryz.results29, go_sem]) rfl ⟨rfl, (Below.refl _ _).alloc (Nat.le_refl _) _⟩
  | none =>
    simp only [Tm.val, Tm.kind, Tm.ta, Tm.tb, Tm.tc]
    have hNB := asNB
    have hNI := asNI
    have hNL := asNL
    go_enter Tryz.func29, Tryz.ntmps29
    go_wp2
    exact bodyPost_ret (v := F4 3 mt mt mt) (by simp [results, Tryz.results29, go_sem]) rfl ⟨rfl, (Below.refl _ _).alloc (Nat.le_refl _) _⟩
theorem fld0 (k : Int) (a b d : ByteArray) (w : World) : (Instr.field 70 (F4 k a b d) 0).run Tryz.prog w = .ok (.int .i64 k) w := by kernel_rfl
set_option maxRecDepth 100000 in
theorem kind_any (t : Tm) (w : World) : Calls Tryz.prog 14 #[t.val] w fun e w' => e = .returned (.int .i64 t.kind) ∧ Below w.heap.size w w' := by
  have c := fieldsOf_any t
  obtain ⟨k, hk⟩ : ∃ k, k = t.kind := ⟨_, rfl⟩
  obtain ⟨a, ha⟩ : ∃ a, a = t.ta := ⟨_, rfl⟩
  obtain ⟨b, hb⟩ : ∃ a, a = t.tb := ⟨_, rfl⟩
  obtain ⟨d, hd⟩ : ∃ a, a = t.tc := ⟨_, rfl⟩
  obtain ⟨v, hv⟩ : ∃ a, a = t.val := ⟨_, rfl⟩
  rw [← hk, ← ha, ← hb, ← hd, ← hv] at c
  rw [← hk, ← hv]
  have hfld := fld0
  clear hk ha hb hd hv
  go_enter Tryz.func14, Tryz.ntmps14
  go_wp2_with (go_at_call 29; (with_reducible refine (c _).mono ?_); rintro e w1 ⟨rfl, hb1⟩)
  go_ret
  exact ⟨rfl, hb1⟩
/-- What asLiteral says of one. -/
abbrev L3 (a b c : ByteArray) (ok : Bool) : Value := .tuple #[.agg #[.string a, .string b, .string c], .bool ok]
def Tm.isLit : Tm → Bool
  | .lit _ _ _ => true
  | _ => false
def Tm.la (t : Tm) : ByteArray := if t.isLit then t.ta else mt
set_option maxRecDepth 100000 in
theorem asLit_any (t : Tm) (w : World) : Calls Tryz.prog 22 #[t.val] w fun e w' => e = .returned (L3 t.la t.tb t.tc t.isLit) ∧ Below w.heap.size w w' := by
  cases t with
  | blank s =>
    simp only [Tm.val, Tm.la, Tm.isLit, Tm.ta, Tm.tb, Tm.tc]
    have hBL := asBL
    go_enter Tryz.func22, Tryz.ntmps22
    go_wp2
    exact bodyPost_ret (v := L3 mt mt mt false) (by simp [results, Tryz.results22, go_sem]) rfl ⟨rfl, ((Below.refl _ _).alloc (Nat.le_refl _) _).alloc (by simp) _⟩
  | iri s =>
    simp only [Tm.val, Tm.la, Tm.isLit, Tm.ta, Tm.tb, Tm.tc]
    have hIL := asIL
    go_enter Tryz.func22, Tryz.ntmps22
    go_wp2
    exact bodyPost_ret (v := L3 mt mt mt false) (by simp [results, Tryz.results22, go_sem]) rfl ⟨rfl, ((Below.refl _ _).alloc (Nat.le_refl _) _).alloc (by simp) _⟩
  | lit a b c =>
    simp only [Tm.val, Tm.la, Tm.isLit, Tm.ta, Tm.tb, Tm.tc]
    have hLL := asLL
    go_enter Tryz.func22, Tryz.ntmps22
    go_wp2
    exact bodyPost_ret (v := L3 a b c true) (by simp [results, Tryz.results22, go_sem]) rfl ⟨rfl, ((Below.refl _ _).alloc (Nat.le_refl _) _).alloc (by simp) _⟩
  | odd n =>
    simp only [Tm.val, Tm.la, Tm.isLit, Tm.ta, Tm.tb, Tm.tc]
    have hOL := asOL
    go_enter Tryz.func22, Tryz.ntmps22
    go_wp2
    exact bodyPost_ret (v := L3 mt mt mt false) (by simp [results, Tryz.results22, go_sem]) rfl ⟨rfl, ((Below.refl _ _).alloc (Nat.le_refl _) _).alloc (by simp) _⟩
  | none =>
    simp only [Tm.val, Tm.la, Tm.isLit, Tm.ta, Tm.tb, Tm.tc]
    have hNL := asNL
    go_enter Tryz.func22, Tryz.ntmps22
    go_wp2
    exact bodyPost_ret (v := L3 mt mt mt false) (by simp [results, Tryz.results22, go_sem]) rfl ⟨rfl, ((Below.refl _ _).alloc (Nat.le_refl _) _).alloc (by simp) _⟩
end Go.Proofs.YtaoelnfflkkeeaaGreatDoor
