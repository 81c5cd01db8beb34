/-
  MERGED (a claim has at most 60 files): TBase, TCmp.
-/
import Derived.Test.YtpnfjjgihkmjmaaProg
import Derived.WalkKit
import Derived.WalkLawsBesides
import Derived.Below
import Derived.IntWalk
import Derived.Lib.Hide
import Derived.Deep.LoopGhost
import Derived.Laws.StructEq
import Derived.Outline
/-
  TERMS AS VALUES; what fieldsOf, Kind and asLiteral say of one.
-/
namespace Go.Proofs.Ytpnfjjgihkmjmaa
open Go.RowKit
set_option linter.unusedVariables false

/-- A block of the call's own, known whole. -/
def Fb (w : World) (g : Nat) (t : TypeId) (cs : Array Value) : Prop := w.heap[g]? = some (.cells cs t (0, 0))
theorem Fb.lt {w : World} {g : Nat} {t : TypeId} {cs : Array Value} (h : Fb w g t cs) : g < w.heap.size := (Array.getElem?_eq_some_iff.1 h).1
theorem Fb.cell {w : World} {g : Nat} {t : TypeId} {cs : Array Value} (h : Fb w g t cs) (i : Nat) : w.cell? ⟨g, i, none⟩ = cs[i]? := by
  unfold Fb at h
  simp [World.cell?, h]
theorem Fb.new (w : World) (t : TypeId) (cs : Array Value) : Fb (w.alloc (.cells cs t)) w.heap.size t cs := heap_alloc_new w _
theorem Fb.alloc {w : World} {g : Nat} {t : TypeId} {cs : Array Value} (h : Fb w g t cs) (o : Obj) : Fb (w.alloc o) g t cs := (Below.heap_alloc w o g h.lt).trans h
theorem Fb.below {w w' : World} {g : Nat} {t : TypeId} {cs : Array Value} (h : Fb w g t cs) (hb : Below w.heap.size w w') : Fb w' g t cs := (hb.block g h.lt).trans h
theorem Fb.drew {w : World} {g : Nat} {t : TypeId} {cs : Array Value} (h : Fb w g t cs) : Fb w.drew g t cs := h
/-- A term, or what is none. -/
inductive Tm where
  | blank (s : ByteArray)
  | iri (s : ByteArray)
  | lit (a b c : ByteArray)
  | odd (n : Int)
  | none
def Tm.val : Tm → Value
  | .blank s => .iface 92 (.agg #[.string s])
  | .iri s => .iface 94 (.agg #[.string s])
  | .lit a b c => .iface 84 (.agg #[.string a, .string b, .string c])
  | .odd n => .iface 96 (.agg #[.int .i64 n])
  | .none => .nilIface
abbrev XS : ByteArray := ⟨#[104, 116, 116, 112, 58, 47, 47, 119, 119, 119, 46, 119, 51, 46, 111, 114, 103, 47, 50, 48, 48, 49, 47, 88, 77, 76, 83, 99, 104, 101, 109, 97, 35, 115, 116, 114, 105, 110, 103]⟩
abbrev XL : ByteArray := ⟨#[104, 116, 116, 112, 58, 47, 47, 119, 119, 119, 46, 119, 51, 46, 111, 114, 103, 47, 49, 57, 57, 57, 47, 48, 50, 47, 50, 50, 45, 114, 100, 102, 45, 115, 121, 110, 116, 97, 120, 45, 110, 115, 35, 108, 97, 110, 103, 83, 116, 114, 105, 110, 103]⟩
abbrev mt : ByteArray := ⟨#[]⟩
def Tm.kind : Tm → Int
  | .blank _ => 0
  | .iri _ => 1
  | .lit _ _ _ => 2
  | _ => 3
def Tm.ta : Tm → ByteArray
  | .blank s => s
  | .iri s => s
  | .lit a _ _ => a
  | _ => mt
def Tm.tb : Tm → ByteArray
  | .lit _ b _ => b
  | _ => mt
def Tm.tc : Tm → ByteArray
  | .lit _ _ c => c
  | _ => mt
abbrev F4 (k : Int) (a b c : ByteArray) : Value := .agg #[.int .i64 k, .string a, .string b, .string c]
theorem asBB (v : Value) (w : World) : (Instr.typeAssert (.iface 92 v) 41 92 true).run Try.prog w = .ok (.tuple #[v, .bool true]) w := by kernel_rfl
theorem asIB (v : Value) (w : World) : (Instr.typeAssert (.iface 94 v) 41 92 true).run Try.prog w = .ok (.tuple #[.agg #[.string mt], .bool false]) w := by kernel_rfl
theorem asII (v : Value) (w : World) : (Instr.typeAssert (.iface 94 v) 41 94 true).run Try.prog w = .ok (.tuple #[v, .bool true]) w := by kernel_rfl
theorem asLB (v : Value) (w : World) : (Instr.typeAssert (.iface 84 v) 41 92 true).run Try.prog w = .ok (.tuple #[.agg #[.string mt], .bool false]) w := by kernel_rfl
theorem asLI (v : Value) (w : World) : (Instr.typeAssert (.iface 84 v) 41 94 true).run Try.prog w = .ok (.tuple #[.agg #[.string mt], .bool false]) w := by kernel_rfl
theorem asLL (v : Value) (w : World) : (Instr.typeAssert (.iface 84 v) 41 84 true).run Try.prog w = .ok (.tuple #[v, .bool true]) w := by kernel_rfl
theorem asOB (v : Value) (w : World) : (Instr.typeAssert (.iface 96 v) 41 92 true).run Try.prog w = .ok (.tuple #[.agg #[.string mt], .bool false]) w := by kernel_rfl
theorem asOI (v : Value) (w : World) : (Instr.typeAssert (.iface 96 v) 41 94 true).run Try.prog w = .ok (.tuple #[.agg #[.string mt], .bool false]) w := by kernel_rfl
theorem asOL (v : Value) (w : World) : (Instr.typeAssert (.iface 96 v) 41 84 true).run Try.prog w = .ok (.tuple #[.agg #[.string mt, .string mt, .string mt], .bool false]) w := by kernel_rfl
theorem asNB (w : World) : (Instr.typeAssert .nilIface 41 92 true).run Try.prog w = .ok (.tuple #[.agg #[.string mt], .bool false]) w := by kernel_rfl
theorem asNI (w : World) : (Instr.typeAssert .nilIface 41 94 true).run Try.prog w = .ok (.tuple #[.agg #[.string mt], .bool false]) w := by kernel_rfl
theorem asNL (w : World) : (Instr.typeAssert .nilIface 41 84 true).run Try.prog w = .ok (.tuple #[.agg #[.string mt, .string mt, .string mt], .bool false]) w := by kernel_rfl
set_option maxRecDepth 100000 in
theorem fieldsOf_any (t : Tm) (w : World) : Calls Try.prog 48 #[t.val] w fun e w' => e = .returned (F4 t.kind t.ta t.tb t.tc) ∧ Below w.heap.size w w' := by
  cases t with
  | blank s =>
    simp only [Tm.val, Tm.kind, Tm.ta, Tm.tb, Tm.tc]
    have hBB := asBB
    go_enter Try.func48, Try.ntmps48
    go_wp2
    exact bodyPost_ret (v := F4 0 s mt mt) (by simp [results, Try.results48, go_sem]) rfl ⟨rfl, ((Below.refl _ _).alloc (Nat.le_refl _) _).alloc (by simp) _⟩
  | iri s =>
    simp only [Tm.val, Tm.kind, Tm.ta, Tm.tb, Tm.tc]
    have hIB := asIB
    have hII := asII
    go_enter Try.func48, Try.ntmps48
    go_wp2
    exact bodyPost_ret (v := F4 1 s mt mt) (by simp [results, Try.results48, go_sem]) rfl ⟨rfl, ((Below.refl _ _).alloc (Nat.le_refl _) _).alloc (by simp) _⟩
  | lit a b c =>
    simp only [Tm.val, Tm.kind, Tm.ta, Tm.tb, Tm.tc]
    have hLB := asLB
    have hLI := asLI
    have hLL := asLL
    go_enter Try.func48, Try.ntmps48
    go_wp2
    exact bodyPost_ret (v := F4 2 a b c) (by simp [results, Try.results48, go_sem]) rfl ⟨rfl, ((Below.refl _ _).alloc (Nat.le_refl _) _).alloc (by simp) _⟩
  | odd n =>
    simp only [Tm.val, Tm.kind, Tm.ta, Tm.tb, Tm.tc]
    have hOB := asOB
    have hOI := asOI
    have hOL := asOL
    go_enter Try.func48, Try.ntmps48
    go_wp2
    exact bodyPost_ret (v := F4 3 mt mt mt) (by simp [results, Try.results48, go_sem]) rfl ⟨rfl, (Below.refl _ _).alloc (Nat.le_refl _) _⟩
  | none =>
    simp only [Tm.val, Tm.kind, Tm.ta, Tm.tb, Tm.tc]
    have hNB := asNB
    have hNI := asNI
    have hNL := asNL
    go_enter Try.func48, Try.ntmps48
    go_wp2
    exact bodyPost_ret (v := F4 3 mt mt mt) (by simp [results, Try.results48, go_sem]) rfl ⟨rfl, (Below.refl _ _).alloc (Nat.le_refl _) _⟩
theorem fld0 (k : Int) (a b d : ByteArray) (w : World) : (Instr.field 109 (F4 k a b d) 0).run Try.prog w = .ok (.int .i64 k) w := by kernel_rfl
set_option maxRecDepth 100000 in
theorem kind_any (t : Tm) (w : World) : Calls Try.prog 46 #[t.val] w fun e w' => e = .returned (.int .i64 t.kind) ∧ Below w.heap.size w w' := by
  have c := fieldsOf_any t
  obtain ⟨k, hk⟩ : ∃ k, k = t.kind := ⟨_, rfl⟩
  obtain ⟨a, ha⟩ : ∃ a, a = t.ta := ⟨_, rfl⟩
  obtain ⟨b, hb⟩ : ∃ a, a = t.tb := ⟨_, rfl⟩
  obtain ⟨d, hd⟩ : ∃ a, a = t.tc := ⟨_, rfl⟩
  obtain ⟨v, hv⟩ : ∃ a, a = t.val := ⟨_, rfl⟩
  rw [← hk, ← ha, ← hb, ← hd, ← hv] at c
  rw [← hk, ← hv]
  have hfld := fld0
  clear hk ha hb hd hv
  go_enter Try.func46, Try.ntmps46
  go_wp2_with (go_at_call 48; (with_reducible refine (c _).mono ?_); rintro e w1 ⟨rfl, hb1⟩)
  go_ret
  exact ⟨rfl, hb1⟩
def Tm.isLit : Tm → Bool
  | .lit _ _ _ => true
  | _ => false
def Tm.la (t : Tm) : ByteArray := if t.isLit then t.ta else mt
end Go.Proofs.Ytpnfjjgihkmjmaa

/-
  COMPARING: integers, texts, lists of texts; the first that isn't 0; whether a type is known.
-/
namespace Go.Proofs.Ytpnfjjgihkmjmaa
open Go.RowKit
set_option linter.unusedVariables false

theorem ret_iT {k : IntKind} {a b : Int} (h : a = b) : Ending.returned (.int k a) = .returned (.int k b) := by rw [h]
theorem ret_bT {a b : Bool} (h : a = b) : Ending.returned (.bool a) = .returned (.bool b) := by rw [h]
/-- The order of integers. -/
def ordT (a b : Int) : Int := if a < b then -1 else if b < a then 1 else 0
theorem nanInt_any (a : Int) (w : World) : Calls Try.prog 51 #[.int .i64 a] w fun e w' => e = .returned (.bool false) ∧ w = w' := by
  go_enter Try.func51, Try.ntmps51
  go_wp2
  go_ret
  exact ⟨ret_bT (by simp), rfl⟩
theorem cmpInt_any (a b : Int) (w : World) : Calls Try.prog 41 #[.int .i64 a, .int .i64 b] w fun e w' => e = .returned (.int .i64 (ordT a b)) ∧ w = w' := by
  go_enter Try.func41, Try.ntmps41
  go_wp2_with (go_at_call 51; (with_reducible refine (nanInt_any _ _).mono ?_); rintro e w' ⟨rfl, rfl⟩)
  all_goals (go_ret; refine ⟨ret_iT ?_, rfl⟩; unfold ordT; omega)
theorem nanStr_any (a : ByteArray) (w : World) : Calls Try.prog 59 #[.string a] w fun e w' => e = .returned (.bool false) ∧ w = w' := by
  go_enter Try.func59, Try.ntmps59
  go_wp2
  go_ret
  exact ⟨ret_bT (by simp), rfl⟩
/-- The order of texts, byte by byte. -/
def ordS (a b : ByteArray) : Int := if Op.bytesLess a.toList b.toList = true then -1 else if (a.toList == b.toList) = true then 0 else 1
theorem cmpStr_any (a b : ByteArray) (w : World) : Calls Try.prog 56 #[.string a, .string b] w fun e w' => e = .returned (.int .i64 (ordS a b)) ∧ w = w' := by
  cases h1 : Op.bytesLess a.toList b.toList
  · cases h2 : (a.toList == b.toList)
    · have H : Hid (ordS a b = 1) := Lib.hid (by unfold ordS; rw [h1, h2, if_neg (by decide), if_neg (by decide)])
      go_enter Try.func56, Try.ntmps56
      go_wp2_with (go_at_call 59; (with_reducible refine (nanStr_any _ _).mono ?_); rintro e w' ⟨rfl, rfl⟩)
      go_ret
      exact ⟨ret_iT H.out.symm, rfl⟩
    · have H : Hid (ordS a b = 0) := Lib.hid (by unfold ordS; rw [h1, h2, if_neg (by decide), if_pos rfl])
      go_enter Try.func56, Try.ntmps56
      go_wp2_with (go_at_call 59; (with_reducible refine (nanStr_any _ _).mono ?_); rintro e w' ⟨rfl, rfl⟩)
      go_ret
      exact ⟨ret_iT H.out.symm, rfl⟩
  · have H : Hid (ordS a b = -1) := Lib.hid (by unfold ordS; rw [h1, if_pos rfl])
    go_enter Try.func56, Try.ntmps56
    go_wp2_with (go_at_call 59; (with_reducible refine (nanStr_any _ _).mono ?_); rintro e w' ⟨rfl, rfl⟩)
    go_ret
    exact ⟨ret_iT H.out.symm, rfl⟩
abbrev lS : List UInt8 := [104, 116, 116, 112, 58, 47, 47, 119, 119, 119, 46, 119, 51, 46, 111, 114, 103, 47, 50, 48, 48, 49, 47, 88, 77, 76, 83, 99, 104, 101, 109, 97, 35, 115, 116, 114, 105, 110, 103]
abbrev lI : List UInt8 := [104, 116, 116, 112, 58, 47, 47, 119, 119, 119, 46, 119, 51, 46, 111, 114, 103, 47, 50, 48, 48, 49, 47, 88, 77, 76, 83, 99, 104, 101, 109, 97, 35, 105, 110, 116, 101, 103, 101, 114]
abbrev lB : List UInt8 := [104, 116, 116, 112, 58, 47, 47, 119, 119, 119, 46, 119, 51, 46, 111, 114, 103, 47, 50, 48, 48, 49, 47, 88, 77, 76, 83, 99, 104, 101, 109, 97, 35, 98, 111, 111, 108, 101, 97, 110]
abbrev lL : List UInt8 := [104, 116, 116, 112, 58, 47, 47, 119, 119, 119, 46, 119, 51, 46, 111, 114, 103, 47, 49, 57, 57, 57, 47, 48, 50, 47, 50, 50, 45, 114, 100, 102, 45, 115, 121, 110, 116, 97, 120, 45, 110, 115, 35, 108, 97, 110, 103, 83, 116, 114, 105, 110, 103]
def known (b : ByteArray) : Bool := (b.toList == lS) || (b.toList == lI) || (b.toList == lB) || (b.toList == lL)
/-- The first that is not 0. -/
def orT (x y : Int) : Int := if x = 0 then y else x
theorem orInt_any (x y : Int) (w : World) (g c : Nat) (h0 : w.cell? ⟨g, 0, none⟩ = some (.int .i64 x)) (h1 : w.cell? ⟨g, 1, none⟩ = some (.int .i64 y)) :
    Calls Try.prog 49 #[.slice (some ⟨g, 0, none⟩) 2 c] w fun e w' => e = .returned (.int .i64 (orT x y)) ∧ w = w' := by
  go_enter Try.func49, Try.ntmps49
  go_wp2
  go_loopg [5, 8] 2 (fun g s5 s8 wr => ∃ k : Nat, k + g = 2 ∧ s8 = .int .i64 k ∧ Hid (1 ≤ k → x = 0) ∧ Hid (2 ≤ k → y = 0) ∧ w = wr)
  case atStart => exact ⟨0, rfl, rfl, Lib.hid (by omega), Lib.hid (by omega), rfl⟩
  case round =>
    obtain ⟨k, hkg, rfl, H0, H1, rfl⟩ := hrel
    obtain rfl | rfl | rfl : k = 0 ∨ k = 1 ∨ k = 2 := by omega
    · by_cases hx : x = 0
      · have hb : (x != 0) = false := by simpa using hx
        have HX := Lib.hid hx
        clear hx
        go_wp2
        go_roundg 1
        case measure => omega
        case rel => exact ⟨1, rfl, rfl, Lib.hid (fun _ => HX.out), Lib.hid (by omega), rfl⟩
      · have hb : (x != 0) = true := by simpa using hx
        have HX : Hid (orT x y = x) := Lib.hid (if_neg hx)
        clear hx
        go_wp2
        (try rw [Exit.noGoto_ret])
        go_ret
        exact ⟨ret_iT HX.out.symm, rfl⟩
    · have HX : Hid (orT x y = y) := Lib.hid (if_pos (H0.out (by omega)))
      by_cases hy : y = 0
      · have hb : (y != 0) = false := by simpa using hy
        have HY := Lib.hid hy
        clear hy
        go_wp2
        go_roundg 0
        case measure => omega
        case rel => exact ⟨2, rfl, rfl, Lib.hid (fun _ => H0.out (by omega)), Lib.hid (fun _ => HY.out), rfl⟩
      · have hb : (y != 0) = true := by simpa using hy
        clear hy
        go_wp2
        (try rw [Exit.noGoto_ret])
        go_ret
        exact ⟨ret_iT HX.out.symm, rfl⟩
    · have HX : Hid (orT x y = 0) := Lib.hid (by unfold orT; rw [if_pos (H0.out (by omega)), H1.out (by omega)])
      go_wp2
      go_ret
      exact ⟨ret_iT HX.out.symm, rfl⟩
end Go.Proofs.Ytpnfjjgihkmjmaa
