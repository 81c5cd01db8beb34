/-
  MERGED (a claim has at most 60 files): TBase, TCmp, TSame, DEq, DBase, DAsk.
-/
import Derived.Test.YtehechbiajbobaaProg
import Derived.WalkKit
import Derived.WalkLawsBesides
import Derived.Below
import Derived.IntWalk
import Derived.Lib.Hide
import Derived.Deep.LoopGhost
import Derived.Laws.StructEq
import Derived.Outline
import Derived.Deep.RegionHeld3
import Derived.Deep.QuietTactic
import Derived.BigQuiet
import Derived.ChangeKeysEq
import Derived.MapKept
import Derived.Deep.AppendLies
/-
  TERMS AS VALUES; what fieldsOf, Kind and asLiteral say of one.
-/
namespace Go.Proofs.Ytehechbiajbobaa
open Go.RowKit
set_option linter.unusedVariables false

/-- A block of the call's own, known whole. -/
def Fb (w : World) (g : Nat) (t : TypeId) (cs : Array Value) : Prop := w.heap[g]? = some (.cells cs t (0, 0))
theorem Fb.lt {w : World} {g : Nat} {t : TypeId} {cs : Array Value} (h : Fb w g t cs) : g < w.heap.size := (Array.getElem?_eq_some_iff.1 h).1
theorem Fb.cell {w : World} {g : Nat} {t : TypeId} {cs : Array Value} (h : Fb w g t cs) (i : Nat) : w.cell? ⟨g, i, none⟩ = cs[i]? := by
  unfold Fb at h
  simp [World.cell?, h]
theorem Fb.new (w : World) (t : TypeId) (cs : Array Value) : Fb (w.alloc (.cells cs t)) w.heap.size t cs := heap_alloc_new w _
theorem Fb.alloc {w : World} {g : Nat} {t : TypeId} {cs : Array Value} (h : Fb w g t cs) (o : Obj) : Fb (w.alloc o) g t cs := (Below.heap_alloc w o g h.lt).trans h
theorem Fb.below {w w' : World} {g : Nat} {t : TypeId} {cs : Array Value} (h : Fb w g t cs) (hb : Below w.heap.size w w') : Fb w' g t cs := (hb.block g h.lt).trans h
theorem Fb.drew {w : World} {g : Nat} {t : TypeId} {cs : Array Value} (h : Fb w g t cs) : Fb w.drew g t cs := h
/-- A term, or what is none. -/
inductive Tm where
  | blank (s : ByteArray)
  | iri (s : ByteArray)
  | lit (a b c : ByteArray)
  | odd (n : Int)
  | none
def Tm.val : Tm → Value
  | .blank s => .iface 81 (.agg #[.string s])
  | .iri s => .iface 83 (.agg #[.string s])
  | .lit a b c => .iface 72 (.agg #[.string a, .string b, .string c])
  | .odd n => .iface 85 (.agg #[.int .i64 n])
  | .none => .nilIface
abbrev XS : ByteArray := ⟨#[104, 116, 116, 112, 58, 47, 47, 119, 119, 119, 46, 119, 51, 46, 111, 114, 103, 47, 50, 48, 48, 49, 47, 88, 77, 76, 83, 99, 104, 101, 109, 97, 35, 115, 116, 114, 105, 110, 103]⟩
abbrev XL : ByteArray := ⟨#[104, 116, 116, 112, 58, 47, 47, 119, 119, 119, 46, 119, 51, 46, 111, 114, 103, 47, 49, 57, 57, 57, 47, 48, 50, 47, 50, 50, 45, 114, 100, 102, 45, 115, 121, 110, 116, 97, 120, 45, 110, 115, 35, 108, 97, 110, 103, 83, 116, 114, 105, 110, 103]⟩
abbrev mt : ByteArray := ⟨#[]⟩
def Tm.kind : Tm → Int
  | .blank _ => 0
  | .iri _ => 1
  | .lit _ _ _ => 2
  | _ => 3
def Tm.ta : Tm → ByteArray
  | .blank s => s
  | .iri s => s
  | .lit a _ _ => a
  | _ => mt
def Tm.tb : Tm → ByteArray
  | .lit _ b _ => b
  | _ => mt
def Tm.tc : Tm → ByteArray
  | .lit _ _ c => c
  | _ => mt
abbrev F4 (k : Int) (a b c : ByteArray) : Value := .agg #[.int .i64 k, .string a, .string b, .string c]
theorem asBB (v : Value) (w : World) : (Instr.typeAssert (.iface 81 v) 41 81 true).run Try.prog w = .ok (.tuple #[v, .bool true]) w := by kernel_rfl
theorem asIB (v : Value) (w : World) : (Instr.typeAssert (.iface 83 v) 41 81 true).run Try.prog w = .ok (.tuple #[.agg #[.string mt], .bool false]) w := by kernel_rfl
theorem asII (v : Value) (w : World) : (Instr.typeAssert (.iface 83 v) 41 83 true).run Try.prog w = .ok (.tuple #[v, .bool true]) w := by kernel_rfl
theorem asLB (v : Value) (w : World) : (Instr.typeAssert (.iface 72 v) 41 81 true).run Try.prog w = .ok (.tuple #[.agg #[.string mt], .bool false]) w := by kernel_rfl
theorem asLI (v : Value) (w : World) : (Instr.typeAssert (.iface 72 v) 41 83 true).run Try.prog w = .ok (.tuple #[.agg #[.string mt], .bool false]) w := by kernel_rfl
theorem asLL (v : Value) (w : World) : (Instr.typeAssert (.iface 72 v) 41 72 true).run Try.prog w = .ok (.tuple #[v, .bool true]) w := by kernel_rfl
theorem asOB (v : Value) (w : World) : (Instr.typeAssert (.iface 85 v) 41 81 true).run Try.prog w = .ok (.tuple #[.agg #[.string mt], .bool false]) w := by kernel_rfl
theorem asOI (v : Value) (w : World) : (Instr.typeAssert (.iface 85 v) 41 83 true).run Try.prog w = .ok (.tuple #[.agg #[.string mt], .bool false]) w := by kernel_rfl
theorem asOL (v : Value) (w : World) : (Instr.typeAssert (.iface 85 v) 41 72 true).run Try.prog w = .ok (.tuple #[.agg #[.string mt, .string mt, .string mt], .bool false]) w := by kernel_rfl
theorem asNB (w : World) : (Instr.typeAssert .nilIface 41 81 true).run Try.prog w = .ok (.tuple #[.agg #[.string mt], .bool false]) w := by kernel_rfl
theorem asNI (w : World) : (Instr.typeAssert .nilIface 41 83 true).run Try.prog w = .ok (.tuple #[.agg #[.string mt], .bool false]) w := by kernel_rfl
theorem asNL (w : World) : (Instr.typeAssert .nilIface 41 72 true).run Try.prog w = .ok (.tuple #[.agg #[.string mt, .string mt, .string mt], .bool false]) w := by kernel_rfl
set_option maxRecDepth 100000 in
theorem fieldsOf_any (t : Tm) (w : World) : Calls Try.prog 42 #[t.val] w fun e w' => e = .returned (F4 t.kind t.ta t.tb t.tc) ∧ Below w.heap.size w w' := by
  cases t with
  | blank s =>
    simp only [Tm.val, Tm.kind, Tm.ta, Tm.tb, Tm.tc]
    have hBB := asBB
    go_enter Try.func42, Try.ntmps42
    go_wp2
    exact bodyPost_ret (v := F4 0 s mt mt) (by simp [results, Try.results42, go_sem]) rfl ⟨rfl, ((Below.refl _ _).alloc (Nat.le_refl _) _).alloc (by simp) _⟩
  | iri s =>
    simp only [Tm.val, Tm.kind, Tm.ta, Tm.tb, Tm.tc]
    have hIB := asIB
    have hII := asII
    go_enter Try.func42, Try.ntmps42
    go_wp2
    exact bodyPost_ret (v := F4 1 s mt mt) (by simp [results, Try.results42, go_sem]) rfl ⟨rfl, ((Below.refl _ _).alloc (Nat.le_refl _) _).alloc (by simp) _⟩
  | lit a b c =>
    simp only [Tm.val, Tm.kind, Tm.ta, Tm.tb, Tm.tc]
    have hLB := asLB
    have hLI := asLI
    have hLL := asLL
    go_enter Try.func42, Try.ntmps42
    go_wp2
    exact bodyPost_ret (v := F4 2 a b c) (by simp [results, Try.results42, go_sem]) rfl ⟨rfl, ((Below.refl _ _).alloc (Nat.le_refl _) _).alloc (by simp) _⟩
  | odd n =>
    simp only [Tm.val, Tm.kind, Tm.ta, Tm.tb, Tm.tc]
    have hOB := asOB
    have hOI := asOI
    have hOL := asOL
    go_enter Try.func42, Try.ntmps42
    go_wp2
    exact bodyPost_ret (v := F4 3 mt mt mt) (by simp [results, Try.results42, go_sem]) rfl ⟨rfl, (Below.refl _ _).alloc (Nat.le_refl _) _⟩
  | none =>
    simp only [Tm.val, Tm.kind, Tm.ta, Tm.tb, Tm.tc]
    have hNB := asNB
    have hNI := asNI
    have hNL := asNL
    go_enter Try.func42, Try.ntmps42
    go_wp2
    exact bodyPost_ret (v := F4 3 mt mt mt) (by simp [results, Try.results42, go_sem]) rfl ⟨rfl, (Below.refl _ _).alloc (Nat.le_refl _) _⟩
theorem fld0 (k : Int) (a b d : ByteArray) (w : World) : (Instr.field 103 (F4 k a b d) 0).run Try.prog w = .ok (.int .i64 k) w := by kernel_rfl
set_option maxRecDepth 100000 in
theorem kind_any (t : Tm) (w : World) : Calls Try.prog 36 #[t.val] w fun e w' => e = .returned (.int .i64 t.kind) ∧ Below w.heap.size w w' := by
  have c := fieldsOf_any t
  obtain ⟨k, hk⟩ : ∃ k, k = t.kind := ⟨_, rfl⟩
  obtain ⟨a, ha⟩ : ∃ a, a = t.ta := ⟨_, rfl⟩
  obtain ⟨b, hb⟩ : ∃ a, a = t.tb := ⟨_, rfl⟩
  obtain ⟨d, hd⟩ : ∃ a, a = t.tc := ⟨_, rfl⟩
  obtain ⟨v, hv⟩ : ∃ a, a = t.val := ⟨_, rfl⟩
  rw [← hk, ← ha, ← hb, ← hd, ← hv] at c
  rw [← hk, ← hv]
  have hfld := fld0
  clear hk ha hb hd hv
  go_enter Try.func36, Try.ntmps36
  go_wp2_with (go_at_call 42; (with_reducible refine (c _).mono ?_); rintro e w1 ⟨rfl, hb1⟩)
  go_ret
  exact ⟨rfl, hb1⟩
/-- What asLiteral says of one. -/
abbrev L3 (a b c : ByteArray) (ok : Bool) : Value := .tuple #[.agg #[.string a, .string b, .string c], .bool ok]
def Tm.isLit : Tm → Bool
  | .lit _ _ _ => true
  | _ => false
def Tm.la (t : Tm) : ByteArray := if t.isLit then t.ta else mt
end Go.Proofs.Ytehechbiajbobaa

/-
  COMPARING: integers, texts, lists of texts; the first that isn't 0; whether a type is known.
-/
namespace Go.Proofs.Ytehechbiajbobaa
open Go.RowKit
set_option linter.unusedVariables false

theorem ret_bT {a b : Bool} (h : a = b) : Ending.returned (.bool a) = .returned (.bool b) := by rw [h]
abbrev lS : List UInt8 := [104, 116, 116, 112, 58, 47, 47, 119, 119, 119, 46, 119, 51, 46, 111, 114, 103, 47, 50, 48, 48, 49, 47, 88, 77, 76, 83, 99, 104, 101, 109, 97, 35, 115, 116, 114, 105, 110, 103]
abbrev lI : List UInt8 := [104, 116, 116, 112, 58, 47, 47, 119, 119, 119, 46, 119, 51, 46, 111, 114, 103, 47, 50, 48, 48, 49, 47, 88, 77, 76, 83, 99, 104, 101, 109, 97, 35, 105, 110, 116, 101, 103, 101, 114]
abbrev lL : List UInt8 := [104, 116, 116, 112, 58, 47, 47, 119, 119, 119, 46, 119, 51, 46, 111, 114, 103, 47, 49, 57, 57, 57, 47, 48, 50, 47, 50, 50, 45, 114, 100, 102, 45, 115, 121, 110, 116, 97, 120, 45, 110, 115, 35, 108, 97, 110, 103, 83, 116, 114, 105, 110, 103]
end Go.Proofs.Ytehechbiajbobaa

/-
  WHETHER TWO TERMS ARE THE SAME; how they are in the order.
-/
namespace Go.Proofs.Ytehechbiajbobaa
open Go.RowKit
set_option linter.unusedVariables false

/-- The same term? -/
def same4 (k : Int) (a b c : ByteArray) (k' : Int) (a' b' c' : ByteArray) : Bool := (k != 3) && ((k == k') && ((a.toList == a'.toList) && ((b.toList == b'.toList) && (c.toList == c'.toList))))
def sameB (x y : Tm) : Bool := same4 x.kind x.ta x.tb x.tc y.kind y.ta y.tb y.tc
end Go.Proofs.Ytehechbiajbobaa

/-
  TERMS AS A MAP's KEYS: what is looked up, stored, deleted.
-/
namespace Go.Proofs.Ytehechbiajbobaa
open Go.RowKit
set_option linter.unusedVariables false
set_option linter.unusedSimpArgs false
set_option maxRecDepth 100000

theorem d_bytes {a b : ByteArray} (h : (a.toList == b.toList) = true) : a = b := by
  rw [beq_iff_eq, ByteArray.toList_eq, ByteArray.toList_eq] at h
  exact ByteArray.ext (Array.ext' h)
theorem d_eq {x y : Tm} (h : sameB x y = true) : x = y := by
  unfold sameB same4 at h
  simp only [Bool.and_eq_true] at h
  obtain ⟨h0, h1, h2, h3, h4⟩ := h
  have e2 := d_bytes h2
  have e3 := d_bytes h3
  have e4 := d_bytes h4
  cases x <;> cases y <;> simp_all [Tm.kind, Tm.ta, Tm.tb, Tm.tc]
theorem d_refl {t : Tm} (h : t.kind < 3) : sameB t t = true := by
  unfold sameB same4
  have : (t.kind != 3) = true := by rw [bne_iff_ne]; omega
  rw [this]
  simp
theorem veq_blank (x y : Array Value) (w : World) : (Op.equal 41 (.iface 81 (.agg x)) (.iface 81 (.agg y))).run Try.prog w = (Op.equalIn 9999 81 (.agg x) (.agg y)).run Try.prog w := by kernel_rfl
theorem veq_iri (x y : Array Value) (w : World) : (Op.equal 41 (.iface 83 (.agg x)) (.iface 83 (.agg y))).run Try.prog w = (Op.equalIn 9999 83 (.agg x) (.agg y)).run Try.prog w := by kernel_rfl
theorem veq_lit (x y : Array Value) (w : World) : (Op.equal 41 (.iface 72 (.agg x)) (.iface 72 (.agg y))).run Try.prog w = (Op.equalIn 9999 72 (.agg x) (.agg y)).run Try.prog w := by kernel_rfl
/-- Terms' values against one another. -/
theorem veq (x y : Tm) (hx : x.kind < 3) (hy : y.kind < 3) (w : World) : (Op.equal 41 x.val y.val).run Try.prog w = .ok (sameB x y) w := by
  unfold sameB same4
  cases x with
  | blank s => cases y with
    | blank s' =>
      simp only [Tm.kind, Tm.ta, Tm.tb, Tm.tc, Tm.val]
      rw [veq_blank]
      go_simp
      cases h1 : (s.toList == s'.toList) <;> simp_all
    | iri s' => kernel_rfl
    | lit a' b' c' => kernel_rfl
    | odd n => exact absurd hy (by simp [Tm.kind])
    | none => exact absurd hy (by simp [Tm.kind])
  | iri s => cases y with
    | blank s' => kernel_rfl
    | iri s' =>
      simp only [Tm.kind, Tm.ta, Tm.tb, Tm.tc, Tm.val]
      rw [veq_iri]
      go_simp
      cases h1 : (s.toList == s'.toList) <;> simp_all
    | lit a' b' c' => kernel_rfl
    | odd n => exact absurd hy (by simp [Tm.kind])
    | none => exact absurd hy (by simp [Tm.kind])
  | lit a b c => cases y with
    | blank s' => kernel_rfl
    | iri s' => kernel_rfl
    | lit a' b' c' =>
      simp only [Tm.kind, Tm.ta, Tm.tb, Tm.tc, Tm.val]
      rw [veq_lit]
      go_simp
      by_cases h1 : a.toList = a'.toList <;> by_cases h2 : b.toList = b'.toList <;> by_cases h3 : c.toList = c'.toList <;> simp [h1, h2, h3]
    | odd n => exact absurd hy (by simp [Tm.kind])
    | none => exact absurd hy (by simp [Tm.kind])
  | odd n => exact absurd hx (by simp [Tm.kind])
  | none => exact absurd hx (by simp [Tm.kind])
theorem dcheck (t : Tm) (h : t.kind < 3) (em : Bool) (w : World) : (Instr.checkKey em 10000 41 t.val).run Try.prog w = .ok () w := by
  cases t with
  | blank s => kernel_rfl
  | iri s => kernel_rfl
  | lit a b c => kernel_rfl
  | odd n => exact absurd h (by simp [Tm.kind])
  | none => exact absurd h (by simp [Tm.kind])
/-- Where a term stands among terms with numbers, and its number. -/
def posV (t : Tm) : List (Tm × Nat) → Option (Nat × Nat)
  | [] => none
  | p :: E => if sameB t p.1 = true then some (0, p.2) else (posV t E).map fun q => (q.1 + 1, q.2)
def cellE (p : Tm × Nat) : Value × Value := (p.1.val, .int .i64 p.2)
theorem run_asking (t : Tm) (ht : t.kind < 3) (w : World) : ∀ (E : List (Tm × Nat)) (es : List MapEntry) (i : Nat), (es.map fun e => (e.key, e.val)) = E.map cellE → (∀ p ∈ E, p.1.kind < 3) →
    (Instr.findAsking 41 t.val es i).run Try.prog w = .ok ((posV t E).map fun q => (i + q.1, .int .i64 q.2)) w
  | [], [], i, _, _ => by simp [Instr.findAsking, posV]
  | [], e :: es, i, h, _ => by simp at h
  | p :: E, [], i, h, _ => by simp at h
  | p :: E, e :: es, i, h, hk => by
    simp only [List.map_cons, List.cons.injEq, cellE, Prod.mk.injEq] at h
    obtain ⟨⟨h1, h2⟩, h3⟩ := h
    have ih := run_asking t ht w E es (i + 1) h3 fun q hq => hk q (List.mem_cons_of_mem _ hq)
    have hv := veq t p.1 ht (hk p List.mem_cons_self) w
    cases hb : sameB t p.1 with
    | true =>
      rw [hb] at hv
      simp [Instr.findAsking, h1, hv, posV, hb, Result.andThen, h2]
    | false =>
      rw [hb] at hv
      simp [Instr.findAsking, h1, hv, posV, hb, Result.andThen, ih]
      cases posV t E with
      | none => rfl
      | some q => simp; omega
theorem mapT : ∃ ms, Try.prog.underlying 41 = some (.interface ms) := ⟨_, Try.underlying41⟩
theorem mapM : Try.prog.underlying 75 = some (.map 41 3) := by kernel_rfl
theorem run_finding (t : Tm) (ht : t.kind < 3) (w : World) (E : List (Tm × Nat)) (es : List MapEntry) (h : (es.map fun e => (e.key, e.val)) = E.map cellE) (hk : ∀ p ∈ E, p.1.kind < 3) :
    (Instr.findKey 41 t.val es).run Try.prog w = .ok ((posV t E).map fun q => (q.1, .int .i64 q.2)) w := by
  obtain ⟨ms, hu⟩ := mapT
  have ha := run_asking t ht w E es 0 h hk
  simp only [Nat.zero_add] at ha
  cases es with
  | nil =>
    cases E with
    | nil => simp [Instr.findKey, run_underlying hu, Instr.findNow, posV, Result.andThen]
    | cons p E => simp at h
  | cons e es => simp [Instr.findKey, run_underlying hu, Instr.findNow, Instr.sameNow, ha, Result.andThen]
/-- A map of terms' numbers. -/
def Mp (W : World) (m : Nat) (E : List (Tm × Nat)) : Prop := ∃ es clock, W.heap[m]? = some (.map es clock) ∧ (es.toList.map fun e => (e.key, e.val)) = E.map cellE
theorem Mp.look {W : World} {m : Nat} {E : List (Tm × Nat)} (h : Mp W m E) (hk : ∀ p ∈ E, p.1.kind < 3) (t : Tm) (ht : t.kind < 3) :
    (Instr.lookup 75 (.map (some m)) t.val true).run Try.prog W = .ok (.tuple #[.int .i64 (match posV t E with | some q => (q.2 : Int) | none => 0), .bool (posV t E).isSome]) W := by
  obtain ⟨es, clock, hb, he⟩ := h
  have hf := run_finding t ht W E es.toList he hk
  have hz : (zeroValue 3).run Try.prog W = .ok (.int .i64 0) W := by kernel_rfl
  cases hp : posV t E with
  | none =>
    rw [hp] at hf
    simp [Instr.lookup, run_underlying mapM, MapKept.run_getObj_map hb, dcheck t ht, hf, hz, Result.andThen]
  | some q =>
    rw [hp] at hf
    simp [Instr.lookup, run_underlying mapM, MapKept.run_getObj_map hb, dcheck t ht, hf, Result.andThen]
def putBlock (W : World) (m : Nat) (o : Obj) : World := { W with heap := W.heap.setIfInBounds m o }
theorem putBlock_at {W : World} {m : Nat} {o o' : Obj} (h : W.heap[m]? = some o) : (putBlock W m o').heap[m]? = some o' := by
  have hm := (Array.getElem?_eq_some_iff.1 h).1
  unfold putBlock
  simp [hm]
theorem putBlock_far {W : World} {m k : Nat} {o' : Obj} (h : k ≠ m) : (putBlock W m o').heap[k]? = W.heap[k]? := by
  unfold putBlock
  simp [Array.getElem?_setIfInBounds, Ne.symm h]
theorem Mp.put {W : World} {m : Nat} {E : List (Tm × Nat)} (h : Mp W m E) (hk : ∀ p ∈ E, p.1.kind < 3) (t : Tm) (ht : t.kind < 3) (hn : posV t E = none) (n : Nat) :
    ∃ o, (Instr.mapUpdate 75 (.map (some m)) t.val (.int .i64 n)).run Try.prog W = .ok () (putBlock W m o) ∧ Mp (putBlock W m o) m (E ++ [(t, n)]) := by
  obtain ⟨es, clock, hb, he⟩ := h
  have hf := run_finding t ht W E es.toList he hk
  rw [hn] at hf
  refine ⟨.map (es.push { key := t.val, val := .int .i64 n, born := clock }) (clock + 1), ?_, ?_⟩
  · simp [Instr.mapUpdate, run_underlying mapM, MapKept.run_getObj_map hb, dcheck t ht, hf, MapKept.run_setObj_map _ hb, Result.andThen, putBlock]
  · refine ⟨_, _, putBlock_at hb, ?_⟩
    simp [he, cellE]
theorem Mp.drop {W : World} {m : Nat} {E : List (Tm × Nat)} (h : Mp W m E) (hk : ∀ p ∈ E, p.1.kind < 3) (t : Tm) (ht : t.kind < 3) (j n : Nat) (hn : posV t E = some (j, n)) (hj : j < E.length) (ty : TypeId) :
    ∃ o, (Builtin.delete_ #[75, 41] ty #[.map (some m), t.val]).run Try.prog W = .ok (.tuple #[]) (putBlock W m o) ∧ Mp (putBlock W m o) m (E.eraseIdx j) := by
  obtain ⟨es, clock, hb, he⟩ := h
  have hf := run_finding t ht W E es.toList he hk
  rw [hn] at hf
  refine ⟨.map (es.eraseIdxIfInBounds j) clock, ?_, ?_⟩
  · simp [Builtin.delete_, run_underlying mapM, MapKept.run_getObj_map hb, dcheck t ht, hf, MapKept.run_setObj_map _ hb, Result.andThen, putBlock]
  · refine ⟨_, _, putBlock_at hb, ?_⟩
    have hl : es.size = E.length := by have := congrArg List.length he; simpa using this
    have hsub : (es.eraseIdxIfInBounds j).toList = es.toList.eraseIdx j := by
      unfold Array.eraseIdxIfInBounds
      rw [dif_pos (by omega)]
      simp
    rw [hsub]
    have e1 : ∀ {α β : Type} (f : α → β) (l : List α) (i : Nat), (l.eraseIdx i).map f = (l.map f).eraseIdx i := fun f l i => by
      induction l generalizing i with
      | nil => rfl
      | cons a l ih => cases i with
        | zero => rfl
        | succ i => simp [ih]
    rw [e1, e1, he]
end Go.Proofs.Ytehechbiajbobaa

/-
  A DICTIONARY IN MEMORY: its struct, its list, its map.
-/
namespace Go.Proofs.Ytehechbiajbobaa
open Go.RowKit
set_option linter.unusedVariables false
set_option linter.unusedSimpArgs false
set_option maxRecDepth 100000

/-- The number of a term among terms: its first place. -/
def nm (t : Tm) : List Tm → Option Nat
  | [] => none
  | u :: l => if sameB t u = true then some 0 else (nm t l).map (· + 1)
theorem posV_zip (t : Tm) : ∀ (L : List Tm) (k : Nat), posV t (L.zipIdx k) = (nm t L).map fun j => (j, k + j)
  | [], k => rfl
  | u :: l, k => by
    rw [List.zipIdx_cons]
    unfold posV nm
    dsimp only
    by_cases h : sameB t u = true
    · rw [if_pos h, if_pos h]; rfl
    · rw [if_neg h, if_neg h, posV_zip t l (k + 1)]
      cases nm t l with
      | none => rfl
      | some j => simp; omega
theorem nm_some {t : Tm} : ∀ {L : List Tm} {j : Nat}, nm t L = some j → L[j]? = some t ∧ ∀ i, i < j → ∀ u, L[i]? = some u → sameB t u = false
  | [], j, h => by cases h
  | u :: l, j, h => by
    unfold nm at h
    by_cases hb : sameB t u = true
    · rw [if_pos hb] at h
      obtain rfl : 0 = j := Option.some.inj h
      exact ⟨by rw [d_eq hb]; rfl, fun i hi => by omega⟩
    · rw [if_neg hb] at h
      cases hn : nm t l with
      | none => rw [hn] at h; cases h
      | some q =>
        rw [hn] at h
        obtain rfl : q + 1 = j := Option.some.inj h
        obtain ⟨h1, h2⟩ := nm_some hn
        refine ⟨h1, fun i hi v hv => ?_⟩
        cases i with
        | zero => obtain rfl : u = v := Option.some.inj hv; exact Bool.not_eq_true _ ▸ hb
        | succ i => exact h2 i (by omega) v hv
theorem nm_none {t : Tm} : ∀ {L : List Tm}, nm t L = none → ∀ u ∈ L, sameB t u = false
  | [], _, u, hu => by cases hu
  | x :: l, h, u, hu => by
    unfold nm at h
    by_cases hb : sameB t x = true
    · rw [if_pos hb] at h; cases h
    · rw [if_neg hb] at h
      have hn : nm t l = none := by
        cases hq : nm t l with
        | none => rfl
        | some q => rw [hq] at h; cases h
      rcases List.mem_cons.1 hu with rfl | hu
      · exact Bool.not_eq_true _ ▸ hb
      · exact nm_none hn u hu
theorem nm_fresh {t : Tm} {L : List Tm} (h : nm t L = none) (ht : t.kind < 3) : t ∉ L := fun hm => by
  have := nm_none h t hm
  rw [d_refl ht] at this
  cases this
theorem nm_lt {t : Tm} {L : List Tm} {j : Nat} (h : nm t L = some j) : j < L.length := (List.getElem?_eq_some_iff.1 (nm_some h).1).1
/-- All kinds are such as there are. -/
def Ks (L : List Tm) : Prop := ∀ t ∈ L, t.kind < 3
theorem Ks.snoc {L : List Tm} {t : Tm} (h : Ks L) (ht : t.kind < 3) : Ks (L ++ [t]) := fun u hu => by
  rcases List.mem_append.1 hu with hu | hu
  · exact h u hu
  · simp at hu; subst hu; exact ht
theorem Ks.zip {L : List Tm} (h : Ks L) : ∀ p ∈ L.zipIdx, p.1.kind < 3 := fun p hp => by
  obtain ⟨a, b⟩ := p
  exact h a (List.mem_of_getElem? (List.mem_zipIdx_iff_getElem?.1 hp))
theorem termInfo : (Try.prog.info? 41).map (fun i => (i.zero, i.size, i.bytes)) = some (some .nilIface, 1, 16) := by kernel_rfl
structure Dc (B d m : Nat) (room : Int) (v : Value) (L : List Tm) (W : World) : Prop where
  st : Fb W d 78 #[.int .i64 room, v, .map (some m)]
  row : W.ownsRow B 41 1 v L.length (L.map Tm.val)
  mp : Mp W m L.zipIdx
  gd : B ≤ d
  gm : B ≤ m
  ks : Ks L
  nd : L.Nodup
/-- What a call on a dictionary may turn: its blocks, and new ones. -/
structure Tn (d m : Nat) (v v' : Value) (W W' : World) : Prop where
  os : W'.os = W.os
  tape : W'.tape = W.tape
  output : W'.output = W.output
  size : W.heap.size ≤ W'.heap.size
  far : ∀ k, v'.ownBlock = some k → v.ownBlock = some k ∨ W.heap.size ≤ k
  block : ∀ k, k < W.heap.size → k ≠ d → k ≠ m → v.ownBlock ≠ some k → W'.heap[k]? = W.heap[k]?
theorem Mp.lt {W : World} {m : Nat} {E : List (Tm × Nat)} (h : Mp W m E) : m < W.heap.size := by
  obtain ⟨es, c, hb, _⟩ := h
  exact (Array.getElem?_eq_some_iff.1 hb).1
theorem Mp.of {W W' : World} {m : Nat} {E : List (Tm × Nat)} (h : Mp W m E) (hb : W'.heap[m]? = W.heap[m]?) : Mp W' m E := by
  obtain ⟨es, c, h1, h2⟩ := h
  exact ⟨es, c, hb.trans h1, h2⟩
theorem Mp.ne {W : World} {m g : Nat} {E : List (Tm × Nat)} {cs : Array Value} {t : TypeId} {fr : Nat × Nat} (h : Mp W m E) (hg : W.heap[g]? = some (.cells cs t fr)) : g ≠ m := by
  intro e
  obtain ⟨es, c, h1, _⟩ := h
  rw [e, h1] at hg
  cases hg
section
variable {B d m : Nat} {room : Int} {v : Value} {L : List Tm}
theorem Dc.shape {W : World} (h : Dc B d m room v L W) : ∃ A c, v = .slice A L.length c := by
  rcases id h.row.2 with ⟨hv, hl⟩ | ⟨g, cap, cur, hv, _⟩
  · exact ⟨none, 0, by rw [hv, hl]⟩
  · exact ⟨_, cap, hv⟩
theorem Dc.row_ge {W : World} (h : Dc B d m room v L W) {k : Nat} (hk : v.ownBlock = some k) : B ≤ k ∧ k < W.heap.size := World.ownsRow.lt h.row k hk
theorem Dc.row_block {W : World} (h : Dc B d m room v L W) {k : Nat} (hk : v.ownBlock = some k) : ∃ cur, W.heap[k]? = some (.cells cur 41 (0, 0)) := by
  rcases id h.row.2 with ⟨hv, _⟩ | ⟨g, cap, cur, hv, _, hg, _⟩
  · rw [hv] at hk; cases hk
  · rw [hv] at hk
    obtain rfl : g = k := Option.some.inj hk
    exact ⟨cur, hg⟩
theorem d_grown_set (w : World) (b i : Nat) (u : Value) : w.grownBy (w.setCell ⟨b, i, none⟩ u) (some b) := ⟨rfl, rfl, rfl, by simp [World.setCell], fun k _ hk => Below.heap_setCell _ _ _ _ (fun e => hk (by simp [e]))⟩
theorem dict_ne : 78 ≠ 41 := by decide
theorem Dc.row_d {W : World} (h : Dc B d m room v L W) : v.ownBlock ≠ some d := fun e => by
  obtain ⟨cur, hc⟩ := h.row_block e
  have := h.st
  unfold Fb at this
  rw [hc] at this
  injection this with this
  injection this with _ this
  exact dict_ne this.symm
theorem Dc.row_m {W : World} (h : Dc B d m room v L W) : v.ownBlock ≠ some m := fun e => by
  obtain ⟨cur, hc⟩ := h.row_block e
  exact h.mp.ne hc rfl
theorem Dc.d_m {W : World} (h : Dc B d m room v L W) : d ≠ m := h.mp.ne h.st
theorem Dc.below {W W' : World} (h : Dc B d m room v L W) (hb : Below W.heap.size W W') : Dc B d m room v L W' :=
  ⟨h.st.below hb, by
    refine ⟨h.row.1, ?_⟩
    rcases id h.row.2 with hn | ⟨g, cap, cur, hv, hge, hg, rest⟩
    · exact .inl hn
    · exact .inr ⟨g, cap, cur, hv, hge, (hb.block g (Array.getElem?_eq_some_iff.1 hg).1).trans hg, rest⟩, h.mp.of (hb.block m h.mp.lt), h.gd, h.gm, h.ks, h.nd⟩
theorem Dc.alloc {W : World} (h : Dc B d m room v L W) (o : Obj) : Dc B d m room v L (W.alloc o) := h.below ((Below.refl _ _).alloc (Nat.le_refl _) o)
theorem Dc.drew {W : World} (h : Dc B d m room v L W) : Dc B d m room v L W.drew := ⟨h.st, h.row, h.mp, h.gd, h.gm, h.ks, h.nd⟩
theorem Dc.mono {B' : Nat} {W : World} (h : Dc B d m room v L W) (hB : B' ≤ B) : Dc B' d m room v L W :=
  ⟨h.st, by
    refine ⟨h.row.1, ?_⟩
    rcases id h.row.2 with hn | ⟨g, cap, cur, hv, hge, rest⟩
    · exact .inl hn
    · exact .inr ⟨g, cap, cur, hv, Nat.le_trans hB hge, rest⟩, h.mp, Nat.le_trans hB h.gd, Nat.le_trans hB h.gm, h.ks, h.nd⟩
/-- A row of another type is written. -/
theorem Dc.grown {W W' : World} (h : Dc B d m room v L W) {B' : Nat} {ty : TypeId} {z n : Nat} {u : Value} {xs : List Value} (hr : W.ownsRow B' ty z u n xs) (hg : W.grownBy W' u.ownBlock) (h1 : ty ≠ 78) (h2 : ty ≠ 41) : Dc B d m room v L W' := by
  have hne : ∀ k cs t fr, W.heap[k]? = some (.cells cs t fr) → t ≠ ty → some k ≠ u.ownBlock := fun k cs t fr hk ht e => by
    rcases id hr.2 with ⟨hv, _⟩ | ⟨g, cap, cur, hv, _, hgg, _⟩
    · rw [hv] at e; cases e
    · rw [hv] at e
      obtain rfl : k = g := Option.some.inj e
      rw [hk] at hgg
      injection hgg with hgg
      injection hgg with _ hgg
      exact ht hgg
  refine ⟨(hg.block d h.st.lt (hne d _ _ _ h.st h1.symm)).trans h.st, h.row.kept hg ?_, h.mp.of (hg.block m h.mp.lt (fun e => ?_)), h.gd, h.gm, h.ks, h.nd⟩
  · cases hv : v.ownBlock with
    | none => exact .inl rfl
    | some k =>
      right
      obtain ⟨cur, hc⟩ := h.row_block hv
      exact hne k _ _ _ hc h2.symm
  · rcases id hr.2 with ⟨hv, _⟩ | ⟨g, cap, cur, hv, _, hgg, _⟩
    · rw [hv] at e; cases e
    · rw [hv] at e
      obtain rfl : m = g := Option.some.inj e
      exact h.mp.ne hgg rfl
/-- What a dictionary's cells are. -/
theorem Dc.cells {W : World} (h : Dc B d m room v L W) : W.cell? ⟨d, 0, none⟩ = some (.int .i64 room) ∧ W.cell? ⟨d, 1, none⟩ = some v ∧ W.cell? ⟨d, 2, none⟩ = some (.map (some m)) := ⟨h.st.cell 0, h.st.cell 1, h.st.cell 2⟩
theorem Dc.term {W : World} (h : Dc B d m room v L W) {i : Nat} {t : Tm} (hi : L[i]? = some t) : ∃ g cap, v = .slice (some ⟨g, 0, none⟩) L.length cap ∧ W.cell? ⟨g, i, none⟩ = some t.val := by
  rcases id h.row.2 with ⟨hv, hl⟩ | ⟨g, cap, cur, hv, _⟩
  · have := (List.getElem?_eq_some_iff.1 hi).1
    omega
  · refine ⟨g, cap, hv, ?_⟩
    have := World.ownsRow.cells h.row (g := g) (by rw [hv]; rfl) i t.val (by rw [List.getElem?_map, hi]; rfl)
    by_cases h0 : i = 0
    · subst h0; simpa [Addr.add] using this
    · simpa [Addr.add, h0] using this
theorem Tn.refl (W : World) : Tn d m v v W W := ⟨rfl, rfl, rfl, Nat.le_refl _, fun k h => .inl h, fun _ _ _ _ _ => rfl⟩
theorem Tn.of {W W' : World} (hb : Below W.heap.size W W') : Tn d m v v W W' := ⟨hb.os, hb.tape, hb.output, hb.size, fun k h => .inl h, fun k hk _ _ _ => hb.block k hk⟩
theorem Tn.trans {v1 v2 : Value} {W W1 W2 : World} (h : Tn d m v v1 W W1) (k : Tn d m v1 v2 W1 W2) : Tn d m v v2 W W2 :=
  ⟨k.os.trans h.os, k.tape.trans h.tape, k.output.trans h.output, Nat.le_trans h.size k.size, fun j hj => by
    rcases k.far j hj with x | x
    · exact h.far j x
    · exact .inr (Nat.le_trans h.size x), fun j hj hd hm hv => by
    refine (k.block j (Nat.lt_of_lt_of_le hj h.size) hd hm fun e => ?_).trans (h.block j hj hd hm hv)
    rcases h.far j e with x | x
    · exact hv x
    · omega⟩
/-- Whatever lies below the dictionary stays. -/
theorem Tn.below {v' : Value} {W0 W W' : World} (h : Tn d m v v' W W') (hd : Dc B d m room v L W) (h0 : Below B W0 W) : Below B W0 W' :=
  ⟨h.os.trans h0.os, h.tape.trans h0.tape, h.output.trans h0.output, Nat.le_trans h0.size h.size, fun k hk => by
    have h1 := hd.gd
    have h2 := hd.gm
    have h3 := hd.st.lt
    refine (h.block k (by omega) (by omega) (by omega) fun e => ?_).trans (h0.block k hk)
    have := (hd.row_ge e).1
    omega⟩
/-- So do blocks of other types. -/
theorem Tn.cells {v' : Value} {W W' : World} (h : Tn d m v v' W W') (hd : Dc B d m room v L W) {k : Nat} {cs : Array Value} {ty : TypeId} {fr : Nat × Nat} (hk : W.heap[k]? = some (.cells cs ty fr)) (h1 : ty ≠ 78) (h2 : ty ≠ 41) : W'.heap[k]? = some (.cells cs ty fr) := by
  refine (h.block k (Array.getElem?_eq_some_iff.1 hk).1 (fun e => ?_) (hd.mp.ne hk) (fun e => ?_)).trans hk
  · have := hd.st
    unfold Fb at this
    rw [← e, hk] at this
    injection this with this
    injection this with _ this
    exact h1 this
  · obtain ⟨cur, hc⟩ := hd.row_block e
    rw [hk] at hc
    injection hc with hc
    injection hc with _ hc
    exact h2 hc
theorem Tn.fb {v' : Value} {W W' : World} (h : Tn d m v v' W W') (hd : Dc B d m room v L W) {k : Nat} {cs : Array Value} {ty : TypeId} (hk : Fb W k ty cs) (h1 : ty ≠ 78) (h2 : ty ≠ 41) : Fb W' k ty cs := h.cells hd hk h1 h2
theorem Tn.row {v' : Value} {W W' : World} (h : Tn d m v v' W W') (hd : Dc B d m room v L W) {B' : Nat} {ty : TypeId} {z n : Nat} {u : Value} {xs : List Value} (hr : W.ownsRow B' ty z u n xs) (h1 : ty ≠ 78) (h2 : ty ≠ 41) : W'.ownsRow B' ty z u n xs := by
  refine ⟨hr.1, ?_⟩
  rcases id hr.2 with hn | ⟨g, cap, cur, hv, hge, hg, rest⟩
  · exact .inl hn
  · exact .inr ⟨g, cap, cur, hv, hge, h.cells hd hg h1 h2, rest⟩
end
end Go.Proofs.Ytehechbiajbobaa

/-
  A DICTIONARY's CALLS: Len, has, Term.
-/
namespace Go.Proofs.Ytehechbiajbobaa
open Go.RowKit
set_option linter.unusedVariables false
set_option linter.unusedSimpArgs false
set_option maxRecDepth 100000

section
variable {B d m : Nat} {room : Int} {v : Value} {L : List Tm}
theorem dlen_any {W : World} (h : Dc B d m room v L W) (hl : L.length ≤ 100000) : Calls Try.prog 25 #[.pointer (some ⟨d, 0, none⟩)] W fun e w' => e = .returned (.int .i64 L.length) ∧ w' = W := by
  obtain ⟨A, c, rfl⟩ := h.shape
  obtain ⟨c0, c1, c2⟩ := h.cells
  clear h
  go_enter Try.func25, Try.ntmps25
  go_wp2
  go_ret
  exact ⟨rfl, rfl⟩
def hasB (L : List Tm) (n : Int) : Bool := decide (0 ≤ n) && decide (n < L.length)
theorem dhas_any {W : World} (h : Dc B d m room v L W) (hl : L.length ≤ 100000) (n : Int) : Calls Try.prog 29 #[.pointer (some ⟨d, 0, none⟩), .int .i64 n] W fun e w' => e = .returned (.bool (hasB L n)) ∧ w' = W := by
  have cL := dlen_any h hl
  unfold hasB
  by_cases h0 : 0 ≤ n
  · have e1 : decide (0 ≤ n) = true := decide_eq_true h0
    rw [e1]
    clear h
    go_enter Try.func29, Try.ntmps29
    go_wp2_with (go_at_call 25; (with_reducible refine cL.mono ?_); rintro e w1 ⟨rfl, rfl⟩)
    go_ret
    exact ⟨rfl, rfl⟩
  · have e1 : decide (0 ≤ n) = false := decide_eq_false h0
    rw [e1]
    clear h cL
    go_enter Try.func29, Try.ntmps29
    go_wp2
    go_ret
    exact ⟨rfl, rfl⟩
theorem hasB_iff {n : Int} : hasB L n = true ↔ 0 ≤ n ∧ n < L.length := by unfold hasB; simp
theorem dterm_none {W : World} (h : Dc B d m room v L W) (hl : L.length ≤ 100000) (n : Int) (hn : hasB L n = false) : Calls Try.prog 13 #[.pointer (some ⟨d, 0, none⟩), .int .i64 n] W fun e w' => e = .returned (.tuple #[.nilIface, .int .i64 4]) ∧ w' = W := by
  have cH := dhas_any h hl n
  rw [hn] at cH
  clear h hn
  go_enter Try.func13, Try.ntmps13
  go_wp2_with (go_at_call 29; (with_reducible refine cH.mono ?_); rintro e w1 ⟨rfl, rfl⟩)
  go_ret2
  exact ⟨rfl, rfl⟩
theorem dterm_some {W : World} (h : Dc B d m room v L W) (hl : L.length ≤ 100000) (i : Nat) (t : Tm) (hi : L[i]? = some t) : Calls Try.prog 13 #[.pointer (some ⟨d, 0, none⟩), .int .i64 i] W fun e w' => e = .returned (.tuple #[t.val, .int .i64 0]) ∧ w' = W := by
  have hil := (List.getElem?_eq_some_iff.1 hi).1
  have cH := dhas_any h hl i
  rw [show hasB L i = true from hasB_iff.2 ⟨by omega, by omega⟩] at cH
  obtain ⟨g, c, rfl, hc⟩ := h.term hi
  obtain ⟨c0, c1, c2⟩ := h.cells
  have k1 : (0 : Int) ≤ (i : Int) := by omega
  have k2 : (i : Int) < (L.length : Int) := by omega
  obtain ⟨tv, htv⟩ : ∃ x, x = t.val := ⟨_, rfl⟩
  rw [← htv] at hc ⊢
  clear h htv hi hil
  go_enter Try.func13, Try.ntmps13
  go_wp2_with (go_at_call 29; (with_reducible refine cH.mono ?_); rintro e w1 ⟨rfl, rfl⟩)
  go_ret2
  exact ⟨rfl, rfl⟩
end
end Go.Proofs.Ytehechbiajbobaa
