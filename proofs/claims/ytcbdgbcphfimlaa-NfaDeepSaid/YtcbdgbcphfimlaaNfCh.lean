/-
  PATHS OF ONE PART WITHIN ANOTHER, in memory.
-/
import Derived.Test.YtcbdgbcphfimlaaBgMap
namespace Go.Proofs.Ytcbdgbcphfimlaa
open Go.RowKit
set_option linter.unusedVariables false
set_option linter.unusedSimpArgs false
set_option maxRecDepth 100000

structure Pa where
  kd : Int
  n : Int
  s : Value
def Pa.cs (p : Pa) : Array Value := #[.int .i64 p.kd, .int .i64 p.n, p.s]
/-- The kinds of a path, from the outermost one on, and its step's number. -/
def Chn (W : World) (N : Int) : List Int → Pa → Prop
  | [], p => p.kd = 0 ∧ p.n = N ∧ p.s = .slice none 0 0
  | k :: ks, p => p.kd = k ∧ p.n = 0 ∧ ∃ b q, p.s = .slice (some ⟨b, 0, none⟩) 1 1 ∧ Fb W b 28 q.cs ∧ Chn W N ks q
theorem Chn.below {W W' : World} {N : Int} (hb : Below W.heap.size W W') : ∀ {ks : List Int} {p : Pa}, Chn W N ks p → Chn W' N ks p
  | [], _, h => h
  | k :: ks, p, ⟨h1, h2, b, q, h3, h4, h5⟩ => ⟨h1, h2, b, q, h3, h4.below hb, Chn.below hb h5⟩
/-- Kinds that have one part. -/
def Kd (ks : List Int) : Prop := ∀ k ∈ ks, 2 ≤ k ∧ k ≤ 6
/-- Has it no symbols' word? -/
def emC : List Int → Bool
  | [] => false
  | k :: ks => if k = 4 ∨ k = 6 then true else emC ks
/-- Is it gone again? -/
def lpC : List Int → Bool
  | [] => false
  | k :: ks => if k = 4 ∨ k = 5 then true else lpC ks
theorem Chn.shape {W : World} {N : Int} : ∀ {ks : List Int} {p : Pa}, Chn W N ks p → ∃ A, p.s = .slice A (if ks = [] then 0 else 1) (if ks = [] then 0 else 1)
  | [], p, h => ⟨none, h.2.2⟩
  | k :: ks, p, ⟨_, _, b, q, h3, _⟩ => ⟨_, h3⟩
def ptE (o : Option Nat) : Value := .pointer (o.map fun b => ⟨b, 0, none⟩)
def idE (v : Value) : Value := v
theorem mapP : Try.prog.underlying 101 = some (.map 112 26) := by kernel_rfl
theorem ckP (o : Option Nat) (em : Bool) (w : World) : (Instr.checkKey em 10000 112 (ptE o)).run Try.prog w = .ok () w := by
  cases o <;> kernel_rfl
theorem uP : ∃ e, Try.prog.underlying 112 = some (.pointer e) := ⟨_, Try.underlying112⟩
/-- A look-up in a map without entries. -/
theorem look0 {W : World} {m : Nat} (h : Mq ptE idE W m []) (o : Option Nat) : (Instr.lookup 101 (.map (some m)) (ptE o) false).run Try.prog W = .ok (.slice none 0 0) W := by
  obtain ⟨es, clock, hb, he, _⟩ := h
  have hes : es = #[] := by
    have : es.toList = [] := List.map_eq_nil_iff.1 he
    exact Array.toList_eq_nil_iff.1 this
  subst hes
  obtain ⟨e, hu⟩ := uP
  have hz : (zeroValue 26).run Try.prog W = .ok (.slice none 0 0) W := by kernel_rfl
  have hc := ckP o
  simp [Instr.lookup, run_underlying mapP, MapKept.run_getObj_map hb, hc, Instr.findKey, run_underlying hu, Instr.findNow, hz, Result.andThen]
/-- An entry laid into a map without entries. -/
theorem put0 {W : World} {m : Nat} (h : Mq ptE idE W m []) (o : Option Nat) (v : Value) : ∃ ob, (Instr.mapUpdate 101 (.map (some m)) (ptE o) v).run Try.prog W = .ok () (putBlock W m ob) ∧ ∀ W2 : World, m < W2.heap.size → Mq ptE idE (putBlock W2 m ob) m [(o, v)] := by
  obtain ⟨es, clock, hb, he, _⟩ := h
  have hes : es = #[] := by
    have : es.toList = [] := List.map_eq_nil_iff.1 he
    exact Array.toList_eq_nil_iff.1 this
  subst hes
  obtain ⟨e, hu⟩ := uP
  have hc := ckP o
  refine ⟨.map #[{ key := ptE o, val := v, born := clock }] (clock + 1), ?_, fun W2 hm => ⟨_, _, putBlock_at (Array.getElem?_eq_getElem hm), ?_, ?_, ?_⟩⟩
  · simp [Instr.mapUpdate, run_underlying mapP, MapKept.run_getObj_map hb, hc, Instr.findKey, run_underlying hu, Instr.findNow, MapKept.run_setObj_map _ hb, Result.andThen, putBlock]
  · simp [kv, ce, idE]
  · simp
  · intro x hx
    simp at hx
    subst hx
    exact Nat.lt_succ_self _
theorem lenP {W : World} {m : Nat} {E : List (Option Nat × Value)} (h : Mq ptE idE W m E) (ty : TypeId) : (Builtin.len_ #[101] ty #[.map (some m)]).run Try.prog W = .ok (.int .i64 (E.length : Int)) W := by
  obtain ⟨es, c, hb, he⟩ := h.len
  simp [Builtin.len_, run_underlying mapP, MapKept.run_getObj_map hb, goInt, Result.andThen, he]
theorem mkMapP (w : World) : (Instr.makeMap 101 none).run Try.prog w = .ok (.map (some w.heap.size)) (w.alloc (.map #[] 0)) := by
  first | rfl | kernel_rfl | simp [Instr.makeMap]
end Go.Proofs.Ytcbdgbcphfimlaa
