/-
  A BAG IN MEMORY: its struct, its map of times, each time's map of keys, its row of times.
-/
import Derived.Test.YtncnoilldlnpoaaBgKey
namespace Go.Proofs.Ytncnoilldlnpoaa
open Go.RowKit
set_option linter.unusedVariables false
set_option linter.unusedSimpArgs false
set_option maxRecDepth 100000

def nE (n : Nat) : Value := .int .i64 (n : Int)
theorem zeroN (w : World) : (zeroValue 3).run Try.prog w = .ok (nE 0) w := by kernel_rfl
/-- A time, where its keys are, and how often each. -/
structure Tz where
  t : Int
  b : Nat
  l : List (Ky × Nat)
def cntK (l : List (Ky × Nat)) (k : Ky) : Nat := (getM k l).getD 0
def sumN (l : List (Ky × Nat)) : Nat := (l.map (·.2)).sum
/-- Times as they lie. -/
def TsA (W : World) (v : Value) (ts : List Int) : Prop :=
  (v = .slice none 0 0 ∧ ts = []) ∨ ∃ g off c cs, v = .slice (some ⟨g, off, none⟩) ts.length c ∧ Fb W g 3 cs ∧ ts.length ≤ c ∧ ts.length ≤ 100000 ∧ c ≤ 9223372036854775807 ∧ ∀ j x, ts[j]? = some x → cs[off + j]? = some (iE x)
theorem TsA.len {W : World} {v : Value} {ts : List Int} (h : TsA W v ts) : ts.length ≤ 100000 := by
  rcases h with ⟨_, rfl⟩ | ⟨g, off, c, cs, _, _, h1, h2, _⟩
  · simp
  · exact h2
def vB : Value → Option Nat
  | .slice (some a) _ _ => some a.block
  | _ => none
theorem TsA.of {W W' : World} {v : Value} {ts : List Int} (h : TsA W v ts) (hk : ∀ q, vB v = some q → W'.heap[q]? = W.heap[q]?) : TsA W' v ts := by
  rcases h with ⟨h1, h2⟩ | ⟨g, off, c, cs, rfl, h2, h3⟩
  · exact .inl ⟨h1, h2⟩
  · exact .inr ⟨g, off, c, cs, rfl, (hk g rfl).trans h2, h3⟩
/-- A bag's blocks. -/
def Fp (d am : Nat) (v : Value) (D : List Tz) (q : Nat) : Prop := q = d ∨ q = am ∨ vB v = some q ∨ ∃ z ∈ D, q = z.b
/-- A bag in memory. -/
structure Bk (B d : Nat) (room : Int) (v : Value) (am : Nat) (D : List Tz) (M : List (Int × Ky)) (W : World) : Prop where
  st : Fb W d 48 #[.int .i64 room, .int .i64 M.length, .map (some am), v]
  mo : ∃ E, Mq iE mE W am E ∧ E.Perm (D.map fun z => (z.t, z.b))
  mi : ∀ z ∈ D, Mq kE nE W z.b z.l
  ts : TsA W v (D.map (·.t))
  so : (D.map (·.t)).Pairwise (· < ·)
  un : (D.map (·.b)).Nodup
  ne : ∀ z ∈ D, z.b ≠ am
  ge : ∀ q, Fp d am v D q → B ≤ q
  lt : ∀ q, Fp d am v D q → q < W.heap.size
  vd : vB v ≠ some d
  cn : ∀ z ∈ D, ∀ k, cntK z.l k = M.count (z.t, k)
  sm : ∀ z ∈ D, sumN z.l = M.countP (fun x => decide (x.1 = z.t))
  nd : ∀ z ∈ D, (z.l.map (·.1)).Nodup
  ps : ∀ z ∈ D, ∀ p ∈ z.l, 0 < p.2
  al : ∀ x ∈ M, x.1 ∈ D.map (·.t)
section
variable {B d am : Nat} {room : Int} {v : Value} {D : List Tz} {M : List (Int × Ky)} {W W' : World}
theorem Bk.of (h : Bk B d room v am D M W) (hk : ∀ q, Fp d am v D q → W'.heap[q]? = W.heap[q]?) : Bk B d room v am D M W' where
  st := (hk d (.inl rfl)).trans h.st
  mo := by
    obtain ⟨E, h1, h2⟩ := h.mo
    exact ⟨E, h1.of (hk am (.inr (.inl rfl))), h2⟩
  mi z hz := (h.mi z hz).of (hk z.b (.inr (.inr (.inr ⟨z, hz, rfl⟩))))
  ts := h.ts.of fun q hq => hk q (.inr (.inr (.inl hq)))
  so := h.so
  un := h.un
  ne := h.ne
  ge := h.ge
  lt q hq := by
    have := h.lt q hq
    have e := hk q hq
    rw [Array.getElem?_eq_getElem this] at e
    exact (Array.getElem?_eq_some_iff.1 e).1
  vd := h.vd
  cn := h.cn
  sm := h.sm
  nd := h.nd
  ps := h.ps
  al := h.al
theorem Bk.below (h : Bk B d room v am D M W) (hb : Below W.heap.size W W') : Bk B d room v am D M W' := h.of fun q hq => hb.block q (h.lt q hq)
end
/-- What a bag's call turns: its own blocks. -/
structure Ch (F : Nat → Prop) (W W' : World) : Prop where
  os : W'.os = W.os
  tape : W'.tape = W.tape
  output : W'.output = W.output
  size : W.heap.size ≤ W'.heap.size
  far : ∀ q, q < W.heap.size → ¬ F q → W'.heap[q]? = W.heap[q]?
section
variable {F G : Nat → Prop} {B : Nat} {W W0 W1 W' : World}
theorem Ch.refl (F : Nat → Prop) (W : World) : Ch F W W := ⟨rfl, rfl, rfl, Nat.le_refl _, fun _ _ _ => rfl⟩
theorem Ch.of (h : Below W.heap.size W W') : Ch F W W' := ⟨h.os, h.tape, h.output, h.size, fun q hq _ => h.block q hq⟩
theorem Ch.trans (h : Ch F W W1) (k : Ch G W1 W') (hG : ∀ q, G q → F q ∨ W.heap.size ≤ q) : Ch F W W' :=
  ⟨k.os.trans h.os, k.tape.trans h.tape, k.output.trans h.output, Nat.le_trans h.size k.size, fun q hq hf =>
    (k.far q (Nat.lt_of_lt_of_le hq h.size) fun hg => (hG q hg).elim hf fun h => by omega).trans (h.far q hq hf)⟩
theorem Ch.below (h : Ch F W W') (hF : ∀ q, F q → B ≤ q) (hB : B ≤ W.heap.size) (hb : Below B W0 W) : Below B W0 W' :=
  ⟨h.os.trans hb.os, h.tape.trans hb.tape, h.output.trans hb.output, Nat.le_trans hb.size h.size, fun q hq =>
    (h.far q (by omega) fun hf => by have := hF q hf; omega).trans (hb.block q hq)⟩
theorem Ch.put {m : Nat} {o : Obj} (hm : F m) : Ch F W (putBlock W m o) := ⟨rfl, rfl, rfl, by rw [putBlock_size]; exact Nat.le_refl _, fun q _ hf => putBlock_far fun e => hf (e ▸ hm)⟩
theorem Ch.set {m i : Nat} {x : Value} (hm : F m) : Ch F W (W.setCell ⟨m, i, none⟩ x) := ⟨rfl, rfl, rfl, by simp, fun q _ hf => Below.heap_setCell _ _ _ _ fun e => hf (e ▸ hm)⟩
end
end Go.Proofs.Ytncnoilldlnpoaa
