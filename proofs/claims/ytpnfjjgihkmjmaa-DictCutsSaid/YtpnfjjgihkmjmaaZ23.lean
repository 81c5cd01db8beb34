/-
  MERGED (a claim has at most 60 files): NText, NPl, NArg.
-/
import Derived.Test.YtpnfjjgihkmjmaaZ22
import Derived.Test.YtpnfjjgihkmjmaaZ05
import Derived.Test.YtpnfjjgihkmjmaaRows
import Derived.Test.YtpnfjjgihkmjmaaZ07
import Derived.Test.YtpnfjjgihkmjmaaZ06
import Derived.WalkKit
import Derived.ProofKit
import Derived.OpenShut
import Derived.Deep.DeepHandedRow
import Derived.Lib.LaidTab
import Derived.MakeChecks
import Derived.Deep.LoopGhost
import Derived.BigCall
import Derived.Laws.Rows
import Derived.Laws.Concat
import Derived.Test.YtpnfjjgihkmjmaaZ19
import Derived.Test.YtpnfjjgihkmjmaaZ00
import Derived.Deep.Slices
import Derived.Lib.SmallJoins
/-
  A TERM's TEXT (package nt).
-/
namespace Go.Proofs.Ytpnfjjgihkmjmaa
open Go.RowKit
set_option linter.unusedVariables false
set_option linter.unusedSimpArgs false

theorem escS_six (n : Int) : (escS n).length ≤ 6 := by unfold escS; split <;> (try split) <;> simp
theorem body_six : ∀ l : List Int, (bodyS l).length ≤ 6 * l.length
  | [] => by simp [bodyS]
  | n :: l => by rw [bodyS_cons, List.length_append, List.length_cons]; have := escS_six n; have := body_six l; omega
theorem sg_small (s : ByteArray) : (sgP s).1.length ≤ s.size := by
  have h1 := (sgP_parts s).size
  have h2 := encL_len (sgP s).1
  omega
end Go.Proofs.Ytpnfjjgihkmjmaa

/-
  WHAT THE LAWS MAKE OF A TERM OF THE DOCUMENT's (becklaw04.Plain); a box; a scanner and a box.
-/
namespace Go.Proofs.Ytpnfjjgihkmjmaa
open Go.RowKit
set_option linter.unusedVariables false
set_option linter.unusedSimpArgs false

/-- The term that the law makes of one. -/
def pl3 (k : Int) (a b c : ByteArray) : Tm := if k % 18446744073709551616 % 3 = 0 then .blank a else if k % 18446744073709551616 % 3 = 1 then .iri a else .lit a b c
set_option maxHeartbeats 2000000 in
theorem plain3_any (k : Int) (hk : -9223372036854775808 ≤ k ∧ k ≤ 9223372036854775807) (a b c : ByteArray) (w : World) : Calls Try.prog 11 #[F4 k a b c] w fun e w' => e = .returned (T4 (pl3 k a b c)) ∧ Below w.heap.size w w' := by
  obtain ⟨r, hr⟩ : ∃ r, r = k % 18446744073709551616 % 3 := ⟨_, rfl⟩
  have h3 : r = 0 ∨ r = 1 ∨ r = 2 := by omega
  have hw : wrap64 ((IntKind.u64.wrap k).tmod 3) = r := by
    rw [show IntKind.u64.wrap k = k % 18446744073709551616 from rfl, Int.tmod_eq_emod_of_nonneg (by omega), ← hr]
    exact IntWalk.wrap64_in r ⟨by omega, by omega⟩
  unfold pl3
  rw [← hr]
  clear hr hk
  rcases h3 with rfl | rfl | rfl
  · rw [if_pos rfl]
    simp only [T4, Tm.kind, Tm.ta, Tm.tb, Tm.tc]
    go_enter Try.func11, Try.ntmps11
    go_wp2
    exact bodyPost_ret (v := F4 0 a mt mt) (by simp [results, Try.results11, go_sem]) rfl ⟨rfl, ((Below.refl _ _).alloc (Nat.le_refl _) _).alloc (by simp) _⟩
  · rw [if_neg (by decide), if_pos rfl]
    simp only [T4, Tm.kind, Tm.ta, Tm.tb, Tm.tc]
    go_enter Try.func11, Try.ntmps11
    go_wp2
    exact bodyPost_ret (v := F4 1 a mt mt) (by simp [results, Try.results11, go_sem]) rfl ⟨rfl, ((Below.refl _ _).alloc (Nat.le_refl _) _).alloc (by simp) _⟩
  · rw [if_neg (by decide), if_neg (by decide)]
    simp only [T4, Tm.kind, Tm.ta, Tm.tb, Tm.tc]
    go_enter Try.func11, Try.ntmps11
    go_wp2
    exact bodyPost_ret (v := F4 2 a b c) (by simp [results, Try.results11, go_sem]) rfl ⟨rfl, ((Below.refl _ _).alloc (Nat.le_refl _) _).alloc (by simp) _⟩
theorem pl3_small (k : Int) (a b c : ByteArray) : (pl3 k a b c).ta.size ≤ a.size ∧ (pl3 k a b c).tb.size ≤ b.size ∧ (pl3 k a b c).tc.size ≤ c.size := by
  unfold pl3
  split
  · exact ⟨Nat.le_refl _, Nat.zero_le _, Nat.zero_le _⟩
  split
  · exact ⟨Nat.le_refl _, Nat.zero_le _, Nat.zero_le _⟩
  · exact ⟨Nat.le_refl _, Nat.le_refl _, Nat.le_refl _⟩
theorem pl3_real (k : Int) (a b c : ByteArray) (w : World) : Calls Try.prog 12 #[T4 (pl3 k a b c)] w fun e w' => e = .returned (pl3 k a b c).val ∧ Below w.heap.size w w' := by
  apply real_any
  unfold pl3
  split
  · exact .inl rfl
  split
  · exact .inr (.inl rfl)
  · exact .inr (.inr (.inl rfl))
theorem pl3_val (k : Int) (a b c : ByteArray) : ∃ ty x, (pl3 k a b c).val = .iface ty x := by
  unfold pl3
  split
  · exact ⟨_, _, rfl⟩
  split
  · exact ⟨_, _, rfl⟩
  · exact ⟨_, _, rfl⟩
theorem tS_len (t : Tm) : (tS t).length ≤ 6 * t.ta.size + t.tb.size + t.tc.size + 8 := by
  cases t with
  | iri s => have := sg_small s; unfold tS; simp [Tm.ta, Tm.tb, Tm.tc]; omega
  | blank s => have := sg_small s; unfold tS; simp [Tm.ta, Tm.tb, Tm.tc]; omega
  | lit a b c =>
    have h1 := sg_small a
    have h2 := sg_small b
    have h3 := sg_small c
    have h4 := body_six (sgP a).1
    have h5 := quoS_len (sgP a).1
    unfold tS tailS
    simp only [Tm.ta, Tm.tb, Tm.tc, List.length_append]
    split
    · split
      · simp; omega
      · simp; omega
    · simp; omega
  | odd n => unfold tS; simp
  | none => unfold tS; simp
/-- A box, wherever. -/
def Ny (w : World) (g : Nat) (cs : Array Value) (W : World) : Prop := Below w.heap.size w W ∧ Fb W g 32 cs
section
variable {w : World} {g : Nat} {cs : Array Value}
theorem Ny.below {W W' : World} (h : Ny w g cs W) (hb : Below W.heap.size W W') : Ny w g cs W' := ⟨h.1.trans (hb.mono h.1.size), h.2.below hb⟩
theorem Ny.mk {W : World} (hb : Below w.heap.size w W) (cs : Array Value) : Ny w W.heap.size cs (W.alloc (.cells cs 32)) := ⟨hb.alloc hb.size _, Fb.new _ _ _⟩
theorem Ny.cells {x0 x1 x2 x3 : Value} {W : World} (h : Ny w g #[x0, x1, x2, x3] W) : W.cell? ⟨g, 0, none⟩ = some x0 ∧ W.cell? ⟨g, 1, none⟩ = some x1 ∧ W.cell? ⟨g, 2, none⟩ = some x2 ∧ W.cell? ⟨g, 3, none⟩ = some x3 := ⟨h.2.cell 0, h.2.cell 1, h.2.cell 2, h.2.cell 3⟩
theorem ny_of {W : World} {f : Nat} {args : Array Value} {y : Value} (h : Ny w g cs W) (k : Calls Try.prog f args W fun e w' => e = .returned y ∧ Below W.heap.size W w') :
    Calls Try.prog f args W fun e w' => e = .returned y ∧ Ny w g cs w' := k.mono fun _ _ ⟨x, z⟩ => ⟨x, h.below z⟩
end
section
variable {w : World} {b : Nat} {v : Value} {sl : List Int} {k g : Nat} {cs : Array Value}
end
end Go.Proofs.Ytpnfjjgihkmjmaa

/-
  A SLICE AS THE CALL GETS IT, CELL BY CELL; terms and triples of the document's, as they come.
-/
namespace Go.Proofs.Ytpnfjjgihkmjmaa
open Go.ChangeShapes Go.WideShapes Go.ChangeAt Go.RowKit
set_option linter.unusedVariables false
set_option maxRecDepth 100000

/-- A slice's elements, n cells each. -/
def SlAt (W : World) (A : Option Addr) (n : Nat) (l : List (List Value)) : Prop := ∀ (j : Nat) (cs : List Value), l[j]? = some cs → ∃ g o, A = some ⟨g, o, none⟩ ∧ g < W.heap.size ∧ ∀ (i : Nat) (v : Value), cs[i]? = some v → W.cell? ⟨g, o + j * n + i, none⟩ = some v
theorem SlAt.below {W W' : World} {A : Option Addr} {n : Nat} {l : List (List Value)} (h : SlAt W A n l) (hb : Below W.heap.size W W') : SlAt W' A n l := fun j cs hj => by
  obtain ⟨g, o, e, hg, hc⟩ := h j cs hj
  exact ⟨g, o, e, Nat.lt_of_lt_of_le hg hb.size, fun i v hv => (hb.cell (p := ⟨g, o + j * n + i, none⟩) hg).trans (hc i v hv)⟩
theorem at_add (g o j : Nat) : (⟨g, o, none⟩ : Addr).add j = ⟨g, o + j, none⟩ := by
  by_cases h : j = 0
  · subst h; simp [Addr.add]
  · simp [Addr.add, h]
theorem cells_map {α : Type} {p : α → Prop} {f : α → List Value} : ∀ l : List (List Value), (∀ cs ∈ l, ∃ t, p t ∧ cs = f t) → ∃ ts : List α, l = ts.map f ∧ ∀ t ∈ ts, p t
  | [], _ => ⟨[], rfl, fun t h => by cases h⟩
  | c :: l, h => by
    obtain ⟨t, h1, h2⟩ := h c List.mem_cons_self
    obtain ⟨ts, h3, h4⟩ := cells_map l fun cs hc => h cs (List.mem_cons_of_mem _ hc)
    refine ⟨t :: ts, by rw [h2, h3]; rfl, fun u hu => ?_⟩
    rcases List.mem_cons.1 hu with rfl | hu
    · exact h1
    · exact h4 u hu
section
variable {H : Type} {enc : TypeId × Value → H} {W : World}
theorem slice_opened {t e : TypeId} {n0 : Nat} {fuel : Nat} {v : Value} {y : DataW H × List MemPlace} (ht : Try.prog.underlying t = some (.slice e)) (hn : Try.prog.cellsOf e = n0) (hpos : 0 < n0)
    (h : DataW.trod enc Try.prog W 0 (fun _ => true) true fuel t [v] = some y) (hlt : ∀ z ∈ y.2, z.block < W.heap.size) :
    ∃ A l cap, v = .slice A (List.length (α := List Value) l) cap ∧ l.length ≤ cap ∧ cap ≤ maxLen ∧ SlAt W A n0 l ∧ ∀ cs ∈ l, ∃ fu z, DataW.trod enc Try.prog W 0 (fun _ => true) true fu e cs = some z := by
  rcases Go.Deep.open_slice ht h with ⟨hcs, hx⟩ | ⟨a, len, cap, m, n, D, Pl, hcs, _, hl, hm, hmm, hx, hi⟩
  · simp at hcs
    exact ⟨none, [], 0, hcs, Nat.le_refl _, by decide, fun j x hx => by simp at hx, fun cs h => by cases h⟩
  · simp at hcs
    simp only [if_true] at hmm
    rw [hn] at hx hi
    subst hmm
    by_cases h0 : len = 0
    · subst h0
      exact ⟨some a, [], m, hcs, by simp, hm, fun j x hx => by simp at hx, fun cs h => by cases h⟩
    · obtain ⟨g, o, spot⟩ := a
      obtain ⟨cs0, hc0, _⟩ := hi 0 (by omega)
      have hz := (World.cells?_some hc0).2.2 0 hpos
      have hl0 := (World.cells?_some hc0).2.1
      obtain ⟨u, hu⟩ : ∃ u, cs0[0]? = some u := ⟨_, List.getElem?_eq_getElem (by omega)⟩
      rw [hu] at hz
      have hspot : spot = none := by simpa [Addr.add] using World.cell?_spot hz
      subst hspot
      have hg : g < W.heap.size := hlt (.cell g o) (by rw [hx]; exact List.mem_append_left _ (MemPlace.mem_row.2 ⟨0, Nat.mul_pos (by omega) hpos, by simp⟩))
      have each : ∀ i, i < len → ∃ cs, (∀ (d : Nat) (v : Value), cs[d]? = some v → W.cell? ⟨g, o + i * n0 + d, none⟩ = some v) ∧ ∃ z, DataW.trod enc Try.prog W 0 (fun _ => true) true n e cs = some z := fun i him => by
        obtain ⟨cs', hc', ht'⟩ := hi i (by omega)
        rw [at_add] at hc'
        have hcl := (World.cells?_some hc').2.1
        refine ⟨cs', fun d v hv => ?_, _, ht'⟩
        have hd := (List.getElem?_eq_some_iff.1 hv).1
        have := (World.cells?_some hc').2.2 d (by omega)
        rw [at_add] at this
        rw [this, hv]
      obtain ⟨V, hV⟩ := Go.Deep.choose_lt (α := List Value) (p := fun i cs => (∀ (d : Nat) (v : Value), cs[d]? = some v → W.cell? ⟨g, o + i * n0 + d, none⟩ = some v) ∧ ∃ z, DataW.trod enc Try.prog W 0 (fun _ => true) true n e cs = some z) each
      refine ⟨some ⟨g, o, none⟩, (List.range len).map V, m, by rw [hcs]; simp, by simpa using hl, hm, fun j a ha => ?_, fun cs hcs => ?_⟩
      · have hj : j < len := by have := (List.getElem?_eq_some_iff.1 ha).1; simpa using this
        refine ⟨g, o, rfl, hg, ?_⟩
        rw [List.getElem?_map, List.getElem?_range hj] at ha
        obtain rfl : V j = a := by simpa using ha
        exact (hV j hj).1
      · obtain ⟨i, hi, rfl⟩ := List.mem_map.1 hcs
        exact ⟨n, (hV i (List.mem_range.1 hi)).2⟩
end
/-! ### Terms and triples -/
structure Dw where
  k : Int
  a : ByteArray
  b : ByteArray
  c : ByteArray
def Dw.ok (r : Dw) : Prop := (-9223372036854775808 ≤ r.k ∧ r.k ≤ 9223372036854775807) ∧ r.a.size ≤ maxLen ∧ r.b.size ≤ maxLen ∧ r.c.size ≤ maxLen
def Dw.cells (r : Dw) : List Value := [.int .i64 r.k, .string r.a, .string r.b, .string r.c]
structure Dt where
  s : Dw
  p : Dw
  o : Dw
def Dt.ok (t : Dt) : Prop := t.s.ok ∧ t.p.ok ∧ t.o.ok
def Dt.cells (t : Dt) : List Value := t.s.cells ++ (t.p.cells ++ t.o.cells)
theorem cellsT_four : Try.prog.cellsOf 32 = 4 := by kernel_rfl
section
variable {H : Type} {enc : TypeId × Value → H} {W : World}
set_option maxRecDepth 100000 in
theorem rw_opened {fuel : Nat} {cs : List Value} {z : DataW H × List MemPlace} (h : DataW.trod enc Try.prog W 0 (fun _ => true) true fuel 32 cs = some z) : ∃ r : Dw, r.ok ∧ cs = r.cells := by
  obtain ⟨xs, n, _, hx, hlen, hxl, hf⟩ := DataW.trod_struct Try.underlying32 h
  rw [cellsT_four] at hlen
  match xs, hxl with
  | [y0, y1, y2, y3], _ =>
    match cs, hlen with
    | [v0, v1, v2, v3], _ =>
      have t0 := hf 0 _ rfl
      have t1 := hf 1 _ rfl
      have t2 := hf 2 _ rfl
      have t3 := hf 3 _ rfl
      have hI : Try.prog.cellsOf 3 = 1 := by kernel_rfl
      have hS : Try.prog.cellsOf 9 = 1 := by kernel_rfl
      simp [hI, hS] at t0 t1 t2 t3
      obtain ⟨k, e0, _, w0⟩ := DataW.trod_int Try.underlying3 t0
      obtain ⟨a, e1, _, w1⟩ := DataW.trod_string Try.underlying9 t1
      obtain ⟨b, e2, _, w2⟩ := DataW.trod_string Try.underlying9 t2
      obtain ⟨c, e3, _, w3⟩ := DataW.trod_string Try.underlying9 t3
      simp at e0 e1 e2 e3
      subst e0 e1 e2 e3
      exact ⟨⟨k, a, b, c⟩, ⟨bounds_i64 w0, w1, w2, w3⟩, rfl⟩
end
end Go.Proofs.Ytpnfjjgihkmjmaa
