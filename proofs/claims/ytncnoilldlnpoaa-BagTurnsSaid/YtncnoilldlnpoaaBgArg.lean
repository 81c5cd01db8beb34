/-
  ARGUMENTS AS THE CALL GETS THEM: arrays and whiles by value; acts, a slice of six cells each.
-/
import Derived.Test.YtncnoilldlnpoaaProg
import Derived.Test.YtncnoilldlnpoaaRows
import Derived.WalkKit
import Derived.ProofKit
import Derived.OpenShut
import Derived.Lib.SmallJoins
import Derived.Laws.IdiomArrays
import Derived.Deep.Slices
import Derived.Test.YtncnoilldlnpoaaSBase
namespace Go.Proofs.Ytncnoilldlnpoaa
open Go.ChangeShapes Go.WideShapes Go.ChangeAt Go.RowKit
set_option linter.unusedVariables false
set_option maxRecDepth 100000
def i64b (x : Int) : Prop := -9223372036854775808 ≤ x ∧ x ≤ 9223372036854775807
section
variable {H : Type} {enc : TypeId × Value → H} {W : World}
theorem okWide_arr {P : Program} {w : World} {r : Reach} {base : Nat} {t e : TypeId} {n : Nat} {v : Value} (ht : P.underlying t = some (.array n e)) (h : Value.okWide P w r base t v) : ∃ cs, v = .agg cs ∧ cs.size = P.cellsOf t := by
  simp only [Value.okWide, ht] at h
  obtain ⟨cs, h1, h2, _⟩ := h
  exact ⟨cs, h1, h2⟩
/-- Three integers by value. -/
theorem a3_value {b0 : Nat} {v : Value} {d : DataW H} {ps : List MemPlace} (hv : Value.okWide Try.prog W .any b0 30 v) (h : DataW.Trod enc Try.prog W 0 (fun _ => true) true 30 v d ps) :
    ∃ r : Int × Int × Int, (i64b r.1 ∧ i64b r.2.1 ∧ i64b r.2.2) ∧ v = .agg #[.int .i64 r.1, .int .i64 r.2.1, .int .i64 r.2.2] := by
  obtain ⟨cs, rfl, hz⟩ := okWide_arr Try.underlying30 hv
  obtain ⟨fuel, hf⟩ := h
  have h2 : Try.prog.cellsOf 30 = 3 := by kernel_rfl
  rw [h2] at hz
  obtain ⟨l⟩ := cs
  match l, hz with
  | [v0, v1, v2], _ =>
    have hI : Try.prog.cellsOf 3 = 1 := by kernel_rfl
    obtain ⟨y0, y1, y2, n, _, a0, a1, a2⟩ := trod_array3 (c0 := v0) (c1 := v1) (c2 := v2) Try.underlying30 hI (by simpa [Value.cells] using hf)
    obtain ⟨a, e0, _, w0⟩ := DataW.trod_int Try.underlying3 a0
    obtain ⟨b, e1, _, w1⟩ := DataW.trod_int Try.underlying3 a1
    obtain ⟨c, e2, _, w2⟩ := DataW.trod_int Try.underlying3 a2
    simp at e0 e1 e2
    subst e0 e1 e2
    exact ⟨(a, b, c), ⟨bounds_i64 w0, bounds_i64 w1, bounds_i64 w2⟩, rfl⟩
/-- A while by value. -/
theorem sp_value {b0 : Nat} {v : Value} {d : DataW H} {ps : List MemPlace} (hv : Value.okWide Try.prog W .any b0 24 v) (h : DataW.Trod enc Try.prog W 0 (fun _ => true) true 24 v d ps) :
    ∃ r : Int × Int, (i64b r.1 ∧ i64b r.2) ∧ v = .agg #[.int .i64 r.1, .int .i64 r.2] := by
  obtain ⟨v0, v1, y0, y1, n, rfl, _, _, a0, a1⟩ := Joins.open_agg2 Try.underlying24 (by kernel_rfl) (by kernel_rfl) hv h
  obtain ⟨a, e0, _, w0⟩ := DataW.trod_int Try.underlying3 a0
  obtain ⟨b, e1, _, w1⟩ := DataW.trod_int Try.underlying3 a1
  simp at e0 e1
  subst e0 e1
  exact ⟨(a, b), ⟨bounds_i64 w0, bounds_i64 w1⟩, rfl⟩
end
/-- A slice's elements, n cells each. -/
def SlAt (W : World) (A : Option Addr) (n : Nat) (l : List (List Value)) : Prop := ∀ (j : Nat) (cs : List Value), l[j]? = some cs → ∃ g o, A = some ⟨g, o, none⟩ ∧ g < W.heap.size ∧ ∀ (i : Nat) (v : Value), cs[i]? = some v → W.cell? ⟨g, o + j * n + i, none⟩ = some v
theorem SlAt.below {W W' : World} {A : Option Addr} {n : Nat} {l : List (List Value)} (h : SlAt W A n l) (hb : Below W.heap.size W W') : SlAt W' A n l := fun j cs hj => by
  obtain ⟨g, o, e, hg, hc⟩ := h j cs hj
  exact ⟨g, o, e, Nat.lt_of_lt_of_le hg hb.size, fun i v hv => (hb.cell (p := ⟨g, o + j * n + i, none⟩) hg).trans (hc i v hv)⟩
theorem cells_map {α : Type} {p : α → Prop} {f : α → List Value} : ∀ l : List (List Value), (∀ cs ∈ l, ∃ t, p t ∧ cs = f t) → ∃ ts : List α, l = ts.map f ∧ ∀ t ∈ ts, p t
  | [], _ => ⟨[], rfl, fun t h => by cases h⟩
  | c :: l, h => by
    obtain ⟨t, h1, h2⟩ := h c List.mem_cons_self
    obtain ⟨ts, h3, h4⟩ := cells_map l fun cs hc => h cs (List.mem_cons_of_mem _ hc)
    refine ⟨t :: ts, by rw [h2, h3]; rfl, fun u hu => ?_⟩
    rcases List.mem_cons.1 hu with rfl | hu
    · exact h1
    · exact h4 u hu
section
variable {H : Type} {enc : TypeId × Value → H} {W : World}
theorem slice_opened {t e : TypeId} {n0 : Nat} {fuel : Nat} {v : Value} {y : DataW H × List MemPlace} (ht : Try.prog.underlying t = some (.slice e)) (hn : Try.prog.cellsOf e = n0) (hpos : 0 < n0)
    (h : DataW.trod enc Try.prog W 0 (fun _ => true) true fuel t [v] = some y) (hlt : ∀ z ∈ y.2, z.block < W.heap.size) :
    ∃ A l cap, v = .slice A (List.length (α := List Value) l) cap ∧ l.length ≤ cap ∧ cap ≤ maxLen ∧ SlAt W A n0 l ∧ ∀ cs ∈ l, ∃ fu z, DataW.trod enc Try.prog W 0 (fun _ => true) true fu e cs = some z := by
  rcases Go.Deep.open_slice ht h with ⟨hcs, hx⟩ | ⟨a, len, cap, m, n, D, Pl, hcs, _, hl, hm, hmm, hx, hi⟩
  · simp at hcs
    exact ⟨none, [], 0, hcs, Nat.le_refl _, by decide, fun j x hx => by simp at hx, fun cs h => by cases h⟩
  · simp at hcs
    simp only [if_true] at hmm
    rw [hn] at hx hi
    subst hmm
    by_cases h0 : len = 0
    · subst h0
      exact ⟨some a, [], m, hcs, by simp, hm, fun j x hx => by simp at hx, fun cs h => by cases h⟩
    · obtain ⟨g, o, spot⟩ := a
      obtain ⟨cs0, hc0, _⟩ := hi 0 (by omega)
      have hz := (World.cells?_some hc0).2.2 0 hpos
      have hl0 := (World.cells?_some hc0).2.1
      obtain ⟨u, hu⟩ : ∃ u, cs0[0]? = some u := ⟨_, List.getElem?_eq_getElem (by omega)⟩
      rw [hu] at hz
      have hspot : spot = none := by simpa [Addr.add] using World.cell?_spot hz
      subst hspot
      have hg : g < W.heap.size := hlt (.cell g o) (by rw [hx]; exact List.mem_append_left _ (MemPlace.mem_row.2 ⟨0, Nat.mul_pos (by omega) hpos, by simp⟩))
      have each : ∀ i, i < len → ∃ cs, (∀ (d : Nat) (v : Value), cs[d]? = some v → W.cell? ⟨g, o + i * n0 + d, none⟩ = some v) ∧ ∃ z, DataW.trod enc Try.prog W 0 (fun _ => true) true n e cs = some z := fun i him => by
        obtain ⟨cs', hc', ht'⟩ := hi i (by omega)
        rw [at_add] at hc'
        have hcl := (World.cells?_some hc').2.1
        refine ⟨cs', fun d v hv => ?_, _, ht'⟩
        have hd := (List.getElem?_eq_some_iff.1 hv).1
        have := (World.cells?_some hc').2.2 d (by omega)
        rw [at_add] at this
        rw [this, hv]
      obtain ⟨V, hV⟩ := Go.Deep.choose_lt (α := List Value) (p := fun i cs => (∀ (d : Nat) (v : Value), cs[d]? = some v → W.cell? ⟨g, o + i * n0 + d, none⟩ = some v) ∧ ∃ z, DataW.trod enc Try.prog W 0 (fun _ => true) true n e cs = some z) each
      refine ⟨some ⟨g, o, none⟩, (List.range len).map V, m, by rw [hcs]; simp, by simpa using hl, hm, fun j a ha => ?_, fun cs hcs => ?_⟩
      · have hj : j < len := by have := (List.getElem?_eq_some_iff.1 ha).1; simpa using this
        refine ⟨g, o, rfl, hg, ?_⟩
        rw [List.getElem?_map, List.getElem?_range hj] at ha
        obtain rfl : V j = a := by simpa using ha
        exact (hV j hj).1
      · obtain ⟨i, hi, rfl⟩ := List.mem_map.1 hcs
        exact ⟨n, (hV i (List.mem_range.1 hi)).2⟩
end
/-! ### Acts -/
structure Ga where
  k : Int
  t : Int
  n : Int
  key : Int × Int × Int
def Ga.ok (r : Ga) : Prop := (0 ≤ r.k ∧ r.k ≤ 255) ∧ i64b r.t ∧ i64b r.n ∧ i64b r.key.1 ∧ i64b r.key.2.1 ∧ i64b r.key.2.2
def Ga.cells (r : Ga) : List Value := [.int .u8 r.k, .int .i64 r.t, .int .i64 r.n, .int .i64 r.key.1, .int .i64 r.key.2.1, .int .i64 r.key.2.2]
theorem cellsActG : Try.prog.cellsOf 32 = 6 := by kernel_rfl
section
variable {H : Type} {enc : TypeId × Value → H} {W : World}
set_option maxRecDepth 100000 in
theorem ga_opened {fuel : Nat} {cs : List Value} {z : DataW H × List MemPlace} (h : DataW.trod enc Try.prog W 0 (fun _ => true) true fuel 32 cs = some z) : ∃ r : Ga, r.ok ∧ cs = r.cells := by
  obtain ⟨xs, n, _, hx, hlen, hxl, hf⟩ := DataW.trod_struct Try.underlying32 h
  rw [cellsActG] at hlen
  match xs, hxl with
  | [y0, y1, y2, y3], _ =>
    match cs, hlen with
    | [v0, v1, v2, v3, v4, v5], _ =>
      have t0 := hf 0 _ rfl
      have t1 := hf 1 _ rfl
      have t2 := hf 2 _ rfl
      have t3 := hf 3 _ rfl
      have hI : Try.prog.cellsOf 3 = 1 := by kernel_rfl
      have hU : Try.prog.cellsOf 5 = 1 := by kernel_rfl
      have hA : Try.prog.cellsOf 30 = 3 := by kernel_rfl
      simp [hU, hA, hI] at t0 t1 t2 t3
      obtain ⟨k, e0, _, w0⟩ := DataW.trod_int Try.underlying5 t0
      obtain ⟨t, e1, _, w1⟩ := DataW.trod_int Try.underlying3 t1
      obtain ⟨m0, e2, _, w2⟩ := DataW.trod_int Try.underlying3 t2
      obtain ⟨z0, z1, z2, m, _, a0, a1, a2⟩ := trod_array3 Try.underlying30 hI t3
      obtain ⟨a, e3, _, w3⟩ := DataW.trod_int Try.underlying3 a0
      obtain ⟨b, e4, _, w4⟩ := DataW.trod_int Try.underlying3 a1
      obtain ⟨c, e5, _, w5⟩ := DataW.trod_int Try.underlying3 a2
      simp at e0 e1 e2 e3 e4 e5
      subst e0 e1 e2 e3 e4 e5
      exact ⟨⟨k, t, m0, (a, b, c)⟩, ⟨bounds_u8 w0, bounds_i64 w1, bounds_i64 w2, bounds_i64 w3, bounds_i64 w4, bounds_i64 w5⟩, rfl⟩
set_option maxRecDepth 100000 in
theorem gas_opened {fuel : Nat} {v : Value} {y : DataW H × List MemPlace} (h : DataW.trod enc Try.prog W 0 (fun _ => true) true fuel 22 [v] = some y) (hlt : ∀ z ∈ y.2, z.block < W.heap.size) :
    ∃ A l cap, v = .slice A (List.length (α := Ga) l) cap ∧ l.length ≤ cap ∧ cap ≤ maxLen ∧ SlAt W A 6 (l.map Ga.cells) ∧ ∀ t ∈ l, t.ok := by
  obtain ⟨A, l, cap, hv, h1, h2, h3, h4⟩ := slice_opened Try.underlying22 cellsActG (by decide) h hlt
  obtain ⟨ts, rfl, hok⟩ := cells_map (p := Ga.ok) (f := Ga.cells) l fun cs hc => by
    obtain ⟨fu, z, hz⟩ := h4 cs hc
    exact ga_opened hz
  rw [List.length_map] at hv h1
  exact ⟨A, ts, cap, hv, h1, h2, h3, hok⟩
end
theorem sl_at6 {W : World} {A : Option Addr} {l : List Ga} (h : SlAt W A 6 (l.map Ga.cells)) {i : Nat} {r : Ga} (hi : l[i]? = some r) : ∃ g o, A = some ⟨g, o, none⟩ ∧ W.cell? ⟨g, o + i * 6, none⟩ = some (.int .u8 r.k) ∧ W.cell? ⟨g, o + i * 6 + 1, none⟩ = some (.int .i64 r.t) ∧ W.cell? ⟨g, o + i * 6 + 2, none⟩ = some (.int .i64 r.n) ∧ W.cell? ⟨g, o + i * 6 + 3, none⟩ = some (.int .i64 r.key.1) ∧ W.cell? ⟨g, o + i * 6 + 4, none⟩ = some (.int .i64 r.key.2.1) ∧ W.cell? ⟨g, o + i * 6 + 5, none⟩ = some (.int .i64 r.key.2.2) := by
  obtain ⟨g, o, e, _, hc⟩ := h i r.cells (by rw [List.getElem?_map, hi]; rfl)
  exact ⟨g, o, e, hc 0 _ rfl, hc 1 _ rfl, hc 2 _ rfl, hc 3 _ rfl, hc 4 _ rfl, hc 5 _ rfl⟩
end Go.Proofs.Ytncnoilldlnpoaa
