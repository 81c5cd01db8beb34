/-
  ScanPlays's ACTS, AS THE CALL GETS THEM: a slice of structs, each with a slice within, opened to cells.
-/
import Derived.Test.YtjnajpfolppniaaDoorRows
import Derived.WalkKit
import Derived.ProofKit
import Derived.OpenShut
import Derived.Deep.Slices
import Derived.Deep.Fields
import Derived.ChangeSlices
namespace Go.Proofs.YtjnajpfolppniaaDoor
open Go.ChangeShapes Go.WideShapes Go.ChangeAt Go.RowKit
set_option linter.unusedVariables false

structure Ac where
  kind : Int
  num : Int
  text : ByteArray
  sign : Int
  cls : List Int
def CAt (w : World) (A : Option Addr) (l : List Int) : Prop := ∀ (j : Nat) (x : Int), l[j]? = some x → ∃ g o, A = some ⟨g, o, none⟩ ∧ g < w.heap.size ∧ w.cell? ⟨g, o + j, none⟩ = some (.int .i64 x)
structure AcAt (w : World) (g o : Nat) (a : Ac) : Prop where
  bk : 0 ≤ a.kind ∧ a.kind ≤ 255
  bn : 0 ≤ a.num ∧ a.num ≤ 255
  bt : a.text.size ≤ maxLen
  bs : -2147483648 ≤ a.sign ∧ a.sign ≤ 2147483647
  c0 : w.cell? ⟨g, o, none⟩ = some (.int .u8 a.kind)
  c1 : w.cell? ⟨g, o + 1, none⟩ = some (.int .u8 a.num)
  c2 : w.cell? ⟨g, o + 2, none⟩ = some (.string a.text)
  c3 : w.cell? ⟨g, o + 3, none⟩ = some (.int .i32 a.sign)
  c4 : ∃ A cap, w.cell? ⟨g, o + 4, none⟩ = some (.slice A a.cls.length cap) ∧ a.cls.length ≤ cap ∧ cap ≤ maxLen ∧ CAt w A a.cls
theorem cellsIntD : Tryd.prog.cellsOf 3 = 1 := by kernel_rfl
theorem cellsActD : Tryd.prog.cellsOf 32 = 5 := by kernel_rfl
theorem plain_at (g o j : Nat) : (⟨g, o, none⟩ : Addr).add j = ⟨g, o + j, none⟩ := by
  by_cases h : j = 0
  · subst h; simp [Addr.add]
  · simp [Addr.add, h]
section
variable {H : Type} {enc : TypeId × Value → H} {W : World}
theorem cls_open {fuel : Nat} {v : Value} {y : DataW H × List MemPlace} (h : DataW.trod enc Tryd.prog W 0 (fun _ => true) true fuel 24 [v] = some y) (hlt : ∀ z ∈ y.2, z.block < W.heap.size) :
    ∃ A l cap, v = .slice A l.length cap ∧ l.length ≤ cap ∧ cap ≤ maxLen ∧ CAt W A l := by
  rcases open_ints Tryd.underlying24 Tryd.underlying3 cellsIntD h with ⟨hcs, hx⟩ | ⟨a, len', cap', zs, hcs, _, hl, hm, hz, hx, hcell, hwz⟩
  · simp at hcs
    exact ⟨none, [], 0, hcs, Nat.le_refl _, by decide, fun j x hx => by simp at hx⟩
  · simp at hcs
    subst hx
    simp only [if_true] at hz
    refine ⟨some a, zs.take len', cap', by rw [hcs, List.length_take, Nat.min_eq_left (by omega)], by simp; omega, hm, fun j x hx => ?_⟩
    have hj : j < len' := by have := (List.getElem?_eq_some_iff.1 hx).1; simp at this; omega
    have hxz : zs.getD j 0 = x := by rw [List.getElem?_take_of_lt hj] at hx; simp [List.getD, hx]
    obtain ⟨b, off, spot⟩ := a
    have hspot : spot = none := by simpa [Addr.add] using World.cell?_spot (hcell 0 (by omega))
    subst hspot
    have hbW : b < W.heap.size := hlt (.cell b off) (MemPlace.mem_row.2 ⟨0, by omega, by simp⟩)
    refine ⟨b, off, rfl, hbW, ?_⟩
    rw [← plain_at, ← hxz]
    exact hcell j (by omega)
theorem act_open {fuel : Nat} {cs : List Value} {y : DataW H × List MemPlace} {g o : Nat} (h : DataW.trod enc Tryd.prog W 0 (fun _ => true) true fuel 32 cs = some y) (hc : W.cells? 0 ⟨g, o, none⟩ 5 = some cs)
    (hlt : ∀ z ∈ y.2, z.block < W.heap.size) : ∃ a, AcAt W g o a := by
  obtain ⟨xs, n, _, hx, hlen, hxl, hf⟩ := DataW.trod_struct Tryd.underlying32 h
  obtain ⟨_, hcl, hat⟩ := World.cells?_some hc
  match xs, hxl with
  | [y0, y1, y2, y3, y4], _ =>
    match cs, hcl with
    | [v0, v1, v2, v3, v4], _ =>
      have t0 := hf 0 _ rfl
      have t1 := hf 1 _ rfl
      have t2 := hf 2 _ rfl
      have t3 := hf 3 _ rfl
      have t4 := hf 4 _ rfl
      have hU : Tryd.prog.cellsOf 5 = 1 := by kernel_rfl
      have hS : Tryd.prog.cellsOf 9 = 1 := by kernel_rfl
      have hR : Tryd.prog.cellsOf 21 = 1 := by kernel_rfl
      have hI : Tryd.prog.cellsOf 24 = 1 := by kernel_rfl
      simp [hU, hS, hR, hI] at t0 t1 t2 t3 t4
      obtain ⟨k, e0, _, w0⟩ := DataW.trod_int Tryd.underlying5 t0
      obtain ⟨m, e1, _, w1⟩ := DataW.trod_int Tryd.underlying5 t1
      obtain ⟨s, e2, _, w2⟩ := DataW.trod_string Tryd.underlying9 t2
      obtain ⟨r, e3, _, w3⟩ := DataW.trod_int Tryd.underlying21 t3
      obtain ⟨A, l, cap, e4, p1, p2, p3⟩ := cls_open t4 (fun z hz => hlt z (by rw [hx]; simp [hz]))
      simp at e0 e1 e2 e3
      subst e0 e1 e2 e3 e4
      have q0 := hat 0 (by omega)
      have q1 := hat 1 (by omega)
      have q2 := hat 2 (by omega)
      have q3 := hat 3 (by omega)
      have q4 := hat 4 (by omega)
      simp only [plain_at] at q0 q1 q2 q3 q4
      exact ⟨⟨k, m, s, r, l⟩, ⟨bounds_u8 w0, bounds_u8 w1, w2, bounds_i32 w3, q0, q1, q2, q3, ⟨A, cap, q4, p1, p2, p3⟩⟩⟩
theorem acts_open {fuel : Nat} {v : Value} {y : DataW H × List MemPlace} (h : DataW.trod enc Tryd.prog W 0 (fun _ => true) true fuel 22 [v] = some y) (hlt : ∀ z ∈ y.2, z.block < W.heap.size) :
    ∃ A l cap, v = .slice A (List.length (α := Ac) l) cap ∧ l.length ≤ cap ∧ cap ≤ maxLen ∧ ∀ (j : Nat) (a : Ac), l[j]? = some a → ∃ g o, A = some ⟨g, o, none⟩ ∧ g < W.heap.size ∧ AcAt W g (o + j * 5) a := by
  rcases Go.Deep.open_slice Tryd.underlying22 h with ⟨hcs, hx⟩ | ⟨a, len, cap, m, n, D, Pl, hcs, _, hl, hm, hmm, hx, hi⟩
  · simp at hcs
    exact ⟨none, [], 0, hcs, Nat.le_refl _, by decide, fun j x hx => by simp at hx⟩
  · simp at hcs
    simp only [if_true] at hmm
    rw [cellsActD] at hx hi
    subst hmm
    by_cases h0 : len = 0
    · subst h0
      exact ⟨some a, [], m, hcs, by simp, hm, fun j x hx => by simp at hx⟩
    · obtain ⟨g, o, spot⟩ := a
      obtain ⟨cs0, hc0, _⟩ := hi 0 (by omega)
      have hz := (World.cells?_some hc0).2.2 0 (by omega)
      have hl0 := (World.cells?_some hc0).2.1
      obtain ⟨u, hu⟩ : ∃ u, cs0[0]? = some u := ⟨_, List.getElem?_eq_getElem (by omega)⟩
      rw [hu] at hz
      have hspot : spot = none := by simpa [Addr.add] using World.cell?_spot hz
      subst hspot
      have hg : g < W.heap.size := hlt (.cell g o) (by rw [hx]; exact List.mem_append_left _ (MemPlace.mem_row.2 ⟨0, by omega, by simp⟩))
      have each : ∀ i, i < len → ∃ a, AcAt W g (o + i * 5) a := fun i him => by
        obtain ⟨cs', hc', ht'⟩ := hi i (by omega)
        rw [plain_at] at hc'
        refine act_open ht' hc' (fun z hz => hlt z ?_)
        rw [hx]
        exact List.mem_append_right _ (List.mem_flatMap.2 ⟨i, List.mem_range.2 (by omega), hz⟩)
      refine ⟨some ⟨g, o, none⟩, (List.range len).map fun i => if hi : i < len then (each i hi).choose else ⟨0, 0, ⟨#[]⟩, 0, []⟩, m, by rw [hcs]; simp, by simpa using hl, hm, fun j a ha => ?_⟩
      have hj : j < len := by have := (List.getElem?_eq_some_iff.1 ha).1; simpa using this
      refine ⟨g, o, rfl, hg, ?_⟩
      rw [List.getElem?_map, List.getElem?_range hj] at ha
      simp [hj] at ha
      subst ha
      exact (each j hj).choose_spec
end
end Go.Proofs.YtjnajpfolppniaaDoor
