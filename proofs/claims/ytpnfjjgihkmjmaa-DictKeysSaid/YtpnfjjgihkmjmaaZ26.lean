/-
  MERGED (a claim has at most 60 files): DNew, NArg, NBack, NRef.
-/
import Derived.Test.YtpnfjjgihkmjmaaZ18
import Derived.Test.YtpnfjjgihkmjmaaZ24
import Derived.Maps.Own
import Derived.Test.YtpnfjjgihkmjmaaZ00
import Derived.Test.YtpnfjjgihkmjmaaRows
import Derived.WalkKit
import Derived.ProofKit
import Derived.OpenShut
import Derived.Deep.Slices
import Derived.Lib.SmallJoins
import Derived.Test.YtpnfjjgihkmjmaaZ22
import Derived.Test.YtpnfjjgihkmjmaaZ20
import Derived.Test.YtpnfjjgihkmjmaaZ15
import Derived.Test.YtpnfjjgihkmjmaaZ13
import Derived.Laws.StructEq
/-
  A DICTIONARY IS MADE; the laws' 'short'; their 'awake'.
-/
namespace Go.Proofs.Ytpnfjjgihkmjmaa
open Go.RowKit
set_option linter.unusedVariables false
set_option linter.unusedSimpArgs false
set_option maxRecDepth 100000

theorem dnew_ok (room : Int) (h1 : 1 ≤ room) (h2 : room ≤ 65536) (w : World) :
    Calls Try.prog 9 #[.int .i64 room] w fun e w' => ∃ d m, e = .returned (.tuple #[.pointer (some ⟨d, 0, none⟩), .int .i64 0]) ∧ Dc w.heap.size d m room (.slice none 0 0) [] w' ∧ Below w.heap.size w w' := by
  have hmm := @run_makeMap Try.prog
  have hend : Dc w.heap.size (w.heap.size + 1) w.heap.size room (.slice none 0 0) [] ((w.alloc (.map #[] 0)).alloc (.cells #[.int .i64 room, .slice none 0 0, .map (some w.heap.size)] 89)) := by
    have e1 : (w.alloc (.map #[] 0)).heap.size = w.heap.size + 1 := by simp
    refine ⟨?_, World.ownsRow_nil _ _ _ _, ⟨#[], 0, ?_, rfl⟩, by omega, Nat.le_refl _, (fun t h => by cases h), List.nodup_nil⟩
    · unfold Fb
      rw [← e1]
      exact heap_alloc_new _ _
    · exact (Below.heap_alloc _ _ _ (by simp)).trans (heap_alloc_new w _)
  have HE := Lib.hid hend
  clear hend
  go_enter Try.func9, Try.ntmps9
  go_wp2
  go_ret2
  exact ⟨_, _, rfl, HE.out, ((Below.refl _ _).alloc (Nat.le_refl _) _).alloc (by simp) _⟩
theorem dnew_bad (room : Int) (h : room < 1 ∨ 65536 < room) (w : World) :
    Calls Try.prog 9 #[.int .i64 room] w fun e w' => e = .returned (.tuple #[.pointer none, .int .i64 2]) ∧ w' = w := by
  rcases h with h | h
  · go_enter Try.func9, Try.ntmps9
    go_wp2
    go_ret2
    exact ⟨rfl, rfl⟩
  · have h1 : ¬ room < 1 := by omega
    go_enter Try.func9, Try.ntmps9
    go_wp2
    go_ret2
    exact ⟨rfl, rfl⟩
/-- A term that isn't long. -/
def shortD (a b c : ByteArray) : Bool := decide (a.size ≤ 300) && (decide (b.size ≤ 300) && decide (c.size ≤ 100))
theorem dshort_any (k : Int) (a b c : ByteArray) (w : World) : Calls Try.prog 10 #[F4 k a b c] w fun e w' => e = .returned (.bool (shortD a b c)) ∧ Below w.heap.size w w' := by
  unfold shortD
  obtain ⟨n1, hn1⟩ : ∃ n, n = a.size := ⟨_, rfl⟩
  obtain ⟨n2, hn2⟩ : ∃ n, n = b.size := ⟨_, rfl⟩
  obtain ⟨n3, hn3⟩ : ∃ n, n = c.size := ⟨_, rfl⟩
  by_cases h1 : a.size ≤ 300
  · rw [decide_eq_true h1]
    have i1 : (a.size : Int) ≤ 300 := by omega
    by_cases h2 : b.size ≤ 300
    · rw [decide_eq_true h2]
      have i2 : (b.size : Int) ≤ 300 := by omega
      by_cases h3 : c.size ≤ 100
      · rw [decide_eq_true h3]
        have i3 : (c.size : Int) ≤ 100 := by omega
        clear h1 h2 h3
        go_enter Try.func10, Try.ntmps10
        go_wp2
        go_ret
        exact ⟨rfl, (Below.refl _ _).alloc (Nat.le_refl _) _⟩
      · rw [decide_eq_false h3]
        have i3 : ¬ (c.size : Int) ≤ 100 := by omega
        clear h1 h2 h3
        go_enter Try.func10, Try.ntmps10
        go_wp2
        go_ret
        exact ⟨rfl, (Below.refl _ _).alloc (Nat.le_refl _) _⟩
    · rw [decide_eq_false h2]
      have i2 : ¬ (b.size : Int) ≤ 300 := by omega
      clear h1 h2
      go_enter Try.func10, Try.ntmps10
      go_wp2
      go_ret
      exact ⟨rfl, (Below.refl _ _).alloc (Nat.le_refl _) _⟩
  · rw [decide_eq_false h1]
    have i1 : ¬ (a.size : Int) ≤ 300 := by omega
    clear h1
    go_enter Try.func10, Try.ntmps10
    go_wp2
    go_ret
    exact ⟨rfl, (Below.refl _ _).alloc (Nat.le_refl _) _⟩
/-! ### awake -/
theorem dplain_any (s : ByteArray) (w : World) : Calls Try.prog 34 #[.string s] w fun e w' => e = .returned (.agg #[.string s, .string XS, .string mt]) ∧ Below w.heap.size w w' := by
  go_enter Try.func34, Try.ntmps34
  go_wp2
  exact bodyPost_ret (v := .agg #[.string s, .string XS, .string mt]) (by simp [results, Try.results34, go_sem]) rfl ⟨rfl, (Below.refl _ _).alloc (Nat.le_refl _) _⟩
theorem good_a : goodT (.lit ⟨#[97]⟩ XS mt) = true := by
  show litG _ _ _ = true
  unfold litG
  rw [textG_of (ascii_parts ⟨#[97]⟩ [97] (by decide) (by decide)), if_pos (by decide), iriG_of (ascii_parts XS (sigs lS) (by decide) (by decide)), ByteArray.toList_eq]
  decide
theorem good_b : goodT (.lit ⟨#[98]⟩ XS mt) = true := by
  show litG _ _ _ = true
  unfold litG
  rw [textG_of (ascii_parts ⟨#[98]⟩ [98] (by decide) (by decide)), if_pos (by decide), iriG_of (ascii_parts XS (sigs lS) (by decide) (by decide)), ByteArray.toList_eq]
  decide
theorem put_a : putP 3 [] (.lit ⟨#[97]⟩ XS mt) = ([.lit ⟨#[97]⟩ XS mt], 0, 0) := by
  unfold putP
  rw [if_pos good_a]
  rfl
theorem put_b : putP 3 [.lit ⟨#[97]⟩ XS mt] (.lit ⟨#[98]⟩ XS mt) = ([.lit ⟨#[97]⟩ XS mt, .lit ⟨#[98]⟩ XS mt], 1, 0) := by
  unfold putP
  rw [if_pos good_b]
  have hs : sameB (.lit ⟨#[98]⟩ XS mt) (.lit ⟨#[97]⟩ XS mt) = false := by
    unfold sameB same4
    simp only [Tm.kind, Tm.ta, Tm.tb, Tm.tc, ByteArray.toList_eq]
    decide
  unfold putG nm
  rw [hs]
  rfl
set_option maxHeartbeats 4000000 in
theorem dawake_ok (w : World) : Calls Try.prog 8 #[] w fun e w' => e = .returned (.bool true) ∧ Below w.heap.size w w' := by
  have cN := dnew_ok 3 (by decide) (by decide) w
  have cP1 : ∀ {B d m : Nat} {v : Value} {W : World}, Dc B d m 3 v [] W → B ≤ W.heap.size → Calls Try.prog 14 #[.pointer (some ⟨d, 0, none⟩), (Tm.lit ⟨#[97]⟩ XS mt).val] W (PutPost B d m 3 v W ([.lit ⟨#[97]⟩ XS mt], 0, 0)) := fun {B d m v W} h hB => by
    have := dput_any h hB (by simp) (.lit ⟨#[97]⟩ XS mt) ⟨by decide, by decide, by decide⟩
    rw [put_a] at this
    exact this
  have cP2 : ∀ {B d m : Nat} {v : Value} {W : World}, Dc B d m 3 v [.lit ⟨#[97]⟩ XS mt] W → B ≤ W.heap.size → Calls Try.prog 14 #[.pointer (some ⟨d, 0, none⟩), (Tm.lit ⟨#[98]⟩ XS mt).val] W (PutPost B d m 3 v W ([.lit ⟨#[97]⟩ XS mt, .lit ⟨#[98]⟩ XS mt], 1, 0)) := fun {B d m v W} h hB => by
    have := dput_any h hB (by simp) (.lit ⟨#[98]⟩ XS mt) ⟨by decide, by decide, by decide⟩
    rw [put_b] at this
    exact this
  have cL : ∀ {B d m : Nat} {v : Value} {W : World}, Dc B d m 3 v [.lit ⟨#[97]⟩ XS mt, .lit ⟨#[98]⟩ XS mt] W → Calls Try.prog 31 #[.pointer (some ⟨d, 0, none⟩)] W fun e w' => e = .returned (.int .i64 2) ∧ w' = W := fun {B d m v W} h => dlen_any h (by simp)
  have cA := dplain_any ⟨#[97]⟩
  have cB := dplain_any ⟨#[98]⟩
  simp only [Tm.val] at cP1 cP2
  go_enter Try.func8, Try.ntmps8
  go_wp2_with (first
    | (go_at_call 9; (with_reducible refine cN.mono ?_); rintro e w1 ⟨d, m, rfl, hD1, hb1⟩)
    | (go_at_call 34; (with_reducible refine (cA _).mono ?_); rintro e w2 ⟨rfl, hb2⟩; have hD2 := hD1.below hb2; have hB2 := hb1.trans (hb2.mono hb1.size))
    | (go_at_call 14; (with_reducible refine (cP1 hD2 hB2.size).mono ?_); rintro e w3 ⟨v3, rfl, hD3, hT3⟩; have hB3 := hT3.below hD2 hB2)
    | (go_at_call 34; (with_reducible refine (cB _).mono ?_); rintro e w4 ⟨rfl, hb4⟩; have hD4 := hD3.below hb4; have hB4 := hB3.trans (hb4.mono hB3.size))
    | (go_at_call 14; (with_reducible refine (cP2 hD4 hB4.size).mono ?_); rintro e w5 ⟨v5, rfl, hD5, hT5⟩; have hB5 := hT5.below hD4 hB4)
    | (go_at_call 31; (with_reducible refine (cL hD5).mono ?_); rintro e w6 ⟨rfl, rfl⟩))
  go_ret
  exact ⟨rfl, hB5⟩
end Go.Proofs.Ytpnfjjgihkmjmaa

/-
  A SLICE AS THE CALL GETS IT, CELL BY CELL; terms and triples of the document's, as they come.
-/
namespace Go.Proofs.Ytpnfjjgihkmjmaa
open Go.ChangeShapes Go.WideShapes Go.ChangeAt Go.RowKit
set_option linter.unusedVariables false
set_option maxRecDepth 100000

/-- A slice's elements, n cells each. -/
def SlAt (W : World) (A : Option Addr) (n : Nat) (l : List (List Value)) : Prop := ∀ (j : Nat) (cs : List Value), l[j]? = some cs → ∃ g o, A = some ⟨g, o, none⟩ ∧ g < W.heap.size ∧ ∀ (i : Nat) (v : Value), cs[i]? = some v → W.cell? ⟨g, o + j * n + i, none⟩ = some v
theorem SlAt.below {W W' : World} {A : Option Addr} {n : Nat} {l : List (List Value)} (h : SlAt W A n l) (hb : Below W.heap.size W W') : SlAt W' A n l := fun j cs hj => by
  obtain ⟨g, o, e, hg, hc⟩ := h j cs hj
  exact ⟨g, o, e, Nat.lt_of_lt_of_le hg hb.size, fun i v hv => (hb.cell (p := ⟨g, o + j * n + i, none⟩) hg).trans (hc i v hv)⟩
theorem at_add (g o j : Nat) : (⟨g, o, none⟩ : Addr).add j = ⟨g, o + j, none⟩ := by
  by_cases h : j = 0
  · subst h; simp [Addr.add]
  · simp [Addr.add, h]
theorem cells_map {α : Type} {p : α → Prop} {f : α → List Value} : ∀ l : List (List Value), (∀ cs ∈ l, ∃ t, p t ∧ cs = f t) → ∃ ts : List α, l = ts.map f ∧ ∀ t ∈ ts, p t
  | [], _ => ⟨[], rfl, fun t h => by cases h⟩
  | c :: l, h => by
    obtain ⟨t, h1, h2⟩ := h c List.mem_cons_self
    obtain ⟨ts, h3, h4⟩ := cells_map l fun cs hc => h cs (List.mem_cons_of_mem _ hc)
    refine ⟨t :: ts, by rw [h2, h3]; rfl, fun u hu => ?_⟩
    rcases List.mem_cons.1 hu with rfl | hu
    · exact h1
    · exact h4 u hu
section
variable {H : Type} {enc : TypeId × Value → H} {W : World}
theorem slice_opened {t e : TypeId} {n0 : Nat} {fuel : Nat} {v : Value} {y : DataW H × List MemPlace} (ht : Try.prog.underlying t = some (.slice e)) (hn : Try.prog.cellsOf e = n0) (hpos : 0 < n0)
    (h : DataW.trod enc Try.prog W 0 (fun _ => true) true fuel t [v] = some y) (hlt : ∀ z ∈ y.2, z.block < W.heap.size) :
    ∃ A l cap, v = .slice A (List.length (α := List Value) l) cap ∧ l.length ≤ cap ∧ cap ≤ maxLen ∧ SlAt W A n0 l ∧ ∀ cs ∈ l, ∃ fu z, DataW.trod enc Try.prog W 0 (fun _ => true) true fu e cs = some z := by
  rcases Go.Deep.open_slice ht h with ⟨hcs, hx⟩ | ⟨a, len, cap, m, n, D, Pl, hcs, _, hl, hm, hmm, hx, hi⟩
  · simp at hcs
    exact ⟨none, [], 0, hcs, Nat.le_refl _, by decide, fun j x hx => by simp at hx, fun cs h => by cases h⟩
  · simp at hcs
    simp only [if_true] at hmm
    rw [hn] at hx hi
    subst hmm
    by_cases h0 : len = 0
    · subst h0
      exact ⟨some a, [], m, hcs, by simp, hm, fun j x hx => by simp at hx, fun cs h => by cases h⟩
    · obtain ⟨g, o, spot⟩ := a
      obtain ⟨cs0, hc0, _⟩ := hi 0 (by omega)
      have hz := (World.cells?_some hc0).2.2 0 hpos
      have hl0 := (World.cells?_some hc0).2.1
      obtain ⟨u, hu⟩ : ∃ u, cs0[0]? = some u := ⟨_, List.getElem?_eq_getElem (by omega)⟩
      rw [hu] at hz
      have hspot : spot = none := by simpa [Addr.add] using World.cell?_spot hz
      subst hspot
      have hg : g < W.heap.size := hlt (.cell g o) (by rw [hx]; exact List.mem_append_left _ (MemPlace.mem_row.2 ⟨0, Nat.mul_pos (by omega) hpos, by simp⟩))
      have each : ∀ i, i < len → ∃ cs, (∀ (d : Nat) (v : Value), cs[d]? = some v → W.cell? ⟨g, o + i * n0 + d, none⟩ = some v) ∧ ∃ z, DataW.trod enc Try.prog W 0 (fun _ => true) true n e cs = some z := fun i him => by
        obtain ⟨cs', hc', ht'⟩ := hi i (by omega)
        rw [at_add] at hc'
        have hcl := (World.cells?_some hc').2.1
        refine ⟨cs', fun d v hv => ?_, _, ht'⟩
        have hd := (List.getElem?_eq_some_iff.1 hv).1
        have := (World.cells?_some hc').2.2 d (by omega)
        rw [at_add] at this
        rw [this, hv]
      obtain ⟨V, hV⟩ := Go.Deep.choose_lt (α := List Value) (p := fun i cs => (∀ (d : Nat) (v : Value), cs[d]? = some v → W.cell? ⟨g, o + i * n0 + d, none⟩ = some v) ∧ ∃ z, DataW.trod enc Try.prog W 0 (fun _ => true) true n e cs = some z) each
      refine ⟨some ⟨g, o, none⟩, (List.range len).map V, m, by rw [hcs]; simp, by simpa using hl, hm, fun j a ha => ?_, fun cs hcs => ?_⟩
      · have hj : j < len := by have := (List.getElem?_eq_some_iff.1 ha).1; simpa using this
        refine ⟨g, o, rfl, hg, ?_⟩
        rw [List.getElem?_map, List.getElem?_range hj] at ha
        obtain rfl : V j = a := by simpa using ha
        exact (hV j hj).1
      · obtain ⟨i, hi, rfl⟩ := List.mem_map.1 hcs
        exact ⟨n, (hV i (List.mem_range.1 hi)).2⟩
end
/-! ### Terms and triples -/
structure Dw where
  k : Int
  a : ByteArray
  b : ByteArray
  c : ByteArray
def Dw.ok (r : Dw) : Prop := (-9223372036854775808 ≤ r.k ∧ r.k ≤ 9223372036854775807) ∧ r.a.size ≤ maxLen ∧ r.b.size ≤ maxLen ∧ r.c.size ≤ maxLen
def Dw.cells (r : Dw) : List Value := [.int .i64 r.k, .string r.a, .string r.b, .string r.c]
structure Dt where
  s : Dw
  p : Dw
  o : Dw
def Dt.ok (t : Dt) : Prop := t.s.ok ∧ t.p.ok ∧ t.o.ok
def Dt.cells (t : Dt) : List Value := t.s.cells ++ (t.p.cells ++ t.o.cells)
theorem cellsT_four : Try.prog.cellsOf 32 = 4 := by kernel_rfl
theorem cellsR_twelve : Try.prog.cellsOf 34 = 12 := by kernel_rfl
section
variable {H : Type} {enc : TypeId × Value → H} {W : World}
set_option maxRecDepth 100000 in
theorem rw_opened {fuel : Nat} {cs : List Value} {z : DataW H × List MemPlace} (h : DataW.trod enc Try.prog W 0 (fun _ => true) true fuel 32 cs = some z) : ∃ r : Dw, r.ok ∧ cs = r.cells := by
  obtain ⟨xs, n, _, hx, hlen, hxl, hf⟩ := DataW.trod_struct Try.underlying32 h
  rw [cellsT_four] at hlen
  match xs, hxl with
  | [y0, y1, y2, y3], _ =>
    match cs, hlen with
    | [v0, v1, v2, v3], _ =>
      have t0 := hf 0 _ rfl
      have t1 := hf 1 _ rfl
      have t2 := hf 2 _ rfl
      have t3 := hf 3 _ rfl
      have hI : Try.prog.cellsOf 3 = 1 := by kernel_rfl
      have hS : Try.prog.cellsOf 9 = 1 := by kernel_rfl
      simp [hI, hS] at t0 t1 t2 t3
      obtain ⟨k, e0, _, w0⟩ := DataW.trod_int Try.underlying3 t0
      obtain ⟨a, e1, _, w1⟩ := DataW.trod_string Try.underlying9 t1
      obtain ⟨b, e2, _, w2⟩ := DataW.trod_string Try.underlying9 t2
      obtain ⟨c, e3, _, w3⟩ := DataW.trod_string Try.underlying9 t3
      simp at e0 e1 e2 e3
      subst e0 e1 e2 e3
      exact ⟨⟨k, a, b, c⟩, ⟨bounds_i64 w0, w1, w2, w3⟩, rfl⟩
set_option maxRecDepth 100000 in
theorem rt_opened {fuel : Nat} {cs : List Value} {z : DataW H × List MemPlace} (h : DataW.trod enc Try.prog W 0 (fun _ => true) true fuel 34 cs = some z) : ∃ r : Dt, r.ok ∧ cs = r.cells := by
  obtain ⟨xs, n, _, hx, hlen, hxl, hf⟩ := DataW.trod_struct Try.underlying34 h
  rw [cellsR_twelve] at hlen
  match xs, hxl with
  | [y0, y1, y2], _ =>
    have t0 : DataW.trod enc Try.prog W 0 (fun _ => true) true n 32 ((cs.drop 0).take 4) = some y0 := by
      have h := hf 0 _ rfl
      simpa [cellsT_four] using h
    have t1 : DataW.trod enc Try.prog W 0 (fun _ => true) true n 32 ((cs.drop 4).take 4) = some y1 := by
      have h := hf 1 _ rfl
      simpa [cellsT_four] using h
    have t2 : DataW.trod enc Try.prog W 0 (fun _ => true) true n 32 ((cs.drop 8).take 4) = some y2 := by
      have h := hf 2 _ rfl
      simpa [cellsT_four] using h
    obtain ⟨r0, o0, e0⟩ := rw_opened t0
    obtain ⟨r1, o1, e1⟩ := rw_opened t1
    obtain ⟨r2, o2, e2⟩ := rw_opened t2
    refine ⟨⟨r0, r1, r2⟩, ⟨o0, o1, o2⟩, ?_⟩
    show cs = r0.cells ++ (r1.cells ++ r2.cells)
    rw [← e0, ← e1, ← e2]
    match cs, hlen with
    | [v0, v1, v2, v3, v4, v5, v6, v7, v8, v9, v10, v11], _ => rfl
set_option maxRecDepth 100000 in
theorem rts_opened {fuel : Nat} {v : Value} {y : DataW H × List MemPlace} (h : DataW.trod enc Try.prog W 0 (fun _ => true) true fuel 65 [v] = some y) (hlt : ∀ z ∈ y.2, z.block < W.heap.size) :
    ∃ A l cap, v = .slice A (List.length (α := Dt) l) cap ∧ l.length ≤ cap ∧ cap ≤ maxLen ∧ SlAt W A 12 (l.map Dt.cells) ∧ ∀ t ∈ l, t.ok := by
  obtain ⟨A, l, cap, hv, h1, h2, h3, h4⟩ := slice_opened Try.underlying65 cellsR_twelve (by decide) h hlt
  obtain ⟨ts, rfl, hok⟩ := cells_map (p := Dt.ok) (f := Dt.cells) l fun cs hc => by
    obtain ⟨fu, z, hz⟩ := h4 cs hc
    exact rt_opened hz
  rw [List.length_map] at hv h1
  exact ⟨A, ts, cap, hv, h1, h2, h3, hok⟩
end
end Go.Proofs.Ytpnfjjgihkmjmaa

/-
  PLAIN LEAN, NO RUN: a good term's text, sign by sign; read again it is the term.
-/
namespace Go.Proofs.Ytpnfjjgihkmjmaa
set_option linter.unusedVariables false
set_option linter.unusedSimpArgs false

theorem bodyS_cons (n : Int) (l : List Int) : bodyS (n :: l) = escS n ++ bodyS l := by unfold bodyS; rw [List.flatMap_cons]
theorem quoS_len (l : List Int) : (quoS l).length = (bodyS l).length + 2 := by unfold quoS; simp
/-! ### What good terms' texts are of -/
theorem sg_text {s : ByteArray} (h : (sgP s).2 = []) : textOf (sgP s).1 = s := by
  have := sgP_parts s
  rw [h] at this
  exact this.text.symm
theorem iri_signs {s : ByteArray} (h : iriG s = true) : (sgP s).2 = [] ∧ ∀ n ∈ (sgP s).1, n ≠ 62 ∧ n ≠ 10 ∧ n ≠ 92 := by
  unfold iriG iriB at h
  rw [Bool.and_eq_true, Bool.and_eq_true, Bool.and_eq_true, decide_eq_true_eq, decide_eq_true_eq, List.all_eq_true] at h
  refine ⟨h.1, fun n hn => ?_⟩
  have := h.2.2.2 n hn
  unfold okS at this
  rw [decide_eq_true_eq] at this
  refine ⟨by omega, fun e => this.2.1 ?_, by omega⟩
  rw [e]; decide
theorem lab_signs : ∀ (l : List Int) (i : Nat), labSG i l = true → ∀ n ∈ l, wms msB n = true
  | [], _, _, n, hn => by cases hn
  | m :: l, i, h, n, hn => by
    unfold labSG at h
    rw [Bool.and_eq_true] at h
    rcases List.mem_cons.1 hn with rfl | hn
    · have := h.1
      unfold labS at this
      unfold wms
      simp only [Bool.or_eq_true, Bool.and_eq_true, beq_iff_eq] at this ⊢
      rcases this with a | a | ⟨_, a⟩
      · exact .inl a
      · exact .inr (.inl a)
      · exact .inr (.inr (by simp; omega))
    · exact lab_signs l (i + 1) h.2 n hn
theorem label_signs {s : ByteArray} (h : labelG s = true) : (sgP s).2 = [] ∧ ∀ n ∈ (sgP s).1, wms msB n = true := by
  rw [← blankB_label (sgP_parts s)] at h
  unfold blankB at h
  rw [Bool.and_eq_true, Bool.and_eq_true, decide_eq_true_eq] at h
  exact ⟨h.1, lab_signs _ 0 h.2.1⟩
theorem mach_bytes : ∀ (l : List UInt8) (p g : Nat), mach p g l = true → ∀ c ∈ l, c = 45 ∨ letU c = true ∨ digU c = true
  | [], _, _, _, c, hc => by cases hc
  | d :: l, p, g, h, c, hc => by
    unfold mach at h
    by_cases h45 : d = 45
    · rw [if_pos h45] at h
      by_cases hg : g = 0
      · rw [if_pos hg] at h; cases h
      · rw [if_neg hg] at h
        rcases List.mem_cons.1 hc with rfl | hc
        · exact .inl h45
        · exact mach_bytes l _ _ h c hc
    · rw [if_neg h45] at h
      by_cases ho : okc p d = true
      · rw [if_pos ho] at h
        by_cases hg : 8 < g + 1
        · rw [if_pos hg] at h; cases h
        · rw [if_neg hg] at h
          rcases List.mem_cons.1 hc with rfl | hc
          · unfold okc at ho
            rw [Bool.or_eq_true, Bool.and_eq_true] at ho
            rcases ho with a | a
            · exact .inr (.inl a)
            · exact .inr (.inr a.2)
          · exact mach_bytes l _ _ h c hc
      · rw [if_neg ho] at h; cases h
theorem lang_signs {s : ByteArray} (h : langB s = true) : (sgP s).2 = [] ∧ ∀ n ∈ (sgP s).1, wms msL n = true := by
  unfold langB at h
  rw [Bool.and_eq_true] at h
  have hb := mach_bytes _ _ _ h.2
  have hc : ∀ c ∈ s.data.toList, c.toNat < 128 ∧ wms msL (c.toNat : Int) = true := fun c hc => by
    rcases hb c hc with rfl | a | a
    · exact ⟨by decide, by decide⟩
    · unfold letU at a
      rw [decide_eq_true_eq] at a
      refine ⟨by omega, ?_⟩
      have e : cls (c.toNat : Int) = 1 := by unfold cls; omega
      unfold wms
      rw [e]; rfl
    · unfold digU at a
      rw [decide_eq_true_eq] at a
      refine ⟨by omega, ?_⟩
      have e : cls (c.toNat : Int) = 2 := by unfold cls; omega
      unfold wms
      rw [e]; rfl
  have hp : Parts s.data.toList (sigs s.data.toList) [] := by
    refine ascii_parts s _ ?_ ?_
    · unfold ascii sigs
      rw [List.all_eq_true]
      intro n hn
      obtain ⟨c, hc1, rfl⟩ := List.mem_map.1 hn
      have := (hc c hc1).1
      simp; omega
    · unfold sigs
      rw [List.map_map]
      conv => lhs; rw [← List.map_id s.data.toList]
      exact List.map_congr_left fun c _ => by simp
  obtain ⟨e1, e2⟩ := sgP_one hp
  refine ⟨e2, fun n hn => ?_⟩
  rw [e1] at hn
  obtain ⟨c, hc1, rfl⟩ := List.mem_map.1 hn
  exact (hc c hc1).2
/-- The signs of a term's text. -/
noncomputable def tailS (b c : ByteArray) : List Int := if c.size = 0 then (if b = XS then [] else 94 :: 94 :: 60 :: ((sgP b).1 ++ [62])) else 64 :: (sgP c).1
noncomputable def tS : Tm → List Int
  | .iri s => 60 :: ((sgP s).1 ++ [62])
  | .blank s => 95 :: 58 :: (sgP s).1
  | .lit a b c => quoS (sgP a).1 ++ tailS b c
  | _ => []
end Go.Proofs.Ytpnfjjgihkmjmaa

/-
  A TERM AS THE DOCUMENT's (becklaw03.Ref).
-/
namespace Go.Proofs.Ytpnfjjgihkmjmaa
open Go.RowKit
set_option linter.unusedVariables false
set_option linter.unusedSimpArgs false

set_option maxRecDepth 100000 in
theorem lref_any (t : Tm) (w : World) : Calls Try.prog 18 #[t.val] w fun e w' => e = .returned (F4 t.kind t.ta t.tb t.tc) ∧ Below w.heap.size w w' := by
  cases t with
  | blank s =>
    simp only [Tm.val, Tm.kind, Tm.ta, Tm.tb, Tm.tc]
    have hBB := asBB
    go_enter Try.func18, Try.ntmps18
    go_wp2
    exact bodyPost_ret (v := F4 0 s mt mt) (by simp [results, Try.results18, go_sem]) rfl ⟨rfl, ((Below.refl _ _).alloc (Nat.le_refl _) _).alloc (by simp) _⟩
  | iri s =>
    simp only [Tm.val, Tm.kind, Tm.ta, Tm.tb, Tm.tc]
    have hIB := asIB
    have hII := asII
    go_enter Try.func18, Try.ntmps18
    go_wp2
    exact bodyPost_ret (v := F4 1 s mt mt) (by simp [results, Try.results18, go_sem]) rfl ⟨rfl, ((Below.refl _ _).alloc (Nat.le_refl _) _).alloc (by simp) _⟩
  | lit a b c =>
    simp only [Tm.val, Tm.kind, Tm.ta, Tm.tb, Tm.tc]
    have hLB := asLB
    have hLI := asLI
    have hLL := asLL
    go_enter Try.func18, Try.ntmps18
    go_wp2
    exact bodyPost_ret (v := F4 2 a b c) (by simp [results, Try.results18, go_sem]) rfl ⟨rfl, ((Below.refl _ _).alloc (Nat.le_refl _) _).alloc (by simp) _⟩
  | odd n =>
    simp only [Tm.val, Tm.kind, Tm.ta, Tm.tb, Tm.tc]
    have hOB := asOB
    have hOI := asOI
    have hOL := asOL
    go_enter Try.func18, Try.ntmps18
    go_wp2
    exact bodyPost_ret (v := F4 3 mt mt mt) (by simp [results, Try.results18, go_sem]) rfl ⟨rfl, (Below.refl _ _).alloc (Nat.le_refl _) _⟩
  | none =>
    simp only [Tm.val, Tm.kind, Tm.ta, Tm.tb, Tm.tc]
    have hNB := asNB
    have hNI := asNI
    have hNL := asNL
    go_enter Try.func18, Try.ntmps18
    go_wp2
    exact bodyPost_ret (v := F4 3 mt mt mt) (by simp [results, Try.results18, go_sem]) rfl ⟨rfl, (Below.refl _ _).alloc (Nat.le_refl _) _⟩
theorem eqlT4 (k : Int) (a b c : ByteArray) (k' : Int) (a' b' c' : ByteArray) (w : World) :
    (binOp .eql 32 (F4 k a b c) (F4 k' a' b' c')).run Try.prog w = .ok (.bool ((k == k') && ((a.toList == a'.toList) && ((b.toList == b'.toList) && (c.toList == c'.toList))))) w := by
  go_simp
  by_cases hk : k = k'
  · by_cases h1 : a.toList = a'.toList <;> by_cases h2 : b.toList = b'.toList <;> by_cases h3 : c.toList = c'.toList <;> simp [hk, h1, h2, h3]
  · simp [hk]
end Go.Proofs.Ytpnfjjgihkmjmaa
