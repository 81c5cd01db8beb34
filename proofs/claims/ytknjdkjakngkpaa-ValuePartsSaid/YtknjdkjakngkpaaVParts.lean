/-
  ValueParts, WHATEVER THE INTEGERS, at whatever place: a sum, or a product, of many is that of what comes out of the first ones, and the others: the law returns true, and its arguments read as before.
-/
import Derived.Test.YtknjdkjakngkpaaVTwo
import Derived.Test.YtknjdkjakngkpaaRows
import Derived.ProofKit
import Derived.OpenShut
import Derived.ChangeSlices
import Derived.Maps.AppendAt
import Derived.Laws.AppendOwn
import Derived.Laws.OwnMore
import Derived.OwnWalk
import Derived.Laws.AppendOwnNone
namespace Go.Proofs.Ytknjdkjakngkpaa
open Go.ChangeShapes Go.WideShapes Go.ChangeAt Go.RowKit
set_option linter.unusedVariables false

theorem foZ_append (op : Int → Int → Int) (b : List Int) : ∀ (a : List Int) (acc : Int), foZ op acc (a ++ b) = (foZ op acc a).bind fun z => foZ op z b
  | [], acc => rfl
  | n :: a, acc => by
    simp only [List.cons_append, foZ]
    split
    · exact foZ_append op b a _
    · rfl
theorem foZ_fit (op : Int → Int → Int) : ∀ (a : List Int) (acc z : Int), fit acc → foZ op acc a = some z → fit z
  | [], acc, z, h, e => by simp only [foZ, Option.some.injEq] at e; rw [← e]; exact h
  | n :: a, acc, z, h, e => by
    simp only [foZ] at e
    split at e
    · exact foZ_fit op a _ z (by assumption) e
    · cases e
theorem i64Info : (Try.prog.info? 2).map (fun i => (i.zero, i.size, i.bytes)) = some (some (.int .i64 0), 1, 8) := by kernel_rfl
def lRow (l : List Int) : List Value := l.map (Value.int .i64)
theorem addr_add' (g o j : Nat) : (⟨g, o, none⟩ : Addr).add j = ⟨g, o + j, none⟩ := by
  by_cases hj : j = 0
  · subst hj; simp [Addr.add]
  · simp [Addr.add, hj]
theorem own_lat {B : Nat} {w : World} {v : Value} {l : List Int} (h : w.ownsRow B 2 1 v l.length (lRow l)) : ∃ A c, v = .slice A l.length c ∧ LAt w A l := by
  rcases h.2 with ⟨hv, hl⟩ | ⟨g, cap, cur, hv, _, hh, _⟩
  · obtain rfl : l = [] := List.length_eq_zero_iff.1 hl
    exact ⟨none, 0, hv, fun j x hx => by simp at hx⟩
  · refine ⟨_, cap, hv, fun j x hx => ⟨g, 0, rfl, (Array.getElem?_eq_some_iff.1 hh).1, ?_⟩⟩
    have := World.ownsRow.cells h (g := g) (by rw [hv]; rfl) j (.int .i64 x) (by simp [lRow, hx])
    rw [← addr_add']; exact this
theorem LAt.take {w : World} {A : Option Addr} {l : List Int} (h : LAt w A l) (k : Nat) : LAt w A (l.take k) := by
  intro j x hx
  refine h j x ?_
  have hj := (List.getElem?_eq_some_iff.1 hx).1
  simp at hj
  rw [List.getElem?_take_of_lt (by omega)] at hx
  exact hx
/-- Add, Mul in a world that has grown. -/
def Ev (w : World) (f : FuncId) (v : Value) (o : Value) : Prop := ∀ W, Below w.heap.size w W → Calls Try.prog f #[v] W fun e w' => e = .returned o ∧ Below w.heap.size w w'
theorem ev_add {w : World} {l : List Int} (hf : AllFit l) (hl : l.length ≤ 1000000) {A : Option Addr} (cap : Nat) (h : LAt w A l) : Ev w 17 (.slice A l.length cap) (outZ (foZ (· + ·) 0 l)) :=
  fun W hb => (add_many l hf hl A cap W (h.below hb)).mono fun _ _ ⟨a, b⟩ => ⟨a, hb.trans (b.mono hb.size)⟩
theorem ev_mul {w : World} {l : List Int} (hf : AllFit l) (hl : l.length ≤ 1000000) {A : Option Addr} (cap : Nat) (h : LAt w A l) : Ev w 19 (.slice A l.length cap) (outZ (foZ (· * ·) 1 l)) :=
  fun W hb => (mul_many l hf hl A cap W (h.below hb)).mono fun _ _ ⟨a, b⟩ => ⟨a, hb.trans (b.mono hb.size)⟩
theorem Ev.at {w : World} {f : FuncId} {v o : Value} (h : Ev w f v o) (W : World) (hb : Below w.heap.size w W) : Calls Try.prog f #[v] W fun e w' => e = .returned o ∧ Below w.heap.size w w' := h W hb
theorem AllFit.take {l : List Int} (h : AllFit l) (k : Nat) : AllFit (l.take k) := fun x hx => h x (List.mem_of_mem_take hx)

theorem out_two : ∀ o : Option Int, ∃ n e, outZ o = two n e
  | some z => ⟨z, 0, rfl⟩
  | none => ⟨0, 9, rfl⟩
theorem foZ_cons (op : Int → Int → Int) (z a : Int) (l : List Int) (h : op z a = a) (hf : fit a) : foZ op z (a :: l) = foZ op a l := by simp only [foZ, h]; rw [if_pos hf]
theorem app_add {w w5 : World} {v : Value} {a n e : Int} {l : List Int} {k : Nat} (hl : AllFit l) (hl20 : l.length ≤ 20) (h3 : foZ (· + ·) 0 (l.take k) = some a) (h1 : outZ (foZ (· + ·) 0 l) = two n e) (hb : Below w.heap.size w w5) {B N : Nat} (hown : w5.ownsRow B 2 1 v N (lRow (a :: l.drop k))) (hN : N = 1 + (l.length - k)) :
    (∃ A c, v = .slice A N c) ∧ Calls Try.prog 17 #[v] w5 fun e' w' => e' = .returned (two n e) ∧ Below w.heap.size w w' := by
  have hfa : fit a := foZ_fit _ _ _ _ (by decide) h3
  have hN' : N = (a :: l.drop k).length := by simp; omega
  rw [hN'] at hown
  obtain ⟨A, c, rfl, hat⟩ := own_lat hown
  refine ⟨⟨A, c, by rw [hN']⟩, ?_⟩
  refine (add_many (a :: l.drop k) (fun x hx => ?_) (by simp; omega) A c w5 hat).mono fun e' w' ⟨h, hb'⟩ => ⟨?_, hb.trans (hb'.mono hb.size)⟩
  · rcases List.mem_cons.1 hx with rfl | hx
    · exact hfa
    · exact hl x (List.mem_of_mem_drop hx)
  · rw [h, ← h1, foZ_cons _ _ _ _ (by omega) hfa]
    conv => rhs; rw [← List.take_append_drop k l, foZ_append, h3]
    rfl
theorem app_mul {w w5 : World} {v : Value} {a n e : Int} {l : List Int} {k : Nat} (hl : AllFit l) (hl20 : l.length ≤ 20) (h3 : foZ (· * ·) 1 (l.take k) = some a) (h1 : outZ (foZ (· * ·) 1 l) = two n e) (hb : Below w.heap.size w w5) {B N : Nat} (hown : w5.ownsRow B 2 1 v N (lRow (a :: l.drop k))) (hN : N = 1 + (l.length - k)) :
    (∃ A c, v = .slice A N c) ∧ Calls Try.prog 19 #[v] w5 fun e' w' => e' = .returned (two n e) ∧ Below w.heap.size w w' := by
  have hfa : fit a := foZ_fit _ _ _ _ (by decide) h3
  have hN' : N = (a :: l.drop k).length := by simp; omega
  rw [hN'] at hown
  obtain ⟨A, c, rfl, hat⟩ := own_lat hown
  refine ⟨⟨A, c, by rw [hN']⟩, ?_⟩
  refine (mul_many (a :: l.drop k) (fun x hx => ?_) (by simp; omega) A c w5 hat).mono fun e' w' ⟨h, hb'⟩ => ⟨?_, hb.trans (hb'.mono hb.size)⟩
  · rcases List.mem_cons.1 hx with rfl | hx
    · exact hfa
    · exact hl x (List.mem_of_mem_drop hx)
  · rw [h, ← h1, foZ_cons _ _ _ _ (by show 1 * a = a; omega) hfa]
    conv => rhs; rw [← List.take_append_drop k l, foZ_append, h3]
    rfl
theorem row_at {w W : World} {g o k : Nat} {l : List Int} (h : LAt w (some ⟨g, o, none⟩) l) (hb : Below w.heap.size w W) (ob : Obj) (j : Nat) (u : Value) (hj : (lRow (l.drop k))[j]? = some u) : (W.alloc ob).cell? ((⟨g, o + k, none⟩ : Addr).add j) = some u := by
  simp only [lRow, List.getElem?_map, List.getElem?_drop] at hj
  cases hx : l[k + j]? with
  | none => rw [hx] at hj; cases hj
  | some x =>
    rw [hx] at hj
    simp at hj
    subst hj
    obtain ⟨hg, hc⟩ := h.cellAt hx
    rw [addr_add', show o + k + j = o + (k + j) by omega, World.cell?_alloc_lt _ _ _ (by have := hb.size; simp; omega)]
    exact (hb.cell (p := ⟨g, o + (k + j), none⟩) hg).trans hc
theorem one_cell (l : List Int) : ∀ u ∈ lRow l, u.oneCell' = true := by
  intro u hu
  simp only [lRow, List.mem_map] at hu
  obtain ⟨x, _, rfl⟩ := hu
  rfl
theorem row_none {w W : World} {ad : Addr} (j : Nat) (u : Value) (hj : ([] : List Value)[j]? = some u) : W.cell? (ad.add j) = some u := by simp at hj
theorem fo_none3 {op : Int → Int → Int} {z : Int} {l : List Int} {k : Nat} (h3 : foZ op z (l.take k) = none) : foZ op z l = none := by
  rw [← List.take_append_drop k l, foZ_append, h3]; rfl
set_option maxHeartbeats 8000000 in
set_option maxRecDepth 100000 in
theorem parts_M (l : List Int) (hl : AllFit l) (g o cap k : Nat) (hlc : l.length ≤ cap) (hk : k ≤ l.length) (hl20 : l.length ≤ 20) (x : Int) (hx : 0 ≤ x) (hx1 : x ≤ 255) (hxk : x % ((l.length : Int) + 1) = (k : Int)) (w : World) (hat : LAt w (some ⟨g, o, none⟩) l) (hck : cap ≠ k) :
    Calls Try.prog 9 #[.slice (some ⟨g, o, none⟩) l.length cap, .int .u8 x] w fun e w' => e = .returned (.bool true) ∧ Below w.heap.size w w' := by
  have HL := Lib.hid hl
  have HT := Lib.hid hat
  have HS := Lib.hid hl20
  obtain ⟨i0, hi, hz0, hz1, hz2⟩ := info_parts i64Info
  have hb0 : Below w.heap.size w w := Below.refl _ _
  obtain ⟨n, e, h1⟩ := out_two (foZ (· + ·) 0 l)
  obtain ⟨p, f, h2⟩ := out_two (foZ (· * ·) 1 l)
  have c1 := ev_add hl (by omega) cap hat
  have c2 := ev_mul hl (by omega) cap hat
  have c3 := ev_add (hl.take k) (by simp; omega) cap (hat.take k)
  have c4 := ev_mul (hl.take k) (by simp; omega) cap (hat.take k)
  rw [show (l.take k).length = k by simp; omega] at c3 c4
  have h40 : ¬ (20 : Int) < (l.length : Int) := by omega
  cases h3 : foZ (· + ·) 0 (l.take k) with
  | none =>
    cases h4 : foZ (· * ·) 1 (l.take k) with
    | none =>
      rw [fo_none3 h3] at h1
      rw [fo_none3 h4] at h2
      rw [fo_none3 h3] at c1
      rw [fo_none3 h4] at c2
      rw [h3] at c3
      rw [h4] at c4
      have c1' : Ev w 17 (.slice (some ⟨g, o, none⟩) l.length cap) (two 0 9) := c1
      have c2' : Ev w 19 (.slice (some ⟨g, o, none⟩) l.length cap) (two 0 9) := c2
      have c3' : Ev w 17 (.slice (some ⟨g, o, none⟩) k cap) (two 0 9) := c3
      have c4' : Ev w 19 (.slice (some ⟨g, o, none⟩) k cap) (two 0 9) := c4
      have H1 := Lib.hid h1
      have H2 := Lib.hid h2
      have H3 := Lib.hid h3
      have H4 := Lib.hid h4
      clear c1 c2 c3 c4 h1 h2 h3 h4 hl hat
      go_enter Try.func9, Try.ntmps9
      go_wp2_with (first
        | (go_at_call 11; (with_reducible refine (vawake_at (w := w) _ (by assumption)).mono ?_); rintro e w0 ⟨rfl, hb0'⟩)
        | (go_at_call 17; (with_reducible refine (c1'.at _ (by assumption)).mono ?_); rintro e w1 ⟨rfl, hb1⟩)
        | (go_at_call 19; (with_reducible refine (c2'.at _ (by assumption)).mono ?_); rintro e w2 ⟨rfl, hb2⟩)
        | (go_at_call 17; (with_reducible refine (c3'.at _ (by assumption)).mono ?_); rintro e w3 ⟨rfl, hb3⟩)
        | (go_at_call 19; (with_reducible refine (c4'.at _ (by assumption)).mono ?_); rintro e w4 ⟨rfl, hb4⟩))
      go_ret
      exact ⟨rfl, hb4⟩
    | some b =>
      rw [fo_none3 h3] at h1
      rw [fo_none3 h3] at c1
      rw [h2] at c2
      rw [h3] at c3
      rw [h4] at c4
      have c1' : Ev w 17 (.slice (some ⟨g, o, none⟩) l.length cap) (two 0 9) := c1
      have c2' : Ev w 19 (.slice (some ⟨g, o, none⟩) l.length cap) (two p f) := c2
      have c3' : Ev w 17 (.slice (some ⟨g, o, none⟩) k cap) (two 0 9) := c3
      have c4' : Ev w 19 (.slice (some ⟨g, o, none⟩) k cap) (two b 0) := c4
      have H1 := Lib.hid h1
      have H2 := Lib.hid h2
      have H3 := Lib.hid h3
      have H4 := Lib.hid h4
      clear c1 c2 c3 c4 h1 h2 h3 h4 hl hat
      go_enter Try.func9, Try.ntmps9
      go_wp2_with (first
        | (go_at_call 11; (with_reducible refine (vawake_at (w := w) _ (by assumption)).mono ?_); rintro e w0 ⟨rfl, hb0'⟩)
        | (go_at_call 17; (with_reducible refine (c1'.at _ (by assumption)).mono ?_); rintro e w1 ⟨rfl, hb1⟩)
        | (go_at_call 19; (with_reducible refine (c2'.at _ (by assumption)).mono ?_); rintro e w2 ⟨rfl, hb2⟩)
        | (go_at_call 17; (with_reducible refine (c3'.at _ (by assumption)).mono ?_); rintro e w3 ⟨rfl, hb3⟩)
        | (go_at_call 19; (with_reducible refine (c4'.at _ (by assumption)).mono ?_); rintro e w4 ⟨rfl, hb4⟩)
        | (at_builtin; refine wpList_append_own _ rfl _ _ 43 rfl w.heap.size 2 i0 (.int .i64 0) 1 8 Try.underlying43 hi hz0 hz1 hz2 rfl (by decide) _ _ _ rfl (World.ownsRow_lit w4 #[.int .i64 b] 1 hb4.size (by decide) rfl) ⟨g, o + k, none⟩ (l.length - k) (cap - k) (lRow (l.drop k)) rfl ?t0 ?t1 ?t2 ?t3 ?t4 ?t5 ?_))
      try (case t0 => simp [lRow])
      try (case t1 => first | exact row_at HT.out hb4 _ | (intro j u hj; exact row_at HT.out hb4 _ j u hj))
      try (case t2 => exact one_cell _)
      try (case t3 => unfold maxLen; omega)
      try (case t4 => omega)
      try (case t5 => first | omega | (simp; have := hb4.size; omega))
      intro vt wt hownt hgrt _
      have hwt : Below w.heap.size w wt := (hb4.alloc hb4.size _).grown hgrt (by have := hb4.size; simp; omega) (by intro q hq; simp [Value.ownBlock] at hq; have := hb4.size; omega)
      obtain ⟨⟨At, cct, rfl⟩, ct⟩ := app_mul (k := k) HL.out HS.out H4.out H2.out hwt (v := vt) (by simpa [lRow] using hownt) rfl
      clear hownt hgrt
      go_wp2_with (first
        | (go_at_call 19; (with_reducible refine ct.mono ?_); rintro e w6 ⟨rfl, hb6⟩))
      go_ret
      exact ⟨rfl, hb6⟩
  | some a =>
    cases h4 : foZ (· * ·) 1 (l.take k) with
    | none =>
      rw [fo_none3 h4] at h2
      rw [h1] at c1
      rw [fo_none3 h4] at c2
      rw [h3] at c3
      rw [h4] at c4
      have c1' : Ev w 17 (.slice (some ⟨g, o, none⟩) l.length cap) (two n e) := c1
      have c2' : Ev w 19 (.slice (some ⟨g, o, none⟩) l.length cap) (two 0 9) := c2
      have c3' : Ev w 17 (.slice (some ⟨g, o, none⟩) k cap) (two a 0) := c3
      have c4' : Ev w 19 (.slice (some ⟨g, o, none⟩) k cap) (two 0 9) := c4
      have H1 := Lib.hid h1
      have H2 := Lib.hid h2
      have H3 := Lib.hid h3
      have H4 := Lib.hid h4
      clear c1 c2 c3 c4 h1 h2 h3 h4 hl hat
      go_enter Try.func9, Try.ntmps9
      go_wp2_with (first
        | (go_at_call 11; (with_reducible refine (vawake_at (w := w) _ (by assumption)).mono ?_); rintro e w0 ⟨rfl, hb0'⟩)
        | (go_at_call 17; (with_reducible refine (c1'.at _ (by assumption)).mono ?_); rintro e w1 ⟨rfl, hb1⟩)
        | (go_at_call 19; (with_reducible refine (c2'.at _ (by assumption)).mono ?_); rintro e w2 ⟨rfl, hb2⟩)
        | (go_at_call 17; (with_reducible refine (c3'.at _ (by assumption)).mono ?_); rintro e w3 ⟨rfl, hb3⟩)
        | (go_at_call 19; (with_reducible refine (c4'.at _ (by assumption)).mono ?_); rintro e w4 ⟨rfl, hb4⟩)
        | (at_builtin; refine wpList_append_own _ rfl _ _ 43 rfl w.heap.size 2 i0 (.int .i64 0) 1 8 Try.underlying43 hi hz0 hz1 hz2 rfl (by decide) _ _ _ rfl (World.ownsRow_lit w4 #[.int .i64 a] 1 hb4.size (by decide) rfl) ⟨g, o + k, none⟩ (l.length - k) (cap - k) (lRow (l.drop k)) rfl ?s0 ?s1 ?s2 ?s3 ?s4 ?s5 ?_))
      try (case s0 => simp [lRow])
      try (case s1 => first | exact row_at HT.out hb4 _ | (intro j u hj; exact row_at HT.out hb4 _ j u hj))
      try (case s2 => exact one_cell _)
      try (case s3 => unfold maxLen; omega)
      try (case s4 => omega)
      try (case s5 => first | omega | (simp; have := hb4.size; omega))
      intro vs ws howns hgrs _
      have hws : Below w.heap.size w ws := (hb4.alloc hb4.size _).grown hgrs (by have := hb4.size; simp; omega) (by intro q hq; simp [Value.ownBlock] at hq; have := hb4.size; omega)
      obtain ⟨⟨As, ccs, rfl⟩, cs⟩ := app_add (k := k) HL.out HS.out H3.out H1.out hws (v := vs) (by simpa [lRow] using howns) rfl
      clear howns hgrs
      go_wp2_with (first
        | (go_at_call 17; (with_reducible refine cs.mono ?_); rintro e w5 ⟨rfl, hb5⟩))
      go_ret
      exact ⟨rfl, hb5⟩
    | some b =>
      rw [h1] at c1
      rw [h2] at c2
      rw [h3] at c3
      rw [h4] at c4
      have c1' : Ev w 17 (.slice (some ⟨g, o, none⟩) l.length cap) (two n e) := c1
      have c2' : Ev w 19 (.slice (some ⟨g, o, none⟩) l.length cap) (two p f) := c2
      have c3' : Ev w 17 (.slice (some ⟨g, o, none⟩) k cap) (two a 0) := c3
      have c4' : Ev w 19 (.slice (some ⟨g, o, none⟩) k cap) (two b 0) := c4
      have H1 := Lib.hid h1
      have H2 := Lib.hid h2
      have H3 := Lib.hid h3
      have H4 := Lib.hid h4
      clear c1 c2 c3 c4 h1 h2 h3 h4 hl hat
      go_enter Try.func9, Try.ntmps9
      go_wp2_with (first
        | (go_at_call 11; (with_reducible refine (vawake_at (w := w) _ (by assumption)).mono ?_); rintro e w0 ⟨rfl, hb0'⟩)
        | (go_at_call 17; (with_reducible refine (c1'.at _ (by assumption)).mono ?_); rintro e w1 ⟨rfl, hb1⟩)
        | (go_at_call 19; (with_reducible refine (c2'.at _ (by assumption)).mono ?_); rintro e w2 ⟨rfl, hb2⟩)
        | (go_at_call 17; (with_reducible refine (c3'.at _ (by assumption)).mono ?_); rintro e w3 ⟨rfl, hb3⟩)
        | (go_at_call 19; (with_reducible refine (c4'.at _ (by assumption)).mono ?_); rintro e w4 ⟨rfl, hb4⟩)
        | (at_builtin; refine wpList_append_own _ rfl _ _ 43 rfl w.heap.size 2 i0 (.int .i64 0) 1 8 Try.underlying43 hi hz0 hz1 hz2 rfl (by decide) _ _ _ rfl (World.ownsRow_lit w4 #[.int .i64 a] 1 hb4.size (by decide) rfl) ⟨g, o + k, none⟩ (l.length - k) (cap - k) (lRow (l.drop k)) rfl ?s0 ?s1 ?s2 ?s3 ?s4 ?s5 ?_))
      try (case s0 => simp [lRow])
      try (case s1 => first | exact row_at HT.out hb4 _ | (intro j u hj; exact row_at HT.out hb4 _ j u hj))
      try (case s2 => exact one_cell _)
      try (case s3 => unfold maxLen; omega)
      try (case s4 => omega)
      try (case s5 => first | omega | (simp; have := hb4.size; omega))
      intro vs ws howns hgrs _
      have hws : Below w.heap.size w ws := (hb4.alloc hb4.size _).grown hgrs (by have := hb4.size; simp; omega) (by intro q hq; simp [Value.ownBlock] at hq; have := hb4.size; omega)
      obtain ⟨⟨As, ccs, rfl⟩, cs⟩ := app_add (k := k) HL.out HS.out H3.out H1.out hws (v := vs) (by simpa [lRow] using howns) rfl
      clear howns hgrs
      go_wp2_with (first
        | (go_at_call 17; (with_reducible refine cs.mono ?_); rintro e w5 ⟨rfl, hb5⟩)
        | (at_builtin; refine wpList_append_own _ rfl _ _ 43 rfl w.heap.size 2 i0 (.int .i64 0) 1 8 Try.underlying43 hi hz0 hz1 hz2 rfl (by decide) _ _ _ rfl (World.ownsRow_lit w5 #[.int .i64 b] 1 hb5.size (by decide) rfl) ⟨g, o + k, none⟩ (l.length - k) (cap - k) (lRow (l.drop k)) rfl ?t0 ?t1 ?t2 ?t3 ?t4 ?t5 ?_))
      try (case t0 => simp [lRow])
      try (case t1 => first | exact row_at HT.out hb5 _ | (intro j u hj; exact row_at HT.out hb5 _ j u hj))
      try (case t2 => exact one_cell _)
      try (case t3 => unfold maxLen; omega)
      try (case t4 => omega)
      try (case t5 => first | omega | (simp; have := hb5.size; omega))
      intro vt wt hownt hgrt _
      have hwt : Below w.heap.size w wt := (hb5.alloc hb5.size _).grown hgrt (by have := hb5.size; simp; omega) (by intro q hq; simp [Value.ownBlock] at hq; have := hb5.size; omega)
      obtain ⟨⟨At, cct, rfl⟩, ct⟩ := app_mul (k := k) HL.out HS.out H4.out H2.out hwt (v := vt) (by simpa [lRow] using hownt) rfl
      clear hownt hgrt
      go_wp2_with (first
        | (go_at_call 19; (with_reducible refine ct.mono ?_); rintro e w6 ⟨rfl, hb6⟩))
      go_ret
      exact ⟨rfl, hb6⟩
set_option maxHeartbeats 8000000 in
set_option maxRecDepth 100000 in
theorem parts_E (l : List Int) (hl : AllFit l) (ad : Addr) (k : Nat) (hk : l.length = k) (hl20 : l.length ≤ 20) (x : Int) (hx : 0 ≤ x) (hx1 : x ≤ 255) (hxk : x % ((k : Int) + 1) = (k : Int)) (w : World) (hat : LAt w (some ad) l) :
    Calls Try.prog 9 #[.slice (some ad) k k, .int .u8 x] w fun e w' => e = .returned (.bool true) ∧ Below w.heap.size w w' := by
  have HL := Lib.hid hl
  have HT := Lib.hid hat
  have HS := Lib.hid hl20
  obtain ⟨i0, hi, hz0, hz1, hz2⟩ := info_parts i64Info
  have hb0 : Below w.heap.size w w := Below.refl _ _
  have HD : Hid (l.drop k = []) := Lib.hid (List.drop_eq_nil_of_le (by omega))
  have HK : Hid (1 = 1 + (l.length - k)) := Lib.hid (by omega)
  have htk : l.take k = l := List.take_of_length_le (by omega)
  have c1 := ev_add hl (by omega) k hat
  have c2 := ev_mul hl (by omega) k hat
  rw [hk] at c1 c2
  have h40 : ¬ (20 : Int) < (k : Int) := by omega
  cases h3 : foZ (· + ·) 0 l with
  | none =>
    cases h4 : foZ (· * ·) 1 l with
    | none =>
      rw [h3] at c1
      rw [h4] at c2
      have c1' : Ev w 17 (.slice (some ad) k k) (two 0 9) := c1
      have c2' : Ev w 19 (.slice (some ad) k k) (two 0 9) := c2
      clear c1 c2 h3 h4 hl hat htk hk
      go_enter Try.func9, Try.ntmps9
      go_wp2_with (first
        | (go_at_call 11; (with_reducible refine (vawake_at (w := w) _ (by assumption)).mono ?_); rintro e w0 ⟨rfl, hb0'⟩)
        | (go_at_call 17; (with_reducible refine (c1'.at _ (by assumption)).mono ?_); rintro e w1 ⟨rfl, hb1⟩)
        | (go_at_call 19; (with_reducible refine (c2'.at _ (by assumption)).mono ?_); rintro e w2 ⟨rfl, hb2⟩))
      go_ret
      exact ⟨rfl, hb2⟩
    | some b =>
      rw [h3] at c1
      rw [h4] at c2
      have c1' : Ev w 17 (.slice (some ad) k k) (two 0 9) := c1
      have c2' : Ev w 19 (.slice (some ad) k k) (two b 0) := c2
      have H2 : Hid (outZ (foZ (· * ·) 1 l) = two b 0) := Lib.hid (by rw [h4]; rfl)
      have H4 : Hid (foZ (· * ·) 1 (l.take k) = some b) := Lib.hid (by rw [htk]; exact h4)
      clear c1 c2 h3 h4 hl hat htk hk
      go_enter Try.func9, Try.ntmps9
      go_wp2_with (first
        | (go_at_call 11; (with_reducible refine (vawake_at (w := w) _ (by assumption)).mono ?_); rintro e w0 ⟨rfl, hb0'⟩)
        | (go_at_call 17; (with_reducible refine (c1'.at _ (by assumption)).mono ?_); rintro e w1 ⟨rfl, hb1⟩)
        | (go_at_call 19; (with_reducible refine (c2'.at _ (by assumption)).mono ?_); rintro e w2 ⟨rfl, hb2⟩)
        | (at_builtin; refine wpList_append_own _ rfl _ _ 43 rfl w.heap.size 2 i0 (.int .i64 0) 1 8 Try.underlying43 hi hz0 hz1 hz2 rfl (by decide) _ _ _ rfl (World.ownsRow_lit w2 #[.int .i64 b] 1 hb2.size (by decide) rfl) ad 0 0 [] rfl ?t0 ?t1 ?t2 ?t3 ?t4 ?t5 ?_))
      try (case t0 => rfl)
      try (case t1 => first | rfl | (intro j u hj; simp at hj))
      try (case t2 => first | rfl | (intro u hu; cases hu))
      try (case t3 => unfold maxLen; omega)
      try (case t4 => omega)
      try (case t5 => first | omega | (simp; have := hb2.size; omega))
      intro vt wt hownt hgrt _
      have hwt : Below w.heap.size w wt := (hb2.alloc hb2.size _).grown hgrt (by have := hb2.size; simp; omega) (by intro q hq; simp [Value.ownBlock] at hq; have := hb2.size; omega)
      obtain ⟨⟨At, cct, rfl⟩, ct⟩ := app_mul (k := k) HL.out HS.out H4.out H2.out hwt (v := vt) (N := 1) (by rw [HD.out]; simpa [lRow] using hownt) HK.out
      clear hownt hgrt
      go_wp2_with (first
        | (go_at_call 19; (with_reducible refine ct.mono ?_); rintro e w6 ⟨rfl, hb6⟩))
      go_ret
      exact ⟨rfl, hb6⟩
  | some a =>
    cases h4 : foZ (· * ·) 1 l with
    | none =>
      rw [h3] at c1
      rw [h4] at c2
      have c1' : Ev w 17 (.slice (some ad) k k) (two a 0) := c1
      have c2' : Ev w 19 (.slice (some ad) k k) (two 0 9) := c2
      have H1 : Hid (outZ (foZ (· + ·) 0 l) = two a 0) := Lib.hid (by rw [h3]; rfl)
      have H3 : Hid (foZ (· + ·) 0 (l.take k) = some a) := Lib.hid (by rw [htk]; exact h3)
      clear c1 c2 h3 h4 hl hat htk hk
      go_enter Try.func9, Try.ntmps9
      go_wp2_with (first
        | (go_at_call 11; (with_reducible refine (vawake_at (w := w) _ (by assumption)).mono ?_); rintro e w0 ⟨rfl, hb0'⟩)
        | (go_at_call 17; (with_reducible refine (c1'.at _ (by assumption)).mono ?_); rintro e w1 ⟨rfl, hb1⟩)
        | (go_at_call 19; (with_reducible refine (c2'.at _ (by assumption)).mono ?_); rintro e w2 ⟨rfl, hb2⟩)
        | (at_builtin; refine wpList_append_own _ rfl _ _ 43 rfl w.heap.size 2 i0 (.int .i64 0) 1 8 Try.underlying43 hi hz0 hz1 hz2 rfl (by decide) _ _ _ rfl (World.ownsRow_lit w2 #[.int .i64 a] 1 hb2.size (by decide) rfl) ad 0 0 [] rfl ?s0 ?s1 ?s2 ?s3 ?s4 ?s5 ?_))
      try (case s0 => rfl)
      try (case s1 => first | rfl | (intro j u hj; simp at hj))
      try (case s2 => first | rfl | (intro u hu; cases hu))
      try (case s3 => unfold maxLen; omega)
      try (case s4 => omega)
      try (case s5 => first | omega | (simp; have := hb2.size; omega))
      intro vs ws howns hgrs _
      have hws : Below w.heap.size w ws := (hb2.alloc hb2.size _).grown hgrs (by have := hb2.size; simp; omega) (by intro q hq; simp [Value.ownBlock] at hq; have := hb2.size; omega)
      obtain ⟨⟨As, ccs, rfl⟩, cs⟩ := app_add (k := k) HL.out HS.out H3.out H1.out hws (v := vs) (N := 1) (by rw [HD.out]; simpa [lRow] using howns) HK.out
      clear howns hgrs
      go_wp2_with (first
        | (go_at_call 17; (with_reducible refine cs.mono ?_); rintro e w5 ⟨rfl, hb5⟩))
      go_ret
      exact ⟨rfl, hb5⟩
    | some b =>
      rw [h3] at c1
      rw [h4] at c2
      have c1' : Ev w 17 (.slice (some ad) k k) (two a 0) := c1
      have c2' : Ev w 19 (.slice (some ad) k k) (two b 0) := c2
      have H1 : Hid (outZ (foZ (· + ·) 0 l) = two a 0) := Lib.hid (by rw [h3]; rfl)
      have H3 : Hid (foZ (· + ·) 0 (l.take k) = some a) := Lib.hid (by rw [htk]; exact h3)
      have H2 : Hid (outZ (foZ (· * ·) 1 l) = two b 0) := Lib.hid (by rw [h4]; rfl)
      have H4 : Hid (foZ (· * ·) 1 (l.take k) = some b) := Lib.hid (by rw [htk]; exact h4)
      clear c1 c2 h3 h4 hl hat htk hk
      go_enter Try.func9, Try.ntmps9
      go_wp2_with (first
        | (go_at_call 11; (with_reducible refine (vawake_at (w := w) _ (by assumption)).mono ?_); rintro e w0 ⟨rfl, hb0'⟩)
        | (go_at_call 17; (with_reducible refine (c1'.at _ (by assumption)).mono ?_); rintro e w1 ⟨rfl, hb1⟩)
        | (go_at_call 19; (with_reducible refine (c2'.at _ (by assumption)).mono ?_); rintro e w2 ⟨rfl, hb2⟩)
        | (at_builtin; refine wpList_append_own _ rfl _ _ 43 rfl w.heap.size 2 i0 (.int .i64 0) 1 8 Try.underlying43 hi hz0 hz1 hz2 rfl (by decide) _ _ _ rfl (World.ownsRow_lit w2 #[.int .i64 a] 1 hb2.size (by decide) rfl) ad 0 0 [] rfl ?s0 ?s1 ?s2 ?s3 ?s4 ?s5 ?_))
      try (case s0 => rfl)
      try (case s1 => first | rfl | (intro j u hj; simp at hj))
      try (case s2 => first | rfl | (intro u hu; cases hu))
      try (case s3 => unfold maxLen; omega)
      try (case s4 => omega)
      try (case s5 => first | omega | (simp; have := hb2.size; omega))
      intro vs ws howns hgrs _
      have hws : Below w.heap.size w ws := (hb2.alloc hb2.size _).grown hgrs (by have := hb2.size; simp; omega) (by intro q hq; simp [Value.ownBlock] at hq; have := hb2.size; omega)
      obtain ⟨⟨As, ccs, rfl⟩, cs⟩ := app_add (k := k) HL.out HS.out H3.out H1.out hws (v := vs) (N := 1) (by rw [HD.out]; simpa [lRow] using howns) HK.out
      clear howns hgrs
      go_wp2_with (first
        | (go_at_call 17; (with_reducible refine cs.mono ?_); rintro e w5 ⟨rfl, hb5⟩)
        | (at_builtin; refine wpList_append_own _ rfl _ _ 43 rfl w.heap.size 2 i0 (.int .i64 0) 1 8 Try.underlying43 hi hz0 hz1 hz2 rfl (by decide) _ _ _ rfl (World.ownsRow_lit w5 #[.int .i64 b] 1 hb5.size (by decide) rfl) ad 0 0 [] rfl ?t0 ?t1 ?t2 ?t3 ?t4 ?t5 ?_))
      try (case t0 => rfl)
      try (case t1 => first | rfl | (intro j u hj; simp at hj))
      try (case t2 => first | rfl | (intro u hu; cases hu))
      try (case t3 => unfold maxLen; omega)
      try (case t4 => omega)
      try (case t5 => first | omega | (simp; have := hb5.size; omega))
      intro vt wt hownt hgrt _
      have hwt : Below w.heap.size w wt := (hb5.alloc hb5.size _).grown hgrt (by have := hb5.size; simp; omega) (by intro q hq; simp [Value.ownBlock] at hq; have := hb5.size; omega)
      obtain ⟨⟨At, cct, rfl⟩, ct⟩ := app_mul (k := k) HL.out HS.out H4.out H2.out hwt (v := vt) (N := 1) (by rw [HD.out]; simpa [lRow] using hownt) HK.out
      clear hownt hgrt
      go_wp2_with (first
        | (go_at_call 19; (with_reducible refine ct.mono ?_); rintro e w6 ⟨rfl, hb6⟩))
      go_ret
      exact ⟨rfl, hb6⟩
set_option maxHeartbeats 8000000 in
set_option maxRecDepth 100000 in
theorem parts_N (l : List Int) (hl : AllFit l) (k : Nat) (hk : l.length = k) (hk0 : k = 0) (hl20 : l.length ≤ 20) (x : Int) (hx : 0 ≤ x) (hx1 : x ≤ 255) (hxk : x % 1 = 0) (w : World) (hat : LAt w none l) :
    Calls Try.prog 9 #[.slice none 0 0, .int .u8 x] w fun e w' => e = .returned (.bool true) ∧ Below w.heap.size w w' := by
  have HL := Lib.hid hl
  have HT := Lib.hid hat
  have HS := Lib.hid hl20
  obtain ⟨i0, hi, hz0, hz1, hz2⟩ := info_parts i64Info
  have hb0 : Below w.heap.size w w := Below.refl _ _
  have HD : Hid (l.drop k = []) := Lib.hid (List.drop_eq_nil_of_le (by omega))
  have HK : Hid (1 = 1 + (l.length - k)) := Lib.hid (by omega)
  have htk : l.take k = l := List.take_of_length_le (by omega)
  have c1 := ev_add hl (by omega) k hat
  have c2 := ev_mul hl (by omega) k hat
  rw [hk] at c1 c2
  rw [hk0] at c1 c2
  cases h3 : foZ (· + ·) 0 l with
  | none =>
    cases h4 : foZ (· * ·) 1 l with
    | none =>
      rw [h3] at c1
      rw [h4] at c2
      have c1' : Ev w 17 (.slice none 0 0) (two 0 9) := c1
      have c2' : Ev w 19 (.slice none 0 0) (two 0 9) := c2
      clear c1 c2 h3 h4 hl hat htk hk
      clear hk0 hl20
      go_enter Try.func9, Try.ntmps9
      go_wp2_with (first
        | (go_at_call 11; (with_reducible refine (vawake_at (w := w) _ (by assumption)).mono ?_); rintro e w0 ⟨rfl, hb0'⟩)
        | (go_at_call 17; (with_reducible refine (c1'.at _ (by assumption)).mono ?_); rintro e w1 ⟨rfl, hb1⟩)
        | (go_at_call 19; (with_reducible refine (c2'.at _ (by assumption)).mono ?_); rintro e w2 ⟨rfl, hb2⟩))
      go_ret
      exact ⟨rfl, hb2⟩
    | some b =>
      rw [h3] at c1
      rw [h4] at c2
      have c1' : Ev w 17 (.slice none 0 0) (two 0 9) := c1
      have c2' : Ev w 19 (.slice none 0 0) (two b 0) := c2
      have H2 : Hid (outZ (foZ (· * ·) 1 l) = two b 0) := Lib.hid (by rw [h4]; rfl)
      have H4 : Hid (foZ (· * ·) 1 (l.take k) = some b) := Lib.hid (by rw [htk]; exact h4)
      clear c1 c2 h3 h4 hl hat htk hk
      clear hk0 hl20
      go_enter Try.func9, Try.ntmps9
      go_wp2_with (first
        | (go_at_call 11; (with_reducible refine (vawake_at (w := w) _ (by assumption)).mono ?_); rintro e w0 ⟨rfl, hb0'⟩)
        | (go_at_call 17; (with_reducible refine (c1'.at _ (by assumption)).mono ?_); rintro e w1 ⟨rfl, hb1⟩)
        | (go_at_call 19; (with_reducible refine (c2'.at _ (by assumption)).mono ?_); rintro e w2 ⟨rfl, hb2⟩)
        | (at_builtin; refine wpList_append_own_none rfl _ _ 43 rfl w.heap.size 2 i0 1 Try.underlying43 hi _ _ _ rfl (World.ownsRow_lit w2 #[.int .i64 b] 1 hb2.size (by decide) rfl) rfl ?_; have hwt : Below w.heap.size w (w2.alloc (.cells #[.int .i64 b] 2)) := hb2.alloc hb2.size _; obtain ⟨_, ct⟩ := app_mul (k := k) HL.out HS.out H4.out H2.out hwt (N := 1) (v := .slice (some ⟨w2.heap.size, 0, none⟩) 1 1) (by rw [HD.out]; exact World.ownsRow_lit w2 #[.int .i64 b] 1 hb2.size (by decide) rfl) HK.out)
        | (go_at_call 19; (with_reducible refine ct.mono ?_); rintro e w6 ⟨rfl, hb6⟩))
      go_ret
      exact ⟨rfl, hb6⟩
  | some a =>
    cases h4 : foZ (· * ·) 1 l with
    | none =>
      rw [h3] at c1
      rw [h4] at c2
      have c1' : Ev w 17 (.slice none 0 0) (two a 0) := c1
      have c2' : Ev w 19 (.slice none 0 0) (two 0 9) := c2
      have H1 : Hid (outZ (foZ (· + ·) 0 l) = two a 0) := Lib.hid (by rw [h3]; rfl)
      have H3 : Hid (foZ (· + ·) 0 (l.take k) = some a) := Lib.hid (by rw [htk]; exact h3)
      clear c1 c2 h3 h4 hl hat htk hk
      clear hk0 hl20
      go_enter Try.func9, Try.ntmps9
      go_wp2_with (first
        | (go_at_call 11; (with_reducible refine (vawake_at (w := w) _ (by assumption)).mono ?_); rintro e w0 ⟨rfl, hb0'⟩)
        | (go_at_call 17; (with_reducible refine (c1'.at _ (by assumption)).mono ?_); rintro e w1 ⟨rfl, hb1⟩)
        | (go_at_call 19; (with_reducible refine (c2'.at _ (by assumption)).mono ?_); rintro e w2 ⟨rfl, hb2⟩)
        | (at_builtin; refine wpList_append_own_none rfl _ _ 43 rfl w.heap.size 2 i0 1 Try.underlying43 hi _ _ _ rfl (World.ownsRow_lit w2 #[.int .i64 a] 1 hb2.size (by decide) rfl) rfl ?_; have hws : Below w.heap.size w (w2.alloc (.cells #[.int .i64 a] 2)) := hb2.alloc hb2.size _; obtain ⟨_, cs⟩ := app_add (k := k) HL.out HS.out H3.out H1.out hws (N := 1) (v := .slice (some ⟨w2.heap.size, 0, none⟩) 1 1) (by rw [HD.out]; exact World.ownsRow_lit w2 #[.int .i64 a] 1 hb2.size (by decide) rfl) HK.out)
        | (go_at_call 17; (with_reducible refine cs.mono ?_); rintro e w5 ⟨rfl, hb5⟩))
      go_ret
      exact ⟨rfl, hb5⟩
    | some b =>
      rw [h3] at c1
      rw [h4] at c2
      have c1' : Ev w 17 (.slice none 0 0) (two a 0) := c1
      have c2' : Ev w 19 (.slice none 0 0) (two b 0) := c2
      have H1 : Hid (outZ (foZ (· + ·) 0 l) = two a 0) := Lib.hid (by rw [h3]; rfl)
      have H3 : Hid (foZ (· + ·) 0 (l.take k) = some a) := Lib.hid (by rw [htk]; exact h3)
      have H2 : Hid (outZ (foZ (· * ·) 1 l) = two b 0) := Lib.hid (by rw [h4]; rfl)
      have H4 : Hid (foZ (· * ·) 1 (l.take k) = some b) := Lib.hid (by rw [htk]; exact h4)
      clear c1 c2 h3 h4 hl hat htk hk
      clear hk0 hl20
      go_enter Try.func9, Try.ntmps9
      go_wp2_with (first
        | (go_at_call 11; (with_reducible refine (vawake_at (w := w) _ (by assumption)).mono ?_); rintro e w0 ⟨rfl, hb0'⟩)
        | (go_at_call 17; (with_reducible refine (c1'.at _ (by assumption)).mono ?_); rintro e w1 ⟨rfl, hb1⟩)
        | (go_at_call 19; (with_reducible refine (c2'.at _ (by assumption)).mono ?_); rintro e w2 ⟨rfl, hb2⟩)
        | (at_builtin; refine wpList_append_own_none rfl _ _ 43 rfl w.heap.size 2 i0 1 Try.underlying43 hi _ _ _ rfl (World.ownsRow_lit w2 #[.int .i64 a] 1 hb2.size (by decide) rfl) rfl ?_; have hws : Below w.heap.size w (w2.alloc (.cells #[.int .i64 a] 2)) := hb2.alloc hb2.size _; obtain ⟨_, cs⟩ := app_add (k := k) HL.out HS.out H3.out H1.out hws (N := 1) (v := .slice (some ⟨w2.heap.size, 0, none⟩) 1 1) (by rw [HD.out]; exact World.ownsRow_lit w2 #[.int .i64 a] 1 hb2.size (by decide) rfl) HK.out)
        | (go_at_call 17; (with_reducible refine cs.mono ?_); rintro e w5 ⟨rfl, hb5⟩)
        | (at_builtin; refine wpList_append_own_none rfl _ _ 43 rfl w.heap.size 2 i0 1 Try.underlying43 hi _ _ _ rfl (World.ownsRow_lit w5 #[.int .i64 b] 1 hb5.size (by decide) rfl) rfl ?_; have hwt : Below w.heap.size w (w5.alloc (.cells #[.int .i64 b] 2)) := hb5.alloc hb5.size _; obtain ⟨_, ct⟩ := app_mul (k := k) HL.out HS.out H4.out H2.out hwt (N := 1) (v := .slice (some ⟨w5.heap.size, 0, none⟩) 1 1) (by rw [HD.out]; exact World.ownsRow_lit w5 #[.int .i64 b] 1 hb5.size (by decide) rfl) HK.out)
        | (go_at_call 19; (with_reducible refine ct.mono ?_); rintro e w6 ⟨rfl, hb6⟩))
      go_ret
      exact ⟨rfl, hb6⟩
theorem parts_walk (l : List Int) (hl : AllFit l) (A : Option Addr) (cap : Nat) (hlc : l.length ≤ cap) (hcm : cap ≤ maxLen) (hsh : (A = none → cap = 0) ∧ ∀ ad, A = some ad → cap ≠ 0 → ∃ g o, ad = ⟨g, o, none⟩)
    (x : Int) (hx : 0 ≤ x ∧ x ≤ 255) (w : World) (hat : LAt w A l) :
    Calls Try.prog 9 #[.slice A l.length cap, .int .u8 x] w fun e w' => e = .returned (.bool true) ∧ Below w.heap.size w w' := by
  by_cases h20 : 20 < l.length
  · have h20' : (20 : Int) < (l.length : Int) := by omega
    have hb0 : Below w.heap.size w w := Below.refl _ _
    clear hl hat hsh hlc hcm h20 hx
    go_enter Try.func9, Try.ntmps9
    go_wp2_with (go_at_call 11; (with_reducible refine (vawake_at (w := w) _ (by assumption)).mono ?_); rintro e w' ⟨rfl, hb2⟩)
    go_ret
    exact ⟨rfl, by assumption⟩
  · obtain ⟨k, hk⟩ : ∃ k : Nat, (k : Int) = x % ((l.length : Int) + 1) := ⟨(x % ((l.length : Int) + 1)).toNat, Int.toNat_of_nonneg (Int.emod_nonneg _ (by omega))⟩
    have hkl : k ≤ l.length := by have := Int.emod_lt_of_pos x (b := (l.length : Int) + 1) (by omega); omega
    cases A with
    | none =>
      have hc0 := hsh.1 rfl
      have hl0 : l.length = 0 := by omega
      subst hc0
      rw [hl0]
      exact parts_N l hl k (by omega) (by omega) (by omega) x hx.1 hx.2 (by omega) w hat
    | some ad =>
      by_cases hck : cap = k
      · have e1 : l.length = k := by omega
        subst hck
        rw [e1] at hk ⊢
        exact parts_E l hl ad cap e1 (by omega) x hx.1 hx.2 hk.symm w hat
      · by_cases hc0 : cap = 0
        · omega
        · obtain ⟨g, o, rfl⟩ := hsh.2 ad rfl hc0
          exact parts_M l hl g o cap k hlc hkl (by omega) x hx.1 hx.2 hk.symm w hat hck

namespace ValuePartsF
theorem own : ownKnob Try.prog.godebug = none := by kernel_rfl
theorem laidOut : laidOutB Try.prog = true := by kernel_rfl
theorem cellsE : Try.prog.cellsOf 2 = 1 := by kernel_rfl

set_option maxRecDepth 100000 in
theorem lifted (os : Os) (started : os.Started) (H : Type) (enc : TypeId × Value → H) :
    ReturnsInHanded {} Try.checked os 9 .any (Rows.valuePartsSpec.pre6 enc Try.prog Try.f9 Rows.valuePartsRow.domain false) (Rows.valuePartsSpec.post enc Try.prog Try.f9 false true false false) := by
  refine returnsInHanded_of_change (C := Try.checked) own started (by kernel_rfl) Try.func9
    (ChangeSpec.witness6 (enc := enc) (C := Try.checked) false ⟨#[], #[.slice none 0 0, .int .u8 0], []⟩ 8 (by kernel_rfl) (by kernel_rfl) (by kernel_rfl) (by kernel_rfl)) ?_
  intro W base args ds gs before hval0 hW hcnd _
  have hval : ∀ (j : Nat) t v, Try.f9.params[j]? = some t → args[j]? = some v → Value.okWide Try.prog W .any base t v := hval0
  have hW' := hW
  obtain ⟨p, q, hA0, hV, rfl, hfz, hnd⟩ := hW
  have hA : DataW.TrodAll enc Try.prog W 0 (fun _ => true) true Try.f9.params.toList args.toList ds p := hA0
  rw [Try.params9] at hA hval
  obtain ⟨v0, vs0, d0, ds0, p0, q0, hargs, rfl, rfl, h0, r0⟩ := trodAll_cons hA
  obtain ⟨v1, vs1, d1, ds1, p1, q1, rfl, rfl, rfl, h1, r1⟩ := trodAll_cons r0
  obtain ⟨rfl, rfl, rfl⟩ := trodAll_nil r1
  obtain rfl : args = #[v0, v1] := by cases args; simp_all
  obtain ⟨rfl, rfl⟩ := trodVars_none hV
  obtain ⟨a0, len0, cap0, rfl⟩ := okWide_slice Try.underlying43 (hval 0 43 v0 rfl rfl)
  have hk0 := h0
  obtain ⟨fu0, hf0⟩ := h0
  obtain ⟨x1, rfl, rfl, rfl, w1⟩ := open_int Try.underlying5 (hval 1 5 v1 rfl rfl) h1
  have bd1 := bounds_u8 w1
  clear hA0 hval0
  simp only [List.append_nil] at hW'
  have hlt : ∀ x ∈ p0, x.block < W.heap.size := fun x hx => by
    have := hW'.lt x (by first | exact hx | simp [hx])
    simpa using this
  have hargs0 : ∀ (W' : World), Below W.heap.size W W' → DataW.Trod enc Try.prog W' 0 (fun b => decide (b < W.heap.size)) true 43 (.slice a0 len0 cap0) d0 p0 :=
    fun W' hn => Below.trod laidOut (by kernel_rfl) (of_decide_eq_true (by kernel_rfl)) hk0 hn hlt
  obtain ⟨l, hll, hlc, hcm, hsh, hlf, hat⟩ : ∃ l : List Int, l.length = len0 ∧ len0 ≤ cap0 ∧ cap0 ≤ maxLen ∧ ((a0 = none → cap0 = 0) ∧ ∀ ad, a0 = some ad → cap0 ≠ 0 → ∃ g o, ad = ⟨g, o, none⟩) ∧ (∀ x ∈ l, True ∧ (Lit.int .i64 x).wf = true) ∧ ∀ (j : Nat) (x : Int), l[j]? = some x → ∃ g o, a0 = some ⟨g, o, none⟩ ∧ g < W.heap.size ∧ W.cell? ⟨g, o + j, none⟩ = some (.int .i64 x) := by
    rcases open_ints Try.underlying43 Try.underlying2 cellsE hf0 with ⟨hcs, hx⟩ | ⟨a, len', cap', zs, hcs, _, hl, hm, hz, hx, hcell, hwz⟩
    · simp [Value.cells] at hcs
      obtain ⟨rfl, rfl, rfl⟩ := hcs
      exact ⟨[], rfl, Nat.le_refl _, by decide, ⟨(fun _ => rfl), (fun ad e => by cases e)⟩, (fun x hx => by cases hx), (fun j x hx => by simp at hx)⟩
    · simp [Value.cells] at hcs
      obtain ⟨rfl, rfl, rfl⟩ := hcs
      simp only [Prod.mk.injEq] at hx
      obtain ⟨rfl, rfl⟩ := hx
      simp only [if_true] at hz
      refine ⟨zs.take len0, by simp; omega, hl, hm, ⟨(fun e => by cases e), (fun ad e hc0 => ?_)⟩, fun x hx => ⟨trivial, hwz x (List.mem_of_mem_take hx)⟩, fun j x hx => ?_⟩
      · obtain ⟨b, off, spot⟩ := a
        have hspot : spot = none := by simpa [Addr.add] using World.cell?_spot (hcell 0 (by omega))
        subst hspot
        injection e with e
        exact ⟨b, off, e.symm⟩
      have hj : j < len0 := by have := (List.getElem?_eq_some_iff.1 hx).1; simp at this; omega
      have hxz : zs.getD j 0 = x := by rw [List.getElem?_take_of_lt hj] at hx; simp [List.getD, hx]
      obtain ⟨b, off, spot⟩ := a
      have hspot : spot = none := by simpa [Addr.add] using World.cell?_spot (hcell 0 (by omega))
      subst hspot
      have hbW : b < W.heap.size := hlt (.cell b off) (MemPlace.mem_row.2 ⟨0, by omega, by simp⟩)
      refine ⟨b, off, rfl, hbW, ?_⟩
      rw [← add_plain, ← hxz]
      exact hcell j (by omega)
  subst hll
  refine (parts_walk l (fun x hx => bounds_i64 (hlf x hx).2) a0 cap0 hlc hcm hsh x1 bd1 W hat).mono fun e W' ⟨he, hb⟩ => ?_
  subst he
  refine ⟨_, rfl, _, _, _, [], _, [], hW', trodAll_mk1 (shut_bool Try.underlying4 _), trodAll_cons_mk (hargs0 _ hb) (trodAll_cons_mk (shut_int Try.underlying5 w1) (trodAll_mk0)), rfl, hb.frame _, fun h => by cases h⟩
end ValuePartsF
theorem valueParts_holds : Rows.ValuePartsSaid :=
  OpenClaim.holds_of_wide 9 Try.f9 rfl rfl rfl rfl rfl rfl rfl ⟨rfl, rfl, rfl, rfl, rfl⟩ rfl rfl rfl rfl rfl (by kernel_rfl) Try.func9 (by kernel_rfl)
    (of_decide_eq_true (by kernel_rfl)) (by unfold Func.isWrapper; first | (rw [if_pos (by decide +kernel)]; kernel_rfl) | (rw [if_neg (by decide +kernel)]; exact ⟨rfl, rfl⟩))
    (fun os started H enc _ => ValuePartsF.lifted os started H enc)

end Go.Proofs.Ytknjdkjakngkpaa
