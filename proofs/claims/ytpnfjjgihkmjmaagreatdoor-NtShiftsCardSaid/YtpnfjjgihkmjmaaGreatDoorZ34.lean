/-
  MERGED (a claim has at most 60 files): QRead.
-/
import Derived.Test.YtpnfjjgihkmjmaaGreatDoorZ33
import Derived.Test.YtpnfjjgihkmjmaaGreatDoorZ19
import Derived.Test.YtpnfjjgihkmjmaaGreatDoorZ18
/-
  THE DOCUMENT's 'Read': the term at a place.
-/
namespace Go.Proofs.YtpnfjjgihkmjmaaGreatDoor
open Go.RowKit
set_option linter.unusedVariables false
set_option linter.unusedSimpArgs false

abbrev Z4 : Array Value := #[.int .i64 0, .string mt, .string mt, .string mt]
/-- The result's box, that is still as it was made; the term's box. -/
def Rb (w : World) (cs : Array Value) (W : World) : Prop := Below w.heap.size w W ∧ Fb W w.heap.size 36 Z4 ∧ Fb W (w.heap.size + 1) 36 cs
section
variable {w : World} {cs : Array Value}
theorem Rb.start (w : World) (cs : Array Value) : Rb w cs ((w.alloc (.cells Z4 36)).alloc (.cells cs 36)) :=
  ⟨((Below.refl _ _).alloc (Nat.le_refl _) _).alloc (by rw [World.size_alloc]; omega) _, (Fb.new w 36 Z4).below ((Below.refl _ _).alloc (Nat.le_refl _) _), by have := Fb.new (w.alloc (.cells Z4 36)) 36 cs; rwa [World.size_alloc] at this⟩
theorem Rb.to {W W' : World} (h : Rb w cs W) (hb : Below W.heap.size W W') : Rb w cs W' := ⟨h.1.trans (hb.mono h.1.size), h.2.1.below hb, h.2.2.below hb⟩
theorem Rb.set0 {a b c d : Value} {W : World} (h : Rb w #[a, b, c, d] W) (y : Value) : Rb w #[y, b, c, d] (W.setCell ⟨w.heap.size + 1, 0, none⟩ y) :=
  ⟨h.1.setCell (by dsimp only; omega) y, (Below.heap_setCell _ _ _ _ (by dsimp only; omega)).trans h.2.1, heap_setCell_same _ _ 0 _ _ y h.2.2⟩
theorem Rb.set1 {a b c d : Value} {W : World} (h : Rb w #[a, b, c, d] W) (y : Value) : Rb w #[a, y, c, d] (W.setCell ⟨w.heap.size + 1, 1, none⟩ y) :=
  ⟨h.1.setCell (by dsimp only; omega) y, (Below.heap_setCell _ _ _ _ (by dsimp only; omega)).trans h.2.1, heap_setCell_same _ _ 1 _ _ y h.2.2⟩
theorem Rb.set2 {a b c d : Value} {W : World} (h : Rb w #[a, b, c, d] W) (y : Value) : Rb w #[a, b, y, d] (W.setCell ⟨w.heap.size + 1, 2, none⟩ y) :=
  ⟨h.1.setCell (by dsimp only; omega) y, (Below.heap_setCell _ _ _ _ (by dsimp only; omega)).trans h.2.1, heap_setCell_same _ _ 2 _ _ y h.2.2⟩
theorem Rb.set3 {a b c d : Value} {W : World} (h : Rb w #[a, b, c, d] W) (y : Value) : Rb w #[a, b, c, y] (W.setCell ⟨w.heap.size + 1, 3, none⟩ y) :=
  ⟨h.1.setCell (by dsimp only; omega) y, (Below.heap_setCell _ _ _ _ (by dsimp only; omega)).trans h.2.1, heap_setCell_same _ _ 3 _ _ y h.2.2⟩
theorem Rb.cells {a b c d : Value} {W : World} (h : Rb w #[a, b, c, d] W) : W.cell? ⟨w.heap.size + 1, 0, none⟩ = some a ∧ W.cell? ⟨w.heap.size + 1, 1, none⟩ = some b ∧ W.cell? ⟨w.heap.size + 1, 2, none⟩ = some c ∧ W.cell? ⟨w.heap.size + 1, 3, none⟩ = some d ∧
    W.frozen? ⟨w.heap.size + 1, 0, none⟩ = false ∧ W.frozen? ⟨w.heap.size + 1, 1, none⟩ = false ∧ W.frozen? ⟨w.heap.size + 1, 2, none⟩ = false ∧ W.frozen? ⟨w.heap.size + 1, 3, none⟩ = false :=
  ⟨h.2.2.cell 0, h.2.2.cell 1, h.2.2.cell 2, h.2.2.cell 3, h.2.2.free 0, h.2.2.free 1, h.2.2.free 2, h.2.2.free 3⟩
theorem Rb.out {W : World} (h : Rb w cs W) : W.cell? ⟨w.heap.size, 0, none⟩ = some (.int .i64 0) ∧ W.cell? ⟨w.heap.size, 1, none⟩ = some (.string mt) ∧ W.cell? ⟨w.heap.size, 2, none⟩ = some (.string mt) ∧ W.cell? ⟨w.heap.size, 3, none⟩ = some (.string mt) ∧
    W.frozen? ⟨w.heap.size, 0, none⟩ = false ∧ W.frozen? ⟨w.heap.size, 1, none⟩ = false ∧ W.frozen? ⟨w.heap.size, 2, none⟩ = false ∧ W.frozen? ⟨w.heap.size, 3, none⟩ = false ∧ w.heap.size < W.heap.size ∧ w.heap.size + 1 < W.heap.size :=
  ⟨h.2.1.cell 0, h.2.1.cell 1, h.2.1.cell 2, h.2.1.cell 3, h.2.1.free 0, h.2.1.free 1, h.2.1.free 2, h.2.1.free 3, h.2.1.lt, h.2.2.lt⟩
theorem Rb.fin {W : World} (h : Rb w cs W) (a b c d : Value) : Below w.heap.size w ((((W.setCell ⟨w.heap.size, 0, none⟩ a).setCell ⟨w.heap.size, 1, none⟩ b).setCell ⟨w.heap.size, 2, none⟩ c).setCell ⟨w.heap.size, 3, none⟩ d) :=
  (((h.1.setCell (by dsimp only; omega) a).setCell (by dsimp only; omega) b).setCell (by dsimp only; omega) c).setCell (by dsimp only; omega) d
end
def QrPost (W : World) (r : Option Tm × Nat × Int) (e : Ending) (w' : World) : Prop :=
  e = .returned (.tuple #[T4 (r.1.getD (.blank mt)), .int .i64 (r.2.1 : Nat), .int .i64 r.2.2]) ∧ Below W.heap.size W w'
set_option maxHeartbeats 8000000 in
set_option maxRecDepth 100000 in
theorem qread_any {w : World} {A : Option Addr} {sl : List Int} {cap : Nat} (h : Lq w A sl cap) (hall : AllS sl) (k : Nat) (hk : k ≤ sl.length) (hl : sl.length ≤ 100000) :
    Calls Tryz.prog 40 #[.slice A sl.length cap, .int .i64 k] w (QrPost w (readP sl k)) := by
  have hst : ∀ {cs W} (p : Nat) (c : Int), 0 ≤ c → c ≤ 255 → Rb w cs W → Calls Tryz.prog 42 #[.slice A sl.length cap, .int .i64 p, .int .u8 c] W fun e w' => e = .returned (.bool (decide (sl[p]? = some c))) ∧ W = w' := fun p c h0 h1 x => stands_any (h.below x.1 (Nat.le_refl _)).lv p c h0 h1 hl
  have cS60 := fun {cs W} (x : Rb w cs W) => hst k 60 (by decide) (by decide) x
  have cS95 := fun {cs W} (x : Rb w cs W) => hst k 95 (by decide) (by decide) x
  have cS34 := fun {cs W} (x : Rb w cs W) => hst k 34 (by decide) (by decide) x
  obtain ⟨r, hr⟩ : ∃ r, r = readP sl k := ⟨_, rfl⟩
  rw [← hr]
  unfold readP formP at hr
  obtain ⟨zz, hzz⟩ : ∃ z, z = textOf [] := ⟨_, rfl⟩
  have h0 := Rb.start w Z4
  have h1 := Rb.start w #[.int .i64 1, .string mt, .string mt, .string mt]
  have hg : ∀ {cs W} (t : Tm), t.few → Rb w cs W → Calls Tryz.prog 24 #[F4 t.kind t.ta t.tb t.tc] W fun e w' => e = .returned (.bool (goodT t)) ∧ Rb w cs w' := fun {cs W} t ht x => (rgoodT_any t ht W).mono fun _ _ ⟨a, y⟩ => ⟨a, x.to y⟩
  have hfl := formP_le sl k hk hall
  by_cases h60 : sl[k]? = some 60
  · rw [if_pos h60] at hr
    rw [decide_eq_true h60] at cS60
    have cI : ∀ {cs W}, Rb w cs W → Calls Tryz.prog 70 #[.slice A sl.length cap, .int .i64 k] W (fun e w' => e = .returned (.tuple #[.string (textOf ((irP sl k).2.getD [])), .int .i64 (irP sl k).1, .bool (irP sl k).2.isSome]) ∧ Rb w cs w') :=
      fun {cs W} x => (qiri_any (h.below x.1 (Nat.le_refl _)).lv hall k hl).mono fun _ _ ⟨a, y⟩ => ⟨a, x.to y⟩
    unfold formP at hfl
    rw [if_pos h60] at hfl
    obtain ⟨q, hq⟩ : ∃ q, q = (irP sl k).1 := ⟨_, rfl⟩
    rw [← hq] at cI hr hfl
    cases hu : (irP sl k).2 with
    | none =>
      rw [hu] at cI hr
      simp only [Option.getD_none, Option.isSome_none, Option.map_none] at cI hr
      rw [← hzz] at cI
      have HR := Lib.hid hr
      clear h hall hr hu hzz h60 hst hq hg hfl cS95 cS34
      go_enter Tryz.func40, Tryz.ntmps40
      go_wp2_with (first
        | (go_at_call 42; (with_reducible refine (cS60 (by assumption)).mono ?_); rintro e w' ⟨rfl, rfl⟩)
        | (go_at_call 70; (with_reducible refine (cI (by assumption)).mono ?_); rintro e w2 ⟨rfl, m2⟩; have m7 := m2.set1 (.string zz); obtain ⟨o0, o1, o2, o3, p0, p1, p2, p3, q0, q1⟩ := m2.out; obtain ⟨x0, x1, x2, x3, y0, y1, y2, y3⟩ := m2.cells))
      refine bodyPost_ret (v := .tuple #[F4 0 mt mt mt, .int .i64 q, .int .i64 1]) (by simp [results, Tryz.results40, go_sem, o0, o1, o2, o3, p0, p1, p2, p3, q0, q1, x0, x1, x2, x3, y0, y1, y2, y3]) rfl ?_
      rw [HR.out]
      exact ⟨rfl, (m2.set1 (.string zz)).fin _ _ _ _⟩
    | some u =>
      rw [hu] at cI hr hfl
      simp only [Option.getD_some, Option.isSome_some, Option.map_some] at cI hr hfl
      obtain ⟨z, hz⟩ : ∃ z, z = textOf u := ⟨_, rfl⟩
      rw [← hz] at cI hr hfl
      have hgd : ∀ {cs W}, Rb w cs W → Calls Tryz.prog 24 #[F4 1 z mt mt] W fun e w' => e = .returned (.bool (goodT (.iri z))) ∧ Rb w cs w' := hg (.iri z) ((hfl.2.2 _ rfl).1.few hl)
      clear h hall hu hzz h60 hst hq hg hfl cS95 cS34 hz
      (try dsimp only at hr)
      obtain ⟨gd, hgt⟩ : ∃ g, g = goodT (.iri z) := ⟨_, rfl⟩
      rw [← hgt] at hr hgd
      clear hgt
      cases gd
      · rw [if_neg (by decide)] at hr
        have HR := Lib.hid hr
        clear hr
        go_enter Tryz.func40, Tryz.ntmps40
        go_wp2_with (first
          | (go_at_call 42; (with_reducible refine (cS60 (by assumption)).mono ?_); rintro e w' ⟨rfl, rfl⟩)
          | (go_at_call 70; (with_reducible refine (cI (by assumption)).mono ?_); rintro e w2 ⟨rfl, m2⟩; have m7 := m2.set1 (.string z); obtain ⟨o0, o1, o2, o3, p0, p1, p2, p3, q0, q1⟩ := m2.out; obtain ⟨x0, x1, x2, x3, y0, y1, y2, y3⟩ := m2.cells)
          | (go_at_call 24; (with_reducible refine (hgd (by assumption)).mono ?_); rintro e w9 ⟨rfl, m9⟩; obtain ⟨o0, o1, o2, o3, p0, p1, p2, p3, q0, q1⟩ := m9.out; obtain ⟨x0, x1, x2, x3, y0, y1, y2, y3⟩ := m9.cells))
        refine bodyPost_ret (v := .tuple #[F4 0 mt mt mt, .int .i64 k, .int .i64 3]) (by simp [results, Tryz.results40, go_sem, o0, o1, o2, o3, p0, p1, p2, p3, q0, q1, x0, x1, x2, x3, y0, y1, y2, y3]) rfl ?_
        rw [HR.out]
        exact ⟨rfl, m9.fin _ _ _ _⟩
      · rw [if_pos rfl] at hr
        have HR := Lib.hid hr
        clear hr
        go_enter Tryz.func40, Tryz.ntmps40
        go_wp2_with (first
          | (go_at_call 42; (with_reducible refine (cS60 (by assumption)).mono ?_); rintro e w' ⟨rfl, rfl⟩)
          | (go_at_call 70; (with_reducible refine (cI (by assumption)).mono ?_); rintro e w2 ⟨rfl, m2⟩; have m7 := m2.set1 (.string z); obtain ⟨o0, o1, o2, o3, p0, p1, p2, p3, q0, q1⟩ := m2.out; obtain ⟨x0, x1, x2, x3, y0, y1, y2, y3⟩ := m2.cells)
          | (go_at_call 24; (with_reducible refine (hgd (by assumption)).mono ?_); rintro e w9 ⟨rfl, m9⟩; obtain ⟨o0, o1, o2, o3, p0, p1, p2, p3, q0, q1⟩ := m9.out; obtain ⟨x0, x1, x2, x3, y0, y1, y2, y3⟩ := m9.cells))
        refine bodyPost_ret (v := .tuple #[F4 1 z mt mt, .int .i64 q, .int .i64 0]) (by simp [results, Tryz.results40, go_sem, o0, o1, o2, o3, p0, p1, p2, p3, q0, q1, x0, x1, x2, x3, y0, y1, y2, y3]) rfl ?_
        rw [HR.out]
        exact ⟨rfl, m9.fin _ _ _ _⟩
  rw [if_neg h60] at hr
  rw [decide_eq_false h60] at cS60
  unfold formP at hfl
  rw [if_neg h60] at hfl
  by_cases h34 : sl[k]? = some 34
  · rw [if_pos h34] at hr hfl
    have h95 : ¬ sl[k]? = some 95 := fun e => by rw [h34] at e; exact absurd e (by decide)
    rw [decide_eq_false h95] at cS95
    rw [decide_eq_true h34] at cS34
    have hq := qd_le sl k hk
    have hlit : litP sl k = litP sl k := rfl
    unfold litP at hr hfl
    obtain ⟨p, hp⟩ : ∃ p, p = (qd sl k).1 := ⟨_, rfl⟩
    have cQ : ∀ {cs W}, Rb w cs W → Calls Tryz.prog 72 #[.slice A sl.length cap, .int .i64 k] W (fun e w' => ∃ a n c, e = .returned (.tuple #[.slice a n c, .int .i64 (qd sl k).1, .bool (qd sl k).2.isSome]) ∧ Ints W.heap.size w' (.slice a n c) ((qd sl k).2.getD []) ∧ Rb w cs w') :=
      fun {cs W} x => (rquoted_lv (h.below x.1 (Nat.le_refl _)).lv k hl).mono fun _ _ ⟨v, a, b, c⟩ => by
        obtain ⟨ao, ca, rfl⟩ := ints_shape b
        exact ⟨_, _, _, a, b, x.to c⟩
    rw [← hp] at cQ hr hfl hq
    cases ho : (qd sl k).2 with
    | none =>
      rw [ho] at cQ hr
      simp only [Option.getD_none, Option.isSome_none] at cQ hr
      have cT : ∀ {cs B v W}, Ints B W v [] → Rb w cs W → Calls Tryz.prog 73 #[v] W (fun e w' => e = .returned (.string zz) ∧ Rb w cs w') := fun {cs B v W} hI x => (text_ints hI allS_nil (by simp)).mono fun _ _ ⟨a, y⟩ => ⟨by rw [a, hzz], x.to y⟩
      have HR := Lib.hid hr
      clear h hall hr ho hzz h60 hst hp hg hfl h95 h34 hq h1
      go_enter Tryz.func40, Tryz.ntmps40
      go_wp2_with (first
        | (go_at_call 42; (with_reducible refine (cS60 (by assumption)).mono ?_); rintro e w' ⟨rfl, rfl⟩)
        | (go_at_call 42; (with_reducible refine (cS95 (by assumption)).mono ?_); rintro e w' ⟨rfl, rfl⟩)
        | (go_at_call 42; (with_reducible refine (cS34 (by assumption)).mono ?_); rintro e w' ⟨rfl, rfl⟩)
        | (go_at_call 72; (with_reducible refine (cQ (by assumption)).mono ?_); rintro e w3 ⟨aq, nq, kq, rfl, i3, m3⟩)
        | (go_at_call 73; (with_reducible refine (cT i3 m3).mono ?_); rintro e w4 ⟨rfl, m4⟩; obtain ⟨o0, o1, o2, o3, p0, p1, p2, p3, q0, q1⟩ := m4.out; obtain ⟨x0, x1, x2, x3, y0, y1, y2, y3⟩ := m4.cells; have m5 := (((m4.set0 (.int .i64 2)).set1 (.string zz)).set2 (.string XS)).set3 (.string mt)))
      refine bodyPost_ret (v := .tuple #[F4 0 mt mt mt, .int .i64 p, .int .i64 1]) (by simp [results, Tryz.results40, go_sem, o0, o1, o2, o3, p0, p1, p2, p3, q0, q1, x0, x1, x2, x3, y0, y1, y2, y3]) rfl ?_
      rw [HR.out]
      exact ⟨rfl, m5.fin _ _ _ _⟩
    | some l =>
      rw [ho] at cQ hr hfl
      simp only [Option.getD_some, Option.isSome_some] at cQ hr hfl
      have hla := hq.2.2 l ho hall
      obtain ⟨y, hy⟩ : ∃ y, y = textOf l := ⟨_, rfl⟩
      have cT : ∀ {cs B v W}, Ints B W v l → Rb w cs W → Calls Tryz.prog 73 #[v] W (fun e w' => e = .returned (.string y) ∧ Rb w cs w') := fun {cs B v W} hI x => (text_ints hI hla.1 (by omega)).mono fun _ _ ⟨a, y'⟩ => ⟨by rw [a, hy], x.to y'⟩
      unfold tailP at hr hfl
      have hpl := hq.1
      have cH0 := fun {cs W} (x : Rb w cs W) => hst p 94 (by decide) (by decide) x
      have cH1 : ∀ {cs W}, Rb w cs W → Calls Tryz.prog 42 #[.slice A sl.length cap, .int .i64 ((p : Int) + 1), .int .u8 94] W fun e w' => e = .returned (.bool (decide (sl[p + 1]? = some 94))) ∧ W = w' := fun {cs W} x => hst (p + 1) 94 (by decide) (by decide) x
      have cA := fun {cs W} (x : Rb w cs W) => hst p 64 (by decide) (by decide) x
      by_cases hh : sl[p]? = some 94 ∧ sl[p + 1]? = some 94
      · rw [if_pos hh] at hr hfl
        rw [decide_eq_true hh.1] at cH0
        rw [decide_eq_true hh.2] at cH1
        have cI : ∀ {cs W}, Rb w cs W → Calls Tryz.prog 70 #[.slice A sl.length cap, .int .i64 ((p : Int) + 2)] W (fun e w' => e = .returned (.tuple #[.string (textOf ((irP sl (p + 2)).2.getD [])), .int .i64 (irP sl (p + 2)).1, .bool (irP sl (p + 2)).2.isSome]) ∧ Rb w cs w') :=
          fun {cs W} x => (qiri_any (h.below x.1 (Nat.le_refl _)).lv hall (p + 2) hl).mono fun _ _ ⟨a, y⟩ => ⟨a, x.to y⟩
        obtain ⟨q, hq⟩ : ∃ q, q = (irP sl (p + 2)).1 := ⟨_, rfl⟩
        rw [← hq] at cI hr hfl
        cases hu : (irP sl (p + 2)).2 with
        | none =>
          rw [hu] at cI hr
          simp only [Option.getD_none, Option.isSome_none, Option.map_none] at cI hr
          rw [← hzz] at cI
          have HR := Lib.hid hr
          clear h hall hr ho hzz h60 hst hp hq hg hfl h95 h34 h1 hla hh hu hy
          go_enter Tryz.func40, Tryz.ntmps40
          go_wp2_with (first
            | (go_at_call 42; (with_reducible refine (cS60 (by assumption)).mono ?_); rintro e w' ⟨rfl, rfl⟩)
            | (go_at_call 42; (with_reducible refine (cS95 (by assumption)).mono ?_); rintro e w' ⟨rfl, rfl⟩)
            | (go_at_call 42; (with_reducible refine (cS34 (by assumption)).mono ?_); rintro e w' ⟨rfl, rfl⟩)
            | (go_at_call 42; (with_reducible refine (cH0 (by assumption)).mono ?_); rintro e w' ⟨rfl, rfl⟩)
            | (go_at_call 42; (with_reducible refine (cH1 (by assumption)).mono ?_); rintro e w' ⟨rfl, rfl⟩)
            | (go_at_call 72; (with_reducible refine (cQ (by assumption)).mono ?_); rintro e w3 ⟨aq, nq, kq, rfl, i3, m3⟩)
            | (go_at_call 73; (with_reducible refine (cT i3 m3).mono ?_); rintro e w4 ⟨rfl, m4⟩; obtain ⟨o0, o1, o2, o3, p0, p1, p2, p3, q0, q1⟩ := m4.out; obtain ⟨x0, x1, x2, x3, y0, y1, y2, y3⟩ := m4.cells; have m5 := (((m4.set0 (.int .i64 2)).set1 (.string y)).set2 (.string XS)).set3 (.string mt))
            | (go_at_call 70; (with_reducible refine (cI (by assumption)).mono ?_); rintro e w2 ⟨rfl, m2⟩; have m7 := m2.set2 (.string zz); obtain ⟨o0, o1, o2, o3, p0, p1, p2, p3, q0, q1⟩ := m2.out; obtain ⟨x0, x1, x2, x3, y0, y1, y2, y3⟩ := m2.cells))
          refine bodyPost_ret (v := .tuple #[F4 0 mt mt mt, .int .i64 q, .int .i64 1]) (by simp [results, Tryz.results40, go_sem, o0, o1, o2, o3, p0, p1, p2, p3, q0, q1, x0, x1, x2, x3, y0, y1, y2, y3]) rfl ?_
          rw [HR.out]
          exact ⟨rfl, (m2.set2 (.string zz)).fin _ _ _ _⟩
        | some u =>
          rw [hu] at cI hr hfl
          simp only [Option.getD_some, Option.isSome_some, Option.map_some] at cI hr hfl
          obtain ⟨z, hz⟩ : ∃ z, z = textOf u := ⟨_, rfl⟩
          rw [← hz] at cI hr hfl
          rw [← hy] at hr hfl
          have hgd : ∀ {cs W}, Rb w cs W → Calls Tryz.prog 24 #[F4 2 y z mt] W fun e w' => e = .returned (.bool (goodT (.lit y z mt))) ∧ Rb w cs w' := hg (.lit y z mt) ((hfl.2.2 _ rfl).1.few hl)
          clear h hall ho hzz h60 hst hp hq hg hfl h95 h34 h1 hla hh hu hy hz
          (try dsimp only at hr)
          obtain ⟨gd, hgt⟩ : ∃ g, g = goodT (.lit y z mt) := ⟨_, rfl⟩
          rw [← hgt] at hr hgd
          clear hgt
          cases gd
          · rw [if_neg (by decide)] at hr
            have HR := Lib.hid hr
            clear hr
            go_enter Tryz.func40, Tryz.ntmps40
            go_wp2_with (first
              | (go_at_call 42; (with_reducible refine (cS60 (by assumption)).mono ?_); rintro e w' ⟨rfl, rfl⟩)
              | (go_at_call 42; (with_reducible refine (cS95 (by assumption)).mono ?_); rintro e w' ⟨rfl, rfl⟩)
              | (go_at_call 42; (with_reducible refine (cS34 (by assumption)).mono ?_); rintro e w' ⟨rfl, rfl⟩)
              | (go_at_call 42; (with_reducible refine (cH0 (by assumption)).mono ?_); rintro e w' ⟨rfl, rfl⟩)
              | (go_at_call 42; (with_reducible refine (cH1 (by assumption)).mono ?_); rintro e w' ⟨rfl, rfl⟩)
              | (go_at_call 72; (with_reducible refine (cQ (by assumption)).mono ?_); rintro e w3 ⟨aq, nq, kq, rfl, i3, m3⟩)
              | (go_at_call 73; (with_reducible refine (cT i3 m3).mono ?_); rintro e w4 ⟨rfl, m4⟩; obtain ⟨o0, o1, o2, o3, p0, p1, p2, p3, q0, q1⟩ := m4.out; obtain ⟨x0, x1, x2, x3, y0, y1, y2, y3⟩ := m4.cells; have m5 := (((m4.set0 (.int .i64 2)).set1 (.string y)).set2 (.string XS)).set3 (.string mt))
              | (go_at_call 70; (with_reducible refine (cI (by assumption)).mono ?_); rintro e w2 ⟨rfl, m2⟩; have m7 := m2.set2 (.string z); obtain ⟨o0, o1, o2, o3, p0, p1, p2, p3, q0, q1⟩ := m2.out; obtain ⟨x0, x1, x2, x3, y0, y1, y2, y3⟩ := m2.cells)
              | (go_at_call 24; (with_reducible refine (hgd (by assumption)).mono ?_); rintro e w9 ⟨rfl, m9⟩; obtain ⟨o0, o1, o2, o3, p0, p1, p2, p3, q0, q1⟩ := m9.out; obtain ⟨x0, x1, x2, x3, y0, y1, y2, y3⟩ := m9.cells))
            refine bodyPost_ret (v := .tuple #[F4 0 mt mt mt, .int .i64 k, .int .i64 3]) (by simp [results, Tryz.results40, go_sem, o0, o1, o2, o3, p0, p1, p2, p3, q0, q1, x0, x1, x2, x3, y0, y1, y2, y3]) rfl ?_
            rw [HR.out]
            exact ⟨rfl, m9.fin _ _ _ _⟩
          · rw [if_pos rfl] at hr
            have HR := Lib.hid hr
            clear hr
            go_enter Tryz.func40, Tryz.ntmps40
            go_wp2_with (first
              | (go_at_call 42; (with_reducible refine (cS60 (by assumption)).mono ?_); rintro e w' ⟨rfl, rfl⟩)
              | (go_at_call 42; (with_reducible refine (cS95 (by assumption)).mono ?_); rintro e w' ⟨rfl, rfl⟩)
              | (go_at_call 42; (with_reducible refine (cS34 (by assumption)).mono ?_); rintro e w' ⟨rfl, rfl⟩)
              | (go_at_call 42; (with_reducible refine (cH0 (by assumption)).mono ?_); rintro e w' ⟨rfl, rfl⟩)
              | (go_at_call 42; (with_reducible refine (cH1 (by assumption)).mono ?_); rintro e w' ⟨rfl, rfl⟩)
              | (go_at_call 72; (with_reducible refine (cQ (by assumption)).mono ?_); rintro e w3 ⟨aq, nq, kq, rfl, i3, m3⟩)
              | (go_at_call 73; (with_reducible refine (cT i3 m3).mono ?_); rintro e w4 ⟨rfl, m4⟩; obtain ⟨o0, o1, o2, o3, p0, p1, p2, p3, q0, q1⟩ := m4.out; obtain ⟨x0, x1, x2, x3, y0, y1, y2, y3⟩ := m4.cells; have m5 := (((m4.set0 (.int .i64 2)).set1 (.string y)).set2 (.string XS)).set3 (.string mt))
              | (go_at_call 70; (with_reducible refine (cI (by assumption)).mono ?_); rintro e w2 ⟨rfl, m2⟩; have m7 := m2.set2 (.string z); obtain ⟨o0, o1, o2, o3, p0, p1, p2, p3, q0, q1⟩ := m2.out; obtain ⟨x0, x1, x2, x3, y0, y1, y2, y3⟩ := m2.cells)
              | (go_at_call 24; (with_reducible refine (hgd (by assumption)).mono ?_); rintro e w9 ⟨rfl, m9⟩; obtain ⟨o0, o1, o2, o3, p0, p1, p2, p3, q0, q1⟩ := m9.out; obtain ⟨x0, x1, x2, x3, y0, y1, y2, y3⟩ := m9.cells))
            refine bodyPost_ret (v := .tuple #[F4 2 y z mt, .int .i64 q, .int .i64 0]) (by simp [results, Tryz.results40, go_sem, o0, o1, o2, o3, p0, p1, p2, p3, q0, q1, x0, x1, x2, x3, y0, y1, y2, y3]) rfl ?_
            rw [HR.out]
            exact ⟨rfl, m9.fin _ _ _ _⟩
      · rw [if_neg hh] at hr hfl
        have cHH : (∀ {cs W}, Rb w cs W → Calls Tryz.prog 42 #[.slice A sl.length cap, .int .i64 (p : Int), .int .u8 94] W fun e w' => e = .returned (.bool false) ∧ W = w') ∨
            ((∀ {cs W}, Rb w cs W → Calls Tryz.prog 42 #[.slice A sl.length cap, .int .i64 (p : Int), .int .u8 94] W fun e w' => e = .returned (.bool true) ∧ W = w') ∧ (∀ {cs W}, Rb w cs W → Calls Tryz.prog 42 #[.slice A sl.length cap, .int .i64 ((p : Int) + 1), .int .u8 94] W fun e w' => e = .returned (.bool false) ∧ W = w')) := by
          by_cases e1 : sl[p]? = some 94
          · rw [decide_eq_true e1] at cH0
            rw [decide_eq_false (fun e2 => hh ⟨e1, e2⟩)] at cH1
            exact .inr ⟨cH0, cH1⟩
          · rw [decide_eq_false e1] at cH0
            exact .inl cH0
        clear cH0 cH1
        by_cases ha : sl[p]? = some 64
        · rw [if_pos ha] at hr hfl
          rw [decide_eq_true ha] at cA
          have hp1 : p + 1 ≤ sl.length := (List.getElem?_eq_some_iff.1 ha).1
          obtain ⟨z, hz⟩ : ∃ z, z = textOf (wmL msL (sl.drop (p + 1))) := ⟨_, rfl⟩
          obtain ⟨q, hq2⟩ : ∃ q, q = p + 1 + (wmL msL (sl.drop (p + 1))).length := ⟨_, rfl⟩
          have cW : ∀ {cs W}, Rb w cs W → Calls Tryz.prog 71 #[.slice A sl.length cap, .int .i64 ((p : Int) + 1), .bool false] W fun e w' => e = .returned (.tuple #[.string z, .int .i64 (q : Nat)]) ∧ Rb w cs w' := fun {cs W} x => (qword_any (h.below x.1 (Nat.le_refl _)) hall false (p + 1) hp1 hl).mono fun _ _ ⟨a, y⟩ => ⟨by rw [a, hz, hq2]; rfl, x.to y⟩
          rw [← hz, ← hq2, ← hy] at hr hfl
          have hgd : ∀ {cs W}, Rb w cs W → Calls Tryz.prog 24 #[F4 2 y XL z] W fun e w' => e = .returned (.bool (goodT (.lit y XL z))) ∧ Rb w cs w' := hg (.lit y XL z) ((hfl.2.2 _ rfl).1.few hl)
          clear h hall ho hzz h60 hst hp hq hg hfl h95 h34 h1 hla hh hy hz hq2 ha
          rcases cHH with cH0 | ⟨cH0, cH1⟩
          · skip
            (try dsimp only at hr)
            obtain ⟨gd, hgt⟩ : ∃ g, g = goodT (.lit y XL z) := ⟨_, rfl⟩
            rw [← hgt] at hr hgd
            clear hgt
            cases gd
            · rw [if_neg (by decide)] at hr
              have HR := Lib.hid hr
              clear hr
              go_enter Tryz.func40, Tryz.ntmps40
              go_wp2_with (first
                | (go_at_call 42; (with_reducible refine (cS60 (by assumption)).mono ?_); rintro e w' ⟨rfl, rfl⟩)
                | (go_at_call 42; (with_reducible refine (cS95 (by assumption)).mono ?_); rintro e w' ⟨rfl, rfl⟩)
                | (go_at_call 42; (with_reducible refine (cS34 (by assumption)).mono ?_); rintro e w' ⟨rfl, rfl⟩)
                | (go_at_call 42; (with_reducible refine (cH0 (by assumption)).mono ?_); rintro e w' ⟨rfl, rfl⟩)
                | (go_at_call 42; (with_reducible refine (cA (by assumption)).mono ?_); rintro e w' ⟨rfl, rfl⟩)
                | (go_at_call 72; (with_reducible refine (cQ (by assumption)).mono ?_); rintro e w3 ⟨aq, nq, kq, rfl, i3, m3⟩)
                | (go_at_call 73; (with_reducible refine (cT i3 m3).mono ?_); rintro e w4 ⟨rfl, m4⟩; obtain ⟨o0, o1, o2, o3, p0, p1, p2, p3, q0, q1⟩ := m4.out; obtain ⟨x0, x1, x2, x3, y0, y1, y2, y3⟩ := m4.cells; have m5a := ((((m4.set0 (.int .i64 2)).set1 (.string y)).set2 (.string XS)).set3 (.string mt)).set2 (.string XL); have m5 := (((m4.set0 (.int .i64 2)).set1 (.string y)).set2 (.string XS)).set3 (.string mt))
                | (go_at_call 71; (with_reducible refine (cW (by assumption)).mono ?_); rintro e w6 ⟨rfl, m6⟩; have m7 := m6.set3 (.string z); obtain ⟨o0, o1, o2, o3, p0, p1, p2, p3, q0, q1⟩ := m6.out; obtain ⟨x0, x1, x2, x3, y0, y1, y2, y3⟩ := m6.cells)
                | (go_at_call 24; (with_reducible refine (hgd (by assumption)).mono ?_); rintro e w9 ⟨rfl, m9⟩; obtain ⟨o0, o1, o2, o3, p0, p1, p2, p3, q0, q1⟩ := m9.out; obtain ⟨x0, x1, x2, x3, y0, y1, y2, y3⟩ := m9.cells))
              refine bodyPost_ret (v := .tuple #[F4 0 mt mt mt, .int .i64 k, .int .i64 3]) (by simp [results, Tryz.results40, go_sem, o0, o1, o2, o3, p0, p1, p2, p3, q0, q1, x0, x1, x2, x3, y0, y1, y2, y3]) rfl ?_
              rw [HR.out]
              exact ⟨rfl, m9.fin _ _ _ _⟩
            · rw [if_pos rfl] at hr
              have HR := Lib.hid hr
              clear hr
              go_enter Tryz.func40, Tryz.ntmps40
              go_wp2_with (first
                | (go_at_call 42; (with_reducible refine (cS60 (by assumption)).mono ?_); rintro e w' ⟨rfl, rfl⟩)
                | (go_at_call 42; (with_reducible refine (cS95 (by assumption)).mono ?_); rintro e w' ⟨rfl, rfl⟩)
                | (go_at_call 42; (with_reducible refine (cS34 (by assumption)).mono ?_); rintro e w' ⟨rfl, rfl⟩)
                | (go_at_call 42; (with_reducible refine (cH0 (by assumption)).mono ?_); rintro e w' ⟨rfl, rfl⟩)
                | (go_at_call 42; (with_reducible refine (cA (by assumption)).mono ?_); rintro e w' ⟨rfl, rfl⟩)
                | (go_at_call 72; (with_reducible refine (cQ (by assumption)).mono ?_); rintro e w3 ⟨aq, nq, kq, rfl, i3, m3⟩)
                | (go_at_call 73; (with_reducible refine (cT i3 m3).mono ?_); rintro e w4 ⟨rfl, m4⟩; obtain ⟨o0, o1, o2, o3, p0, p1, p2, p3, q0, q1⟩ := m4.out; obtain ⟨x0, x1, x2, x3, y0, y1, y2, y3⟩ := m4.cells; have m5a := ((((m4.set0 (.int .i64 2)).set1 (.string y)).set2 (.string XS)).set3 (.string mt)).set2 (.string XL); have m5 := (((m4.set0 (.int .i64 2)).set1 (.string y)).set2 (.string XS)).set3 (.string mt))
                | (go_at_call 71; (with_reducible refine (cW (by assumption)).mono ?_); rintro e w6 ⟨rfl, m6⟩; have m7 := m6.set3 (.string z); obtain ⟨o0, o1, o2, o3, p0, p1, p2, p3, q0, q1⟩ := m6.out; obtain ⟨x0, x1, x2, x3, y0, y1, y2, y3⟩ := m6.cells)
                | (go_at_call 24; (with_reducible refine (hgd (by assumption)).mono ?_); rintro e w9 ⟨rfl, m9⟩; obtain ⟨o0, o1, o2, o3, p0, p1, p2, p3, q0, q1⟩ := m9.out; obtain ⟨x0, x1, x2, x3, y0, y1, y2, y3⟩ := m9.cells))
              refine bodyPost_ret (v := .tuple #[F4 2 y XL z, .int .i64 q, .int .i64 0]) (by simp [results, Tryz.results40, go_sem, o0, o1, o2, o3, p0, p1, p2, p3, q0, q1, x0, x1, x2, x3, y0, y1, y2, y3]) rfl ?_
              rw [HR.out]
              exact ⟨rfl, m9.fin _ _ _ _⟩
          · skip
            (try dsimp only at hr)
            obtain ⟨gd, hgt⟩ : ∃ g, g = goodT (.lit y XL z) := ⟨_, rfl⟩
            rw [← hgt] at hr hgd
            clear hgt
            cases gd
            · rw [if_neg (by decide)] at hr
              have HR := Lib.hid hr
              clear hr
              go_enter Tryz.func40, Tryz.ntmps40
              go_wp2_with (first
                | (go_at_call 42; (with_reducible refine (cS60 (by assumption)).mono ?_); rintro e w' ⟨rfl, rfl⟩)
                | (go_at_call 42; (with_reducible refine (cS95 (by assumption)).mono ?_); rintro e w' ⟨rfl, rfl⟩)
                | (go_at_call 42; (with_reducible refine (cS34 (by assumption)).mono ?_); rintro e w' ⟨rfl, rfl⟩)
                | (go_at_call 42; (with_reducible refine (cH0 (by assumption)).mono ?_); rintro e w' ⟨rfl, rfl⟩)
                | (go_at_call 42; (with_reducible refine (cH1 (by assumption)).mono ?_); rintro e w' ⟨rfl, rfl⟩)
                | (go_at_call 42; (with_reducible refine (cA (by assumption)).mono ?_); rintro e w' ⟨rfl, rfl⟩)
                | (go_at_call 72; (with_reducible refine (cQ (by assumption)).mono ?_); rintro e w3 ⟨aq, nq, kq, rfl, i3, m3⟩)
                | (go_at_call 73; (with_reducible refine (cT i3 m3).mono ?_); rintro e w4 ⟨rfl, m4⟩; obtain ⟨o0, o1, o2, o3, p0, p1, p2, p3, q0, q1⟩ := m4.out; obtain ⟨x0, x1, x2, x3, y0, y1, y2, y3⟩ := m4.cells; have m5a := ((((m4.set0 (.int .i64 2)).set1 (.string y)).set2 (.string XS)).set3 (.string mt)).set2 (.string XL); have m5 := (((m4.set0 (.int .i64 2)).set1 (.string y)).set2 (.string XS)).set3 (.string mt))
                | (go_at_call 71; (with_reducible refine (cW (by assumption)).mono ?_); rintro e w6 ⟨rfl, m6⟩; have m7 := m6.set3 (.string z); obtain ⟨o0, o1, o2, o3, p0, p1, p2, p3, q0, q1⟩ := m6.out; obtain ⟨x0, x1, x2, x3, y0, y1, y2, y3⟩ := m6.cells)
                | (go_at_call 24; (with_reducible refine (hgd (by assumption)).mono ?_); rintro e w9 ⟨rfl, m9⟩; obtain ⟨o0, o1, o2, o3, p0, p1, p2, p3, q0, q1⟩ := m9.out; obtain ⟨x0, x1, x2, x3, y0, y1, y2, y3⟩ := m9.cells))
              refine bodyPost_ret (v := .tuple #[F4 0 mt mt mt, .int .i64 k, .int .i64 3]) (by simp [results, Tryz.results40, go_sem, o0, o1, o2, o3, p0, p1, p2, p3, q0, q1, x0, x1, x2, x3, y0, y1, y2, y3]) rfl ?_
              rw [HR.out]
              exact ⟨rfl, m9.fin _ _ _ _⟩
            · rw [if_pos rfl] at hr
              have HR := Lib.hid hr
              clear hr
              go_enter Tryz.func40, Tryz.ntmps40
              go_wp2_with (first
                | (go_at_call 42; (with_reducible refine (cS60 (by assumption)).mono ?_); rintro e w' ⟨rfl, rfl⟩)
                | (go_at_call 42; (with_reducible refine (cS95 (by assumption)).mono ?_); rintro e w' ⟨rfl, rfl⟩)
                | (go_at_call 42; (with_reducible refine (cS34 (by assumption)).mono ?_); rintro e w' ⟨rfl, rfl⟩)
                | (go_at_call 42; (with_reducible refine (cH0 (by assumption)).mono ?_); rintro e w' ⟨rfl, rfl⟩)
                | (go_at_call 42; (with_reducible refine (cH1 (by assumption)).mono ?_); rintro e w' ⟨rfl, rfl⟩)
                | (go_at_call 42; (with_reducible refine (cA (by assumption)).mono ?_); rintro e w' ⟨rfl, rfl⟩)
                | (go_at_call 72; (with_reducible refine (cQ (by assumption)).mono ?_); rintro e w3 ⟨aq, nq, kq, rfl, i3, m3⟩)
                | (go_at_call 73; (with_reducible refine (cT i3 m3).mono ?_); rintro e w4 ⟨rfl, m4⟩; obtain ⟨o0, o1, o2, o3, p0, p1, p2, p3, q0, q1⟩ := m4.out; obtain ⟨x0, x1, x2, x3, y0, y1, y2, y3⟩ := m4.cells; have m5a := ((((m4.set0 (.int .i64 2)).set1 (.string y)).set2 (.string XS)).set3 (.string mt)).set2 (.string XL); have m5 := (((m4.set0 (.int .i64 2)).set1 (.string y)).set2 (.string XS)).set3 (.string mt))
                | (go_at_call 71; (with_reducible refine (cW (by assumption)).mono ?_); rintro e w6 ⟨rfl, m6⟩; have m7 := m6.set3 (.string z); obtain ⟨o0, o1, o2, o3, p0, p1, p2, p3, q0, q1⟩ := m6.out; obtain ⟨x0, x1, x2, x3, y0, y1, y2, y3⟩ := m6.cells)
                | (go_at_call 24; (with_reducible refine (hgd (by assumption)).mono ?_); rintro e w9 ⟨rfl, m9⟩; obtain ⟨o0, o1, o2, o3, p0, p1, p2, p3, q0, q1⟩ := m9.out; obtain ⟨x0, x1, x2, x3, y0, y1, y2, y3⟩ := m9.cells))
              refine bodyPost_ret (v := .tuple #[F4 2 y XL z, .int .i64 q, .int .i64 0]) (by simp [results, Tryz.results40, go_sem, o0, o1, o2, o3, p0, p1, p2, p3, q0, q1, x0, x1, x2, x3, y0, y1, y2, y3]) rfl ?_
              rw [HR.out]
              exact ⟨rfl, m9.fin _ _ _ _⟩
        · rw [if_neg ha] at hr hfl
          rw [decide_eq_false ha] at cA
          rw [← hy] at hr hfl
          have hgd : ∀ {cs W}, Rb w cs W → Calls Tryz.prog 24 #[F4 2 y XS mt] W fun e w' => e = .returned (.bool (goodT (.lit y XS mt))) ∧ Rb w cs w' := hg (.lit y XS mt) ((hfl.2.2 _ rfl).1.few hl)
          clear h hall ho hzz h60 hst hp hq hg hfl h95 h34 h1 hla hh hy ha
          rcases cHH with cH0 | ⟨cH0, cH1⟩
          · skip
            (try dsimp only at hr)
            obtain ⟨gd, hgt⟩ : ∃ g, g = goodT (.lit y XS mt) := ⟨_, rfl⟩
            rw [← hgt] at hr hgd
            clear hgt
            cases gd
            · rw [if_neg (by decide)] at hr
              have HR := Lib.hid hr
              clear hr
              go_enter Tryz.func40, Tryz.ntmps40
              go_wp2_with (first
                | (go_at_call 42; (with_reducible refine (cS60 (by assumption)).mono ?_); rintro e w' ⟨rfl, rfl⟩)
                | (go_at_call 42; (with_reducible refine (cS95 (by assumption)).mono ?_); rintro e w' ⟨rfl, rfl⟩)
                | (go_at_call 42; (with_reducible refine (cS34 (by assumption)).mono ?_); rintro e w' ⟨rfl, rfl⟩)
                | (go_at_call 42; (with_reducible refine (cH0 (by assumption)).mono ?_); rintro e w' ⟨rfl, rfl⟩)
                | (go_at_call 42; (with_reducible refine (cA (by assumption)).mono ?_); rintro e w' ⟨rfl, rfl⟩)
                | (go_at_call 72; (with_reducible refine (cQ (by assumption)).mono ?_); rintro e w3 ⟨aq, nq, kq, rfl, i3, m3⟩)
                | (go_at_call 73; (with_reducible refine (cT i3 m3).mono ?_); rintro e w4 ⟨rfl, m4⟩; obtain ⟨o0, o1, o2, o3, p0, p1, p2, p3, q0, q1⟩ := m4.out; obtain ⟨x0, x1, x2, x3, y0, y1, y2, y3⟩ := m4.cells; have m5 := (((m4.set0 (.int .i64 2)).set1 (.string y)).set2 (.string XS)).set3 (.string mt))
                | (go_at_call 24; (with_reducible refine (hgd (by assumption)).mono ?_); rintro e w9 ⟨rfl, m9⟩; obtain ⟨o0, o1, o2, o3, p0, p1, p2, p3, q0, q1⟩ := m9.out; obtain ⟨x0, x1, x2, x3, y0, y1, y2, y3⟩ := m9.cells))
              refine bodyPost_ret (v := .tuple #[F4 0 mt mt mt, .int .i64 k, .int .i64 3]) (by simp [results, Tryz.results40, go_sem, o0, o1, o2, o3, p0, p1, p2, p3, q0, q1, x0, x1, x2, x3, y0, y1, y2, y3]) rfl ?_
              rw [HR.out]
              exact ⟨rfl, m9.fin _ _ _ _⟩
            · rw [if_pos rfl] at hr
              have HR := Lib.hid hr
              clear hr
              go_enter Tryz.func40, Tryz.ntmps40
              go_wp2_with (first
                | (go_at_call 42; (with_reducible refine (cS60 (by assumption)).mono ?_); rintro e w' ⟨rfl, rfl⟩)
                | (go_at_call 42; (with_reducible refine (cS95 (by assumption)).mono ?_); rintro e w' ⟨rfl, rfl⟩)
                | (go_at_call 42; (with_reducible refine (cS34 (by assumption)).mono ?_); rintro e w' ⟨rfl, rfl⟩)
                | (go_at_call 42; (with_reducible refine (cH0 (by assumption)).mono ?_); rintro e w' ⟨rfl, rfl⟩)
                | (go_at_call 42; (with_reducible refine (cA (by assumption)).mono ?_); rintro e w' ⟨rfl, rfl⟩)
                | (go_at_call 72; (with_reducible refine (cQ (by assumption)).mono ?_); rintro e w3 ⟨aq, nq, kq, rfl, i3, m3⟩)
                | (go_at_call 73; (with_reducible refine (cT i3 m3).mono ?_); rintro e w4 ⟨rfl, m4⟩; obtain ⟨o0, o1, o2, o3, p0, p1, p2, p3, q0, q1⟩ := m4.out; obtain ⟨x0, x1, x2, x3, y0, y1, y2, y3⟩ := m4.cells; have m5 := (((m4.set0 (.int .i64 2)).set1 (.string y)).set2 (.string XS)).set3 (.string mt))
                | (go_at_call 24; (with_reducible refine (hgd (by assumption)).mono ?_); rintro e w9 ⟨rfl, m9⟩; obtain ⟨o0, o1, o2, o3, p0, p1, p2, p3, q0, q1⟩ := m9.out; obtain ⟨x0, x1, x2, x3, y0, y1, y2, y3⟩ := m9.cells))
              refine bodyPost_ret (v := .tuple #[F4 2 y XS mt, .int .i64 p, .int .i64 0]) (by simp [results, Tryz.results40, go_sem, o0, o1, o2, o3, p0, p1, p2, p3, q0, q1, x0, x1, x2, x3, y0, y1, y2, y3]) rfl ?_
              rw [HR.out]
              exact ⟨rfl, m9.fin _ _ _ _⟩
          · skip
            (try dsimp only at hr)
            obtain ⟨gd, hgt⟩ : ∃ g, g = goodT (.lit y XS mt) := ⟨_, rfl⟩
            rw [← hgt] at hr hgd
            clear hgt
            cases gd
            · rw [if_neg (by decide)] at hr
              have HR := Lib.hid hr
              clear hr
              go_enter Tryz.func40, Tryz.ntmps40
              go_wp2_with (first
                | (go_at_call 42; (with_reducible refine (cS60 (by assumption)).mono ?_); rintro e w' ⟨rfl, rfl⟩)
                | (go_at_call 42; (with_reducible refine (cS95 (by assumption)).mono ?_); rintro e w' ⟨rfl, rfl⟩)
                | (go_at_call 42; (with_reducible refine (cS34 (by assumption)).mono ?_); rintro e w' ⟨rfl, rfl⟩)
                | (go_at_call 42; (with_reducible refine (cH0 (by assumption)).mono ?_); rintro e w' ⟨rfl, rfl⟩)
                | (go_at_call 42; (with_reducible refine (cH1 (by assumption)).mono ?_); rintro e w' ⟨rfl, rfl⟩)
                | (go_at_call 42; (with_reducible refine (cA (by assumption)).mono ?_); rintro e w' ⟨rfl, rfl⟩)
                | (go_at_call 72; (with_reducible refine (cQ (by assumption)).mono ?_); rintro e w3 ⟨aq, nq, kq, rfl, i3, m3⟩)
                | (go_at_call 73; (with_reducible refine (cT i3 m3).mono ?_); rintro e w4 ⟨rfl, m4⟩; obtain ⟨o0, o1, o2, o3, p0, p1, p2, p3, q0, q1⟩ := m4.out; obtain ⟨x0, x1, x2, x3, y0, y1, y2, y3⟩ := m4.cells; have m5 := (((m4.set0 (.int .i64 2)).set1 (.string y)).set2 (.string XS)).set3 (.string mt))
                | (go_at_call 24; (with_reducible refine (hgd (by assumption)).mono ?_); rintro e w9 ⟨rfl, m9⟩; obtain ⟨o0, o1, o2, o3, p0, p1, p2, p3, q0, q1⟩ := m9.out; obtain ⟨x0, x1, x2, x3, y0, y1, y2, y3⟩ := m9.cells))
              refine bodyPost_ret (v := .tuple #[F4 0 mt mt mt, .int .i64 k, .int .i64 3]) (by simp [results, Tryz.results40, go_sem, o0, o1, o2, o3, p0, p1, p2, p3, q0, q1, x0, x1, x2, x3, y0, y1, y2, y3]) rfl ?_
              rw [HR.out]
              exact ⟨rfl, m9.fin _ _ _ _⟩
            · rw [if_pos rfl] at hr
              have HR := Lib.hid hr
              clear hr
              go_enter Tryz.func40, Tryz.ntmps40
              go_wp2_with (first
                | (go_at_call 42; (with_reducible refine (cS60 (by assumption)).mono ?_); rintro e w' ⟨rfl, rfl⟩)
                | (go_at_call 42; (with_reducible refine (cS95 (by assumption)).mono ?_); rintro e w' ⟨rfl, rfl⟩)
                | (go_at_call 42; (with_reducible refine (cS34 (by assumption)).mono ?_); rintro e w' ⟨rfl, rfl⟩)
                | (go_at_call 42; (with_reducible refine (cH0 (by assumption)).mono ?_); rintro e w' ⟨rfl, rfl⟩)
                | (go_at_call 42; (with_reducible refine (cH1 (by assumption)).mono ?_); rintro e w' ⟨rfl, rfl⟩)
                | (go_at_call 42; (with_reducible refine (cA (by assumption)).mono ?_); rintro e w' ⟨rfl, rfl⟩)
                | (go_at_call 72; (with_reducible refine (cQ (by assumption)).mono ?_); rintro e w3 ⟨aq, nq, kq, rfl, i3, m3⟩)
                | (go_at_call 73; (with_reducible refine (cT i3 m3).mono ?_); rintro e w4 ⟨rfl, m4⟩; obtain ⟨o0, o1, o2, o3, p0, p1, p2, p3, q0, q1⟩ := m4.out; obtain ⟨x0, x1, x2, x3, y0, y1, y2, y3⟩ := m4.cells; have m5 := (((m4.set0 (.int .i64 2)).set1 (.string y)).set2 (.string XS)).set3 (.string mt))
                | (go_at_call 24; (with_reducible refine (hgd (by assumption)).mono ?_); rintro e w9 ⟨rfl, m9⟩; obtain ⟨o0, o1, o2, o3, p0, p1, p2, p3, q0, q1⟩ := m9.out; obtain ⟨x0, x1, x2, x3, y0, y1, y2, y3⟩ := m9.cells))
              refine bodyPost_ret (v := .tuple #[F4 2 y XS mt, .int .i64 p, .int .i64 0]) (by simp [results, Tryz.results40, go_sem, o0, o1, o2, o3, p0, p1, p2, p3, q0, q1, x0, x1, x2, x3, y0, y1, y2, y3]) rfl ?_
              rw [HR.out]
              exact ⟨rfl, m9.fin _ _ _ _⟩
  rw [if_neg h34] at hr hfl
  rw [decide_eq_false h34] at cS34
  by_cases h95 : sl[k]? = some 95
  · rw [if_pos h95] at hr hfl
    rw [decide_eq_true h95] at cS95
    have hk1 : k + 1 ≤ sl.length := (List.getElem?_eq_some_iff.1 h95).1
    have cC : ∀ {cs W}, Rb w cs W → Calls Tryz.prog 42 #[.slice A sl.length cap, .int .i64 ((k : Int) + 1), .int .u8 58] W fun e w' => e = .returned (.bool (decide (sl[k + 1]? = some 58))) ∧ W = w' := fun {cs W} x => hst (k + 1) 58 (by decide) (by decide) x
    by_cases h58 : sl[k + 1]? = some 58
    · rw [if_pos h58] at hr hfl
      rw [decide_eq_true h58] at cC
      have hk2 : k + 2 ≤ sl.length := (List.getElem?_eq_some_iff.1 h58).1
      obtain ⟨z, hz⟩ : ∃ z, z = textOf (wmL msB (sl.drop (k + 2))) := ⟨_, rfl⟩
      obtain ⟨q, hq⟩ : ∃ q, q = k + 2 + (wmL msB (sl.drop (k + 2))).length := ⟨_, rfl⟩
      have cW : ∀ {cs W}, Rb w cs W → Calls Tryz.prog 71 #[.slice A sl.length cap, .int .i64 ((k : Int) + 1 + 1), .bool true] W fun e w' => e = .returned (.tuple #[.string z, .int .i64 (q : Nat)]) ∧ Rb w cs w' := fun {cs W} x => (qword_any (h.below x.1 (Nat.le_refl _)) hall true (k + 2) hk2 hl).mono fun _ _ ⟨a, y⟩ => ⟨by rw [a, hz, hq]; rfl, x.to y⟩
      rw [← hz, ← hq] at hr hfl
      have hgd : ∀ {cs W}, Rb w cs W → Calls Tryz.prog 24 #[F4 0 z mt mt] W fun e w' => e = .returned (.bool (goodT (.blank z))) ∧ Rb w cs w' := hg (.blank z) ((hfl.2.2 _ rfl).1.few hl)
      clear h hall hzz h60 hst hq hg hfl h34 h1 hz h58 hk1 hk2 h95
      (try dsimp only at hr)
      obtain ⟨gd, hgt⟩ : ∃ g, g = goodT (.blank z) := ⟨_, rfl⟩
      rw [← hgt] at hr hgd
      clear hgt
      cases gd
      · rw [if_neg (by decide)] at hr
        have HR := Lib.hid hr
        clear hr
        go_enter Tryz.func40, Tryz.ntmps40
        go_wp2_with (first
          | (go_at_call 42; (with_reducible refine (cS60 (by assumption)).mono ?_); rintro e w' ⟨rfl, rfl⟩)
          | (go_at_call 42; (with_reducible refine (cS95 (by assumption)).mono ?_); rintro e w' ⟨rfl, rfl⟩)
          | (go_at_call 42; (with_reducible refine (cS34 (by assumption)).mono ?_); rintro e w' ⟨rfl, rfl⟩)
          | (go_at_call 42; (with_reducible refine (cC (by assumption)).mono ?_); rintro e w' ⟨rfl, rfl⟩)
          | (go_at_call 71; (with_reducible refine (cW (by assumption)).mono ?_); rintro e w6 ⟨rfl, m6⟩; have m7 := m6.set1 (.string z); obtain ⟨o0, o1, o2, o3, p0, p1, p2, p3, q0, q1⟩ := m6.out; obtain ⟨x0, x1, x2, x3, y0, y1, y2, y3⟩ := m6.cells)
          | (go_at_call 24; (with_reducible refine (hgd (by assumption)).mono ?_); rintro e w9 ⟨rfl, m9⟩; obtain ⟨o0, o1, o2, o3, p0, p1, p2, p3, q0, q1⟩ := m9.out; obtain ⟨x0, x1, x2, x3, y0, y1, y2, y3⟩ := m9.cells))
        refine bodyPost_ret (v := .tuple #[F4 0 mt mt mt, .int .i64 k, .int .i64 3]) (by simp [results, Tryz.results40, go_sem, o0, o1, o2, o3, p0, p1, p2, p3, q0, q1, x0, x1, x2, x3, y0, y1, y2, y3]) rfl ?_
        rw [HR.out]
        exact ⟨rfl, m9.fin _ _ _ _⟩
      · rw [if_pos rfl] at hr
        have HR := Lib.hid hr
        clear hr
        go_enter Tryz.func40, Tryz.ntmps40
        go_wp2_with (first
          | (go_at_call 42; (with_reducible refine (cS60 (by assumption)).mono ?_); rintro e w' ⟨rfl, rfl⟩)
          | (go_at_call 42; (with_reducible refine (cS95 (by assumption)).mono ?_); rintro e w' ⟨rfl, rfl⟩)
          | (go_at_call 42; (with_reducible refine (cS34 (by assumption)).mono ?_); rintro e w' ⟨rfl, rfl⟩)
          | (go_at_call 42; (with_reducible refine (cC (by assumption)).mono ?_); rintro e w' ⟨rfl, rfl⟩)
          | (go_at_call 71; (with_reducible refine (cW (by assumption)).mono ?_); rintro e w6 ⟨rfl, m6⟩; have m7 := m6.set1 (.string z); obtain ⟨o0, o1, o2, o3, p0, p1, p2, p3, q0, q1⟩ := m6.out; obtain ⟨x0, x1, x2, x3, y0, y1, y2, y3⟩ := m6.cells)
          | (go_at_call 24; (with_reducible refine (hgd (by assumption)).mono ?_); rintro e w9 ⟨rfl, m9⟩; obtain ⟨o0, o1, o2, o3, p0, p1, p2, p3, q0, q1⟩ := m9.out; obtain ⟨x0, x1, x2, x3, y0, y1, y2, y3⟩ := m9.cells))
        refine bodyPost_ret (v := .tuple #[F4 0 z mt mt, .int .i64 q, .int .i64 0]) (by simp [results, Tryz.results40, go_sem, o0, o1, o2, o3, p0, p1, p2, p3, q0, q1, x0, x1, x2, x3, y0, y1, y2, y3]) rfl ?_
        rw [HR.out]
        exact ⟨rfl, m9.fin _ _ _ _⟩
    · rw [if_neg h58] at hr
      rw [decide_eq_false h58] at cC
      have HR := Lib.hid hr
      clear h hall hr hzz h60 hst hg hfl h34 h1 h58 hk1 h95
      obtain ⟨o0, o1, o2, o3, p0, p1, p2, p3, q0, q1⟩ := h0.out; obtain ⟨x0, x1, x2, x3, y0, y1, y2, y3⟩ := h0.cells
      go_enter Tryz.func40, Tryz.ntmps40
      go_wp2_with (first
        | (go_at_call 42; (with_reducible refine (cS60 (by assumption)).mono ?_); rintro e w' ⟨rfl, rfl⟩)
        | (go_at_call 42; (with_reducible refine (cS95 (by assumption)).mono ?_); rintro e w' ⟨rfl, rfl⟩)
        | (go_at_call 42; (with_reducible refine (cS34 (by assumption)).mono ?_); rintro e w' ⟨rfl, rfl⟩)
        | (go_at_call 42; (with_reducible refine (cC (by assumption)).mono ?_); rintro e w' ⟨rfl, rfl⟩))
      refine bodyPost_ret (v := .tuple #[F4 0 mt mt mt, .int .i64 ((k : Int) + 1), .int .i64 1]) (by simp [results, Tryz.results40, go_sem, o0, o1, o2, o3, p0, p1, p2, p3, q0, q1, x0, x1, x2, x3, y0, y1, y2, y3]) rfl ?_
      rw [HR.out]
      exact ⟨rfl, h0.1⟩
  · rw [if_neg h95] at hr
    rw [decide_eq_false h95] at cS95
    have HR := Lib.hid hr
    clear h hall hr hzz h60 hst hg hfl h34 h1 h95
    obtain ⟨o0, o1, o2, o3, p0, p1, p2, p3, q0, q1⟩ := h0.out; obtain ⟨x0, x1, x2, x3, y0, y1, y2, y3⟩ := h0.cells
    go_enter Tryz.func40, Tryz.ntmps40
    go_wp2_with (first
      | (go_at_call 42; (with_reducible refine (cS60 (by assumption)).mono ?_); rintro e w' ⟨rfl, rfl⟩)
      | (go_at_call 42; (with_reducible refine (cS95 (by assumption)).mono ?_); rintro e w' ⟨rfl, rfl⟩)
      | (go_at_call 42; (with_reducible refine (cS34 (by assumption)).mono ?_); rintro e w' ⟨rfl, rfl⟩))
    refine bodyPost_ret (v := .tuple #[F4 0 mt mt mt, .int .i64 k, .int .i64 1]) (by simp [results, Tryz.results40, go_sem, o0, o1, o2, o3, p0, p1, p2, p3, q0, q1, x0, x1, x2, x3, y0, y1, y2, y3]) rfl ?_
    rw [HR.out]
    exact ⟨rfl, h0.1⟩
end Go.Proofs.YtpnfjjgihkmjmaaGreatDoor
