/-
  MERGED (a claim has at most 60 files): NTrp, NLines, NPrt, NPru, VSizes, VTrim.
-/
import Derived.Test.YtehechbiajbobaaZ14
import Derived.Test.YtehechbiajbobaaZ15
import Derived.Test.YtehechbiajbobaaZ13
import Derived.Test.YtehechbiajbobaaZ08
import Derived.Test.YtehechbiajbobaaProg
import Derived.WalkKit
import Derived.Below
import Derived.IntWalk
import Derived.Lib.Hide
import Derived.Deep.LoopGhost
import Derived.Deep.QuietTactic
import Derived.BigQuiet
import Derived.Laws.Rows
/-
  TRIPLES: whether the document's may be; as the program's; a triple's text.
-/
namespace Go.Proofs.Ytehechbiajbobaa
open Go.RowKit
set_option linter.unusedVariables false
set_option linter.unusedSimpArgs false

/-- A box, wherever, of whatever type. -/
def By (w : World) (g : Nat) (ty : TypeId) (cs : Array Value) (W : World) : Prop := Below w.heap.size w W ∧ Fb W g ty cs
section
variable {w : World} {g : Nat} {ty : TypeId} {cs : Array Value}
theorem By.below {W W' : World} (h : By w g ty cs W) (hb : Below W.heap.size W W') : By w g ty cs W' := ⟨h.1.trans (hb.mono h.1.size), h.2.below hb⟩
theorem By.drew {W : World} (h : By w g ty cs W) : By w g ty cs W.drew := ⟨Below.drew h.1, h.2⟩
theorem By.mk {W : World} (hb : Below w.heap.size w W) (ty : TypeId) (cs : Array Value) : By w W.heap.size ty cs (W.alloc (.cells cs ty)) := ⟨hb.alloc hb.size _, Fb.new _ _ _⟩
theorem by_of {W : World} {f : Nat} {args : Array Value} {y : Value} (h : By w g ty cs W) (k : Calls Try.prog f args W fun e w' => e = .returned y ∧ Below W.heap.size W w') :
    Calls Try.prog f args W fun e w' => e = .returned y ∧ By w g ty cs w' := k.mono fun _ _ ⟨x, z⟩ => ⟨x, h.below z⟩
theorem By.c12 {x0 x1 x2 x3 x4 x5 x6 x7 x8 x9 xa xb : Value} {W : World} (h : By w g ty #[x0, x1, x2, x3, x4, x5, x6, x7, x8, x9, xa, xb] W) : W.cell? ⟨g, 0, none⟩ = some x0 ∧ W.cell? ⟨g, 1, none⟩ = some x1 ∧ W.cell? ⟨g, 2, none⟩ = some x2 ∧ W.cell? ⟨g, 3, none⟩ = some x3 ∧ W.cell? ⟨g, 4, none⟩ = some x4 ∧ W.cell? ⟨g, 5, none⟩ = some x5 ∧ W.cell? ⟨g, 6, none⟩ = some x6 ∧ W.cell? ⟨g, 7, none⟩ = some x7 ∧ W.cell? ⟨g, 8, none⟩ = some x8 ∧ W.cell? ⟨g, 9, none⟩ = some x9 ∧ W.cell? ⟨g, 10, none⟩ = some xa ∧ W.cell? ⟨g, 11, none⟩ = some xb := Fb.c12 h.2
theorem By.c3 {x0 x1 x2 : Value} {W : World} (h : By w g ty #[x0, x1, x2] W) : W.cell? ⟨g, 0, none⟩ = some x0 ∧ W.cell? ⟨g, 1, none⟩ = some x1 ∧ W.cell? ⟨g, 2, none⟩ = some x2 := ⟨h.2.cell 0, h.2.cell 1, h.2.cell 2⟩
end
abbrev T12 (a b c : Tm) : Value := .agg #[.int .i64 a.kind, .string a.ta, .string a.tb, .string a.tc, .int .i64 b.kind, .string b.ta, .string b.tb, .string b.tc, .int .i64 c.kind, .string c.ta, .string c.tb, .string c.tc]
theorem kind_nn (t : Tm) : 0 ≤ t.kind := by cases t <;> simp [Tm.kind]
theorem good_kind {t : Tm} (h : goodT t = true) : t.kind < 3 := by cases t <;> simp_all [Tm.kind, goodT]
set_option maxRecDepth 100000 in
set_option maxHeartbeats 8000000 in
theorem qgood_any (a b c : Tm) (ha : a.few) (hb : b.few) (hc : c.few) (w : World) : Calls Try.prog 30 #[T12 a b c] w fun e w' => e = .returned (.bool (okR a b c 0)) ∧ Below w.heap.size w w' := by
  have g0 := rgoodT_any a ha
  have g1 := rgoodT_any b hb
  have g2 := rgoodT_any c hc
  obtain ⟨r, hr⟩ : ∃ r, r = okR a b c 0 := ⟨_, rfl⟩
  have hr2 : r = (goodT a && (decide (a.kind < 2) && (goodT b && (decide (b.kind = 1) && goodT c)))) := by
    rw [hr]
    unfold okR okP mayB
    have h1 : ((a.kind == 1) || (((a.kind == 0) && !((0 : Nat) == 1)) || ((a.kind == 2) && ((0 : Nat) == 2)))) = decide (a.kind < 2) := by
      have := kind_nn a
      rw [Bool.eq_iff_iff]; simp; omega
    have h2 : ((b.kind == 1) || (((b.kind == 0) && !((1 : Nat) == 1)) || ((b.kind == 2) && ((1 : Nat) == 2)))) = decide (b.kind = 1) := by
      rw [Bool.eq_iff_iff]; simp
    have h3 : (goodT c && ((c.kind == 1) || (((c.kind == 0) && !((2 : Nat) == 1)) || ((c.kind == 2) && ((2 : Nat) == 2))))) = goodT c := by
      cases hg : goodT c
      · rfl
      · have := good_kind hg
        have := kind_nn c
        rw [Bool.eq_iff_iff]; simp; omega
    rw [h1, h2, h3]
    simp only [Bool.and_assoc]
  rw [← hr]
  clear hr ha hb hc
  obtain ⟨ka, hka⟩ : ∃ x, x = a.kind := ⟨_, rfl⟩
  obtain ⟨a0, ha0⟩ : ∃ x, x = a.ta := ⟨_, rfl⟩
  obtain ⟨a1, ha1⟩ : ∃ x, x = a.tb := ⟨_, rfl⟩
  obtain ⟨a2, ha2⟩ : ∃ x, x = a.tc := ⟨_, rfl⟩
  obtain ⟨kb, hkb⟩ : ∃ x, x = b.kind := ⟨_, rfl⟩
  obtain ⟨b0, hb0⟩ : ∃ x, x = b.ta := ⟨_, rfl⟩
  obtain ⟨b1, hb1⟩ : ∃ x, x = b.tb := ⟨_, rfl⟩
  obtain ⟨b2, hb2⟩ : ∃ x, x = b.tc := ⟨_, rfl⟩
  obtain ⟨kc, hkc⟩ : ∃ x, x = c.kind := ⟨_, rfl⟩
  obtain ⟨c0, hc0⟩ : ∃ x, x = c.ta := ⟨_, rfl⟩
  obtain ⟨c1, hc1⟩ : ∃ x, x = c.tb := ⟨_, rfl⟩
  obtain ⟨c2, hc2⟩ : ∃ x, x = c.tc := ⟨_, rfl⟩
  unfold T4 at g0 g1 g2
  obtain ⟨p, hp⟩ : ∃ x, x = goodT a := ⟨_, rfl⟩
  obtain ⟨q, hq⟩ : ∃ x, x = goodT b := ⟨_, rfl⟩
  obtain ⟨s, hs⟩ : ∃ x, x = goodT c := ⟨_, rfl⟩
  rw [← hka, ← ha0, ← ha1, ← ha2, ← hp] at g0
  rw [← hkb, ← hb0, ← hb1, ← hb2, ← hq] at g1
  rw [← hkc, ← hc0, ← hc1, ← hc2, ← hs] at g2
  rw [← hp, ← hq, ← hs, ← hka, ← hkb] at hr2
  unfold T12
  rw [← hka, ← ha0, ← ha1, ← ha2, ← hkb, ← hb0, ← hb1, ← hb2, ← hkc, ← hc0, ← hc1, ← hc2]
  clear hka ha0 ha1 ha2 hp hkb hb0 hb1 hb2 hq hkc hc0 hc1 hc2 hs
  have hB0 : By w w.heap.size 34 #[.int .i64 ka, .string a0, .string a1, .string a2, .int .i64 kb, .string b0, .string b1, .string b2, .int .i64 kc, .string c0, .string c1, .string c2] (w.alloc (.cells #[.int .i64 ka, .string a0, .string a1, .string a2, .int .i64 kb, .string b0, .string b1, .string b2, .int .i64 kc, .string c0, .string c1, .string c2] 34)) := By.mk (Below.refl _ _) _ _
  cases p
  · have HR : Hid (r = false) := Lib.hid (by rw [hr2]; rfl)
    clear hr2
    go_enter Try.func30, Try.ntmps30
    go_wp2_with (go_at_call 26; (with_reducible refine (by_of hB0 (g0 _)).mono ?_); rintro e w1 ⟨rfl, hB1⟩)
    go_ret
    exact ⟨ret_bool HR.out.symm, hB1.1⟩
  · by_cases h2 : ka < 2
    · cases q
      · have HR : Hid (r = false) := Lib.hid (by rw [hr2]; simp)
        clear hr2
        go_enter Try.func30, Try.ntmps30
        go_wp2_with (first
          | (go_at_call 26; (with_reducible refine (by_of hB0 (g0 _)).mono ?_); rintro e w1 ⟨rfl, hB1⟩; obtain ⟨x0, x1, x2, x3, x4, x5, x6, x7, x8, x9, xa, xb⟩ := By.c12 hB1)
          | (go_at_call 26; (with_reducible refine (by_of hB1 (g1 _)).mono ?_); rintro e w2 ⟨rfl, hB2⟩))
        go_ret
        exact ⟨ret_bool HR.out.symm, hB2.1⟩
      · by_cases h3 : kb = 1
        · have HR : Hid (r = s) := Lib.hid (by rw [hr2, decide_eq_true h2, decide_eq_true h3]; simp)
          have h3b : (kb == 1) = true := by simpa using h3
          clear hr2 h3
          go_enter Try.func30, Try.ntmps30
          go_wp2_with (first
            | (go_at_call 26; (with_reducible refine (by_of hB0 (g0 _)).mono ?_); rintro e w1 ⟨rfl, hB1⟩; obtain ⟨x0, x1, x2, x3, x4, x5, x6, x7, x8, x9, xa, xb⟩ := By.c12 hB1)
            | (go_at_call 26; (with_reducible refine (by_of hB1 (g1 _)).mono ?_); rintro e w2 ⟨rfl, hB2⟩; obtain ⟨y0, y1, y2, y3, y4, y5, y6, y7, y8, y9, ya, yb⟩ := By.c12 hB2)
            | (go_at_call 26; (with_reducible refine (by_of hB2 (g2 _)).mono ?_); rintro e w3 ⟨rfl, hB3⟩))
          go_ret
          exact ⟨ret_bool HR.out.symm, hB3.1⟩
        · have HR : Hid (r = false) := Lib.hid (by rw [hr2, decide_eq_false h3]; simp)
          have h3b : (kb == 1) = false := by simpa using h3
          clear hr2 h3
          go_enter Try.func30, Try.ntmps30
          go_wp2_with (first
            | (go_at_call 26; (with_reducible refine (by_of hB0 (g0 _)).mono ?_); rintro e w1 ⟨rfl, hB1⟩; obtain ⟨x0, x1, x2, x3, x4, x5, x6, x7, x8, x9, xa, xb⟩ := By.c12 hB1)
            | (go_at_call 26; (with_reducible refine (by_of hB1 (g1 _)).mono ?_); rintro e w2 ⟨rfl, hB2⟩; obtain ⟨y0, y1, y2, y3, y4, y5, y6, y7, y8, y9, ya, yb⟩ := By.c12 hB2))
          go_ret
          exact ⟨ret_bool HR.out.symm, hB2.1⟩
    · have HR : Hid (r = false) := Lib.hid (by rw [hr2, decide_eq_false h2]; simp)
      clear hr2
      go_enter Try.func30, Try.ntmps30
      go_wp2_with (go_at_call 26; (with_reducible refine (by_of hB0 (g0 _)).mono ?_); rintro e w1 ⟨rfl, hB1⟩; obtain ⟨x0, x1, x2, x3, x4, x5, x6, x7, x8, x9, xa, xb⟩ := By.c12 hB1)
      go_ret
      exact ⟨ret_bool HR.out.symm, hB1.1⟩
theorem real_kind (t : Tm) (h : t.kind < 3) (w : World) : Calls Try.prog 8 #[T4 t] w fun e w' => e = .returned t.val ∧ Below w.heap.size w w' := by
  apply real_any
  cases t with
  | blank s => exact .inl rfl
  | iri s => exact .inr (.inl rfl)
  | lit a b c => exact .inr (.inr (.inl rfl))
  | odd n => exact absurd h (by simp [Tm.kind])
  | none => exact absurd h (by simp [Tm.kind])
/-- The two boxes of Real. -/
def Rl (w : World) (cs : Array Value) (W : World) : Prop := Below w.heap.size w W ∧ Fb W w.heap.size 34 cs ∧ Fb W (w.heap.size + 1) 57 #[.nilIface, .nilIface, .nilIface]
section
variable {w : World} {cs : Array Value}
theorem Rl.below {W W' : World} (h : Rl w cs W) (hb : Below W.heap.size W W') : Rl w cs W' := ⟨h.1.trans (hb.mono h.1.size), h.2.1.below hb, h.2.2.below hb⟩
theorem Rl.drew {W : World} (h : Rl w cs W) : Rl w cs W.drew := ⟨Below.drew h.1, h.2.1, h.2.2⟩
theorem rl_of {W : World} {f : Nat} {args : Array Value} {y : Value} (h : Rl w cs W) (k : Calls Try.prog f args W fun e w' => e = .returned y ∧ Below W.heap.size W w') :
    Calls Try.prog f args W fun e w' => e = .returned y ∧ Rl w cs w' := k.mono fun _ _ ⟨x, z⟩ => ⟨x, h.below z⟩
theorem Rl.res {W : World} (h : Rl w cs W) : W.cell? ⟨w.heap.size + 1, 0, none⟩ = some .nilIface ∧ W.cell? ⟨w.heap.size + 1, 1, none⟩ = some .nilIface ∧ W.cell? ⟨w.heap.size + 1, 2, none⟩ = some .nilIface ∧ W.frozen? ⟨w.heap.size + 1, 0, none⟩ = false ∧ W.frozen? ⟨w.heap.size + 1, 1, none⟩ = false ∧ W.frozen? ⟨w.heap.size + 1, 2, none⟩ = false ∧ w.heap.size + 1 < W.heap.size :=
  ⟨h.2.2.cell 0, h.2.2.cell 1, h.2.2.cell 2, h.2.2.free 0, h.2.2.free 1, h.2.2.free 2, h.2.2.lt⟩
theorem Rl.sets {W : World} (h : Rl w cs W) (x y z : Value) : Fb (((W.setCell ⟨w.heap.size + 1, 0, none⟩ x).setCell ⟨w.heap.size + 1, 1, none⟩ y).setCell ⟨w.heap.size + 1, 2, none⟩ z) w.heap.size 34 cs :=
  (Below.heap_setCell _ _ _ _ (by dsimp only; omega)).trans ((Below.heap_setCell _ _ _ _ (by dsimp only; omega)).trans ((Below.heap_setCell _ _ _ _ (by dsimp only; omega)).trans h.2.1))
theorem Rl.belows {W : World} (h : Rl w cs W) (x y z : Value) : Below w.heap.size w (((W.setCell ⟨w.heap.size + 1, 0, none⟩ x).setCell ⟨w.heap.size + 1, 1, none⟩ y).setCell ⟨w.heap.size + 1, 2, none⟩ z) :=
  h.1.trans (((Below.setCell (Below.setCell (Below.setCell (Below.refl _ _) (by simp) _) (by simp) _) (by simp) _)))
end
end Go.Proofs.Ytehechbiajbobaa

/-
  PLAIN LEAN, NO RUN: the lines of good triples, sign by sign; parsed they are the triples.
-/
namespace Go.Proofs.Ytehechbiajbobaa
set_option linter.unusedVariables false
set_option linter.unusedSimpArgs false

/-- Three terms that may be a triple. -/
def Gd (ts : List Tm) : Prop := ∃ a b c, ts = [a, b, c] ∧ (goodT a = true ∧ goodT b = true ∧ goodT c = true) ∧ (mayB a 0 = true ∧ mayB b 1 = true ∧ mayB c 2 = true)
/-- A triple's line. -/
noncomputable def lnS : List Tm → List Int
  | [a, b, c] => tS a ++ 32 :: (tS b ++ 32 :: (tS c ++ [32, 46, 10]))
  | _ => []
noncomputable def lnsS (l : List (List Tm)) : List Int := l.flatMap lnS
theorem lnsS_cons (ts : List Tm) (l : List (List Tm)) : lnsS (ts :: l) = lnS ts ++ lnsS l := by unfold lnsS; rw [List.flatMap_cons]
end Go.Proofs.Ytehechbiajbobaa

/-
  A TRIPLE's TEXT; lines of triples, printed (package nt).
-/
namespace Go.Proofs.Ytehechbiajbobaa
open Go.RowKit
set_option linter.unusedVariables false
set_option linter.unusedSimpArgs false

/-- A triple's text. -/
noncomputable def lnT (a b c : Tm) : List Int := tS a ++ 32 :: (tS b ++ 32 :: (tS c ++ [32, 46]))
theorem lnS_T (a b c : Tm) : lnS [a, b, c] = lnT a b c ++ [10] := by simp [lnS, lnT]
theorem tri_text (a b c : Tm) : textOf (lnT a b c) = ((((textOf (tS a) ++ ⟨#[32]⟩) ++ textOf (tS b)) ++ ⟨#[32]⟩) ++ textOf (tS c)) ++ ⟨#[32, 46]⟩ := by
  have e : lnT a b c = ((((tS a ++ [32]) ++ tS b) ++ [32]) ++ tS c) ++ [32, 46] := by simp [lnT]
  rw [e]
  simp only [textOf_app]
  rfl
end Go.Proofs.Ytehechbiajbobaa

/-
  LINES OF TRIPLES, PRINTED (package nt).
-/
namespace Go.Proofs.Ytehechbiajbobaa
open Go.RowKit
set_option linter.unusedVariables false
set_option linter.unusedSimpArgs false

theorem flat_at {α β : Type} {f : α → List β} {n : Nat} : ∀ (l : List α) (i d : Nat) (x : α), (∀ y ∈ l, (f y).length = n) → l[i]? = some x → d < n → (l.flatMap f)[i * n + d]? = (f x)[d]?
  | [], i, d, x, _, h, _ => by simp at h
  | y :: l, 0, d, x, hl, h, hd => by
    obtain rfl : y = x := by simpa using h
    rw [List.flatMap_cons, Nat.zero_mul, Nat.zero_add, List.getElem?_append_left (by rw [hl y List.mem_cons_self]; exact hd)]
  | y :: l, i + 1, d, x, hl, h, hd => by
    have ih := flat_at l i d x (fun z hz => hl z (List.mem_cons_of_mem _ hz)) (by simpa using h) hd
    rw [List.flatMap_cons, List.getElem?_append_right (by rw [hl y List.mem_cons_self, Nat.succ_mul]; omega), hl y List.mem_cons_self, show (i + 1) * n + d - n = i * n + d by rw [Nat.succ_mul]; omega]
    exact ih
theorem trsV_at {B : Nat} {W : World} {v : Value} {L : List (List Tm)} (h : TrsV B W v L) (h3 : ∀ ts ∈ L, ts.length = 3) {i : Nat} {a b c : Tm} (hi : L[i]? = some [a, b, c]) :
    ∃ g cap, v = .slice (some ⟨g, 0, none⟩) L.length cap ∧ g < W.heap.size ∧ W.cell? ⟨g, i * 3, none⟩ = some a.val ∧ W.cell? ⟨g, i * 3 + 1, none⟩ = some b.val ∧ W.cell? ⟨g, i * 3 + 2, none⟩ = some c.val := by
  rcases id h.2 with ⟨hv, hl⟩ | ⟨g, cap, cur, hv, _⟩
  · have := (List.getElem?_eq_some_iff.1 hi).1
    omega
  · have key : ∀ d, d < 3 → ∀ u, ([a, b, c].map Tm.val)[d]? = some u → W.cell? ⟨g, i * 3 + d, none⟩ = some u := fun d hd u hu => by
      have h1 := flat_at (f := fun ts : List Tm => ts.map Tm.val) L i d _ (fun y hy => by rw [List.length_map]; exact h3 y hy) hi hd
      have := World.ownsRow.cells h (g := g) (by rw [hv]; rfl) (i * 3 + d) u (by rw [← hu]; exact h1)
      rwa [at_add, Nat.zero_add] at this
    exact ⟨g, cap, hv, (World.ownsRow.lt h g (by rw [hv]; rfl)).2, key 0 (by decide) _ rfl, key 1 (by decide) _ rfl, key 2 (by decide) _ rfl⟩
end Go.Proofs.Ytehechbiajbobaa

/-
  THE DOCUMENT's 'sizes': how two sizes are.
-/
namespace Go.Proofs.Ytehechbiajbobaa
open Go.RowKit
set_option linter.unusedVariables false

/-- Integers in memory. -/
def DAt (w : World) (A : Option Addr) (l : List Int) : Prop := ∀ (j : Nat) (x : Int), l[j]? = some x → ∃ g o, A = some ⟨g, o, none⟩ ∧ g < w.heap.size ∧ w.cell? ⟨g, o + j, none⟩ = some (.int .i64 x)
theorem DAt.below {w w' : World} {A : Option Addr} {l : List Int} (h : DAt w A l) (hb : Below w.heap.size w w') : DAt w' A l := by
  intro j x hx
  obtain ⟨g, o, e, hg, hc⟩ := h j x hx
  exact ⟨g, o, e, Nat.lt_of_lt_of_le hg hb.size, (hb.cell (p := ⟨g, o + j, none⟩) hg).trans hc⟩
theorem DAt.cellAt {w : World} {g o : Nat} {l : List Int} (h : DAt w (some ⟨g, o, none⟩) l) {j : Nat} {x : Int} (hx : l[j]? = some x) : g < w.heap.size ∧ w.cell? ⟨g, o + j, none⟩ = some (.int .i64 x) := by
  obtain ⟨g', o', e, hg, hc⟩ := h j x hx
  injection e with e
  injection e with e1 e2
  subst e1; subst e2
  exact ⟨hg, hc⟩
theorem DAt.nil (w : World) (A : Option Addr) : DAt w A [] := fun j x hx => by simp at hx
theorem DAt.drewN {w : World} {A : Option Addr} {l : List Int} (h : DAt w A l) (n : Nat) : DAt (w.drewN n) A l := h
end Go.Proofs.Ytehechbiajbobaa

/-
  THE DOCUMENT's 'trim': a number without noughts ahead.
-/
namespace Go.Proofs.Ytehechbiajbobaa
open Go.RowKit
set_option linter.unusedVariables false

theorem DAt.take {w : World} {A : Option Addr} {l : List Int} (h : DAt w A l) (k : Nat) : DAt w A (l.take k) := by
  intro j x hx
  refine h j x ?_
  have hj := (List.getElem?_eq_some_iff.1 hx).1
  simp at hj
  rw [List.getElem?_take_of_lt (by omega)] at hx
  exact hx
/-- A number, as the call answers it. -/
def BigV (w : World) (v : Value) (z : Int) : Prop := ∃ A c, v = .agg #[.bool (decide (z < 0)), .slice A (digs z.natAbs).length c] ∧ ((digs z.natAbs).length ≤ c ∧ c ≤ maxLen) ∧ DAt w A (digs z.natAbs)
theorem BigV.below {w w' : World} {v : Value} {z : Int} (h : BigV w v z) (hb : Below w.heap.size w w') : BigV w' v z := by
  obtain ⟨A, c, e, hc, hd⟩ := h
  exact ⟨A, c, e, hc, hd.below hb⟩
end Go.Proofs.Ytehechbiajbobaa
