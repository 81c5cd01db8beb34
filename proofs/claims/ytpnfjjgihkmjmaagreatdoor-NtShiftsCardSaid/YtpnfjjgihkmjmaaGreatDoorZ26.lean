/-
  MERGED (a claim has at most 60 files): NTrp, NPrt, NPru.
-/
import Derived.Test.YtpnfjjgihkmjmaaGreatDoorZ23
import Derived.Test.YtpnfjjgihkmjmaaGreatDoorZ25
import Derived.Test.YtpnfjjgihkmjmaaGreatDoorZ21
/-
  TRIPLES: whether the document's may be; as the program's; a triple's text.
-/
namespace Go.Proofs.YtpnfjjgihkmjmaaGreatDoor
open Go.RowKit
set_option linter.unusedVariables false
set_option linter.unusedSimpArgs false

/-- A box, wherever, of whatever type. -/
def By (w : World) (g : Nat) (ty : TypeId) (cs : Array Value) (W : World) : Prop := Below w.heap.size w W ∧ Fb W g ty cs
section
variable {w : World} {g : Nat} {ty : TypeId} {cs : Array Value}
theorem By.below {W W' : World} (h : By w g ty cs W) (hb : Below W.heap.size W W') : By w g ty cs W' := ⟨h.1.trans (hb.mono h.1.size), h.2.below hb⟩
theorem By.drew {W : World} (h : By w g ty cs W) : By w g ty cs W.drew := ⟨Below.drew h.1, h.2⟩
theorem By.mk {W : World} (hb : Below w.heap.size w W) (ty : TypeId) (cs : Array Value) : By w W.heap.size ty cs (W.alloc (.cells cs ty)) := ⟨hb.alloc hb.size _, Fb.new _ _ _⟩
theorem by_of {W : World} {f : Nat} {args : Array Value} {y : Value} (h : By w g ty cs W) (k : Calls Tryz.prog f args W fun e w' => e = .returned y ∧ Below W.heap.size W w') :
    Calls Tryz.prog f args W fun e w' => e = .returned y ∧ By w g ty cs w' := k.mono fun _ _ ⟨x, z⟩ => ⟨x, h.below z⟩
theorem By.c12 {x0 x1 x2 x3 x4 x5 x6 x7 x8 x9 xa xb : Value} {W : World} (h : By w g ty #[x0, x1, x2, x3, x4, x5, x6, x7, x8, x9, xa, xb] W) : W.cell? ⟨g, 0, none⟩ = some x0 ∧ W.cell? ⟨g, 1, none⟩ = some x1 ∧ W.cell? ⟨g, 2, none⟩ = some x2 ∧ W.cell? ⟨g, 3, none⟩ = some x3 ∧ W.cell? ⟨g, 4, none⟩ = some x4 ∧ W.cell? ⟨g, 5, none⟩ = some x5 ∧ W.cell? ⟨g, 6, none⟩ = some x6 ∧ W.cell? ⟨g, 7, none⟩ = some x7 ∧ W.cell? ⟨g, 8, none⟩ = some x8 ∧ W.cell? ⟨g, 9, none⟩ = some x9 ∧ W.cell? ⟨g, 10, none⟩ = some xa ∧ W.cell? ⟨g, 11, none⟩ = some xb := Fb.c12 h.2
theorem By.c3 {x0 x1 x2 : Value} {W : World} (h : By w g ty #[x0, x1, x2] W) : W.cell? ⟨g, 0, none⟩ = some x0 ∧ W.cell? ⟨g, 1, none⟩ = some x1 ∧ W.cell? ⟨g, 2, none⟩ = some x2 := ⟨h.2.cell 0, h.2.cell 1, h.2.cell 2⟩
end
abbrev T12 (a b c : Tm) : Value := .agg #[.int .i64 a.kind, .string a.ta, .string a.tb, .string a.tc, .int .i64 b.kind, .string b.ta, .string b.tb, .string b.tc, .int .i64 c.kind, .string c.ta, .string c.tb, .string c.tc]
theorem kind_nn (t : Tm) : 0 ≤ t.kind := by cases t <;> simp [Tm.kind]
theorem good_kind {t : Tm} (h : goodT t = true) : t.kind < 3 := by cases t <;> simp_all [Tm.kind, goodT]
set_option maxRecDepth 100000 in
set_option maxHeartbeats 8000000 in
theorem qgood_any (a b c : Tm) (ha : a.few) (hb : b.few) (hc : c.few) (w : World) : Calls Tryz.prog 12 #[T12 a b c] w fun e w' => e = .returned (.bool (okR a b c 0)) ∧ Below w.heap.size w w' := by
  have g0 := rgoodT_any a ha
  have g1 := rgoodT_any b hb
  have g2 := rgoodT_any c hc
  obtain ⟨r, hr⟩ : ∃ r, r = okR a b c 0 := ⟨_, rfl⟩
  have hr2 : r = (goodT a && (decide (a.kind < 2) && (goodT b && (decide (b.kind = 1) && goodT c)))) := by
    rw [hr]
    unfold okR okP mayB
    have h1 : ((a.kind == 1) || (((a.kind == 0) && !((0 : Nat) == 1)) || ((a.kind == 2) && ((0 : Nat) == 2)))) = decide (a.kind < 2) := by
      have := kind_nn a
      rw [Bool.eq_iff_iff]; simp; omega
    have h2 : ((b.kind == 1) || (((b.kind == 0) && !((1 : Nat) == 1)) || ((b.kind == 2) && ((1 : Nat) == 2)))) = decide (b.kind = 1) := by
      rw [Bool.eq_iff_iff]; simp
    have h3 : (goodT c && ((c.kind == 1) || (((c.kind == 0) && !((2 : Nat) == 1)) || ((c.kind == 2) && ((2 : Nat) == 2))))) = goodT c := by
      cases hg : goodT c
      · rfl
      · have := good_kind hg
        have := kind_nn c
        rw [Bool.eq_iff_iff]; simp; omega
    rw [h1, h2, h3]
    simp only [Bool.and_assoc]
  rw [← hr]
  clear hr ha hb hc
  obtain ⟨ka, hka⟩ : ∃ x, x = a.kind := ⟨_, rfl⟩
  obtain ⟨a0, ha0⟩ : ∃ x, x = a.ta := ⟨_, rfl⟩
  obtain ⟨a1, ha1⟩ : ∃ x, x = a.tb := ⟨_, rfl⟩
  obtain ⟨a2, ha2⟩ : ∃ x, x = a.tc := ⟨_, rfl⟩
  obtain ⟨kb, hkb⟩ : ∃ x, x = b.kind := ⟨_, rfl⟩
  obtain ⟨b0, hb0⟩ : ∃ x, x = b.ta := ⟨_, rfl⟩
  obtain ⟨b1, hb1⟩ : ∃ x, x = b.tb := ⟨_, rfl⟩
  obtain ⟨b2, hb2⟩ : ∃ x, x = b.tc := ⟨_, rfl⟩
  obtain ⟨kc, hkc⟩ : ∃ x, x = c.kind := ⟨_, rfl⟩
  obtain ⟨c0, hc0⟩ : ∃ x, x = c.ta := ⟨_, rfl⟩
  obtain ⟨c1, hc1⟩ : ∃ x, x = c.tb := ⟨_, rfl⟩
  obtain ⟨c2, hc2⟩ : ∃ x, x = c.tc := ⟨_, rfl⟩
  unfold T4 at g0 g1 g2
  obtain ⟨p, hp⟩ : ∃ x, x = goodT a := ⟨_, rfl⟩
  obtain ⟨q, hq⟩ : ∃ x, x = goodT b := ⟨_, rfl⟩
  obtain ⟨s, hs⟩ : ∃ x, x = goodT c := ⟨_, rfl⟩
  rw [← hka, ← ha0, ← ha1, ← ha2, ← hp] at g0
  rw [← hkb, ← hb0, ← hb1, ← hb2, ← hq] at g1
  rw [← hkc, ← hc0, ← hc1, ← hc2, ← hs] at g2
  rw [← hp, ← hq, ← hs, ← hka, ← hkb] at hr2
  unfold T12
  rw [← hka, ← ha0, ← ha1, ← ha2, ← hkb, ← hb0, ← hb1, ← hb2, ← hkc, ← hc0, ← hc1, ← hc2]
  clear hka ha0 ha1 ha2 hp hkb hb0 hb1 hb2 hq hkc hc0 hc1 hc2 hs
  have hB0 : By w w.heap.size 38 #[.int .i64 ka, .string a0, .string a1, .string a2, .int .i64 kb, .string b0, .string b1, .string b2, .int .i64 kc, .string c0, .string c1, .string c2] (w.alloc (.cells #[.int .i64 ka, .string a0, .string a1, .string a2, .int .i64 kb, .string b0, .string b1, .string b2, .int .i64 kc, .string c0, .string c1, .string c2] 38)) := By.mk (Below.refl _ _) _ _
  cases p
  · have HR : Hid (r = false) := Lib.hid (by rw [hr2]; rfl)
    clear hr2
    go_enter Tryz.func12, Tryz.ntmps12
    go_wp2_with (go_at_call 24; (with_reducible refine (by_of hB0 (g0 _)).mono ?_); rintro e w1 ⟨rfl, hB1⟩)
    go_ret
    exact ⟨ret_bool HR.out.symm, hB1.1⟩
  · by_cases h2 : ka < 2
    · cases q
      · have HR : Hid (r = false) := Lib.hid (by rw [hr2]; simp)
        clear hr2
        go_enter Tryz.func12, Tryz.ntmps12
        go_wp2_with (first
          | (go_at_call 24; (with_reducible refine (by_of hB0 (g0 _)).mono ?_); rintro e w1 ⟨rfl, hB1⟩; obtain ⟨x0, x1, x2, x3, x4, x5, x6, x7, x8, x9, xa, xb⟩ := By.c12 hB1)
          | (go_at_call 24; (with_reducible refine (by_of hB1 (g1 _)).mono ?_); rintro e w2 ⟨rfl, hB2⟩))
        go_ret
        exact ⟨ret_bool HR.out.symm, hB2.1⟩
      · by_cases h3 : kb = 1
        · have HR : Hid (r = s) := Lib.hid (by rw [hr2, decide_eq_true h2, decide_eq_true h3]; simp)
          have h3b : (kb == 1) = true := by simpa using h3
          clear hr2 h3
          go_enter Tryz.func12, Tryz.ntmps12
          go_wp2_with (first
            | (go_at_call 24; (with_reducible refine (by_of hB0 (g0 _)).mono ?_); rintro e w1 ⟨rfl, hB1⟩; obtain ⟨x0, x1, x2, x3, x4, x5, x6, x7, x8, x9, xa, xb⟩ := By.c12 hB1)
            | (go_at_call 24; (with_reducible refine (by_of hB1 (g1 _)).mono ?_); rintro e w2 ⟨rfl, hB2⟩; obtain ⟨y0, y1, y2, y3, y4, y5, y6, y7, y8, y9, ya, yb⟩ := By.c12 hB2)
            | (go_at_call 24; (with_reducible refine (by_of hB2 (g2 _)).mono ?_); rintro e w3 ⟨rfl, hB3⟩))
          go_ret
          exact ⟨ret_bool HR.out.symm, hB3.1⟩
        · have HR : Hid (r = false) := Lib.hid (by rw [hr2, decide_eq_false h3]; simp)
          have h3b : (kb == 1) = false := by simpa using h3
          clear hr2 h3
          go_enter Tryz.func12, Tryz.ntmps12
          go_wp2_with (first
            | (go_at_call 24; (with_reducible refine (by_of hB0 (g0 _)).mono ?_); rintro e w1 ⟨rfl, hB1⟩; obtain ⟨x0, x1, x2, x3, x4, x5, x6, x7, x8, x9, xa, xb⟩ := By.c12 hB1)
            | (go_at_call 24; (with_reducible refine (by_of hB1 (g1 _)).mono ?_); rintro e w2 ⟨rfl, hB2⟩; obtain ⟨y0, y1, y2, y3, y4, y5, y6, y7, y8, y9, ya, yb⟩ := By.c12 hB2))
          go_ret
          exact ⟨ret_bool HR.out.symm, hB2.1⟩
    · have HR : Hid (r = false) := Lib.hid (by rw [hr2, decide_eq_false h2]; simp)
      clear hr2
      go_enter Tryz.func12, Tryz.ntmps12
      go_wp2_with (go_at_call 24; (with_reducible refine (by_of hB0 (g0 _)).mono ?_); rintro e w1 ⟨rfl, hB1⟩; obtain ⟨x0, x1, x2, x3, x4, x5, x6, x7, x8, x9, xa, xb⟩ := By.c12 hB1)
      go_ret
      exact ⟨ret_bool HR.out.symm, hB1.1⟩
theorem real_kind (t : Tm) (h : t.kind < 3) (w : World) : Calls Tryz.prog 18 #[T4 t] w fun e w' => e = .returned t.val ∧ Below w.heap.size w w' := by
  apply real_any
  cases t with
  | blank s => exact .inl rfl
  | iri s => exact .inr (.inl rfl)
  | lit a b c => exact .inr (.inr (.inl rfl))
  | odd n => exact absurd h (by simp [Tm.kind])
  | none => exact absurd h (by simp [Tm.kind])
/-- The two boxes of Real. -/
def Rl (w : World) (cs : Array Value) (W : World) : Prop := Below w.heap.size w W ∧ Fb W w.heap.size 38 cs ∧ Fb W (w.heap.size + 1) 71 #[.nilIface, .nilIface, .nilIface]
section
variable {w : World} {cs : Array Value}
theorem Rl.below {W W' : World} (h : Rl w cs W) (hb : Below W.heap.size W W') : Rl w cs W' := ⟨h.1.trans (hb.mono h.1.size), h.2.1.below hb, h.2.2.below hb⟩
theorem Rl.drew {W : World} (h : Rl w cs W) : Rl w cs W.drew := ⟨Below.drew h.1, h.2.1, h.2.2⟩
theorem rl_of {W : World} {f : Nat} {args : Array Value} {y : Value} (h : Rl w cs W) (k : Calls Tryz.prog f args W fun e w' => e = .returned y ∧ Below W.heap.size W w') :
    Calls Tryz.prog f args W fun e w' => e = .returned y ∧ Rl w cs w' := k.mono fun _ _ ⟨x, z⟩ => ⟨x, h.below z⟩
theorem Rl.res {W : World} (h : Rl w cs W) : W.cell? ⟨w.heap.size + 1, 0, none⟩ = some .nilIface ∧ W.cell? ⟨w.heap.size + 1, 1, none⟩ = some .nilIface ∧ W.cell? ⟨w.heap.size + 1, 2, none⟩ = some .nilIface ∧ W.frozen? ⟨w.heap.size + 1, 0, none⟩ = false ∧ W.frozen? ⟨w.heap.size + 1, 1, none⟩ = false ∧ W.frozen? ⟨w.heap.size + 1, 2, none⟩ = false ∧ w.heap.size + 1 < W.heap.size :=
  ⟨h.2.2.cell 0, h.2.2.cell 1, h.2.2.cell 2, h.2.2.free 0, h.2.2.free 1, h.2.2.free 2, h.2.2.lt⟩
theorem Rl.sets {W : World} (h : Rl w cs W) (x y z : Value) : Fb (((W.setCell ⟨w.heap.size + 1, 0, none⟩ x).setCell ⟨w.heap.size + 1, 1, none⟩ y).setCell ⟨w.heap.size + 1, 2, none⟩ z) w.heap.size 38 cs :=
  (Below.heap_setCell _ _ _ _ (by dsimp only; omega)).trans ((Below.heap_setCell _ _ _ _ (by dsimp only; omega)).trans ((Below.heap_setCell _ _ _ _ (by dsimp only; omega)).trans h.2.1))
theorem Rl.belows {W : World} (h : Rl w cs W) (x y z : Value) : Below w.heap.size w (((W.setCell ⟨w.heap.size + 1, 0, none⟩ x).setCell ⟨w.heap.size + 1, 1, none⟩ y).setCell ⟨w.heap.size + 1, 2, none⟩ z) :=
  h.1.trans (((Below.setCell (Below.setCell (Below.setCell (Below.refl _ _) (by simp) _) (by simp) _) (by simp) _)))
end
end Go.Proofs.YtpnfjjgihkmjmaaGreatDoor

/-
  A TRIPLE's TEXT; lines of triples, printed (package nt).
-/
namespace Go.Proofs.YtpnfjjgihkmjmaaGreatDoor
open Go.RowKit
set_option linter.unusedVariables false
set_option linter.unusedSimpArgs false

/-- A triple's text. -/
noncomputable def lnT (a b c : Tm) : List Int := tS a ++ 32 :: (tS b ++ 32 :: (tS c ++ [32, 46]))
theorem lnS_T (a b c : Tm) : lnS [a, b, c] = lnT a b c ++ [10] := by simp [lnS, lnT]
theorem lnT_all (a b c : Tm) : AllS (lnT a b c) := by
  unfold lnT
  exact allS_app (tS_all _) (allS_cons (by decide) (allS_app (tS_all _) (allS_cons (by decide) (allS_app (tS_all _) (allS_cons (by decide) (allS_cons (by decide) allS_nil))))))
theorem tri_text (a b c : Tm) : textOf (lnT a b c) = ((((textOf (tS a) ++ ⟨#[32]⟩) ++ textOf (tS b)) ++ ⟨#[32]⟩) ++ textOf (tS c)) ++ ⟨#[32, 46]⟩ := by
  have e : lnT a b c = ((((tS a ++ [32]) ++ tS b) ++ [32]) ++ tS c) ++ [32, 46] := by simp [lnT]
  rw [e]
  simp only [textOf_app]
  rfl
theorem few_text {t : Tm} (h : t.few) : (textOf (tS t)).size ≤ 32000032 := by
  have h1 := text_size (tS t)
  have h2 := tS_len t
  have h3 := h.1
  have h4 := h.2.1
  have h5 := h.2.2
  omega
set_option maxRecDepth 100000 in
set_option maxHeartbeats 8000000 in
theorem nttext_any (a b c : Tm) (ga : goodT a = true) (gb : goodT b = true) (gc : goodT c = true) (ha : a.few) (hb : b.few) (hc : c.few) (w : World) (ty : TypeId) (fr : Nat × Nat) (htab : w.heap[0]? = some (.cells escCells ty fr)) :
    Calls Tryz.prog 45 #[.agg #[a.val, b.val, c.val]] w fun e w' => e = .returned (.string (textOf (lnT a b c))) ∧ Below w.heap.size w w' := by
  have hlt0 : 0 < w.heap.size := (Array.getElem?_eq_some_iff.1 htab).1
  have g0 := fun (W : World) (h : W.heap[0]? = some (.cells escCells ty fr)) => ntext_any a ga ha W ty fr h
  have g1 := fun (W : World) (h : W.heap[0]? = some (.cells escCells ty fr)) => ntext_any b gb hb W ty fr h
  have g2 := fun (W : World) (h : W.heap[0]? = some (.cells escCells ty fr)) => ntext_any c gc hc W ty fr h
  obtain ⟨ta, va, hva⟩ := iface_of (good_kind ga)
  obtain ⟨tb, vb, hvb⟩ := iface_of (good_kind gb)
  obtain ⟨tc, vc, hvc⟩ := iface_of (good_kind gc)
  rw [hva] at g0 ⊢
  rw [hvb] at g1 ⊢
  rw [hvc] at g2 ⊢
  have sa := few_text ha
  have sb := few_text hb
  have sc := few_text hc
  rw [tri_text]
  generalize textOf (tS a) = x at g0 sa ⊢
  generalize textOf (tS b) = y at g1 sb ⊢
  generalize textOf (tS c) = z at g2 sc ⊢
  obtain ⟨s1, h1⟩ : ∃ s1 : ByteArray, s1 = x ++ ⟨#[32]⟩ := ⟨_, rfl⟩
  have n1 : s1.size = x.size + 1 := by rw [h1, ByteArray.size_append]; rfl
  obtain ⟨s2, h2⟩ : ∃ s2 : ByteArray, s2 = s1 ++ y := ⟨_, rfl⟩
  have n2 : s2.size = s1.size + y.size := by rw [h2, ByteArray.size_append]
  obtain ⟨s3, h3⟩ : ∃ s3 : ByteArray, s3 = s2 ++ ⟨#[32]⟩ := ⟨_, rfl⟩
  have n3 : s3.size = s2.size + 1 := by rw [h3, ByteArray.size_append]; rfl
  obtain ⟨s4, h4⟩ : ∃ s4 : ByteArray, s4 = s3 ++ z := ⟨_, rfl⟩
  have n4 : s4.size = s3.size + z.size := by rw [h4, ByteArray.size_append]
  obtain ⟨s5, h5⟩ : ∃ s5 : ByteArray, s5 = s4 ++ ⟨#[32, 46]⟩ := ⟨_, rfl⟩
  have a1 : ∀ W, (Op.stringOp .add x ⟨#[32]⟩).run Tryz.prog W = .ok (.string s1) W := fun W => by rw [h1]; exact add_any _ _ (by show x.size + 1 ≤ _; omega) W
  have a2 : ∀ W, (Op.stringOp .add s1 y).run Tryz.prog W = .ok (.string s2) W := fun W => by rw [h2]; exact add_any _ _ (by omega) W
  have a3 : ∀ W, (Op.stringOp .add s2 ⟨#[32]⟩).run Tryz.prog W = .ok (.string s3) W := fun W => by rw [h3]; exact add_any _ _ (by show s2.size + 1 ≤ _; omega) W
  have a4 : ∀ W, (Op.stringOp .add s3 z).run Tryz.prog W = .ok (.string s4) W := fun W => by rw [h4]; exact add_any _ _ (by omega) W
  have a5 : ∀ W, (Op.stringOp .add s4 ⟨#[32, 46]⟩).run Tryz.prog W = .ok (.string s5) W := fun W => by rw [h5]; exact add_any _ _ (by show s4.size + 2 ≤ _; omega) W
  rw [← h1, ← h2, ← h3, ← h4, ← h5]
  have hB0 : By w w.heap.size 71 #[.iface ta va, .iface tb vb, .iface tc vc] (w.alloc (.cells #[.iface ta va, .iface tb vb, .iface tc vc] 71)) := By.mk (Below.refl _ _) _ _
  have c0 : ∀ {g cs W}, By w g 71 cs W → Calls Tryz.prog 75 #[.iface ta va] W fun e w' => e = .returned (.string x) ∧ By w g 71 cs w' := fun {g cs W} h => by_of h (g0 W (tab_below htab h.1 hlt0))
  have c1 : ∀ {g cs W}, By w g 71 cs W → Calls Tryz.prog 75 #[.iface tb vb] W fun e w' => e = .returned (.string y) ∧ By w g 71 cs w' := fun {g cs W} h => by_of h (g1 W (tab_below htab h.1 hlt0))
  have c2 : ∀ {g cs W}, By w g 71 cs W → Calls Tryz.prog 75 #[.iface tc vc] W fun e w' => e = .returned (.string z) ∧ By w g 71 cs w' := fun {g cs W} h => by_of h (g2 W (tab_below htab h.1 hlt0))
  clear h1 h2 h3 h4 h5 n1 n2 n3 n4 sa sb sc g0 g1 g2 hva hvb hvc ga gb gc ha hb hc htab hlt0
  go_enter Tryz.func45, Tryz.ntmps45
  go_wp2
  go_region_held3 (fun W => W.cell? ⟨w.heap.size, 0, none⟩ = some (.iface ta va) ∧ W.cell? ⟨w.heap.size, 1, none⟩ = some (.iface tb vb) ∧ W.cell? ⟨w.heap.size, 2, none⟩ = some (.iface tc vc))
    (first | exact By.c3 (by assumption) | exact By.c3 (By.drew (by assumption)))
    (first
      | (go_at_call 75; (with_reducible refine (c0 (by first | assumption | exact By.drew (by assumption))).mono ?_); rintro e wa ⟨rfl, hBa⟩)
      | (go_at_call 75; (with_reducible refine (c1 (by first | assumption | exact By.drew (by assumption))).mono ?_); rintro e wb ⟨rfl, hBb⟩)
      | (go_at_call 75; (with_reducible refine (c2 (by first | assumption | exact By.drew (by assumption))).mono ?_); rintro e wc ⟨rfl, hBc⟩))
  all_goals
    go_wp2
    go_ret
    exact ⟨rfl, by first | exact hBc.1 | exact hBb.1 | exact hBa.1⟩
end Go.Proofs.YtpnfjjgihkmjmaaGreatDoor

/-
  LINES OF TRIPLES, PRINTED (package nt).
-/
namespace Go.Proofs.YtpnfjjgihkmjmaaGreatDoor
open Go.RowKit
set_option linter.unusedVariables false
set_option linter.unusedSimpArgs false

theorem flat_at {α β : Type} {f : α → List β} {n : Nat} : ∀ (l : List α) (i d : Nat) (x : α), (∀ y ∈ l, (f y).length = n) → l[i]? = some x → d < n → (l.flatMap f)[i * n + d]? = (f x)[d]?
  | [], i, d, x, _, h, _ => by simp at h
  | y :: l, 0, d, x, hl, h, hd => by
    obtain rfl : y = x := by simpa using h
    rw [List.flatMap_cons, Nat.zero_mul, Nat.zero_add, List.getElem?_append_left (by rw [hl y List.mem_cons_self]; exact hd)]
  | y :: l, i + 1, d, x, hl, h, hd => by
    have ih := flat_at l i d x (fun z hz => hl z (List.mem_cons_of_mem _ hz)) (by simpa using h) hd
    rw [List.flatMap_cons, List.getElem?_append_right (by rw [hl y List.mem_cons_self, Nat.succ_mul]; omega), hl y List.mem_cons_self, show (i + 1) * n + d - n = i * n + d by rw [Nat.succ_mul]; omega]
    exact ih
theorem trsV_at {B : Nat} {W : World} {v : Value} {L : List (List Tm)} (h : TrsV B W v L) (h3 : ∀ ts ∈ L, ts.length = 3) {i : Nat} {a b c : Tm} (hi : L[i]? = some [a, b, c]) :
    ∃ g cap, v = .slice (some ⟨g, 0, none⟩) L.length cap ∧ g < W.heap.size ∧ W.cell? ⟨g, i * 3, none⟩ = some a.val ∧ W.cell? ⟨g, i * 3 + 1, none⟩ = some b.val ∧ W.cell? ⟨g, i * 3 + 2, none⟩ = some c.val := by
  rcases id h.2 with ⟨hv, hl⟩ | ⟨g, cap, cur, hv, _⟩
  · have := (List.getElem?_eq_some_iff.1 hi).1
    omega
  · have key : ∀ d, d < 3 → ∀ u, ([a, b, c].map Tm.val)[d]? = some u → W.cell? ⟨g, i * 3 + d, none⟩ = some u := fun d hd u hu => by
      have h1 := flat_at (f := fun ts : List Tm => ts.map Tm.val) L i d _ (fun y hy => by rw [List.length_map]; exact h3 y hy) hi hd
      have := World.ownsRow.cells h (g := g) (by rw [hv]; rfl) (i * 3 + d) u (by rw [← hu]; exact h1)
      rwa [at_add, Nat.zero_add] at this
    exact ⟨g, cap, hv, (World.ownsRow.lt h g (by rw [hv]; rfl)).2, key 0 (by decide) _ rfl, key 1 (by decide) _ rfl, key 2 (by decide) _ rfl⟩
theorem isb_below {T e : TypeId} {B b : Nat} {bs : List Value} {w w' : World} (h : Lib.IsBuilderF T e B b bs w) (hb : Below w.heap.size w w') : Lib.IsBuilderF T e B b bs w' := by
  have key : ∀ p, Lib.BuilderAtF T e B b p bs w → Lib.BuilderAtF T e B b p bs w' := fun p ⟨h1, v, h2, h3, h4⟩ =>
    ⟨h1, v, (hb.block b (Array.getElem?_eq_some_iff.1 h2).1).trans h2, h3.kept (below_grown hb none) (Classical.em _), h4⟩
  exact h.elim (fun x => .inl (key _ x)) (fun x => .inr (key _ x))
def PrI (w : World) (L : List (List Tm)) (g : Nat) (s8 : Value) (wr : World) : Prop := ∃ i : Nat, i + g = L.length ∧ s8 = .int .i64 i ∧ Lib.IsBuilderF 94 5 w.heap.size w.heap.size (Lib.byteCells (encL (lnsS (L.take i)))) wr ∧ Below w.heap.size w wr
theorem tS_few {t : Tm} (h : t.few) : (tS t).length ≤ 8000008 := by
  have h2 := tS_len t
  have h3 := h.1
  have h4 := h.2.1
  have h5 := h.2.2
  omega
theorem lns_bound : ∀ l : List (List Tm), (∀ ts ∈ l, Gd ts ∧ ∀ t ∈ ts, t.few) → (lnsS l).length ≤ 24000030 * l.length
  | [], _ => by simp [lnsS]
  | ts :: l, h => by
    obtain ⟨⟨a, b, c, rfl, _⟩, hf⟩ := h _ List.mem_cons_self
    have h1 := tS_few (hf a (by simp))
    have h2 := tS_few (hf b (by simp))
    have h3 := tS_few (hf c (by simp))
    have ih := lns_bound l fun x hx => h x (List.mem_cons_of_mem _ hx)
    rw [lnsS_cons, List.length_append, List.length_cons, lnS_T]
    have : (lnT a b c ++ [10]).length ≤ 24000030 := by simp [lnT]; omega
    omega
set_option maxRecDepth 100000 in
set_option maxHeartbeats 8000000 in
theorem nprint_any (L : List (List Tm)) (hL : ∀ ts ∈ L, Gd ts ∧ ∀ t ∈ ts, t.few) (hn : L.length ≤ 1000) {B : Nat} {v : Value} (w : World) (hv : TrsV B w v L) (ty : TypeId) (fr : Nat × Nat) (htab : w.heap[0]? = some (.cells escCells ty fr)) :
    Calls Tryz.prog 10 #[v] w fun e w' => e = .returned (.string (textOf (lnsS L))) ∧ Below w.heap.size w w' := by
  have hlt0 : 0 < w.heap.size := (Array.getElem?_eq_some_iff.1 htab).1
  have h3 : ∀ ts ∈ L, ts.length = 3 := fun ts h => by obtain ⟨⟨a, b, c, rfl, _⟩, _⟩ := hL ts h; rfl
  obtain ⟨A, cp, rfl⟩ := hv.shape
  have HV := Lib.hid hv
  have HL := Lib.hid hL
  have H3 := Lib.hid h3
  have HT := Lib.hid htab
  have hI0 : Lib.IsBuilderF 94 5 w.heap.size w.heap.size (Lib.byteCells (encL (lnsS (L.take 0)))) (w.alloc (.cells #[.pointer none, .slice none 0 0] 94)) := Lib.IsBuilderF.of (Lib.fresh_isBuilder 94 5 w)
  have HI := Lib.hid hI0
  clear hv hL h3 htab hI0
  go_enter Tryz.func10, Tryz.ntmps10
  go_wp2
  go_loopg [8] L.length (fun g s8 wr => PrI w L g s8 wr)
  case atStart => exact ⟨0, by omega, rfl, HI.out, (Below.refl _ _).alloc (Nat.le_refl _) _⟩
  case round =>
    obtain ⟨i, hig, rfl, hI, hB⟩ := hrel
    clear HI
    cases gk with
    | zero =>
      have hin : ¬ (i : Int) < (L.length : Int) := by omega
      have hiL : L.take i = L := List.take_of_length_le (by omega)
      rw [hiL] at hI
      have hsz := hB.size
      clear hig hiL
      go_wp2_with (go_at_call 47; refine (Tryz.Builder_String_any_k w.heap.size w.heap.size (encL (lnsS L)) _ hI hsz).mono ?_; rintro e w3 ⟨rfl, h3, b3, k3⟩)
      go_ret
      exact ⟨rfl, hB.trans b3⟩
    | succ g =>
      have hin : (i : Int) < (L.length : Int) := by omega
      have hi0 : (0 : Int) ≤ (i : Int) := by omega
      obtain ⟨ts, hts⟩ : ∃ ts, L[i]? = some ts := ⟨_, List.getElem?_eq_getElem (by omega)⟩
      obtain ⟨⟨a, b, c, rfl, hg, hm⟩, hf⟩ := HL.out ts (List.mem_of_getElem? hts)
      obtain ⟨gr, cr, ev, hgr, p0, p1, p2⟩ := trsV_at (HV.out.below hB) H3.out hts
      injection ev with e1 e2 e3
      subst e1 e3
      have hfa := hf a (by simp)
      have hfb := hf b (by simp)
      have hfc := hf c (by simp)
      have cT := fun (W : World) (h : W.heap[0]? = some (.cells escCells ty fr)) => nttext_any a b c hg.1 hg.2.1 hg.2.2 hfa hfb hfc W ty fr h
      have hzs : (textOf (lnT a b c)).size ≤ 96000200 := by
        have h1 := text_size (lnT a b c)
        have h2 := tS_few hfa
        have h3 := tS_few hfb
        have h4 := tS_few hfc
        have h5 : (lnT a b c).length ≤ 24000030 := by simp [lnT]; omega
        omega
      have hpre : (Lib.byteCells (encL (lnsS (L.take i)))).length ≤ 100000000000 := by
        rw [Lib.byteCells_length]
        have h1 := (encL_len (lnsS (L.take i))).2
        have h2 := lns_bound (L.take i) fun x hx => HL.out x (List.mem_of_mem_take hx)
        have h3 : (L.take i).length ≤ 1000 := by rw [List.length_take]; omega
        omega
      have hnext : Lib.byteCells (encL (lnsS (L.take (i + 1)))) = (Lib.byteCells (encL (lnsS (L.take i))) ++ Lib.strCells (textOf (lnT a b c))) ++ [.int .u8 10] := by
        rw [List.take_add_one, hts]
        show Lib.byteCells (encL (lnsS (L.take i ++ [[a, b, c]]))) = _
        have e0 : lnsS [[a, b, c]] = lnT a b c ++ [10] := by rw [lnsS_cons, ← lnS_T]; simp [lnsS]
        rw [lnsS_app, e0, encL_append, encL_append, Lib.byteCells_append, Lib.byteCells_append, Lib.strCells_eq, textOf_list, List.append_assoc]
        rfl
      obtain ⟨z, hz⟩ : ∃ z, z = textOf (lnT a b c) := ⟨_, rfl⟩
      rw [← hz] at cT hzs hnext
      obtain ⟨ta, va, hva⟩ := iface_of (good_kind hg.1)
      obtain ⟨tb, vb, hvb⟩ := iface_of (good_kind hg.2.1)
      obtain ⟨tc, vc, hvc⟩ := iface_of (good_kind hg.2.2)
      rw [hva] at cT p0
      rw [hvb] at cT p1
      rw [hvc] at cT p2
      have hBA := hB.alloc hB.size (.cells #[.iface ta va, .iface tb vb, .iface tc vc] 71)
      have htA := tab_below HT.out hBA hlt0
      have hIA : Lib.IsBuilderF 94 5 w.heap.size w.heap.size _ (wr.alloc (.cells #[.iface ta va, .iface tb vb, .iface tc vc] 71)) := isb_below hI ((Below.refl _ _).alloc (Nat.le_refl _) _)
      have HNX := Lib.hid hnext
      have HIG := Lib.hid hig
      have HPRE := Lib.hid hpre
      have HZS := Lib.hid hzs
      clear hva hvb hvc hz hnext hpre hzs hts hg hm hf hfa hfb hfc hig hI hB hgr
      go_wp2_with (first
        | (go_at_call 45; (with_reducible refine (cT _ htA).mono ?_); rintro e w2 ⟨rfl, hb2⟩; have hB2 := hBA.trans (hb2.mono hBA.size); have hI2 := isb_below hIA hb2)
        | (go_at_call 44; refine (Tryz.Builder_WriteString_k w.heap.size w.heap.size _ z _ hI2 (by have := HPRE.out; have := HZS.out; omega) hB2.size).mono ?_; rintro e w3 ⟨rfl, h3, b3, k3⟩)
        | (go_at_call 46; refine (Tryz.Builder_WriteByte_k w.heap.size w.heap.size _ 10 _ (.inr h3) (by rw [List.length_append, Lib.strCells_length]; have := HPRE.out; have := HZS.out; omega) (hB2.trans b3).size).mono ?_; rintro e w4 ⟨rfl, h4, b4, k4⟩))
      go_roundg g
      case measure => exact Nat.lt_succ_self g
      case rel => exact ⟨i + 1, by have := HIG.out; omega, by have h9 : i < 1000 := (by have := HIG.out; omega); first | rfl | (rw [IntWalk.wrap64_in _ ⟨by omega, by omega⟩, Int.natCast_succ]), by rw [HNX.out]; exact .inr h4, (hB2.trans b3).trans b4⟩
end Go.Proofs.YtpnfjjgihkmjmaaGreatDoor
