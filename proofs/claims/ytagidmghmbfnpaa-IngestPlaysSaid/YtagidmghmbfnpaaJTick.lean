/-
  THE DOCUMENT's Tick.
-/
import Derived.Test.YtagidmghmbfnpaaJMark
namespace Go.Proofs.Ytagidmghmbfnpaa
open Go.RowKit
set_option linter.unusedVariables false
set_option linter.unusedSimpArgs false
set_option maxRecDepth 100000

open Classical in
noncomputable def Mb.tick (m : Mb) (t : Int) : Mb × Int := if m.closed = true then (m, 14) else if instB t = false then (m, 2) else if (∃ x ∈ m.shown, t < x) then (m, 8) else ({ m with shown := m.shown ++ [t] }, 0)
def JPost (B : Nat) (r : Mb × Int) (W : World) (e : Ending) (w' : World) : Prop := ∃ vw vs vh, e = .returned (.tuple #[.agg (r.1.cells vw vs vh), .int .i64 r.2]) ∧ Below W.heap.size W w' ∧ Mm B r.1 vw vs vh w'
abbrev mz : Array Value := #[.int .i64 0, .int .i64 0, .slice none 0 0, .slice none 0 0, .slice none 0 0, .int .i64 0, .int .i64 0, .bool false]
def JtRel (W2 : World) (t : Int) (l : List Int) (g : Nat) (s17 : Value) (wr : World) : Prop := ∃ (i : Nat), i + g = l.length ∧ s17 = .int .i64 i ∧ wr = W2 ∧ ∀ x ∈ l.take i, ¬ t < x
theorem set8 {w : World} {b : Nat} {cs : Array Value} (h : Fb w b 32 cs) (hz : cs.size = 8) (x0 x1 x2 x3 x4 x5 x6 x7 : Value) :
    Fb ((((((((w.setCell ⟨b, 0, none⟩ x0).setCell ⟨b, 1, none⟩ x1).setCell ⟨b, 2, none⟩ x2).setCell ⟨b, 3, none⟩ x3).setCell ⟨b, 4, none⟩ x4).setCell ⟨b, 5, none⟩ x5).setCell ⟨b, 6, none⟩ x6).setCell ⟨b, 7, none⟩ x7) b 32 #[x0, x1, x2, x3, x4, x5, x6, x7] := by
  obtain ⟨l⟩ := cs
  match l, hz with
  | [a0, a1, a2, a3, a4, a5, a6, a7], _ =>
    have h8 := (((((((h.set 0 x0).set 1 x1).set 2 x2).set 3 x3).set 4 x4).set 5 x5).set 6 x6).set 7 x7
    simpa using h8
def st8 (w : World) (b : Nat) (x0 x1 x2 x3 x4 x5 x6 x7 : Value) : World := (((((((w.setCell ⟨b, 0, none⟩ x0).setCell ⟨b, 1, none⟩ x1).setCell ⟨b, 2, none⟩ x2).setCell ⟨b, 3, none⟩ x3).setCell ⟨b, 4, none⟩ x4).setCell ⟨b, 5, none⟩ x5).setCell ⟨b, 6, none⟩ x6).setCell ⟨b, 7, none⟩ x7
theorem st8_far (w : World) (b : Nat) (x0 x1 x2 x3 x4 x5 x6 x7 : Value) {k : Nat} (hk : k ≠ b) : (st8 w b x0 x1 x2 x3 x4 x5 x6 x7).heap[k]? = w.heap[k]? := by
  unfold st8
  rw [Below.heap_setCell _ _ _ _ hk, Below.heap_setCell _ _ _ _ hk, Below.heap_setCell _ _ _ _ hk, Below.heap_setCell _ _ _ _ hk, Below.heap_setCell _ _ _ _ hk, Below.heap_setCell _ _ _ _ hk, Below.heap_setCell _ _ _ _ hk, Below.heap_setCell _ _ _ _ hk]
theorem st8_below {B : Nat} {W0 w : World} (h : Below B W0 w) {b : Nat} (hb : B ≤ b) (x0 x1 x2 x3 x4 x5 x6 x7 : Value) : Below B W0 (st8 w b x0 x1 x2 x3 x4 x5 x6 x7) :=
  Below.setCell (Below.setCell (Below.setCell (Below.setCell (Below.setCell (Below.setCell (Below.setCell (Below.setCell h hb _) hb _) hb _) hb _) hb _) hb _) hb _) hb _
theorem row_heap {W W' : World} {B : Nat} {ty : TypeId} {z n : Nat} {u : Value} {xs : List Value} (hr : W.ownsRow B ty z u n xs) (h : ∀ k, u.ownBlock = some k → W'.heap[k]? = W.heap[k]?) : W'.ownsRow B ty z u n xs := by
  refine ⟨hr.1, ?_⟩
  rcases id hr.2 with hn | ⟨g, cap, cur, hu, hge, hg, rest⟩
  · exact .inl hn
  · exact .inr ⟨g, cap, cur, hu, hge, (h g (by rw [hu]; rfl)).trans hg, rest⟩
theorem one_row (W : World) (t : Int) : TmR W.heap.size (W.alloc (.cells #[.int .i64 t] 3)) (.slice (some ⟨W.heap.size, 0, none⟩) 1 1) [t] := ⟨by simp, .inr ⟨W.heap.size, 1, #[.int .i64 t], rfl, Nat.le_refl _, heap_alloc_new W _, Nat.le_refl _, by decide, rfl, rfl⟩⟩
theorem row_other {W : World} {B : Nat} {ty ty' : TypeId} {z n : Nat} {u : Value} {xs : List Value} (hr : W.ownsRow B ty z u n xs) {b : Nat} {cs : Array Value} (hb : Fb W b ty' cs) (hne : ty ≠ ty') : ∀ k, u.ownBlock = some k → k ≠ b := fun k hk e => by
  obtain ⟨cur, hc⟩ := row_block hr hk
  unfold Fb at hb
  rw [e, hb] at hc
  injection hc with hc
  injection hc with _ hc
  exact hne hc.symm
/-- The two boxes of Push, Tick, Take. -/
structure Jx (W : World) (b2 b4 : Nat) (cs : Array Value) (w : World) : Prop where
  b : Below W.heap.size W w
  x2 : Fb w b2 32 cs
  x4 : ∃ c4 : Array Value, Fb w b4 32 c4 ∧ c4.size = 8
  n2 : W.heap.size ≤ b2
  n4 : W.heap.size ≤ b4
  ne : b2 ≠ b4
theorem Jx.below {W : World} {b2 b4 : Nat} {cs : Array Value} {w w' : World} (h : Jx W b2 b4 cs w) (hb : Below w.heap.size w w') : Jx W b2 b4 cs w' := by
  obtain ⟨c4, h1, h2⟩ := h.x4
  exact ⟨h.b.trans (hb.mono h.b.size), h.x2.below hb, ⟨c4, h1.below hb, h2⟩, h.n2, h.n4, h.ne⟩
theorem Jx.c4 {W : World} {b2 b4 : Nat} {cs : Array Value} {w : World} (h : Jx W b2 b4 cs w) : (∃ y0 y1 y2 y3 y4 y5 y6 y7 : Value, w.cell? ⟨b4, 0, none⟩ = some y0 ∧ w.cell? ⟨b4, 1, none⟩ = some y1 ∧ w.cell? ⟨b4, 2, none⟩ = some y2 ∧ w.cell? ⟨b4, 3, none⟩ = some y3 ∧ w.cell? ⟨b4, 4, none⟩ = some y4 ∧ w.cell? ⟨b4, 5, none⟩ = some y5 ∧ w.cell? ⟨b4, 6, none⟩ = some y6 ∧ w.cell? ⟨b4, 7, none⟩ = some y7) ∧ (∀ i, w.frozen? ⟨b4, i, none⟩ = false) ∧ b4 < w.heap.size ∧ b2 < w.heap.size := by
  obtain ⟨c4, h1, h2⟩ := h.x4
  obtain ⟨l⟩ := c4
  match l, h2 with
  | [a0, a1, a2, a3, a4, a5, a6, a7], _ => exact ⟨⟨a0, a1, a2, a3, a4, a5, a6, a7, h1.cell 0, h1.cell 1, h1.cell 2, h1.cell 3, h1.cell 4, h1.cell 5, h1.cell 6, h1.cell 7⟩, fun i => h1.free i, h1.lt, h.x2.lt⟩
theorem Jx.row {W : World} {b2 b4 : Nat} {cs : Array Value} {w : World} (h : Jx W b2 b4 cs w) {B : Nat} {ty : TypeId} {z n : Nat} {u : Value} {xs : List Value} (hr : w.ownsRow B ty z u n xs) (hne : ty ≠ 32) : ∀ k, u.ownBlock = some k → k ≠ b2 ∧ k ≠ b4 := fun k hk => by
  obtain ⟨c4, h1, _⟩ := h.x4
  exact ⟨row_other hr h.x2 hne k hk, row_other hr h1 hne k hk⟩
theorem jit_ne : 59 ≠ 32 := by decide
theorem jin_ne : 3 ≠ 32 := by decide
set_option maxHeartbeats 16000000 in
theorem jtick_any {B : Nat} {m : Mb} {vw vs vh : Value} {W : World} (h : Mm B m vw vs vh W) (ho : m.ok) (hB : B ≤ W.heap.size) (t : Int) :
    Calls Try.prog 8 #[.agg (m.cells vw vs vh), .int .i64 t] W (JPost B (m.tick t) W) := by
  obtain ⟨Aw, cw, rfl, _⟩ := row_shape h.rw
  obtain ⟨As, ce, rfl, _⟩ := row_shape h.rs
  obtain ⟨Ah, ch, rfl, _⟩ := row_shape h.rh
  obtain ⟨r, hr⟩ : ∃ r, r = m.tick t := ⟨_, rfl⟩
  rw [← hr]
  unfold Mb.tick at hr
  have cI := jinst_any t
  have hsame : ∀ c : Int, (∀ w', Below W.heap.size W w' → JPost B (m, c) W (.returned (.tuple #[.agg (m.cells (.slice Aw m.wait.length cw) (.slice As m.seen.length ce) (.slice Ah m.shown.length ch)), .int .i64 c])) w') := fun c w' hb => ⟨_, _, _, rfl, hb, h.below hb⟩
  have HS := Lib.hid hsame
  have hb2 : ∀ cs : Array Value, Below W.heap.size W ((W.alloc (.cells (m.cells (.slice Aw m.wait.length cw) (.slice As m.seen.length ce) (.slice Ah m.shown.length ch)) 32)).alloc (.cells cs 32)) := fun cs => ((Below.refl _ _).alloc (Nat.le_refl _) _).alloc (by simp) _
  have HB2 := Lib.hid hb2
  cases hc : m.closed with
  | true =>
    rw [if_pos hc] at hr
    subst hr
    unfold Mb.cells at *
    rw [hc] at HS HB2 ⊢
    clear h ho hsame hb2 hc hB
    go_enter Try.func8, Try.ntmps8
    go_wp2
    refine bodyPost_ret (v := .tuple #[.agg #[.int .i64 m.lat, .int .i64 m.room, .slice Aw m.wait.length cw, .slice As m.seen.length ce, .slice Ah m.shown.length ch, .int .i64 m.num, .int .i64 m.late, .bool true], .int .i64 14]) ?_ rfl (HS.out 14 _ (HB2.out #[.int .i64 m.lat, .int .i64 m.room, .slice Aw m.wait.length cw, .slice As m.seen.length ce, .slice Ah m.shown.length ch, .int .i64 m.num, .int .i64 m.late, .bool true]))
    simp [results, Try.results8, go_sem]
  | false =>
    rw [if_neg (by rw [hc]; decide)] at hr
    cases hi : instB t with
    | false =>
      rw [hi] at cI
      rw [if_pos hi] at hr
      subst hr
      unfold Mb.cells at *
      rw [hc] at HS HB2 ⊢
      clear h ho hsame hb2 hc hi hB
      go_enter Try.func8, Try.ntmps8
      go_wp2_with (go_at_call 17; (with_reducible refine (cI _).mono ?_); rintro e w1 ⟨rfl, rfl⟩)
      refine bodyPost_ret (v := .tuple #[.agg #[.int .i64 m.lat, .int .i64 m.room, .slice Aw m.wait.length cw, .slice As m.seen.length ce, .slice Ah m.shown.length ch, .int .i64 m.num, .int .i64 m.late, .bool false], .int .i64 2]) ?_ rfl (HS.out 2 _ (HB2.out #[.int .i64 m.lat, .int .i64 m.room, .slice Aw m.wait.length cw, .slice As m.seen.length ce, .slice Ah m.shown.length ch, .int .i64 m.num, .int .i64 m.late, .bool false]))
      simp [results, Try.results8, go_sem]
    | true =>
      rw [hi] at cI
      rw [if_neg (by rw [hi]; decide)] at hr
      obtain ⟨W2, hW2⟩ : ∃ W2, W2 = (W.alloc (.cells (m.cells (.slice Aw m.wait.length cw) (.slice As m.seen.length ce) (.slice Ah m.shown.length ch)) 32)).alloc (.cells mz 32) := ⟨_, rfl⟩
      have hX : Jx W W.heap.size (W.heap.size + 1) (m.cells (.slice Aw m.wait.length cw) (.slice As m.seen.length ce) (.slice Ah m.shown.length ch)) W2 := by
        rw [hW2]
        refine ⟨hb2 _, (Fb.new _ _ _).alloc _, ⟨mz, ?_, rfl⟩, Nat.le_refl _, by omega, by omega⟩
        have := Fb.new (W.alloc (.cells (m.cells (.slice Aw m.wait.length cw) (.slice As m.seen.length ce) (.slice Ah m.shown.length ch)) 32)) 32 mz
        simpa using this
      have HX := Lib.hid hX
      have HM := Lib.hid (h.below hX.b)
      have hsz : m.shown.length ≤ 1000 := ho.zh
      have HSZ := Lib.hid hsz
      have HBB := Lib.hid hB
      have c4 := hX.x2.cell 4
      have HR := Lib.hid hr
      have hd2 := hX.x2.lt
      unfold Mb.cells at c4 hW2 HS ⊢
      rw [hc] at hW2 HS ⊢
      clear h ho hsame hb2 hi hX hr hB
      go_enter Try.func8, Try.ntmps8
      go_wp2_with (go_at_call 17; (with_reducible refine (cI _).mono ?_); rintro e w1 ⟨rfl, rfl⟩)
      rw [← hW2]
      clear hW2
      go_loopg [17] m.shown.length (fun g s17 wr => JtRel W2 t m.shown g s17 wr)
      case atStart => exact ⟨0, by omega, rfl, rfl, fun x hx => by cases hx⟩
      case round =>
        obtain ⟨i, hig, rfl, rfl, hno⟩ := hrel
        have hi9 : (i : Int) ≤ 1000 := by have := HSZ.out; omega
        cases gk with
        | zero =>
          have hin : ¬ (i : Int) < (m.shown.length : Int) := by omega
          have hr2 := HR.out
          have htk : m.shown.take i = m.shown := List.take_of_length_le (by omega)
          rw [htk] at hno
          rw [if_neg (fun ⟨x, h1, h2⟩ => hno x h1 h2)] at hr2
          subst hr2
          have HE := Lib.hid (emp_new (B := wr.heap.size) wr 3 1 (Nat.le_refl _))
          have hbr : Below wr.heap.size wr (wr.alloc (.cells #[] 3)) := (Below.refl _ _).alloc (Nat.le_refl _) _
          have HBR := Lib.hid hbr
          clear hig hno htk hbr
          go_wp2_with (first
            | (at_builtin; refine wpList_app_ints rfl (.tmp 29) (.tmp 31) rfl (B := wr.heap.size) (N := B) (l := []) (new := m.shown) rfl rfl HE.out (row_below HM.out.rh HBR.out) (by have := HSZ.out; simp; omega) (by simp) ?_; intro v7 w7 hr7 hg7 hf7; have HB7 := Lib.hid (HBR.out.grown hg7 (by simp) (fun k hk => by have e : some wr.heap.size = some k := hk; injection e with e; omega)); have HR7 := Lib.hid hr7; clear hr7 hg7 hf7)
            | (at_builtin; refine wpList_app_ints rfl (.tmp 32) (.tmp 34) rfl (B := wr.heap.size) (N := w7.heap.size) (l := [] ++ m.shown) (new := [t]) rfl rfl (World.ownsRow.alloc HR7.out _) (one_row w7 t) (by have := HSZ.out; simp; omega) (by have := HB7.out.size; simp; omega) ?_; intro v8 w8 hr8 hg8 hf8; have HB8 := Lib.hid ((HB7.out.alloc HB7.out.size (.cells #[.int .i64 t] 3)).grown hg8 (by have := HB7.out.size; simp; omega) (fun k hk => (World.ownsRow.lt HR7.out k hk).1)); have HR8 := Lib.hid hr8; obtain ⟨A8, c8, hv8⟩ := hr8.shape; subst hv8; have hX8 := HX.out.below HB8.out; obtain ⟨⟨y0, y1, y2, y3, y4, y5, y6, y7, k0, k1, k2, k3, k4, k5, k6, k7⟩, hf, hl4, hl2⟩ := hX8.c4; have f0 := hf 0; have f1 := hf 1; have f2 := hf 2; have f3 := hf 3; have f4 := hf 4; have f5 := hf 5; have f6 := hf 6; have f7 := hf 7; have p0 := hX8.x2.cell 0; have p1 := hX8.x2.cell 1; have p2 := hX8.x2.cell 2; have p3 := hX8.x2.cell 3; have p4 := hX8.x2.cell 4; have p5 := hX8.x2.cell 5; have p6 := hX8.x2.cell 6; have p7 := hX8.x2.cell 7; have fz := hX8.x2.free 4; unfold Mb.cells at p0 p1 p2 p3 p4 p5 p6 p7; have HX8 := Lib.hid hX8; clear hr8 hg8 hf8 hf hX8))
          refine bodyPost_ret (v := .tuple #[.agg #[.int .i64 m.lat, .int .i64 m.room, .slice Aw m.wait.length cw, .slice As m.seen.length ce, .slice A8 (m.shown.length + 1) c8, .int .i64 m.num, .int .i64 m.late, .bool false], .int .i64 0]) ?_ rfl ?_
          · simp [results, Try.results8, go_sem, k0, k1, k2, k3, k4, k5, k6, k7, hl4, hl2]
          · have hM8 := HM.out.below HB8.out
            have h8 := HR8.out
            rw [List.nil_append] at h8
            have e9 : (m.shown ++ [t]).length = m.shown.length + 1 := by simp
            rw [e9] at h8
            have hk := fun {ty : TypeId} {z n : Nat} {u : Value} {xs : List Value} {B' : Nat} (hr : w8.ownsRow B' ty z u n xs) (hne : ty ≠ 32) => row_heap (W' := st8 (w8.setCell ⟨W.heap.size, 4, none⟩ (.slice A8 (m.shown.length + 1) c8)) (W.heap.size + 1) (.int .i64 m.lat) (.int .i64 m.room) (.slice Aw m.wait.length cw) (.slice As m.seen.length ce) (.slice A8 (m.shown.length + 1) c8) (.int .i64 m.num) (.int .i64 m.late) (.bool false)) hr fun k hk => (st8_far _ _ _ _ _ _ _ _ _ _ (HX8.out.row hr hne k hk).2).trans (Below.heap_setCell _ _ _ _ (HX8.out.row hr hne k hk).1)
            refine ⟨.slice Aw m.wait.length cw, .slice As m.seen.length ce, .slice A8 (m.shown.length + 1) c8, rfl, st8_below (Below.setCell HX8.out.b (p := ⟨W.heap.size, 4, none⟩) HX8.out.n2 _) HX8.out.n4 _ _ _ _ _ _ _ _, ⟨hk hM8.rw jit_ne, hk hM8.rs jin_ne, row_mono (hk h8 jin_ne) ?_⟩⟩
            exact Nat.le_trans HBB.out HX.out.b.size
        | succ g =>
          have hin : (i : Int) < (m.shown.length : Int) := by omega
          have hiz : (0 : Int) ≤ (i : Int) := by omega
          obtain ⟨x, hx⟩ : ∃ x, m.shown[i]? = some x := ⟨_, List.getElem?_eq_getElem (by omega)⟩
          obtain ⟨g6, c6, e6, q0⟩ := TmR.at HM.out.rh hx
          injection e6 with e6 _ e7
          subst e6
          subst e7
          have HI := Lib.hid (show i + 1 + g = m.shown.length from by omega)
          by_cases hlt : t < x
          · have hr2 := HR.out
            rw [if_pos ⟨x, List.mem_of_getElem? hx, hlt⟩] at hr2
            subst hr2
            obtain ⟨⟨y0, y1, y2, y3, y4, y5, y6, y7, k0, k1, k2, k3, k4, k5, k6, k7⟩, hf, hl4, hl2⟩ := HX.out.c4
            have f0 := hf 0
            have f1 := hf 1
            have f2 := hf 2
            have f3 := hf 3
            have f4 := hf 4
            have f5 := hf 5
            have f6 := hf 6
            have f7 := hf 7
            have p0 := HX.out.x2.cell 0
            have p1 := HX.out.x2.cell 1
            have p2 := HX.out.x2.cell 2
            have p3 := HX.out.x2.cell 3
            have p5 := HX.out.x2.cell 5
            have p6 := HX.out.x2.cell 6
            have p7 := HX.out.x2.cell 7
            unfold Mb.cells at p0 p1 p2 p3 p5 p6 p7
            clear hig hno hx hf
            go_wp2
            refine bodyPost_ret (v := .tuple #[.agg #[.int .i64 m.lat, .int .i64 m.room, .slice Aw m.wait.length cw, .slice As m.seen.length ce, .slice (some ⟨g6, 0, none⟩) m.shown.length ch, .int .i64 m.num, .int .i64 m.late, .bool false], .int .i64 8]) ?_ rfl (HS.out 8 _ (st8_below HX.out.b HX.out.n4 _ _ _ _ _ _ _ _))
            simp [results, Try.results8, go_sem, st8, k0, k1, k2, k3, k4, k5, k6, k7, hl4]
          · have hno2 : ∀ y ∈ m.shown.take (i + 1), ¬ t < y := fun y hy => by
              rw [List.take_add_one, hx] at hy
              rcases List.mem_append.1 hy with hy | hy
              · exact hno y hy
              · have hy2 : y = x := by simpa using hy
                rw [hy2]; exact hlt
            have HNO := Lib.hid hno2
            clear hig hno hx hno2
            go_wp2
            go_roundg g
            case measure => exact Nat.lt_succ_self g
            case rel => exact ⟨i + 1, HI.out, by go_num, rfl, fun y hy => by have := HNO.out y hy; omega⟩
end Go.Proofs.Ytagidmghmbfnpaa
