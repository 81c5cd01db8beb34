/-
  THE WINDOWS' CALLS: Good, within, opened, opening, First, Many, Needed, Has, Tumbling, Window.
-/
import Derived.Test.YtpmimmbheieobaaWFlo
import Derived.Deep.RegionHeld3
namespace Go.Proofs.Ytpmimmbheieobaa
open Go.RowKit
set_option linter.unusedVariables false
set_option linter.unusedSimpArgs false
set_option maxRecDepth 100000

theorem bl1 (w : World) (o : Obj) : Below w.heap.size w (w.alloc o) := (Below.refl w.heap.size w).alloc (Nat.le_refl _) o
theorem bl2 {w W : World} (h : Below w.heap.size w W) (o : Obj) : Below w.heap.size w (W.alloc o) := h.alloc h.size o
theorem up {w W : World} {f : FuncId} {args : Array Value} {r : Ending} (hb : Below w.heap.size w W) (h : Calls Try.prog f args W fun e w' => e = r ∧ Below W.heap.size W w') : Calls Try.prog f args W fun e w' => e = r ∧ Below w.heap.size w w' :=
  h.mono fun e w' ⟨a, b⟩ => ⟨a, hb.trans (b.mono hb.size)⟩
theorem up0 {w W : World} {f : FuncId} {args : Array Value} {r : Ending} (hb : Below w.heap.size w W) (h : Calls Try.prog f args W fun e w' => e = r ∧ W = w') : Calls Try.prog f args W fun e w' => e = r ∧ Below w.heap.size w w' :=
  h.mono fun e w' ⟨a, b⟩ => ⟨a, b ▸ hb⟩
abbrev shv (s : Sh) : Value := .agg #[.int .i64 s.w, .int .i64 s.sl, .int .i64 s.b]
abbrev spv (a b : Int) : Value := .agg #[.int .i64 a, .int .i64 b]
def Fb (w : World) (g : Nat) (t : TypeId) (cs : Array Value) : Prop := w.heap[g]? = some (.cells cs t (0, 0))
theorem Fb.lt {w : World} {g : Nat} {t : TypeId} {cs : Array Value} (h : Fb w g t cs) : g < w.heap.size := (Array.getElem?_eq_some_iff.1 h).1
theorem Fb.cell {w : World} {g : Nat} {t : TypeId} {cs : Array Value} (h : Fb w g t cs) (i : Nat) : w.cell? ⟨g, i, none⟩ = cs[i]? := cell_of_row w g i cs t (0, 0) h
theorem Fb.new (w : World) (t : TypeId) (cs : Array Value) : Fb (w.alloc (.cells cs t)) w.heap.size t cs := heap_alloc_new w _
theorem Fb.alloc {w : World} {g : Nat} {t : TypeId} {cs : Array Value} (h : Fb w g t cs) (o : Obj) : Fb (w.alloc o) g t cs := (Below.heap_alloc w o g h.lt).trans h
theorem Fb.below {w w' : World} {g : Nat} {t : TypeId} {cs : Array Value} (h : Fb w g t cs) (hb : Below w.heap.size w w') : Fb w' g t cs := (hb.block g h.lt).trans h
theorem Fb.free {w : World} {g : Nat} {t : TypeId} {cs : Array Value} (h : Fb w g t cs) (i : Nat) : w.frozen? ⟨g, i, none⟩ = false := Lib.frozen_of_heap h i
theorem Fb.set {w : World} {g : Nat} {t : TypeId} {cs : Array Value} (h : Fb w g t cs) (i : Nat) (x : Value) : Fb (w.setCell ⟨g, i, none⟩ x) g t (cs.setIfInBounds i x) := heap_setCell_same w g i _ _ _ h
theorem Fb.far {w : World} {g g' : Nat} {t : TypeId} {cs : Array Value} (h : Fb w g t cs) (i : Nat) (x : Value) (hne : g ≠ g') : Fb (w.setCell ⟨g', i, none⟩ x) g t cs := (Below.heap_setCell _ _ _ _ hne).trans h
/-- The receiver's block, and what was there before. -/
structure Rcv (w : World) (cs : Array Value) (t : TypeId) (W : World) : Prop where
  b : Below w.heap.size w W
  st : Fb W w.heap.size t cs
theorem rcv0 (w : World) (cs : Array Value) (t : TypeId) : Rcv w cs t (w.alloc (.cells cs t)) := ⟨bl1 w _, Fb.new w t cs⟩
theorem Rcv.below {w W W' : World} {cs : Array Value} {t : TypeId} (h : Rcv w cs t W) (hb : Below W.heap.size W W') : Rcv w cs t W' := ⟨h.b.trans (hb.mono h.b.size), h.st.below hb⟩
theorem Rcv.alloc {w W : World} {cs : Array Value} {t : TypeId} (h : Rcv w cs t W) (o : Obj) : Rcv w cs t (W.alloc o) := h.below (bl1 W o)
theorem Rcv.drew {w W : World} {cs : Array Value} {t : TypeId} (h : Rcv w cs t W) : Rcv w cs t W.drew := h.below (Below.refl _ _).drew
theorem Rcv.c3 {w W : World} {a b c : Value} {t : TypeId} (h : Rcv w #[a, b, c] t W) : W.cell? ⟨w.heap.size, 0, none⟩ = some a ∧ W.cell? ⟨w.heap.size, 1, none⟩ = some b ∧ W.cell? ⟨w.heap.size, 2, none⟩ = some c := ⟨h.st.cell 0, h.st.cell 1, h.st.cell 2⟩
theorem upR {w W : World} {f : FuncId} {args : Array Value} {r : Ending} {a b c : Value} {t : TypeId} (hR : Rcv w #[a, b, c] t W) (h : Calls Try.prog f args W fun e w' => e = r ∧ Below W.heap.size W w') : Calls Try.prog f args W fun e w' => e = r ∧ Rcv w #[a, b, c] t w' ∧ w'.cell? ⟨w.heap.size, 0, none⟩ = some a ∧ w'.cell? ⟨w.heap.size, 1, none⟩ = some b ∧ w'.cell? ⟨w.heap.size, 2, none⟩ = some c :=
  h.mono fun e w' ⟨h1, h2⟩ => ⟨h1, hR.below h2, by rw [(hR.below h2).st.cell]; rfl, by rw [(hR.below h2).st.cell]; rfl, by rw [(hR.below h2).st.cell]; rfl⟩
theorem upR2 {w W : World} {f : FuncId} {args : Array Value} {r : Ending} {a b : Value} {t : TypeId} (hR : Rcv w #[a, b] t W) (h : Calls Try.prog f args W fun e w' => e = r ∧ Below W.heap.size W w') : Calls Try.prog f args W fun e w' => e = r ∧ Rcv w #[a, b] t w' ∧ w'.cell? ⟨w.heap.size, 0, none⟩ = some a ∧ w'.cell? ⟨w.heap.size, 1, none⟩ = some b :=
  h.mono fun e w' ⟨h1, h2⟩ => ⟨h1, hR.below h2, by rw [(hR.below h2).st.cell]; rfl, by rw [(hR.below h2).st.cell]; rfl⟩
theorem below_of {w : World} {f : FuncId} {args : Array Value} {r : Ending} (h : Calls Try.prog f args w fun e w' => e = r ∧ w = w') : Calls Try.prog f args w fun e w' => e = r ∧ Below w.heap.size w w' := h.mono fun e w' ⟨a, b⟩ => ⟨a, b ▸ Below.refl _ _⟩
abbrev shc (s : Sh) : Array Value := #[.int .i64 s.w, .int .i64 s.sl, .int .i64 s.b]
theorem wgood_any {s : Sh} (h : s.ok) (w : World) : Calls Try.prog 28 #[shv s] w fun e w' => e = .returned (.bool true) ∧ Below w.heap.size w w' := by
  have w0 := h.w0
  have w1 := h.w1
  have s0 := h.s0
  have s1 := h.s1
  have b0 := h.b0
  have b1 := h.b1
  clear h
  obtain ⟨W, S, B⟩ := s
  simp only at w0 w1 s0 s1 b0 b1
  go_enter Try.func28, Try.ntmps28
  go_wp2
  go_ret
  exact ⟨rfl, (by first | assumption | exact bl1 _ _ | exact Rcv.b (by assumption) | exact Rcv.b (rcv0 _ _ _) | exact bl2 (by assumption) _ | exact bl2 (Rcv.b (by assumption)) _ | exact Below.refl _ _ | exact bl2 (bl1 _ _) _)⟩
theorem wwithin_any (t : Int) (w : World) : Calls Try.prog 25 #[.int .i64 t] w fun e w' => e = .returned (.int .i64 (cl t)) ∧ Below w.heap.size w w' := by
  rcases Int.lt_or_le 2305843009213693952 t with h1 | h1
  · go_enter Try.func25, Try.ntmps25
    go_wp2
    go_ret
    exact ⟨ret_int (by unfold cl; omega), (by first | assumption | exact bl1 _ _ | exact Rcv.b (by assumption) | exact Rcv.b (rcv0 _ _ _) | exact bl2 (by assumption) _ | exact bl2 (Rcv.b (by assumption)) _ | exact Below.refl _ _ | exact bl2 (bl1 _ _) _)⟩
  · have n1 : ¬ 2305843009213693952 < t := by omega
    rcases Int.lt_or_le (-2305843009213693952) t with h2 | h2
    · go_enter Try.func25, Try.ntmps25
      go_wp2
      go_ret
      exact ⟨ret_int (by unfold cl; omega), (by first | assumption | exact bl1 _ _ | exact Rcv.b (by assumption) | exact Rcv.b (rcv0 _ _ _) | exact bl2 (by assumption) _ | exact bl2 (Rcv.b (by assumption)) _ | exact Below.refl _ _ | exact bl2 (bl1 _ _) _)⟩
    · have n2 : ¬ -2305843009213693952 < t := by omega
      go_enter Try.func25, Try.ntmps25
      go_wp2
      go_ret
      exact ⟨ret_int (by unfold cl; omega), (by first | assumption | exact bl1 _ _ | exact Rcv.b (by assumption) | exact Rcv.b (rcv0 _ _ _) | exact bl2 (by assumption) _ | exact bl2 (Rcv.b (by assumption)) _ | exact Below.refl _ _ | exact bl2 (bl1 _ _) _)⟩
theorem wopening_any {s : Sh} (h : s.ok) {i : Int} (hi : 0 ≤ i) (hm : s.at i ≤ 4611686018427387904) (w : World) : Calls Try.prog 26 #[shv s, .int .i64 i] w fun e w' => e = .returned (.int .i64 (s.at i)) ∧ Below w.heap.size w w' := by
  have hb := Sh.mul_bounds h hi hm
  have hl := Sh.at_low h hi
  have e1 : wrap64 (i * s.sl) = i * s.sl := wrap64_fit (by omega) (by omega)
  have e2 : wrap64 (s.b + i * s.sl) = s.at i := by unfold Sh.at at hl hm ⊢; exact wrap64_fit (by omega) (by omega)
  clear h hm hb hl hi
  generalize s.at i = o at *
  obtain ⟨W, S, B⟩ := s
  simp only at e1 e2
  have E1 := Lib.hid e1
  have E2 := Lib.hid e2
  clear e1 e2
  go_enter Try.func26, Try.ntmps26
  go_wp2
  go_ret
  exact ⟨ret_int (by rw [E1.out, E2.out]), (by first | assumption | exact bl1 _ _ | exact Rcv.b (by assumption) | exact Rcv.b (rcv0 _ _ _) | exact bl2 (by assumption) _ | exact bl2 (Rcv.b (by assumption)) _ | exact Below.refl _ _ | exact bl2 (bl1 _ _) _)⟩
theorem wopened_any {s : Sh} (h : s.ok) {t : Int} (t0 : -2305844108725321728 ≤ t) (t1 : t ≤ 2305843009213693952) (w : World) : Calls Try.prog 24 #[shv s, .int .i64 t] w fun e w' => e = .returned (.int .i64 (s.op t)) ∧ Below w.heap.size w w' := by
  have cG := fun {W} (hR : Rcv w (shc s) 25 W) => upR hR (wgood_any h W)
  have b0 := h.b0
  have b1 := h.b1
  have s0 := h.s0
  have cF := fun {W} (hR : Rcv w (shc s) 25 W) => upR hR (below_of (floor_pos (t - s.b) s.sl ⟨by omega, by omega⟩ s0 W))
  have e1 : IntKind.i64.wrap (t - s.b) = t - s.b := wrap_fit (by omega) (by omega)
  have e2 : IntKind.i64.wrap ((t - s.b) / s.sl + 1) = (t - s.b) / s.sl + 1 := by
    have h1 : (t - s.b) / s.sl ≤ 4611686018427387904 := by
      rcases Int.lt_or_le (t - s.b) 0 with hn | hn
      · have := Int.ediv_neg_of_neg_of_pos hn (show 0 < s.sl by omega); omega
      · have := Int.ediv_le_self s.sl hn; omega
    have h2 : -4611686018427387904 ≤ (t - s.b) / s.sl := by
      have h3 : -4611686018427387904 * s.sl ≤ t - s.b := by
        have : (4611686018427387904 : Int) * 1 ≤ 4611686018427387904 * s.sl := Int.mul_le_mul_of_nonneg_left s0 (by omega)
        omega
      exact (Int.le_ediv_iff_mul_le (by omega)).2 h3
    exact wrap_fit (by omega) (by omega)
  have e3 : s.op t = max 0 ((t - s.b) / s.sl + 1) := rfl
  clear h b0 b1 s0 t0 t1
  generalize s.op t = o at *
  obtain ⟨W, S, B⟩ := s
  simp only at e1 e2 e3 cG cF
  generalize (t - B) / S = q at *
  go_enter Try.func24, Try.ntmps24
  go_wp2_with (first
    | (go_at_call 28; (with_reducible refine (cG (by first | assumption | exact rcv0 _ _ _ | exact Rcv.alloc (by assumption) _ | exact Rcv.drew (by assumption) | exact Rcv.drew (rcv0 _ _ _) | exact (rcv0 _ _ _).alloc _ | exact Rcv.drew ((rcv0 _ _ _).alloc _) | exact Rcv.drew (Rcv.alloc (by assumption) _))).mono ?_); rintro e w' ⟨rfl, hR, c0, c1, c2⟩)
    | (go_at_call 29; (with_reducible refine (cF (by first | assumption | exact rcv0 _ _ _ | exact Rcv.alloc (by assumption) _ | exact Rcv.drew (by assumption) | exact Rcv.drew (rcv0 _ _ _) | exact (rcv0 _ _ _).alloc _ | exact Rcv.drew ((rcv0 _ _ _).alloc _) | exact Rcv.drew (Rcv.alloc (by assumption) _))).mono ?_); rintro e w' ⟨rfl, hR, c0, c1, c2⟩))
  all_goals
    go_ret
    exact ⟨ret_int (by omega), (by first | assumption | exact bl1 _ _ | exact Rcv.b (by assumption) | exact Rcv.b (rcv0 _ _ _) | exact bl2 (by assumption) _ | exact bl2 (Rcv.b (by assumption)) _ | exact Below.refl _ _ | exact bl2 (bl1 _ _) _)⟩
theorem wfirst_any {s : Sh} (h : s.ok) (t : Int) (w : World) : Calls Try.prog 13 #[shv s, .int .i64 t] w fun e w' => e = .returned (.int .i64 (s.fst t)) ∧ Below w.heap.size w w' := by
  have w0 := h.w0
  have w1 := h.w1
  have c0 := cl_low t
  have c1 := cl_high t
  have cW := fun {W} (hR : Rcv w (shc s) 25 W) => upR hR (wwithin_any t W)
  have cO := fun {W} (hR : Rcv w (shc s) 25 W) => upR hR (wopened_any h (t := cl t - s.w) (by omega) (by omega) W)
  have e1 : IntKind.i64.wrap (cl t - s.w) = cl t - s.w := wrap_fit (by omega) (by omega)
  have e2 : s.fst t = s.op (cl t - s.w) := rfl
  rw [← e2] at cO
  clear h w0 w1 c0 c1 e2
  generalize s.fst t = o at *
  generalize cl t = c at *
  obtain ⟨W, S, B⟩ := s
  simp only at e1 cO
  go_enter Try.func13, Try.ntmps13
  go_wp2
  go_region_held3 (fun w4 => w4.cell? ⟨w.heap.size, 0, none⟩ = some (.int .i64 W) ∧ w4.cell? ⟨w.heap.size, 1, none⟩ = some (.int .i64 S) ∧ w4.cell? ⟨w.heap.size, 2, none⟩ = some (.int .i64 B))
    (first | exact Rcv.c3 (by first | assumption | exact rcv0 _ _ _ | exact Rcv.alloc (by assumption) _ | exact Rcv.drew (by assumption) | exact Rcv.drew (rcv0 _ _ _) | exact (rcv0 _ _ _).alloc _ | exact Rcv.drew ((rcv0 _ _ _).alloc _) | exact Rcv.drew (Rcv.alloc (by assumption) _)))
    (first
      | (go_at_call 25; (with_reducible refine (cW (by first | assumption | exact rcv0 _ _ _ | exact Rcv.alloc (by assumption) _ | exact Rcv.drew (by assumption) | exact Rcv.drew (rcv0 _ _ _) | exact (rcv0 _ _ _).alloc _ | exact Rcv.drew ((rcv0 _ _ _).alloc _) | exact Rcv.drew (Rcv.alloc (by assumption) _))).mono ?_); rintro e w' ⟨rfl, hR, -⟩)
      | (go_at_call 24; (with_reducible refine (cO (by first | assumption | exact rcv0 _ _ _ | exact Rcv.alloc (by assumption) _ | exact Rcv.drew (by assumption) | exact Rcv.drew (rcv0 _ _ _) | exact (rcv0 _ _ _).alloc _ | exact Rcv.drew ((rcv0 _ _ _).alloc _) | exact Rcv.drew (Rcv.alloc (by assumption) _))).mono ?_); rintro e w' ⟨rfl, hR, -⟩)
      | fail)
  all_goals
    (try go_wp2)
    go_ret
    exact ⟨rfl, (by first | assumption | exact bl1 _ _ | exact Rcv.b (by assumption) | exact Rcv.b (rcv0 _ _ _) | exact bl2 (by assumption) _ | exact bl2 (Rcv.b (by assumption)) _ | exact Below.refl _ _ | exact bl2 (bl1 _ _) _)⟩
theorem wmany_any {s : Sh} (h : s.ok) (t : Int) (w : World) : Calls Try.prog 16 #[shv s, .int .i64 t] w fun e w' => e = .returned (.int .i64 (s.mny t)) ∧ Below w.heap.size w w' := by
  have c0 := cl_low t
  have c1 := cl_high t
  have cW := fun {W} (hR : Rcv w (shc s) 25 W) => upR hR (wwithin_any t W)
  have cO := fun {W} (hR : Rcv w (shc s) 25 W) => upR hR (wopened_any h (t := cl t) (by omega) (by omega) W)
  have cF := fun {W} (hR : Rcv w (shc s) 25 W) => upR hR (wfirst_any h t W)
  have hn := Sh.mny_nn h t
  have hf := s.fst_nn t
  have ho := Sh.op_high h c1
  have e1 : IntKind.i64.wrap (s.op (cl t) - s.fst t) = s.mny t := by unfold Sh.mny at hn ⊢; exact wrap_fit (by omega) (by omega)
  clear h c0 c1 hn hf ho
  generalize s.op (cl t) = o at *
  generalize s.fst t = f at *
  generalize s.mny t = m at *
  generalize cl t = c at *
  go_enter Try.func16, Try.ntmps16
  go_wp2
  go_region_held3 (fun w4 => w4.cell? ⟨w.heap.size, 0, none⟩ = some (.int .i64 s.w) ∧ w4.cell? ⟨w.heap.size, 1, none⟩ = some (.int .i64 s.sl) ∧ w4.cell? ⟨w.heap.size, 2, none⟩ = some (.int .i64 s.b))
    (first | exact Rcv.c3 (by first | assumption | exact rcv0 _ _ _ | exact Rcv.alloc (by assumption) _ | exact Rcv.drew (by assumption) | exact Rcv.drew (rcv0 _ _ _) | exact (rcv0 _ _ _).alloc _ | exact Rcv.drew ((rcv0 _ _ _).alloc _) | exact Rcv.drew (Rcv.alloc (by assumption) _)))
    (first
      | (go_at_call 25; (with_reducible refine (cW (by first | assumption | exact rcv0 _ _ _ | exact Rcv.alloc (by assumption) _ | exact Rcv.drew (by assumption) | exact Rcv.drew (rcv0 _ _ _) | exact (rcv0 _ _ _).alloc _ | exact Rcv.drew ((rcv0 _ _ _).alloc _) | exact Rcv.drew (Rcv.alloc (by assumption) _))).mono ?_); rintro e w' ⟨rfl, hR, -⟩)
      | (go_at_call 13; (with_reducible refine (cF (by first | assumption | exact rcv0 _ _ _ | exact Rcv.alloc (by assumption) _ | exact Rcv.drew (by assumption) | exact Rcv.drew (rcv0 _ _ _) | exact (rcv0 _ _ _).alloc _ | exact Rcv.drew ((rcv0 _ _ _).alloc _) | exact Rcv.drew (Rcv.alloc (by assumption) _))).mono ?_); rintro e w' ⟨rfl, hR, -⟩)
      | (go_at_call 24; (with_reducible refine (cO (by first | assumption | exact rcv0 _ _ _ | exact Rcv.alloc (by assumption) _ | exact Rcv.drew (by assumption) | exact Rcv.drew (rcv0 _ _ _) | exact (rcv0 _ _ _).alloc _ | exact Rcv.drew ((rcv0 _ _ _).alloc _) | exact Rcv.drew (Rcv.alloc (by assumption) _))).mono ?_); rintro e w' ⟨rfl, hR, -⟩)
      | fail)
  all_goals
    (try go_wp2)
    go_ret
    exact ⟨ret_int (by first | rfl | assumption), (by first | assumption | exact bl1 _ _ | exact Rcv.b (by assumption) | exact Rcv.b (rcv0 _ _ _) | exact bl2 (by assumption) _ | exact bl2 (Rcv.b (by assumption)) _ | exact Below.refl _ _ | exact bl2 (bl1 _ _) _)⟩
theorem wneeded_any {s : Sh} (h : s.ok) (t : Int) (w : World) : Calls Try.prog 14 #[shv s, .int .i64 t] w fun e w' => e = .returned (.int .i64 (s.at (s.fst t))) ∧ Below w.heap.size w w' := by
  have cF := fun {W} (hR : Rcv w (shc s) 25 W) => upR hR (wfirst_any h t W)
  have cO := fun {W} (hR : Rcv w (shc s) 25 W) => upR hR (wopening_any h (s.fst_nn t) (by have := Sh.at_high h (t := cl t - s.w) (by have := cl_high t; have := h.w0; omega); unfold Sh.fst; omega) W)
  clear h
  generalize s.at (s.fst t) = o at *
  generalize s.fst t = f at *
  go_enter Try.func14, Try.ntmps14
  go_wp2
  go_region_held3 (fun w4 => w4.cell? ⟨w.heap.size, 0, none⟩ = some (.int .i64 s.w) ∧ w4.cell? ⟨w.heap.size, 1, none⟩ = some (.int .i64 s.sl) ∧ w4.cell? ⟨w.heap.size, 2, none⟩ = some (.int .i64 s.b))
    (first | exact Rcv.c3 (by first | assumption | exact rcv0 _ _ _ | exact Rcv.alloc (by assumption) _ | exact Rcv.drew (by assumption) | exact Rcv.drew (rcv0 _ _ _) | exact (rcv0 _ _ _).alloc _ | exact Rcv.drew ((rcv0 _ _ _).alloc _) | exact Rcv.drew (Rcv.alloc (by assumption) _)))
    (first
      | (go_at_call 13; (with_reducible refine (cF (by first | assumption | exact rcv0 _ _ _ | exact Rcv.alloc (by assumption) _ | exact Rcv.drew (by assumption) | exact Rcv.drew (rcv0 _ _ _) | exact (rcv0 _ _ _).alloc _ | exact Rcv.drew ((rcv0 _ _ _).alloc _) | exact Rcv.drew (Rcv.alloc (by assumption) _))).mono ?_); rintro e w' ⟨rfl, hR, -⟩)
      | (go_at_call 26; (with_reducible refine (cO (by first | assumption | exact rcv0 _ _ _ | exact Rcv.alloc (by assumption) _ | exact Rcv.drew (by assumption) | exact Rcv.drew (rcv0 _ _ _) | exact (rcv0 _ _ _).alloc _ | exact Rcv.drew ((rcv0 _ _ _).alloc _) | exact Rcv.drew (Rcv.alloc (by assumption) _))).mono ?_); rintro e w' ⟨rfl, hR, -⟩)
      | fail)
  all_goals
    (try go_wp2)
    go_ret
    exact ⟨rfl, (by first | assumption | exact bl1 _ _ | exact Rcv.b (by assumption) | exact Rcv.b (rcv0 _ _ _) | exact bl2 (by assumption) _ | exact bl2 (Rcv.b (by assumption)) _ | exact Below.refl _ _ | exact bl2 (bl1 _ _) _)⟩
theorem whas_any (a b t : Int) (w : World) : Calls Try.prog 18 #[spv a b, .int .i64 t] w fun e w' => e = .returned (.bool (decide (a ≤ cl t) && decide (cl t < b))) ∧ Below w.heap.size w w' := by
  have cW := fun {W} (hR : Rcv w #[.int .i64 a, .int .i64 b] 34 W) => upR2 hR (wwithin_any t W)
  generalize cl t = c at *
  by_cases h1 : a ≤ c
  · by_cases h2 : c < b
    · go_enter Try.func18, Try.ntmps18
      go_wp2_with (go_at_call 25; (with_reducible refine (cW (by first | assumption | exact rcv0 _ _ _ | exact Rcv.alloc (by assumption) _ | exact Rcv.drew (by assumption) | exact Rcv.drew (rcv0 _ _ _) | exact (rcv0 _ _ _).alloc _ | exact Rcv.drew ((rcv0 _ _ _).alloc _) | exact Rcv.drew (Rcv.alloc (by assumption) _))).mono ?_); rintro e w' ⟨rfl, hR, c0, c1⟩)
      go_ret
      exact ⟨ret_bool (by simp [h1, h2]), (by first | assumption | exact bl1 _ _ | exact Rcv.b (by assumption) | exact Rcv.b (rcv0 _ _ _) | exact bl2 (by assumption) _ | exact bl2 (Rcv.b (by assumption)) _ | exact Below.refl _ _ | exact bl2 (bl1 _ _) _)⟩
    · go_enter Try.func18, Try.ntmps18
      go_wp2_with (go_at_call 25; (with_reducible refine (cW (by first | assumption | exact rcv0 _ _ _ | exact Rcv.alloc (by assumption) _ | exact Rcv.drew (by assumption) | exact Rcv.drew (rcv0 _ _ _) | exact (rcv0 _ _ _).alloc _ | exact Rcv.drew ((rcv0 _ _ _).alloc _) | exact Rcv.drew (Rcv.alloc (by assumption) _))).mono ?_); rintro e w' ⟨rfl, hR, c0, c1⟩)
      go_ret
      exact ⟨ret_bool (by simp [h1, h2] <;> omega), (by first | assumption | exact bl1 _ _ | exact Rcv.b (by assumption) | exact Rcv.b (rcv0 _ _ _) | exact bl2 (by assumption) _ | exact bl2 (Rcv.b (by assumption)) _ | exact Below.refl _ _ | exact bl2 (bl1 _ _) _)⟩
  · go_enter Try.func18, Try.ntmps18
    go_wp2_with (go_at_call 25; (with_reducible refine (cW (by first | assumption | exact rcv0 _ _ _ | exact Rcv.alloc (by assumption) _ | exact Rcv.drew (by assumption) | exact Rcv.drew (rcv0 _ _ _) | exact (rcv0 _ _ _).alloc _ | exact Rcv.drew ((rcv0 _ _ _).alloc _) | exact Rcv.drew (Rcv.alloc (by assumption) _))).mono ?_); rintro e w' ⟨rfl, hR, c0, c1⟩)
    go_ret
    exact ⟨ret_bool (by simp [h1] <;> omega), (by first | assumption | exact bl1 _ _ | exact Rcv.b (by assumption) | exact Rcv.b (rcv0 _ _ _) | exact bl2 (by assumption) _ | exact bl2 (Rcv.b (by assumption)) _ | exact Below.refl _ _ | exact bl2 (bl1 _ _) _)⟩
theorem wtumbling_any (s : Sh) (w : World) : Calls Try.prog 21 #[shv s] w fun e w' => e = .returned (.bool (s.w == s.sl)) ∧ Below w.heap.size w w' := by
  go_enter Try.func21, Try.ntmps21
  go_wp2
  go_ret
  exact ⟨ret_bool (by simp), (by first | assumption | exact bl1 _ _ | exact Rcv.b (by assumption) | exact Rcv.b (rcv0 _ _ _) | exact bl2 (by assumption) _ | exact bl2 (Rcv.b (by assumption)) _ | exact Below.refl _ _ | exact bl2 (bl1 _ _) _)⟩
/-- The receiver's block, and that of an answer. -/
structure Rx (w : World) (cs : Array Value) (t : TypeId) (ds : Array Value) (u : TypeId) (W : World) : Prop where
  r : Rcv w cs t W
  st : Fb W (w.heap.size + 1) u ds
theorem rx0 (w : World) (cs : Array Value) (t : TypeId) (ds : Array Value) (u : TypeId) : Rx w cs t ds u ((w.alloc (.cells cs t)).alloc (.cells ds u)) := ⟨(rcv0 w cs t).alloc _, by simpa using Fb.new (w.alloc (.cells cs t)) u ds⟩
theorem Rx.below {w W W' : World} {cs ds : Array Value} {t u : TypeId} (h : Rx w cs t ds u W) (hb : Below W.heap.size W W') : Rx w cs t ds u W' := ⟨h.r.below hb, h.st.below hb⟩
theorem Rx.drew {w W : World} {cs ds : Array Value} {t u : TypeId} (h : Rx w cs t ds u W) : Rx w cs t ds u W.drew := h.below (Below.refl _ _).drew
theorem Rx.put {w W : World} {cs ds : Array Value} {t u : TypeId} (h : Rx w cs t ds u W) (i j : Nat) (x y : Value) : Rcv w cs t ((W.setCell ⟨w.heap.size + 1, i, none⟩ x).setCell ⟨w.heap.size + 1, j, none⟩ y) :=
  ⟨(h.r.b.setCell (by simp) _).setCell (by simp) _, (h.r.st.far i x (by simp)).far j y (by simp)⟩
theorem Rx.out {w W : World} {cs : Array Value} {a b : Value} {t u : TypeId} (h : Rx w cs t #[a, b] u W) : W.cell? ⟨w.heap.size + 1, 0, none⟩ = some a ∧ W.cell? ⟨w.heap.size + 1, 1, none⟩ = some b ∧ W.frozen? ⟨w.heap.size + 1, 0, none⟩ = false ∧ W.frozen? ⟨w.heap.size + 1, 1, none⟩ = false ∧ w.heap.size + 1 < W.heap.size := ⟨h.st.cell 0, h.st.cell 1, h.st.free 0, h.st.free 1, h.st.lt⟩
theorem upX {w W : World} {f : FuncId} {args : Array Value} {r : Ending} {cs ds : Array Value} {t u : TypeId} (hR : Rx w cs t ds u W) (h : Calls Try.prog f args W fun e w' => e = r ∧ Below W.heap.size W w') : Calls Try.prog f args W fun e w' => e = r ∧ Rx w cs t ds u w' :=
  h.mono fun e w' ⟨h1, h2⟩ => ⟨h1, hR.below h2⟩
abbrev z2 : Array Value := #[.int .i64 0, .int .i64 0]
/-- Window: a window's span. -/
theorem wwindow_ok {s : Sh} (h : s.ok) {i : Int} (hi : 0 ≤ i) (hm : s.at i + s.w ≤ 2305843009213693952) (w : World) : Calls Try.prog 17 #[shv s, .int .i64 i] w fun e w' => e = .returned (.tuple #[spv (s.at i) (s.at i + s.w), .int .i64 0]) ∧ Below w.heap.size w w' := by
  have w0 := h.w0
  have w1 := h.w1
  have hl := Sh.at_low h hi
  have cF := fun {W} (hR : Rx w (shc s) 25 z2 34 W) => upX hR (wfirst_any h 2305843009213693952 W)
  have cO := fun {W} (hR : Rx w (shc s) 25 z2 34 W) => upX hR (wopening_any h hi (by omega) W)
  have hlt : ¬ s.fst 2305843009213693952 ≤ i := by
    have := (Sh.lt_lst h hi).2 hm
    unfold Sh.lst at this; omega
  have hi2 : ¬ i < 0 := by omega
  have e1 : IntKind.i64.wrap (s.at i + s.w) = s.at i + s.w := wrap_fit (by omega) (by omega)
  clear h w0 w1 hl hm hi
  generalize s.at i = o at *
  generalize s.fst 2305843009213693952 = f at *
  obtain ⟨W, S, B⟩ := s
  simp only at e1 cO cF
  go_enter Try.func17, Try.ntmps17
  go_wp2_with (go_at_call 13; (with_reducible refine (cF (by first | assumption | exact rx0 _ _ _ _ _ | exact Rx.drew (by assumption) | exact Rx.drew (rx0 _ _ _ _ _))).mono ?_); rintro e w' ⟨rfl, hR⟩; obtain ⟨x0, x1, x2⟩ := Rcv.c3 hR.r; obtain ⟨y0, y1, y2, y3, y4⟩ := Rx.out hR)
  go_region_held3 (fun w4 => w4.cell? ⟨w.heap.size, 0, none⟩ = some (.int .i64 W) ∧ w4.cell? ⟨w.heap.size, 1, none⟩ = some (.int .i64 S) ∧ w4.cell? ⟨w.heap.size, 2, none⟩ = some (.int .i64 B))
    (first | exact Rcv.c3 (Rx.r (by first | assumption | exact rx0 _ _ _ _ _ | exact Rx.drew (by assumption) | exact Rx.drew (rx0 _ _ _ _ _))) | exact Rcv.c3 (Rx.put (by first | assumption | exact rx0 _ _ _ _ _ | exact Rx.drew (by assumption) | exact Rx.drew (rx0 _ _ _ _ _)) _ _ _ _))
    (first
      | (go_at_call 26; (with_reducible refine (cO (by first | assumption | exact rx0 _ _ _ _ _ | exact Rx.drew (by assumption) | exact Rx.drew (rx0 _ _ _ _ _))).mono ?_); rintro e w' ⟨rfl, hR⟩; obtain ⟨y0, y1, y2, y3, y4⟩ := Rx.out hR)
      | fail)
  all_goals
    (try go_wp2)
    exact bodyPost_ret (v := .tuple #[spv o (o + W), .int .i64 0]) (by simp [results, Try.results17, go_sem, y0, y1, y4]) rfl ⟨rfl, (Rx.put (by first | assumption | exact rx0 _ _ _ _ _ | exact Rx.drew (by assumption) | exact Rx.drew (rx0 _ _ _ _ _)) _ _ _ _).b⟩
theorem wwindow_no {s : Sh} (h : s.ok) {i : Int} (hn : i < 0 ∨ 2305843009213693952 < s.at i + s.w) (w : World) : Calls Try.prog 17 #[shv s, .int .i64 i] w fun e w' => e = .returned (.tuple #[spv 0 0, .int .i64 2]) ∧ Below w.heap.size w w' := by
  have cF := fun {W} (hR : Rx w (shc s) 25 z2 34 W) => upX hR (wfirst_any h 2305843009213693952 W)
  by_cases hi : i < 0
  · clear h hn
    go_enter Try.func17, Try.ntmps17
    go_wp2
    exact bodyPost_ret (v := .tuple #[spv 0 0, .int .i64 2]) (by simp [results, Try.results17, go_sem]) rfl ⟨rfl, by exact bl2 (bl1 _ _) _⟩
  · have hlt : s.fst 2305843009213693952 ≤ i := by
      have := mt (Sh.lt_lst h (i := i) (by omega)).1 (by omega)
      unfold Sh.lst at this; omega
    clear h hn
    generalize s.fst 2305843009213693952 = f at *
    go_enter Try.func17, Try.ntmps17
    go_wp2_with (go_at_call 13; (with_reducible refine (cF (by first | assumption | exact rx0 _ _ _ _ _ | exact Rx.drew (by assumption) | exact Rx.drew (rx0 _ _ _ _ _))).mono ?_); rintro e w' ⟨rfl, hR⟩; obtain ⟨y0, y1, y2, y3, y4⟩ := Rx.out hR)
    exact bodyPost_ret (v := .tuple #[spv 0 0, .int .i64 2]) (by simp [results, Try.results17, go_sem, y0, y1, y4]) rfl ⟨rfl, (Rx.put (by first | assumption | exact rx0 _ _ _ _ _ | exact Rx.drew (by assumption) | exact Rx.drew (rx0 _ _ _ _ _)) _ _ _ _).b⟩
end Go.Proofs.Ytpmimmbheieobaa
