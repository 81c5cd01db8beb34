/-
  At; the statements' shape, held, awake.
-/
import Derived.Test.YtpmimmbheieobaaWFn
import Derived.Deep.LoopGhost
import Derived.Deep.OwnRows
namespace Go.Proofs.Ytpmimmbheieobaa
open Go.RowKit
set_option linter.unusedVariables false
set_option linter.unusedSimpArgs false
set_option maxRecDepth 100000

theorem int1Info : (Try.prog.info? 3).map (fun i => (i.zero, i.size, i.bytes)) = some (some (.int .i64 0), 1, 8) := by kernel_rfl
theorem mk_ints (n : Nat) (hn : n ≤ 1000) (W : World) : (Instr.makeSlice 29 (.int .i64 n) (.int .i64 n)).run Try.prog W = .ok (.slice (some ⟨W.heap.size, 0, none⟩) n n) (W.alloc (.cells (madeCells #[.int .i64 0] n) 3)) :=
  run_make_row' 29 3 (.int .i64 0) 8 Try.underlying29 int1Info rfl .i64 .i64 n (by omega) (by omega) W
/-- A new row of numbers: the k-th, below m, is f + k; the others are 0. -/
def NumR (B g n m : Nat) (f : Int) (W : World) : Prop := ∃ cs, Fb W g 3 cs ∧ cs.size = n ∧ B ≤ g ∧ ∀ k, k < m → cs[k]? = some (.int .i64 (f + k))
theorem NumR.start (W : World) (n : Nat) (f : Int) (o : Obj) (ho : o = .cells (madeCells #[.int .i64 0] n) 3) : NumR W.heap.size W.heap.size n 0 f (W.alloc o) := by
  subst ho
  exact ⟨_, Fb.new _ _ _, by simp [madeCells], Nat.le_refl _, fun k hk => absurd hk (by omega)⟩
theorem NumR.put {B g n m : Nat} {f : Int} {W : World} (h : NumR B g n m f W) (hm : m < n) : NumR B g n (m + 1) f (W.setCell ⟨g, m, none⟩ (.int .i64 (f + m))) := by
  obtain ⟨cs, h1, h2, hB, h3⟩ := h
  refine ⟨_, h1.set m _, by simpa using h2, hB, fun k hk => ?_⟩
  rw [Array.getElem?_setIfInBounds]
  by_cases e : m = k
  · subst e
    rw [if_pos rfl, if_pos (by omega)]
  · rw [if_neg e, h3 k (by omega)]
theorem NumR.free {B g n m : Nat} {f : Int} {W : World} (h : NumR B g n m f W) (k : Nat) : W.frozen? ⟨g, k, none⟩ = false := by
  obtain ⟨cs, h1, _⟩ := h
  exact h1.free k
theorem NumR.cell {B g n m : Nat} {f : Int} {W : World} (h : NumR B g n m f W) {k : Nat} (hk : k < m) : W.cell? ⟨g, k, none⟩ = some (.int .i64 (f + k)) := by
  obtain ⟨cs, h1, h2, _, h3⟩ := h
  rw [h1.cell, h3 k hk]
theorem NumR.any {B g n m : Nat} {f : Int} {W : World} (h : NumR B g n m f W) {k : Nat} (hk : k < n) : ∃ u, W.cell? ⟨g, k, none⟩ = some u := by
  obtain ⟨cs, h1, h2, _, h3⟩ := h
  exact ⟨cs[k]'(by omega), by rw [h1.cell]; simp [h2, hk]⟩
theorem NumR.below {B g n m : Nat} {f : Int} {W W' : World} (h : NumR B g n m f W) (hb : Below W.heap.size W W') : NumR B g n m f W' := by
  obtain ⟨cs, h1, h2⟩ := h
  exact ⟨cs, h1.below hb, h2⟩
theorem NumR.ge {B g n m : Nat} {f : Int} {W : World} (h : NumR B g n m f W) : B ≤ g := by
  obtain ⟨cs, _, _, h2, _⟩ := h
  exact h2
theorem wat_range (s : Sh) (t : Int) (ht : t < -1152921504606846976 ∨ 1152921504606846976 < t) (w : World) : Calls Try.prog 15 #[shv s, .int .i64 t] w fun e w' => e = .returned (.tuple #[.slice none 0 0, .int .i64 2]) ∧ Below w.heap.size w w' := by
  rcases ht with ht | ht
  · go_enter Try.func15, Try.ntmps15
    go_wp2
    go_ret2
    exact ⟨rfl, (by first | assumption | exact bl1 _ _ | exact Rcv.b (by assumption) | exact Rcv.b (rcv0 _ _ _) | exact bl2 (by assumption) _ | exact bl2 (Rcv.b (by assumption)) _ | exact Below.refl _ _ | exact bl2 (bl1 _ _) _)⟩
  · have h2 : ¬ t < -1152921504606846976 := by omega
    go_enter Try.func15, Try.ntmps15
    go_wp2
    go_ret2
    exact ⟨rfl, (by first | assumption | exact bl1 _ _ | exact Rcv.b (by assumption) | exact Rcv.b (rcv0 _ _ _) | exact bl2 (by assumption) _ | exact bl2 (Rcv.b (by assumption)) _ | exact Below.refl _ _ | exact bl2 (bl1 _ _) _)⟩
theorem wat_many {s : Sh} (h : s.ok) (t : Int) (t0 : -1152921504606846976 ≤ t) (t1 : t ≤ 1152921504606846976) (hm : 64 < s.mny t) (w : World) : Calls Try.prog 15 #[shv s, .int .i64 t] w fun e w' => e = .returned (.tuple #[.slice none 0 0, .int .i64 13]) ∧ Below w.heap.size w w' := by
  have cM := fun {W} (hR : Rcv w (shc s) 25 W) => upR hR (wmany_any h t W)
  have h1 : ¬ t < -1152921504606846976 := by omega
  have h2 : ¬ 1152921504606846976 < t := by omega
  clear h t0 t1
  generalize s.mny t = m at *
  obtain ⟨W, S, B⟩ := s
  go_enter Try.func15, Try.ntmps15
  go_wp2_with (go_at_call 16; (with_reducible refine (cM (by first | assumption | exact rcv0 _ _ _ | exact Rcv.alloc (by assumption) _ | exact Rcv.drew (by assumption) | exact Rcv.drew (rcv0 _ _ _) | exact (rcv0 _ _ _).alloc _ | exact Rcv.drew ((rcv0 _ _ _).alloc _) | exact Rcv.drew (Rcv.alloc (by assumption) _))).mono ?_); rintro e w' ⟨rfl, hR, -⟩)
  go_ret2
  exact ⟨rfl, (by first | assumption | exact bl1 _ _ | exact Rcv.b (by assumption) | exact Rcv.b (rcv0 _ _ _) | exact bl2 (by assumption) _ | exact bl2 (Rcv.b (by assumption)) _ | exact Below.refl _ _ | exact bl2 (bl1 _ _) _)⟩
/-- What At answers. -/
def AtPost (W : World) (n : Nat) (f : Int) (e : Ending) (w' : World) : Prop := ∃ g, e = .returned (.tuple #[.slice (some ⟨g, 0, none⟩) n n, .int .i64 0]) ∧ NumR W.heap.size g n n f w' ∧ Below W.heap.size W w'
/-- A round of At. -/
structure AtR (w : World) (cs : Array Value) (g n m : Nat) (f : Int) (W : World) : Prop where
  r : Rcv w cs 25 W
  n : NumR (w.heap.size + 1) g n m f W
theorem AtR.below {w W W' : World} {cs : Array Value} {g n m : Nat} {f : Int} (h : AtR w cs g n m f W) (hb : Below W.heap.size W W') : AtR w cs g n m f W' := ⟨h.r.below hb, h.n.below hb⟩
theorem AtR.put {w W : World} {cs : Array Value} {g n m : Nat} {f : Int} (h : AtR w cs g n m f W) (hm : m < n) : AtR w cs g n (m + 1) f (W.setCell ⟨g, m, none⟩ (.int .i64 (f + m))) :=
  ⟨⟨h.r.b.setCell (by have := h.n.ge; show _ ≤ g; omega) _, h.r.st.far _ _ (by have := h.n.ge; omega)⟩, h.n.put hm⟩
theorem NumR.wide {B B' g n m : Nat} {f : Int} {W : World} (h : NumR B g n m f W) (hb : B' ≤ B) : NumR B' g n m f W := by
  obtain ⟨cs, h1, h2, h3, h4⟩ := h
  exact ⟨cs, h1, h2, Nat.le_trans hb h3, h4⟩
theorem atR0 {w W : World} {cs : Array Value} (h : Rcv w cs 25 W) (n : Nat) (f : Int) : AtR w cs W.heap.size n 0 f (W.alloc (.cells (madeCells #[.int .i64 0] n) 3)) := by
  refine ⟨h.alloc _, ?_⟩
  obtain ⟨cs', h1, h2, _, h3⟩ := NumR.start W n f _ rfl
  exact ⟨cs', h1, h2, h.st.lt, h3⟩
theorem upA {w W : World} {f : FuncId} {args : Array Value} {r : Ending} {a b c : Value} {g n m : Nat} {f0 : Int} (hR : AtR w #[a, b, c] g n m f0 W) (h : Calls Try.prog f args W fun e w' => e = r ∧ Below W.heap.size W w') : Calls Try.prog f args W fun e w' => e = r ∧ AtR w #[a, b, c] g n m f0 w' :=
  h.mono fun e w' ⟨h1, h2⟩ => ⟨h1, hR.below h2⟩
def AtRel (w : World) (cs : Array Value) (n : Nat) (f : Int) (g0 : Nat) (gk : Nat) (s26 : Value) (wr : World) : Prop := ∃ m : Nat, m + gk = n ∧ s26 = .int .i64 m ∧ AtR w cs g0 n m f wr
theorem wat_ok {s : Sh} (h : s.ok) (t : Int) (t0 : -1152921504606846976 ≤ t) (t1 : t ≤ 1152921504606846976) (n : Nat) (hn : s.mny t = n) (hm : n ≤ 64) (w : World) : Calls Try.prog 15 #[shv s, .int .i64 t] w (AtPost w n (s.fst t)) := by
  have cM := fun {W} (hR : Rcv w (shc s) 25 W) => upR hR (wmany_any h t W)
  have cF := fun W => wfirst_any h t W
  have h1 : ¬ t < -1152921504606846976 := by omega
  have h2 : ¬ 1152921504606846976 < t := by omega
  have h3 : ¬ (64 : Int) < n := by omega
  have f0 := s.fst_nn t
  have f1 := Sh.fst_high h t
  simp only [hn] at cM
  clear h t0 t1 hn
  generalize s.fst t = f at *
  have hmk := mk_ints n (by omega)
  have HN := Lib.hid hm
  have HF0 := Lib.hid f0
  have HF1 := Lib.hid f1
  clear hm f0 f1
  obtain ⟨W, S, B⟩ := s
  go_enter Try.func15, Try.ntmps15
  go_wp2_with (go_at_call 16; (with_reducible refine (cM (by first | assumption | exact rcv0 _ _ _ | exact Rcv.alloc (by assumption) _ | exact Rcv.drew (by assumption) | exact Rcv.drew (rcv0 _ _ _) | exact (rcv0 _ _ _).alloc _ | exact Rcv.drew ((rcv0 _ _ _).alloc _) | exact Rcv.drew (Rcv.alloc (by assumption) _))).mono ?_); rintro e w' ⟨rfl, hR, c0, c1, c2⟩)
  clear cM
  go_loopg [26] n (fun gk s26 wr => AtRel w (shc ⟨W, S, B⟩) n f w'.heap.size gk s26 wr)
  case atStart => exact ⟨0, by omega, rfl, atR0 hR n f⟩
  case round =>
    obtain ⟨m, hmn, rfl, hA⟩ := hrel
    by_cases hlt : m < n
    · have t1 : (m : Int) < n := by omega
      have cF2 := upA hA (cF wr)
      obtain ⟨x0, x1, x2⟩ := Rcv.c3 hA.r
      have e1 : IntKind.i64.wrap (f + m) = f + m := wrap_fit (by have := HF0.out; omega) (by have := HF1.out; have := HN.out; omega)
      have e2 : IntKind.i64.wrap ((m : Int) + 1) = (m : Int) + 1 := wrap_fit (by omega) (by have := HN.out; omega)
      have E1 := Lib.hid e1
      have E2 := Lib.hid e2
      have HL := Lib.hid hlt
      have HMN := Lib.hid hmn
      clear hA hR c0 c1 c2 hmn hlt cF
      go_wp2_with (go_at_call 13; (with_reducible refine cF2.mono ?_); rintro e w5 ⟨rfl, hA5⟩; obtain ⟨u, y0⟩ := hA5.n.any HL.out; have y1 := hA5.n.free m; have HA5 := Lib.hid hA5)
      go_roundg (gk - 1)
      case measure => have := HMN.out; have := HL.out; omega
      case rel => exact ⟨m + 1, by have := HMN.out; have := HL.out; omega, by rfl, HA5.out.put HL.out⟩
    · have t1 : ¬ (m : Int) < n := by omega
      obtain rfl : m = n := by omega
      have HA := Lib.hid hA
      clear hA hR c0 c1 c2 hlt
      go_wp2
      go_ret2
      exact ⟨_, rfl, HA.out.n.wide (by omega), HA.out.r.b⟩
/-- The statements' shape. -/
def shOf (a b c : Int) : Sh := ⟨1 + a % 1099511627776, 1 + b % 1099511627776, c % 18446744073709551616 % 2199023255553 - 1099511627776⟩
theorem shOf_ok (a b c : Int) : (shOf a b c).ok := by
  unfold shOf
  constructor <;> simp only <;> omega
abbrev a3 (a b c : Int) : Value := .agg #[.int .i64 a, .int .i64 b, .int .i64 c]
theorem wshape_any (a b c : Int) (w : World) : Calls Try.prog 11 #[a3 a b c] w fun e w' => e = .returned (shv (shOf a b c)) ∧ Below w.heap.size w w' := by
  have e0 : wrap64 (1 + wrap64 ((IntKind.u64.wrap a).tmod 1099511627776)) = (shOf a b c).w := by
    rw [IntKind.wrap_u64, Int.tmod_eq_emod_of_nonneg (by omega), wrap64_fit (z := _ % _) (by omega) (by omega), wrap64_fit (by omega) (by omega)]
    show _ = 1 + a % 1099511627776
    omega
  have e1 : wrap64 (1 + wrap64 ((IntKind.u64.wrap b).tmod 1099511627776)) = (shOf a b c).sl := by
    rw [IntKind.wrap_u64, Int.tmod_eq_emod_of_nonneg (by omega), wrap64_fit (z := _ % _) (by omega) (by omega), wrap64_fit (by omega) (by omega)]
    show _ = 1 + b % 1099511627776
    omega
  have e2 : wrap64 (wrap64 ((IntKind.u64.wrap c).tmod 2199023255553) - 1099511627776) = (shOf a b c).b := by
    rw [IntKind.wrap_u64, Int.tmod_eq_emod_of_nonneg (by omega), wrap64_fit (z := _ % _) (by omega) (by omega), wrap64_fit (by omega) (by omega)]
    rfl
  have E0 := Lib.hid e0
  have E1 := Lib.hid e1
  have E2 := Lib.hid e2
  clear e0 e1 e2
  go_enter Try.func11, Try.ntmps11
  go_wp2
  exact bodyPost_ret (v := shv (shOf a b c)) (by simp [results, Try.results11, go_sem, E0.out, E1.out, E2.out]) rfl ⟨rfl, bl2 (bl1 _ _) _⟩
theorem wheld_any (t : Int) (w : World) : Calls Try.prog 12 #[.int .i64 t] w fun e w' => e = .returned (.int .i64 (cl t)) ∧ Below w.heap.size w w' := by
  rcases Int.lt_or_le 2305843009213693952 t with h1 | h1
  · go_enter Try.func12, Try.ntmps12
    go_wp2
    all_goals
      go_ret
      exact ⟨ret_int (by unfold cl; omega), (by first | assumption | exact bl1 _ _ | exact Rcv.b (by assumption) | exact Rcv.b (rcv0 _ _ _) | exact bl2 (by assumption) _ | exact bl2 (Rcv.b (by assumption)) _ | exact Below.refl _ _ | exact bl2 (bl1 _ _) _)⟩
  · have n1 : ¬ 2305843009213693952 < t := by omega
    rcases Int.lt_or_le t (-2305843009213693952) with h2 | h2
    · go_enter Try.func12, Try.ntmps12
      go_wp2
      all_goals
        go_ret
        exact ⟨ret_int (by unfold cl; omega), (by first | assumption | exact bl1 _ _ | exact Rcv.b (by assumption) | exact Rcv.b (rcv0 _ _ _) | exact bl2 (by assumption) _ | exact bl2 (Rcv.b (by assumption)) _ | exact Below.refl _ _ | exact bl2 (bl1 _ _) _)⟩
    · have n2 : ¬ t < -2305843009213693952 := by omega
      go_enter Try.func12, Try.ntmps12
      go_wp2
      all_goals
        go_ret
        exact ⟨ret_int (by unfold cl; omega), (by first | assumption | exact bl1 _ _ | exact Rcv.b (by assumption) | exact Rcv.b (rcv0 _ _ _) | exact bl2 (by assumption) _ | exact bl2 (Rcv.b (by assumption)) _ | exact Below.refl _ _ | exact bl2 (bl1 _ _) _)⟩
end Go.Proofs.Ytpmimmbheieobaa
