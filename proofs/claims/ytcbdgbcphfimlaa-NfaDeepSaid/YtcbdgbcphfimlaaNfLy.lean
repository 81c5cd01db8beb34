/-
  What lay leaves of a path of one part within another; again.
-/
import Derived.Test.YtcbdgbcphfimlaaNfLo
import Derived.Handy
namespace Go.Proofs.Ytcbdgbcphfimlaa
open Go.RowKit
set_option linter.unusedVariables false
set_option linter.unusedSimpArgs false
set_option maxRecDepth 100000

/-- The machine's two states, and what is laid. -/
structure Ly (B d : Nat) (N : Int) (lp : Bool) (f l : Value) (W : World) : Prop where
  st : ∃ g c cs m1, Fb W d 67 #[.slice (some ⟨g, 0, none⟩) 2 c] ∧ Fb W g 74 cs ∧ B ≤ g ∧ cs[0]? = some (.slice none 0 0) ∧ cs[1]? = some (.bool false) ∧ cs[2]? = some m1 ∧ cs[3]? = some (.bool false) ∧
    (lp = false → m1 = .slice none 0 0) ∧ (lp = true → ∃ g1 c1, m1 = .slice (some ⟨g1, 0, none⟩) 1 c1 ∧ Mv1 W g1 c1 N)
  fi : ∃ k ck, f = .slice (some ⟨k, 0, none⟩) 1 ck ∧ Mv1 W k ck N
  la : W.ownsRow B 3 1 l 1 [.int .i64 1]
  hd : B ≤ d
theorem own_below {B : Nat} {W W' : World} {e : TypeId} {size n : Nat} {v : Value} {xs : List Value} (h : W.ownsRow B e size v n xs) (hk : ∀ k cs, Fb W k e cs → Fb W' k e cs) : W'.ownsRow B e size v n xs := by
  rcases id h.2 with ⟨hv, h0⟩ | ⟨g, cap, cur, hv, hB, hg, hr⟩
  · exact ⟨h.1, .inl ⟨hv, h0⟩⟩
  · exact ⟨h.1, .inr ⟨g, cap, cur, hv, hB, hk g cur hg, hr⟩⟩
theorem Mv1.kp {B : Nat} {W W' : World} {g c : Nat} {N : Int} (h : Mv1 W g c N) (hk : Kp B W W') : Mv1 W' g c N := by
  obtain ⟨cs, hf⟩ := h.f
  have := hk.k g 85 cs hf (by decide) (by decide)
  exact h.of (this.trans hf.symm)
theorem Ly.below {B d : Nat} {N : Int} {lp : Bool} {f l : Value} {W W' : World} (h : Ly B d N lp f l W) (hb : Below W.heap.size W W') : Ly B d N lp f l W' := by
  obtain ⟨⟨g, c, cs, m1, h1, h2, h3, h4, h5, h6, h7, h8, h9⟩, ⟨k, ck, hf, hm⟩, hl, hd⟩ := h
  exact ⟨⟨g, c, cs, m1, h1.below hb, h2.below hb, h3, h4, h5, h6, h7, h8, fun e => by obtain ⟨g1, c1, e1, hm⟩ := h9 e; exact ⟨g1, c1, e1, hm.below hb⟩⟩, ⟨k, ck, hf, hm.below hb⟩, own_below hl fun k cs hk => hk.below hb, hd⟩
/-- The second state's move, as lead gives it. -/
theorem Ly.lead {B d : Nat} {N : Int} {lp : Bool} {f l : Value} {W : World} (h : Ly B d N lp f l W) (hB : B ≤ W.heap.size) :
    Calls Try.prog 32 #[.pointer (some ⟨d, 0, none⟩), l, f] W fun e w' => e = .returned (.tuple #[]) ∧ Ly B d N true f l w' ∧ Kp B W w' := by
  obtain ⟨⟨g, c, cs, m1, h1, h2, h3, h4, h5, h6, h7, h8, h9⟩, ⟨k, ck, rfl, hm⟩, hl, hd⟩ := id h
  obtain ⟨gs, cf, rfl, _, _, _, hc⟩ := own_at hl (by omega)
  have hc0 := hc 0 _ rfl
  cases lp with
  | false =>
    obtain rfl := h8 rfl
    refine (lead_new (i := 1) (cf := cf) h1 h2 (by omega) h6 hc0 hm h3).mono ?_
    rintro e w' ⟨rfl, g2, c2, q1, q2, q3, q4⟩
    refine ⟨rfl, ⟨⟨g, c, _, .slice (some ⟨g2, 0, none⟩) 1 c2, q2, q3, h3, ?_, ?_, ?_, ?_, (fun e => by cases e), fun _ => ⟨g2, c2, rfl, q1⟩⟩, ⟨k, ck, rfl, hm.kp q4⟩, own_below hl (fun k cs hk => q4.k k _ _ hk (by decide) (by decide)), hd⟩, q4⟩
    · rw [Array.getElem?_setIfInBounds_ne (by omega)]; exact h4
    · rw [Array.getElem?_setIfInBounds_ne (by omega)]; exact h5
    · have hsz : 2 < cs.size := (Array.getElem?_eq_some_iff.1 h6).1
      simp [Array.getElem?_setIfInBounds, hsz]
    · rw [Array.getElem?_setIfInBounds_ne (by omega)]; exact h7
  | true =>
    obtain ⟨g1, c1, rfl, hm1⟩ := h9 rfl
    refine (lead_old (i := 1) (cf := cf) (h1.cell 0) (by omega) ((h2.cell 2).trans h6) hc0 hm hm1).mono ?_
    rintro e w' ⟨rfl, hb⟩
    exact ⟨rfl, h.below hb, Kp.below hb hB⟩
theorem Kp.set {B : Nat} {W w : World} (h : Kp B W w) (hB : B ≤ W.heap.size) {x : Nat} (hx : W.heap.size ≤ x) (i : Nat) (v : Value) : Kp B W (w.setCell ⟨x, i, none⟩ v) :=
  ⟨h.b.setCell (Nat.le_trans hB hx) _, fun g t cs hf h1 h2 => (h.k g t cs hf h1 h2).far _ _ (by have := hf.lt; omega)⟩
theorem Ly.set {B d : Nat} {N : Int} {lp : Bool} {f l : Value} {W : World} (h : Ly B d N lp f l W) {x : Nat} {cs : Array Value} (hx : Fb W x 70 cs) (i : Nat) (v : Value) : Ly B d N lp f l (W.setCell ⟨x, i, none⟩ v) := by
  have key : ∀ g t cs', Fb W g t cs' → t ≠ 70 → Fb (W.setCell ⟨x, i, none⟩ v) g t cs' := fun g t cs' hf ht => hf.far _ _ (hf.neT hx ht)
  have km : ∀ g c, Mv1 W g c N → Mv1 (W.setCell ⟨x, i, none⟩ v) g c N := fun g c hm => by
    obtain ⟨cs', hf⟩ := hm.f
    exact hm.of (heap_setCell_other _ _ _ _ (hf.neT hx (by decide)))
  obtain ⟨⟨g, c, cs, m1, h1, h2, h3, h4, h5, h6, h7, h8, h9⟩, ⟨k, ck, hf, hm⟩, hl, hd⟩ := h
  exact ⟨⟨g, c, cs, m1, key _ _ _ h1 (by decide), key _ _ _ h2 (by decide), h3, h4, h5, h6, h7, h8, fun e => by obtain ⟨g1, c1, e1, hm⟩ := h9 e; exact ⟨g1, c1, e1, km _ _ hm⟩⟩, ⟨k, ck, hf, km _ _ hm⟩, own_below hl fun k cs hk => key _ _ _ hk (by decide), hd⟩
theorem laidInfo : (Try.prog.info? 70).map (·.size) = some (#[Value.bool true, .bool true, .bool true] : Array Value).size := by kernel_rfl
def AgQ (B d : Nat) (N : Int) (lp : Bool) (f l : Value) (em : Bool) (W : World) (e : Ending) (w' : World) : Prop := e = .returned (.agg #[f, l, .bool em]) ∧ Ly B d N lp f l w' ∧ Kp B W w'
set_option maxHeartbeats 16000000 in
theorem again_any {B d : Nat} {N k : Int} {lp em : Bool} {f l : Value} {W : World} (h : Ly B d N lp f l W) (hB : B ≤ W.heap.size) (hk : k = 4 ∨ k = 5 ∨ k = 6) :
    Calls Try.prog 52 #[.pointer (some ⟨d, 0, none⟩), .int .i64 k, .agg #[f, l, .bool em]] W (AgQ B d N (if k = 6 then lp else true) f l (if k = 5 then em else true) W) := by
  obtain ⟨k0, ck, hf, _⟩ := id h.fi
  obtain ⟨gs, cf, hl, _⟩ := own_at h.la (by omega)
  subst hf hl
  obtain ⟨W1, hW1⟩ : ∃ W1, W1 = (W.alloc (.cells #[.slice (some ⟨k0, 0, none⟩) 1 ck, .slice (some ⟨gs, 0, none⟩) 1 cf, .bool em] 70)).alloc (.cells #[.slice none 0 0, .slice none 0 0, .bool false] 70) := ⟨_, rfl⟩
  have hb1 : Below W.heap.size W W1 := by rw [hW1]; exact ((Below.refl _ _).alloc (Nat.le_refl _) _).alloc (by simp) _
  have hX : Fb W1 W.heap.size 70 #[.slice (some ⟨k0, 0, none⟩) 1 ck, .slice (some ⟨gs, 0, none⟩) 1 cf, .bool em] := by rw [hW1]; exact (Fb.new W _ _).alloc _
  have hY : Fb W1 (W.heap.size + 1) 70 #[.slice none 0 0, .slice none 0 0, .bool false] := by
    have := Fb.new (W.alloc (.cells #[.slice (some ⟨k0, 0, none⟩) 1 ck, .slice (some ⟨gs, 0, none⟩) 1 cf, .bool em] 70)) 70 #[.slice none 0 0, .slice none 0 0, .bool false]
    rw [World.size_alloc] at this
    rw [hW1]; exact this
  have h1 := h.below hb1
  have HL1 := Lib.hid h1
  have HB1 := Lib.hid hb1
  have HX := Lib.hid hX
  have HY := Lib.hid hY
  have x0 := hX.cell 0
  have x1 := hX.cell 1
  have x2 := hX.cell 2
  have cL := h1.lead (Nat.le_trans hB hb1.size)
  have HBB := Lib.hid hB
  have HL0 := Lib.hid h
  clear h hB h1 hb1 hX hY
  subst hW1
  rcases hk with rfl | rfl | rfl
  · rw [if_neg (by decide), if_neg (by decide)]
    cases em with
    | false =>
      go_enter Try.func52, Try.ntmps52
      go_wp2_with (go_at_call 32; (with_reducible refine cL.mono ?_); rintro e w5 ⟨rfl, hl5, hk5⟩; have hx5 := hk5.k _ _ _ HX.out (by decide) (by decide); have hy5 := hk5.k _ _ _ HY.out (by decide) (by decide); have r0 := hx5.cell 0; have r1 := hx5.cell 1; have r2 := hx5.cell 2; have rf := hx5.free 2; have t0 := hy5.cell 0; have t1 := hy5.cell 1; have t2 := hy5.cell 2; have u0 := hy5.free 0; have u1 := hy5.free 1; have u2 := hy5.free 2; have HL5 := Lib.hid hl5; have HK5 := Lib.hid hk5; have HX5 := Lib.hid hx5; have HY5 := Lib.hid hy5; clear hl5 hk5 hx5 hy5)
      have hY9 : Fb ((((w5.setCell ⟨W.heap.size, 2, none⟩ (.bool true)).setCell ⟨W.heap.size + 1, 0, none⟩ (.slice (some ⟨k0, 0, none⟩) 1 ck)).setCell ⟨W.heap.size + 1, 1, none⟩ (.slice (some ⟨gs, 0, none⟩) 1 cf)).setCell ⟨W.heap.size + 1, 2, none⟩ (.bool true)) (W.heap.size + 1) 70 #[.slice (some ⟨k0, 0, none⟩) 1 ck, .slice (some ⟨gs, 0, none⟩) 1 cf, .bool true] := (((HY5.out.far _ _ (by omega)).set 0 _).set 1 _).set 2 _
      have hL9 : Ly B d N true (.slice (some ⟨k0, 0, none⟩) 1 ck) (.slice (some ⟨gs, 0, none⟩) 1 cf) ((((w5.setCell ⟨W.heap.size, 2, none⟩ (.bool true)).setCell ⟨W.heap.size + 1, 0, none⟩ (.slice (some ⟨k0, 0, none⟩) 1 ck)).setCell ⟨W.heap.size + 1, 1, none⟩ (.slice (some ⟨gs, 0, none⟩) 1 cf)).setCell ⟨W.heap.size + 1, 2, none⟩ (.bool true)) := (((HL5.out.set HX5.out 2 _).set (HY5.out.far _ _ (by omega)) 0 _).set ((HY5.out.far _ _ (by omega)).set 0 _) 1 _).set (((HY5.out.far _ _ (by omega)).set 0 _).set 1 _) 2 _
      have hK9 : Kp B W ((((w5.setCell ⟨W.heap.size, 2, none⟩ (.bool true)).setCell ⟨W.heap.size + 1, 0, none⟩ (.slice (some ⟨k0, 0, none⟩) 1 ck)).setCell ⟨W.heap.size + 1, 1, none⟩ (.slice (some ⟨gs, 0, none⟩) 1 cf)).setCell ⟨W.heap.size + 1, 2, none⟩ (.bool true)) := (((((Kp.below HB1.out HBB.out).trans HK5.out).set HBB.out (Nat.le_refl _) 2 _).set HBB.out (Nat.le_succ _) 0 _).set HBB.out (Nat.le_succ _) 1 _).set HBB.out (Nat.le_succ _) 2 _
      obtain ⟨W9, hW9⟩ : ∃ W9, W9 = ((((w5.setCell ⟨W.heap.size, 2, none⟩ (.bool true)).setCell ⟨W.heap.size + 1, 0, none⟩ (.slice (some ⟨k0, 0, none⟩) 1 ck)).setCell ⟨W.heap.size + 1, 1, none⟩ (.slice (some ⟨gs, 0, none⟩) 1 cf)).setCell ⟨W.heap.size + 1, 2, none⟩ (.bool true)) := ⟨_, rfl⟩
      rw [← hW9] at hY9 hL9 hK9
      rw [← hW9]
      have v0 := hY9.cell 0
      have v1 := hY9.cell 1
      have v2 := hY9.cell 2
      clear hW9
      try simp only [Exit.inBlock, Exit.then]
      refine bodyPost_ret (results_cell_row (P := Try.prog) rfl _ W9 (W.heap.size + 1) 70 _ (0, 0) _ rfl hY9 Try.underlying70 rfl (by kernel_rfl)) rfl ?_
      exact ⟨rfl, hL9, hK9⟩
    | true =>
      go_enter Try.func52, Try.ntmps52
      go_wp2_with (go_at_call 32; (with_reducible refine cL.mono ?_); rintro e w5 ⟨rfl, hl5, hk5⟩; have hx5 := hk5.k _ _ _ HX.out (by decide) (by decide); have hy5 := hk5.k _ _ _ HY.out (by decide) (by decide); have r0 := hx5.cell 0; have r1 := hx5.cell 1; have r2 := hx5.cell 2; have rf := hx5.free 2; have t0 := hy5.cell 0; have t1 := hy5.cell 1; have t2 := hy5.cell 2; have u0 := hy5.free 0; have u1 := hy5.free 1; have u2 := hy5.free 2; have HL5 := Lib.hid hl5; have HK5 := Lib.hid hk5; have HX5 := Lib.hid hx5; have HY5 := Lib.hid hy5; clear hl5 hk5 hx5 hy5)
      have hY9 : Fb ((((w5.setCell ⟨W.heap.size, 2, none⟩ (.bool true)).setCell ⟨W.heap.size + 1, 0, none⟩ (.slice (some ⟨k0, 0, none⟩) 1 ck)).setCell ⟨W.heap.size + 1, 1, none⟩ (.slice (some ⟨gs, 0, none⟩) 1 cf)).setCell ⟨W.heap.size + 1, 2, none⟩ (.bool true)) (W.heap.size + 1) 70 #[.slice (some ⟨k0, 0, none⟩) 1 ck, .slice (some ⟨gs, 0, none⟩) 1 cf, .bool true] := (((HY5.out.far _ _ (by omega)).set 0 _).set 1 _).set 2 _
      have hL9 : Ly B d N true (.slice (some ⟨k0, 0, none⟩) 1 ck) (.slice (some ⟨gs, 0, none⟩) 1 cf) ((((w5.setCell ⟨W.heap.size, 2, none⟩ (.bool true)).setCell ⟨W.heap.size + 1, 0, none⟩ (.slice (some ⟨k0, 0, none⟩) 1 ck)).setCell ⟨W.heap.size + 1, 1, none⟩ (.slice (some ⟨gs, 0, none⟩) 1 cf)).setCell ⟨W.heap.size + 1, 2, none⟩ (.bool true)) := (((HL5.out.set HX5.out 2 _).set (HY5.out.far _ _ (by omega)) 0 _).set ((HY5.out.far _ _ (by omega)).set 0 _) 1 _).set (((HY5.out.far _ _ (by omega)).set 0 _).set 1 _) 2 _
      have hK9 : Kp B W ((((w5.setCell ⟨W.heap.size, 2, none⟩ (.bool true)).setCell ⟨W.heap.size + 1, 0, none⟩ (.slice (some ⟨k0, 0, none⟩) 1 ck)).setCell ⟨W.heap.size + 1, 1, none⟩ (.slice (some ⟨gs, 0, none⟩) 1 cf)).setCell ⟨W.heap.size + 1, 2, none⟩ (.bool true)) := (((((Kp.below HB1.out HBB.out).trans HK5.out).set HBB.out (Nat.le_refl _) 2 _).set HBB.out (Nat.le_succ _) 0 _).set HBB.out (Nat.le_succ _) 1 _).set HBB.out (Nat.le_succ _) 2 _
      obtain ⟨W9, hW9⟩ : ∃ W9, W9 = ((((w5.setCell ⟨W.heap.size, 2, none⟩ (.bool true)).setCell ⟨W.heap.size + 1, 0, none⟩ (.slice (some ⟨k0, 0, none⟩) 1 ck)).setCell ⟨W.heap.size + 1, 1, none⟩ (.slice (some ⟨gs, 0, none⟩) 1 cf)).setCell ⟨W.heap.size + 1, 2, none⟩ (.bool true)) := ⟨_, rfl⟩
      rw [← hW9] at hY9 hL9 hK9
      rw [← hW9]
      have v0 := hY9.cell 0
      have v1 := hY9.cell 1
      have v2 := hY9.cell 2
      clear hW9
      try simp only [Exit.inBlock, Exit.then]
      refine bodyPost_ret (results_cell_row (P := Try.prog) rfl _ W9 (W.heap.size + 1) 70 _ (0, 0) _ rfl hY9 Try.underlying70 rfl (by kernel_rfl)) rfl ?_
      exact ⟨rfl, hL9, hK9⟩
  · rw [if_neg (by decide), if_pos rfl]
    cases em with
    | false =>
      go_enter Try.func52, Try.ntmps52
      go_wp2_with (go_at_call 32; (with_reducible refine cL.mono ?_); rintro e w5 ⟨rfl, hl5, hk5⟩; have hx5 := hk5.k _ _ _ HX.out (by decide) (by decide); have hy5 := hk5.k _ _ _ HY.out (by decide) (by decide); have r0 := hx5.cell 0; have r1 := hx5.cell 1; have r2 := hx5.cell 2; have rf := hx5.free 2; have t0 := hy5.cell 0; have t1 := hy5.cell 1; have t2 := hy5.cell 2; have u0 := hy5.free 0; have u1 := hy5.free 1; have u2 := hy5.free 2; have HL5 := Lib.hid hl5; have HK5 := Lib.hid hk5; have HX5 := Lib.hid hx5; have HY5 := Lib.hid hy5; clear hl5 hk5 hx5 hy5)
      have hY9 : Fb ((((w5.setCell ⟨W.heap.size, 2, none⟩ (.bool false)).setCell ⟨W.heap.size + 1, 0, none⟩ (.slice (some ⟨k0, 0, none⟩) 1 ck)).setCell ⟨W.heap.size + 1, 1, none⟩ (.slice (some ⟨gs, 0, none⟩) 1 cf)).setCell ⟨W.heap.size + 1, 2, none⟩ (.bool false)) (W.heap.size + 1) 70 #[.slice (some ⟨k0, 0, none⟩) 1 ck, .slice (some ⟨gs, 0, none⟩) 1 cf, .bool false] := (((HY5.out.far _ _ (by omega)).set 0 _).set 1 _).set 2 _
      have hL9 : Ly B d N true (.slice (some ⟨k0, 0, none⟩) 1 ck) (.slice (some ⟨gs, 0, none⟩) 1 cf) ((((w5.setCell ⟨W.heap.size, 2, none⟩ (.bool false)).setCell ⟨W.heap.size + 1, 0, none⟩ (.slice (some ⟨k0, 0, none⟩) 1 ck)).setCell ⟨W.heap.size + 1, 1, none⟩ (.slice (some ⟨gs, 0, none⟩) 1 cf)).setCell ⟨W.heap.size + 1, 2, none⟩ (.bool false)) := (((HL5.out.set HX5.out 2 _).set (HY5.out.far _ _ (by omega)) 0 _).set ((HY5.out.far _ _ (by omega)).set 0 _) 1 _).set (((HY5.out.far _ _ (by omega)).set 0 _).set 1 _) 2 _
      have hK9 : Kp B W ((((w5.setCell ⟨W.heap.size, 2, none⟩ (.bool false)).setCell ⟨W.heap.size + 1, 0, none⟩ (.slice (some ⟨k0, 0, none⟩) 1 ck)).setCell ⟨W.heap.size + 1, 1, none⟩ (.slice (some ⟨gs, 0, none⟩) 1 cf)).setCell ⟨W.heap.size + 1, 2, none⟩ (.bool false)) := (((((Kp.below HB1.out HBB.out).trans HK5.out).set HBB.out (Nat.le_refl _) 2 _).set HBB.out (Nat.le_succ _) 0 _).set HBB.out (Nat.le_succ _) 1 _).set HBB.out (Nat.le_succ _) 2 _
      obtain ⟨W9, hW9⟩ : ∃ W9, W9 = ((((w5.setCell ⟨W.heap.size, 2, none⟩ (.bool false)).setCell ⟨W.heap.size + 1, 0, none⟩ (.slice (some ⟨k0, 0, none⟩) 1 ck)).setCell ⟨W.heap.size + 1, 1, none⟩ (.slice (some ⟨gs, 0, none⟩) 1 cf)).setCell ⟨W.heap.size + 1, 2, none⟩ (.bool false)) := ⟨_, rfl⟩
      rw [← hW9] at hY9 hL9 hK9
      rw [← hW9]
      have v0 := hY9.cell 0
      have v1 := hY9.cell 1
      have v2 := hY9.cell 2
      clear hW9
      try simp only [Exit.inBlock, Exit.then]
      refine bodyPost_ret (results_cell_row (P := Try.prog) rfl _ W9 (W.heap.size + 1) 70 _ (0, 0) _ rfl hY9 Try.underlying70 rfl (by kernel_rfl)) rfl ?_
      exact ⟨rfl, hL9, hK9⟩
    | true =>
      go_enter Try.func52, Try.ntmps52
      go_wp2_with (go_at_call 32; (with_reducible refine cL.mono ?_); rintro e w5 ⟨rfl, hl5, hk5⟩; have hx5 := hk5.k _ _ _ HX.out (by decide) (by decide); have hy5 := hk5.k _ _ _ HY.out (by decide) (by decide); have r0 := hx5.cell 0; have r1 := hx5.cell 1; have r2 := hx5.cell 2; have rf := hx5.free 2; have t0 := hy5.cell 0; have t1 := hy5.cell 1; have t2 := hy5.cell 2; have u0 := hy5.free 0; have u1 := hy5.free 1; have u2 := hy5.free 2; have HL5 := Lib.hid hl5; have HK5 := Lib.hid hk5; have HX5 := Lib.hid hx5; have HY5 := Lib.hid hy5; clear hl5 hk5 hx5 hy5)
      have hY9 : Fb ((((w5.setCell ⟨W.heap.size, 2, none⟩ (.bool true)).setCell ⟨W.heap.size + 1, 0, none⟩ (.slice (some ⟨k0, 0, none⟩) 1 ck)).setCell ⟨W.heap.size + 1, 1, none⟩ (.slice (some ⟨gs, 0, none⟩) 1 cf)).setCell ⟨W.heap.size + 1, 2, none⟩ (.bool true)) (W.heap.size + 1) 70 #[.slice (some ⟨k0, 0, none⟩) 1 ck, .slice (some ⟨gs, 0, none⟩) 1 cf, .bool true] := (((HY5.out.far _ _ (by omega)).set 0 _).set 1 _).set 2 _
      have hL9 : Ly B d N true (.slice (some ⟨k0, 0, none⟩) 1 ck) (.slice (some ⟨gs, 0, none⟩) 1 cf) ((((w5.setCell ⟨W.heap.size, 2, none⟩ (.bool true)).setCell ⟨W.heap.size + 1, 0, none⟩ (.slice (some ⟨k0, 0, none⟩) 1 ck)).setCell ⟨W.heap.size + 1, 1, none⟩ (.slice (some ⟨gs, 0, none⟩) 1 cf)).setCell ⟨W.heap.size + 1, 2, none⟩ (.bool true)) := (((HL5.out.set HX5.out 2 _).set (HY5.out.far _ _ (by omega)) 0 _).set ((HY5.out.far _ _ (by omega)).set 0 _) 1 _).set (((HY5.out.far _ _ (by omega)).set 0 _).set 1 _) 2 _
      have hK9 : Kp B W ((((w5.setCell ⟨W.heap.size, 2, none⟩ (.bool true)).setCell ⟨W.heap.size + 1, 0, none⟩ (.slice (some ⟨k0, 0, none⟩) 1 ck)).setCell ⟨W.heap.size + 1, 1, none⟩ (.slice (some ⟨gs, 0, none⟩) 1 cf)).setCell ⟨W.heap.size + 1, 2, none⟩ (.bool true)) := (((((Kp.below HB1.out HBB.out).trans HK5.out).set HBB.out (Nat.le_refl _) 2 _).set HBB.out (Nat.le_succ _) 0 _).set HBB.out (Nat.le_succ _) 1 _).set HBB.out (Nat.le_succ _) 2 _
      obtain ⟨W9, hW9⟩ : ∃ W9, W9 = ((((w5.setCell ⟨W.heap.size, 2, none⟩ (.bool true)).setCell ⟨W.heap.size + 1, 0, none⟩ (.slice (some ⟨k0, 0, none⟩) 1 ck)).setCell ⟨W.heap.size + 1, 1, none⟩ (.slice (some ⟨gs, 0, none⟩) 1 cf)).setCell ⟨W.heap.size + 1, 2, none⟩ (.bool true)) := ⟨_, rfl⟩
      rw [← hW9] at hY9 hL9 hK9
      rw [← hW9]
      have v0 := hY9.cell 0
      have v1 := hY9.cell 1
      have v2 := hY9.cell 2
      clear hW9
      try simp only [Exit.inBlock, Exit.then]
      refine bodyPost_ret (results_cell_row (P := Try.prog) rfl _ W9 (W.heap.size + 1) 70 _ (0, 0) _ rfl hY9 Try.underlying70 rfl (by kernel_rfl)) rfl ?_
      exact ⟨rfl, hL9, hK9⟩
  · rw [if_pos rfl, if_neg (by decide)]
    have hY9 : Fb ((W.alloc (.cells #[.slice (some ⟨k0, 0, none⟩) 1 ck, .slice (some ⟨gs, 0, none⟩) 1 cf, .bool true] 70)).alloc (.cells #[.slice (some ⟨k0, 0, none⟩) 1 ck, .slice (some ⟨gs, 0, none⟩) 1 cf, .bool true] 70)) (W.heap.size + 1) 70 #[.slice (some ⟨k0, 0, none⟩) 1 ck, .slice (some ⟨gs, 0, none⟩) 1 cf, .bool true] := by
      have := Fb.new (W.alloc (.cells #[.slice (some ⟨k0, 0, none⟩) 1 ck, .slice (some ⟨gs, 0, none⟩) 1 cf, .bool true] 70)) 70 #[.slice (some ⟨k0, 0, none⟩) 1 ck, .slice (some ⟨gs, 0, none⟩) 1 cf, .bool true]
      rw [World.size_alloc] at this
      exact this
    have hb9 : Below W.heap.size W ((W.alloc (.cells #[.slice (some ⟨k0, 0, none⟩) 1 ck, .slice (some ⟨gs, 0, none⟩) 1 cf, .bool true] 70)).alloc (.cells #[.slice (some ⟨k0, 0, none⟩) 1 ck, .slice (some ⟨gs, 0, none⟩) 1 cf, .bool true] 70)) := ((Below.refl _ _).alloc (Nat.le_refl _) _).alloc (by simp) _
    have HY9 := Lib.hid hY9
    have HE9 := Lib.hid (And.intro (HL0.out.below hb9) (Kp.below hb9 HBB.out))
    clear hY9 hb9 cL x0 x1 x2
    cases em
    all_goals
      go_enter Try.func52, Try.ntmps52
      go_wp2
      try simp only [Exit.inBlock, Exit.then]
      refine bodyPost_ret (results_cell_row (P := Try.prog) rfl _ _ (W.heap.size + 1) 70 _ (0, 0) _ rfl HY9.out Try.underlying70 rfl (by kernel_rfl)) rfl ?_
      exact ⟨rfl, HE9.out.1, HE9.out.2⟩
end Go.Proofs.Ytcbdgbcphfimlaa
