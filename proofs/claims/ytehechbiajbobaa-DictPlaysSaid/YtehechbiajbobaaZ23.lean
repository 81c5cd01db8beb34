/-
  MERGED (a claim has at most 60 files): DKey.
-/
import Derived.Test.YtehechbiajbobaaZ22
import Derived.Test.YtehechbiajbobaaZ11
import Derived.Test.YtehechbiajbobaaZ15
import Derived.IntWalk
/-
  A DICTIONARY's CALL Key.
-/
namespace Go.Proofs.Ytehechbiajbobaa
open Go.RowKit
set_option linter.unusedVariables false
set_option linter.unusedSimpArgs false
set_option maxRecDepth 100000

theorem key_ne_dict : 53 ≠ 78 := by decide
theorem key_ne_term : 53 ≠ 41 := by decide
/-- A triple's key. -/
def key3 (room : Int) (L : List Tm) (a b c : Tm) : List Tm × (Int × Int × Int) × Int :=
  if (putG room L a).2.2 ≠ 0 then (L, (0, 0, 0), (putG room L a).2.2)
  else if (putG room (putG room L a).1 b).2.2 ≠ 0 then (L, (0, 0, 0), (putG room (putG room L a).1 b).2.2)
  else if (putG room (putG room (putG room L a).1 b).1 c).2.2 ≠ 0 then (L, (0, 0, 0), (putG room (putG room (putG room L a).1 b).1 c).2.2)
  else ((putG room (putG room (putG room L a).1 b).1 c).1, ((putG room L a).2.1, (putG room (putG room L a).1 b).2.1, (putG room (putG room (putG room L a).1 b).1 c).2.1), 0)
noncomputable def keyP (room : Int) (L : List Tm) (a b c : Tm) : List Tm × (Int × Int × Int) × Int := if okR a b c 0 = true then key3 room L a b c else (L, (0, 0, 0), 3)
theorem putG_more (room : Int) (L : List Tm) (t : Tm) : ∃ M, (putG room L t).1 = L ++ M := by
  unfold putG
  cases nm t L with
  | some j => exact ⟨[], by simp⟩
  | none =>
    dsimp only
    split
    · exact ⟨[], by simp⟩
    · exact ⟨[t], rfl⟩
section
variable {B d m : Nat} {room : Int} {v : Value} {L : List Tm}
/-- A block of another type is written. -/
theorem Dc.far {W W' : World} {g : Nat} {cs : Array Value} {ty : TypeId} {fr : Nat × Nat} (h : Dc B d m room v L W) (hb : W.heap[g]? = some (.cells cs ty fr)) (hg : W.grownBy W' (some g)) (h1 : ty ≠ 78) (h2 : ty ≠ 41) : Dc B d m room v L W' := by
  have hne : ∀ k cs' t fr', W.heap[k]? = some (.cells cs' t fr') → t ≠ ty → some k ≠ some g := fun k cs' t fr' hk ht e => by
    obtain rfl : k = g := Option.some.inj e
    rw [hk] at hb
    injection hb with hb
    injection hb with _ hb
    exact ht hb
  refine ⟨(hg.block d h.st.lt (hne d _ _ _ h.st h1.symm)).trans h.st, h.row.kept hg ?_, h.mp.of (hg.block m h.mp.lt (fun e => ?_)), h.gd, h.gm, h.ks, h.nd⟩
  · cases hv : v.ownBlock with
    | none => exact .inl rfl
    | some k =>
      right
      obtain ⟨cur, hc⟩ := h.row_block hv
      exact hne k _ _ _ hc h2.symm
  · obtain rfl : m = g := Option.some.inj e
    exact h.mp.ne hb rfl
/-- Between two terms that are put. -/
structure Kw (w0 : World) (B d m : Nat) (room : Int) (v0 : Value) (g4 g7 : Nat) (v : Value) (Li : List Tm) (ks : Array Value) (W : World) : Prop where
  dc : Dc B d m room v Li W
  tn : Tn d m v0 v w0 W
  b4 : Fb W g4 53 #[.int .i64 0, .int .i64 0, .int .i64 0]
  b7 : Fb W g7 53 ks
  n4 : w0.heap.size ≤ g4
  n7 : w0.heap.size ≤ g7
  ne : g4 ≠ g7
  bw : B ≤ w0.heap.size
variable {w0 : World} {v0 : Value} {g4 g7 : Nat} {Li : List Tm} {ks : Array Value}
theorem Kw.put {W W' : World} {v' : Value} {L' : List Tm} (h : Kw w0 B d m room v0 g4 g7 v Li ks W) (hd : Dc B d m room v' L' W') (ht : Tn d m v v' W W') : Kw w0 B d m room v0 g4 g7 v' L' ks W' :=
  ⟨hd, h.tn.trans ht, ht.fb h.dc h.b4 key_ne_dict key_ne_term, ht.fb h.dc h.b7 key_ne_dict key_ne_term, h.n4, h.n7, h.ne, h.bw⟩
theorem Tn.set {W : World} {g i : Nat} (h : Tn d m v0 v w0 W) (hg : w0.heap.size ≤ g) (x : Value) : Tn d m v0 v w0 (W.setCell ⟨g, i, none⟩ x) :=
  ⟨h.os, h.tape, h.output, by have := h.size; simpa [World.setCell] using this, h.far, fun k hk h1 h2 h3 => (Below.heap_setCell _ _ _ _ (by dsimp only; omega)).trans (h.block k hk h1 h2 h3)⟩
theorem Kw.set {W : World} (h : Kw w0 B d m room v0 g4 g7 v Li ks W) (i : Nat) (x : Value) : Kw w0 B d m room v0 g4 g7 v Li (ks.setIfInBounds i x) (W.setCell ⟨g7, i, none⟩ x) :=
  ⟨h.dc.far h.b7 (d_grown_set W g7 i x) key_ne_dict key_ne_term, h.tn.set h.n7 x, (Below.heap_setCell _ _ _ _ h.ne).trans h.b4, heap_setCell_same W g7 i _ _ _ h.b7, h.n4, h.n7, h.ne, h.bw⟩
theorem Dc.set3 {W : World} {g : Nat} {cs : Array Value} (h : Dc B d m room v L W) (hb : Fb W g 53 cs) (x y z : Value) : Dc B d m room v L (((W.setCell ⟨g, 0, none⟩ x).setCell ⟨g, 1, none⟩ y).setCell ⟨g, 2, none⟩ z) := by
  have b1 : Fb (W.setCell ⟨g, 0, none⟩ x) g 53 (cs.setIfInBounds 0 x) := heap_setCell_same W g 0 _ _ _ hb
  have b2 : Fb ((W.setCell ⟨g, 0, none⟩ x).setCell ⟨g, 1, none⟩ y) g 53 ((cs.setIfInBounds 0 x).setIfInBounds 1 y) := heap_setCell_same _ g 1 _ _ _ b1
  exact ((h.far hb (d_grown_set _ g 0 x) key_ne_dict key_ne_term).far b1 (d_grown_set _ g 1 y) key_ne_dict key_ne_term).far b2 (d_grown_set _ g 2 z) key_ne_dict key_ne_term
theorem Kw.fin {W : World} (h : Kw w0 B d m room v0 g4 g7 v Li ks W) (x y z : Value) : Dc B d m room v Li (((W.setCell ⟨g4, 0, none⟩ x).setCell ⟨g4, 1, none⟩ y).setCell ⟨g4, 2, none⟩ z) ∧ Tn d m v0 v w0 (((W.setCell ⟨g4, 0, none⟩ x).setCell ⟨g4, 1, none⟩ y).setCell ⟨g4, 2, none⟩ z) :=
  ⟨h.dc.set3 h.b4 x y z, ((h.tn.set h.n4 x).set h.n4 y).set h.n4 z⟩
theorem Kw.res {W : World} (h : Kw w0 B d m room v0 g4 g7 v Li ks W) : W.cell? ⟨g4, 0, none⟩ = some (.int .i64 0) ∧ W.cell? ⟨g4, 1, none⟩ = some (.int .i64 0) ∧ W.cell? ⟨g4, 2, none⟩ = some (.int .i64 0) ∧ W.frozen? ⟨g4, 0, none⟩ = false ∧ W.frozen? ⟨g4, 1, none⟩ = false ∧ W.frozen? ⟨g4, 2, none⟩ = false ∧ g4 < W.heap.size :=
  ⟨h.b4.cell 0, h.b4.cell 1, h.b4.cell 2, d_free h.b4 0, d_free h.b4 1, d_free h.b4 2, h.b4.lt⟩
theorem Kw.key {W : World} {x y z : Value} (h : Kw w0 B d m room v0 g4 g7 v Li #[x, y, z] W) : W.cell? ⟨g7, 0, none⟩ = some x ∧ W.cell? ⟨g7, 1, none⟩ = some y ∧ W.cell? ⟨g7, 2, none⟩ = some z ∧ W.frozen? ⟨g7, 0, none⟩ = false ∧ W.frozen? ⟨g7, 1, none⟩ = false ∧ W.frozen? ⟨g7, 2, none⟩ = false :=
  ⟨h.b7.cell 0, h.b7.cell 1, h.b7.cell 2, d_free h.b7 0, d_free h.b7 1, d_free h.b7 2⟩
/-- Key. -/
def KeyPost (B d m : Nat) (room : Int) (v : Value) (W : World) (r : List Tm × (Int × Int × Int) × Int) (e : Ending) (w' : World) : Prop :=
  ∃ v', e = .returned (.tuple #[.agg #[.int .i64 r.2.1.1, .int .i64 r.2.1.2.1, .int .i64 r.2.1.2.2], .int .i64 r.2.2]) ∧ Dc B d m room v' r.1 w' ∧ Tn d m v v' W w'
/-- A round of the loop: what was put so far. -/
def KyI (w0 : World) (B d m : Nat) (room : Int) (v0 : Value) (g4 g7 : Nat) (L0 L1 L2 L3 : List Tm) (n0 n1 n2 e0 e1 e2 : Int) (g : Nat) (s25 : Value) (wr : World) : Prop :=
  (g = 3 ∧ s25 = .int .i64 0 ∧ ∃ v, Kw w0 B d m room v0 g4 g7 v L0 #[.int .i64 0, .int .i64 0, .int .i64 0] wr) ∨
  (g = 2 ∧ s25 = .int .i64 1 ∧ Hid (e0 = 0) ∧ ∃ v, Kw w0 B d m room v0 g4 g7 v L1 #[.int .i64 n0, .int .i64 0, .int .i64 0] wr) ∨
  (g = 1 ∧ s25 = .int .i64 2 ∧ Hid (e0 = 0 ∧ e1 = 0) ∧ ∃ v, Kw w0 B d m room v0 g4 g7 v L2 #[.int .i64 n0, .int .i64 n1, .int .i64 0] wr) ∨
  (g = 0 ∧ s25 = .int .i64 3 ∧ Hid (e0 = 0 ∧ e1 = 0 ∧ e2 = 0) ∧ ∃ v, Kw w0 B d m room v0 g4 g7 v L3 #[.int .i64 n0, .int .i64 n1, .int .i64 n2] wr)
theorem cut_back {W : World} {N : Nat} (h : Dc B d m room v Li W) (hl : Li.length ≤ 100000) {M : List Tm} (e : Li = L ++ M) (hN : N = L.length) :
    Calls Try.prog 22 #[.pointer (some ⟨d, 0, none⟩), .int .i64 N] W fun e w' => ∃ v' k, e = .returned (.int .i64 k) ∧ Dc B d m room v' L w' ∧ Tn d m v v' W w' := by
  have hf : cutF (N : Int) Li.length = N := by
    have : N ≤ Li.length := by rw [e, List.length_append, hN]; omega
    unfold cutF; omega
  have := dcut_any h hl (N : Int)
  rw [hf] at this
  exact this.mono fun e' w' ⟨v', e1, h1, h2⟩ => ⟨v', _, e1, by rw [e, hN, List.take_left] at h1; exact h1, h2⟩
set_option maxHeartbeats 64000000 in
theorem dkey_any {W : World} (h : Dc B d m room v L W) (hB : B ≤ W.heap.size) (hl : L.length ≤ 90000) (a b c : Tm) (ha : a.few) (hb : b.few) (hc : c.few) (ka : a.kind < 3) (kb : b.kind < 3) (kc : c.kind < 3) :
    Calls Try.prog 16 #[.pointer (some ⟨d, 0, none⟩), .agg #[a.val, b.val, c.val]] W (KeyPost B d m room v W (keyP room L a b c)) := by
  have cG := ngood_any a b c ha hb hc ka kb kc
  obtain ⟨M0, hM0⟩ := putG_more room L a
  obtain ⟨M1, hM1⟩ := putG_more room (putG room L a).1 b
  obtain ⟨M2, hM2⟩ := putG_more room (putG room (putG room L a).1 b).1 c
  have l1 := (putG_len (room := room) (L := L) (t := a)).2
  have l2 := (putG_len (room := room) (L := (putG room L a).1) (t := b)).2
  have l3 := (putG_len (room := room) (L := (putG room (putG room L a).1 b).1) (t := c)).2
  have p0 := fun {v : Value} {W : World} (h : Dc B d m room v L W) (hB : B ≤ W.heap.size) => dputGood_any h hB (by omega) a ka
  have p1 := fun {v : Value} {W : World} (h : Dc B d m room v (putG room L a).1 W) (hB : B ≤ W.heap.size) => dputGood_any h hB (by omega) b kb
  have p2 := fun {v : Value} {W : World} (h : Dc B d m room v (putG room (putG room L a).1 b).1 W) (hB : B ≤ W.heap.size) => dputGood_any h hB (by omega) c kc
  unfold PutPost at p0 p1 p2
  unfold keyP
  unfold key3
  have q0 : (putG room (putG room (putG room L a).1 b).1 c).1 = L ++ (M0 ++ (M1 ++ M2)) := by rw [hM2, hM1, hM0]; simp
  have q1 : (putG room (putG room L a).1 b).1 = L ++ (M0 ++ M1) := by rw [hM1, hM0]; simp
  obtain ⟨ta, va, hva⟩ := iface_of ka
  obtain ⟨tb, vb, hvb⟩ := iface_of kb
  obtain ⟨tc, vc, hvc⟩ := iface_of kc
  rw [hva] at cG p0 ⊢
  rw [hvb] at cG p1 ⊢
  rw [hvc] at cG p2 ⊢
  generalize hR2 : putG room (putG room (putG room L a).1 b).1 c = R2 at *
  generalize hR1 : putG room (putG room L a).1 b = R1 at *
  generalize hR0 : putG room L a = R0 at *
  obtain ⟨L1, n0, e0⟩ := R0
  obtain ⟨L2, n1, e1⟩ := R1
  obtain ⟨L3, n2, e2⟩ := R2
  dsimp only at *
  clear hM1 hM2 hR0 hR1 hR2
  have HL1 := Lib.hid (show L1.length ≤ 100000 by omega)
  have HL2 := Lib.hid (show L2.length ≤ 100000 by omega)
  have HL3 := Lib.hid (show L3.length ≤ 100000 by omega)
  have HQ0 := Lib.hid q0
  have HQ1 := Lib.hid q1
  have HQ2 := Lib.hid hM0
  obtain ⟨n, hn⟩ : ∃ n, n = L.length := ⟨_, rfl⟩
  have HN := Lib.hid hn
  have cL0 : ∀ {v : Value} {W : World}, Dc B d m room v L W → Calls Try.prog 25 #[.pointer (some ⟨d, 0, none⟩)] W fun e w' => e = .returned (.int .i64 n) ∧ w' = W := fun {v W} h => by rw [hn]; exact dlen_any h (by omega)
  obtain ⟨ok, hok⟩ : ∃ ok, ok = okR a b c 0 := ⟨_, rfl⟩
  rw [← hok] at cG ⊢
  obtain ⟨W2, hW2⟩ : ∃ W2, W2 = (W.alloc (.cells #[.iface ta va, .iface tb vb, .iface tc vc] 57)).alloc (.cells #[.int .i64 0, .int .i64 0, .int .i64 0] 53) := ⟨_, rfl⟩
  have hb2 : Below W.heap.size W W2 := by rw [hW2]; exact ((Below.refl _ _).alloc (Nat.le_refl _) _).alloc (by simp) _
  have hx3 : Fb W2 W.heap.size 57 #[.iface ta va, .iface tb vb, .iface tc vc] := by rw [hW2]; exact (Fb.new _ _ _).alloc _
  have hx4 : Fb W2 (W.heap.size + 1) 53 #[.int .i64 0, .int .i64 0, .int .i64 0] := by
    have := Fb.new (W.alloc (.cells #[.iface ta va, .iface tb vb, .iface tc vc] 57)) 53 #[.int .i64 0, .int .i64 0, .int .i64 0]
    rw [hW2]
    simpa using this
  have HD := Lib.hid h
  have HB := Lib.hid hB
  have HB2 := Lib.hid hb2
  have HX3 := Lib.hid hx3
  have HX4 := Lib.hid hx4
  have hz2 : W2.heap.size = W.heap.size + 2 := by rw [hW2]; simp
  have HZ2 := Lib.hid hz2
  cases ok with
  | false =>
    rw [if_neg (by decide)]
    have hfin : ∀ w1 : World, Below W2.heap.size W2 w1 → Kw W B d m room v (W.heap.size + 1) (W.heap.size + 2) v L #[] w1 → True := fun _ _ _ => trivial
    have cG2 := cG W2
    rw [hW2] at cG2
    rw [hW2] at hz2 hx3 hx4
    clear p0 p1 p2 cL0 h hB hb2 hM0 q0 q1 hn hok hfin hl l1 l2 l3 ha hb hc ka kb kc hva hvb hvc hx3
    go_enter Try.func16, Try.ntmps16
    go_wp2_with (go_at_call 31; (with_reducible refine cG2.mono ?_); rintro e w1 ⟨rfl, hb1⟩; rw [← hW2] at hb1; have hy4 := HX4.out.below hb1; have y0 := hy4.cell 0; have y1 := hy4.cell 1; have y2 := hy4.cell 2; have f0 := d_free hy4 0; have f1 := d_free hy4 1; have f2 := d_free hy4 2; have hlt := hy4.lt)
    have HB1 := Lib.hid (HB2.out.trans (hb1.mono HB2.out.size))
    exact bodyPost_ret (v := .tuple #[.agg #[.int .i64 0, .int .i64 0, .int .i64 0], .int .i64 3]) (by simp [results, Try.results16, go_sem, y0, y1, y2, hlt]) rfl ⟨v, rfl, (HD.out.below HB1.out).set3 hy4 _ _ _, ((((Tn.of HB1.out).set (by omega) _).set (by omega) _).set (by omega) _)⟩
  | true =>
    rw [if_pos rfl]
    obtain ⟨r, hr⟩ : ∃ r, r = (if e0 ≠ 0 then (L, ((0, 0, 0) : Int × Int × Int), e0) else if e1 ≠ 0 then (L, (0, 0, 0), e1) else if e2 ≠ 0 then (L, (0, 0, 0), e2) else (L3, (n0, n1, n2), 0)) := ⟨_, rfl⟩
    rw [← hr]
    have HR := Lib.hid hr
    clear hr
    obtain ⟨g4, hg4⟩ : ∃ g, g = W.heap.size + 1 := ⟨_, rfl⟩
    obtain ⟨g3, hg3⟩ : ∃ g, g = W.heap.size := ⟨_, rfl⟩
    have cG2 := cG W2
    rw [hW2] at cG2
    have hst : ∀ w1 : World, Below W2.heap.size W2 w1 → Kw W B d m room v (W.heap.size + 1) w1.heap.size v L #[.int .i64 0, .int .i64 0, .int .i64 0] (w1.alloc (.cells #[.int .i64 0, .int .i64 0, .int .i64 0] 53)) := fun w1 hb1 => by
      have hb := HB2.out.trans (hb1.mono HB2.out.size)
      have hba : Below w1.heap.size w1 (w1.alloc (.cells #[.int .i64 0, .int .i64 0, .int .i64 0] 53)) := (Below.refl _ _).alloc (Nat.le_refl _) _
      have h4 := HX4.out.below hb1
      exact ⟨(HD.out.below hb).below hba, (Tn.of hb).trans (Tn.of hba), h4.below hba, Fb.new _ _ _, by omega, hb.size, by have := h4.lt; omega, HB.out⟩
    have HST := Lib.hid hst
    clear hst h hB hb2 hM0 q0 q1 hn hok hl l1 l2 l3 ha hb hc ka kb kc hva hvb hvc hx3 hx4 hz2
    go_enter Try.func16, Try.ntmps16
    go_wp2_with (first
      | (go_at_call 31; (with_reducible refine cG2.mono ?_); rintro e w1 ⟨rfl, hb1⟩; rw [← hW2] at hb1; have hDb := HD.out.below (HB2.out.trans (hb1.mono HB2.out.size)); have hy3 := HX3.out.below hb1; have x0 := hy3.cell 0; have x1 := hy3.cell 1; have x2 := hy3.cell 2; have hlt3 := hy3.lt)
      | (go_at_call 25; (with_reducible refine (cL0 hDb).mono ?_); rintro e w2 ⟨rfl, rfl⟩))
    have HS2 := Lib.hid (HST.out _ hb1)
    obtain ⟨g7, hg7⟩ : ∃ g, g = w2.heap.size := ⟨_, rfl⟩
    rw [← hg7] at HS2 ⊢
    rw [← hg4] at HS2 ⊢
    have HG7 := Lib.hid hg7
    have HG4 := Lib.hid hg4
    clear cL0 cG cG2 hDb hy3 x0 x1 x2 hlt3 HX3 HX4 HST hb1 hg7 hg4 hg3 hW2
    go_loopg [25] 3 (fun g s25 wr => KyI W B d m room v g4 g7 L L1 L2 L3 n0 n1 n2 e0 e1 e2 g s25 wr)
    case atStart => exact .inl ⟨rfl, rfl, v, HS2.out⟩
    case round =>
      clear HS2
      rcases hrel with ⟨rfl, rfl, v5, hK⟩ | ⟨rfl, rfl, HZ, v5, hK⟩ | ⟨rfl, rfl, HZ, v5, hK⟩ | ⟨rfl, rfl, HZ, v5, hK⟩
      · have hix : ∀ w', (Instr.index 91 (.agg #[.iface ta va, .iface tb vb, .iface tc vc]) (.int .i64 0)).run Try.prog w' = .ok (.iface ta va) w' := fun _ => by kernel_rfl
        by_cases he : e0 = 0
        · have HE := Lib.hid he
          rw [he] at p0
          clear he
          go_wp2_with (go_at_call 28; (with_reducible refine (p0 hK.dc (Nat.le_trans hK.bw hK.tn.size)).mono ?_); rintro e w6 ⟨v6, rfl, hD6, hT6⟩; have hK6 := hK.put hD6 hT6; obtain ⟨y0, y1, y2, f0, f1, f2⟩ := hK6.key)
          have hK7 := hK6.set 0 (.int .i64 n0)
          go_roundg 2
          case measure => exact (by decide : 2 < 3)
          case rel => exact .inr (.inl ⟨rfl, rfl, Lib.hid HE.out, v6, hK7⟩)
        · have hcut : ∀ {v : Value} {W : World}, Dc B d m room v L1 W → Calls Try.prog 22 #[.pointer (some ⟨d, 0, none⟩), .int .i64 n] W fun e w' => ∃ v' k, e = .returned (.int .i64 k) ∧ Dc B d m room v' L w' ∧ Tn d m v v' W w' := fun {v W} h => cut_back h HL1.out HQ2.out HN.out
          have HE := Lib.hid he
          go_wp2_with (first
            | (go_at_call 28; (with_reducible refine (p0 hK.dc (Nat.le_trans hK.bw hK.tn.size)).mono ?_); rintro e w6 ⟨v6, rfl, hD6, hT6⟩; have hK6 := hK.put hD6 hT6)
            | (go_at_call 22; (with_reducible refine (hcut hK6.dc).mono ?_); rintro e w7 ⟨v7, k7, rfl, hD7, hT7⟩; have hK7 := hK6.put hD7 hT7; obtain ⟨y0, y1, y2, f0, f1, f2, hlt⟩ := hK7.res))
          (try rw [Exit.noGoto_ret])
          obtain ⟨r1, r2⟩ := hK7.fin (.int .i64 0) (.int .i64 0) (.int .i64 0)
          have he := HE.out
          have hr2 : r = (L, (0, 0, 0), e0) := by rw [HR.out]; simp [he]
          exact bodyPost_ret (v := .tuple #[.agg #[.int .i64 0, .int .i64 0, .int .i64 0], .int .i64 e0]) (by simp [results, Try.results16, go_sem, y0, y1, y2, hlt]) rfl ⟨v7, by rw [hr2], by rw [hr2]; exact r1, r2⟩
      · have hix : ∀ w', (Instr.index 91 (.agg #[.iface ta va, .iface tb vb, .iface tc vc]) (.int .i64 1)).run Try.prog w' = .ok (.iface tb vb) w' := fun _ => by kernel_rfl
        by_cases he : e1 = 0
        · have HE := Lib.hid he
          rw [he] at p1
          clear he
          go_wp2_with (go_at_call 28; (with_reducible refine (p1 hK.dc (Nat.le_trans hK.bw hK.tn.size)).mono ?_); rintro e w6 ⟨v6, rfl, hD6, hT6⟩; have hK6 := hK.put hD6 hT6; obtain ⟨y0, y1, y2, f0, f1, f2⟩ := hK6.key)
          have hK7 := hK6.set 1 (.int .i64 n1)
          go_roundg 1
          case measure => exact (by decide : 1 < 2)
          case rel => exact .inr (.inr (.inl ⟨rfl, rfl, Lib.hid ⟨HZ.out, HE.out⟩, v6, hK7⟩))
        · have hcut : ∀ {v : Value} {W : World}, Dc B d m room v L2 W → Calls Try.prog 22 #[.pointer (some ⟨d, 0, none⟩), .int .i64 n] W fun e w' => ∃ v' k, e = .returned (.int .i64 k) ∧ Dc B d m room v' L w' ∧ Tn d m v v' W w' := fun {v W} h => cut_back h HL2.out HQ1.out HN.out
          have HE := Lib.hid he
          go_wp2_with (first
            | (go_at_call 28; (with_reducible refine (p1 hK.dc (Nat.le_trans hK.bw hK.tn.size)).mono ?_); rintro e w6 ⟨v6, rfl, hD6, hT6⟩; have hK6 := hK.put hD6 hT6)
            | (go_at_call 22; (with_reducible refine (hcut hK6.dc).mono ?_); rintro e w7 ⟨v7, k7, rfl, hD7, hT7⟩; have hK7 := hK6.put hD7 hT7; obtain ⟨y0, y1, y2, f0, f1, f2, hlt⟩ := hK7.res))
          (try rw [Exit.noGoto_ret])
          obtain ⟨r1, r2⟩ := hK7.fin (.int .i64 0) (.int .i64 0) (.int .i64 0)
          have he := HE.out
          have hr2 : r = (L, (0, 0, 0), e1) := by rw [HR.out]; simp [he, HZ.out]
          exact bodyPost_ret (v := .tuple #[.agg #[.int .i64 0, .int .i64 0, .int .i64 0], .int .i64 e1]) (by simp [results, Try.results16, go_sem, y0, y1, y2, hlt]) rfl ⟨v7, by rw [hr2], by rw [hr2]; exact r1, r2⟩
      · have hix : ∀ w', (Instr.index 91 (.agg #[.iface ta va, .iface tb vb, .iface tc vc]) (.int .i64 2)).run Try.prog w' = .ok (.iface tc vc) w' := fun _ => by kernel_rfl
        by_cases he : e2 = 0
        · have HE := Lib.hid he
          rw [he] at p2
          clear he
          go_wp2_with (go_at_call 28; (with_reducible refine (p2 hK.dc (Nat.le_trans hK.bw hK.tn.size)).mono ?_); rintro e w6 ⟨v6, rfl, hD6, hT6⟩; have hK6 := hK.put hD6 hT6; obtain ⟨y0, y1, y2, f0, f1, f2⟩ := hK6.key)
          have hK7 := hK6.set 2 (.int .i64 n2)
          go_roundg 0
          case measure => exact (by decide : 0 < 1)
          case rel => exact .inr (.inr (.inr ⟨rfl, rfl, Lib.hid ⟨HZ.out.1, HZ.out.2, HE.out⟩, v6, hK7⟩))
        · have hcut : ∀ {v : Value} {W : World}, Dc B d m room v L3 W → Calls Try.prog 22 #[.pointer (some ⟨d, 0, none⟩), .int .i64 n] W fun e w' => ∃ v' k, e = .returned (.int .i64 k) ∧ Dc B d m room v' L w' ∧ Tn d m v v' W w' := fun {v W} h => cut_back h HL3.out HQ0.out HN.out
          have HE := Lib.hid he
          go_wp2_with (first
            | (go_at_call 28; (with_reducible refine (p2 hK.dc (Nat.le_trans hK.bw hK.tn.size)).mono ?_); rintro e w6 ⟨v6, rfl, hD6, hT6⟩; have hK6 := hK.put hD6 hT6)
            | (go_at_call 22; (with_reducible refine (hcut hK6.dc).mono ?_); rintro e w7 ⟨v7, k7, rfl, hD7, hT7⟩; have hK7 := hK6.put hD7 hT7; obtain ⟨y0, y1, y2, f0, f1, f2, hlt⟩ := hK7.res))
          (try rw [Exit.noGoto_ret])
          obtain ⟨r1, r2⟩ := hK7.fin (.int .i64 0) (.int .i64 0) (.int .i64 0)
          have he := HE.out
          have hr2 : r = (L, (0, 0, 0), e2) := by rw [HR.out]; simp [he, HZ.out.1, HZ.out.2]
          exact bodyPost_ret (v := .tuple #[.agg #[.int .i64 0, .int .i64 0, .int .i64 0], .int .i64 e2]) (by simp [results, Try.results16, go_sem, y0, y1, y2, hlt]) rfl ⟨v7, by rw [hr2], by rw [hr2]; exact r1, r2⟩
      · obtain ⟨y0, y1, y2, f0, f1, f2⟩ := hK.key
        obtain ⟨z0, z1, z2, h0, h1, h2, hlt⟩ := hK.res
        go_wp2
        obtain ⟨r1, r2⟩ := hK.fin (.int .i64 n0) (.int .i64 n1) (.int .i64 n2)
        have hr2 : r = (L3, (n0, n1, n2), 0) := by rw [HR.out]; simp [HZ.out.1, HZ.out.2.1, HZ.out.2.2]
        exact bodyPost_ret (v := .tuple #[.agg #[.int .i64 n0, .int .i64 n1, .int .i64 n2], .int .i64 0]) (by simp [results, Try.results16, go_sem, z0, z1, z2, hlt]) rfl ⟨v5, by rw [hr2], by rw [hr2]; exact r1, r2⟩
end
end Go.Proofs.Ytehechbiajbobaa
