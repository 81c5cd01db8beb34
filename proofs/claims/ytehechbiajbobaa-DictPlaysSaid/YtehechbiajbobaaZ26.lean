/-
  MERGED (a claim has at most 60 files): EKey.
-/
import Derived.Test.YtehechbiajbobaaZ22
import Derived.Test.YtehechbiajbobaaZ23
import Derived.Test.YtehechbiajbobaaZ16
import Derived.Deep.CutRange
import Derived.Deep.CutBlock
/-
  THE DOCUMENT's DICTIONARY: Key. (Out of ekey.py.)
-/
namespace Go.Proofs.Ytehechbiajbobaa
open Go.RowKit
set_option linter.unusedVariables false
set_option linter.unusedSimpArgs false
set_option maxRecDepth 100000

def EKeyPost (B : Nat) (W : World) (room : Int) (r : List Tm × (Int × Int × Int) × Int) (e : Ending) (w' : World) : Prop :=
  ∃ v', e = .returned (.tuple #[.agg #[.int .i64 room, v'], .agg #[.int .i64 r.2.1.1, .int .i64 r.2.1.2.1, .int .i64 r.2.1.2.2], .int .i64 r.2.2]) ∧ DtL B w' v' r.1 ∧ Below W.heap.size W w'
theorem DtL.setk {B : Nat} {w : World} {u : Value} {L : List Tm} {g i : Nat} {cs : Array Value} (hd : DtL B w u L) (h : Fb w g 35 cs) (x : Value) : DtL B (w.setCell ⟨g, i, none⟩ x) u L := by
  have key : ∀ (k : Nat) (cur : Array Value), w.heap[k]? = some (.cells cur 32 (0, 0)) → (w.setCell ⟨g, i, none⟩ x).heap[k]? = some (.cells cur 32 (0, 0)) := fun k cur hk => by
    have hne : k ≠ g := fun e => by
      unfold Fb at h
      rw [← e, hk] at h
      injection h with h
      injection h with _ h
      exact absurd h (by decide)
    exact (Below.heap_setCell _ _ _ _ hne).trans hk
  refine ⟨hd.1, ?_⟩
  rcases id hd.2 with hn | ⟨g, cap, cur, hv, hge, hg, rest⟩
  · exact .inl hn
  · exact .inr ⟨g, cap, cur, hv, hge, key g cur hg, rest⟩
theorem Fb.set' {w : World} {g : Nat} {t : TypeId} {cs : Array Value} (h : Fb w g t cs) (i : Nat) (x : Value) : Fb (w.setCell ⟨g, i, none⟩ x) g t (cs.setIfInBounds i x) := heap_setCell_same w g i _ _ _ h
theorem Fb.far' {w : World} {g g' : Nat} {t : TypeId} {cs : Array Value} (h : Fb w g t cs) (i : Nat) (x : Value) (hne : g ≠ g') : Fb (w.setCell ⟨g', i, none⟩ x) g t cs := (Below.heap_setCell _ _ _ _ hne).trans h
/-- The blocks: the dictionary's box, the results', the elder one's, the key's, the three terms'. -/
structure Ek (B : Nat) (W : World) (g2 g4 g5 g7 g8 g9 : Nat) (room : Int) (v vw : Value) (L Li : List Tm) (ks c12 : Array Value) (w : World) : Prop where
  b : Below W.heap.size W w
  x2 : Fb w g2 30 #[.int .i64 room, v]
  x4 : Fb w g4 30 #[.int .i64 0, .slice none 0 0]
  x5 : Fb w g5 35 #[.int .i64 0, .int .i64 0, .int .i64 0]
  x7 : Fb w g7 30 #[.int .i64 room, vw]
  x8 : Fb w g8 35 ks
  x9 : Fb w g9 90 c12
  dl : DtL B w v Li
  dw : DtL B w vw L
  n2 : W.heap.size ≤ g2
  n4 : W.heap.size ≤ g4
  n5 : W.heap.size ≤ g5
  n8 : W.heap.size ≤ g8
  ne24 : g2 ≠ g4
  ne27 : g2 ≠ g7
  ne58 : g5 ≠ g8
section
variable {B : Nat} {W : World} {g2 g4 g5 g7 g8 g9 : Nat} {room : Int} {v vw : Value} {L Li : List Tm} {ks c12 : Array Value}
theorem Ek.below {w w' : World} (h : Ek B W g2 g4 g5 g7 g8 g9 room v vw L Li ks c12 w) (hb : Below w.heap.size w w') : Ek B W g2 g4 g5 g7 g8 g9 room v vw L Li ks c12 w' :=
  ⟨h.b.trans (hb.mono h.b.size), h.x2.below hb, h.x4.below hb, h.x5.below hb, h.x7.below hb, h.x8.below hb, h.x9.below hb, h.dl.below hb, h.dw.below hb, h.n2, h.n4, h.n5, h.n8, h.ne24, h.ne27, h.ne58⟩
theorem tD_ne_k : 30 ≠ 35 := by decide
theorem tD_ne_t : 30 ≠ 90 := by decide
theorem tK_ne_t : 35 ≠ 90 := by decide
theorem fb_ne {w : World} {a b : Nat} {t u : TypeId} {cs ds : Array Value} (h : Fb w a t cs) (k : Fb w b u ds) (hn : t ≠ u) : a ≠ b := fun e => by
  subst e
  unfold Fb at h k
  rw [h] at k
  injection k with k
  injection k with _ k
  exact hn k
/-- d = e. -/
theorem Ek.set2 {w : World} {v' : Value} {L' : List Tm} (h : Ek B W g2 g4 g5 g7 g8 g9 room v vw L Li ks c12 w) (hd : DtL B w v' L') : Ek B W g2 g4 g5 g7 g8 g9 room v' vw L L' ks c12 ((w.setCell ⟨g2, 0, none⟩ (.int .i64 room)).setCell ⟨g2, 1, none⟩ v') := by
  have a1 : Fb (w.setCell ⟨g2, 0, none⟩ (.int .i64 room)) g2 30 #[.int .i64 room, v] := h.x2.set' 0 _
  have hk := fun {g : Nat} {t : TypeId} {cs : Array Value} (hf : Fb w g t cs) (hne : g ≠ g2) => (hf.far' 0 (.int .i64 room) hne).far' 1 v' hne
  exact ⟨Below.setCell (Below.setCell h.b h.n2 _) h.n2 _, a1.set' 1 v', hk h.x4 h.ne24.symm, hk h.x5 (fb_ne h.x5 h.x2 tD_ne_k.symm), hk h.x7 h.ne27.symm, hk h.x8 (fb_ne h.x8 h.x2 tD_ne_k.symm), hk h.x9 (fb_ne h.x9 h.x2 tD_ne_t.symm), (hd.setc h.x2 _).setc a1 _, (h.dw.setc h.x2 _).setc a1 _, h.n2, h.n4, h.n5, h.n8, h.ne24, h.ne27, h.ne58⟩
theorem Ek.set8 {w : World} (h : Ek B W g2 g4 g5 g7 g8 g9 room v vw L Li ks c12 w) (i : Nat) (x : Value) : Ek B W g2 g4 g5 g7 g8 g9 room v vw L Li (ks.setIfInBounds i x) c12 (w.setCell ⟨g8, i, none⟩ x) :=
  ⟨Below.setCell h.b h.n8 _, h.x2.far' i x (fb_ne h.x2 h.x8 tD_ne_k), h.x4.far' i x (fb_ne h.x4 h.x8 tD_ne_k), h.x5.far' i x h.ne58, h.x7.far' i x (fb_ne h.x7 h.x8 tD_ne_k), h.x8.set' i x, h.x9.far' i x (fb_ne h.x9 h.x8 tK_ne_t.symm), h.dl.setk h.x8 x, h.dw.setk h.x8 x, h.n2, h.n4, h.n5, h.n8, h.ne24, h.ne27, h.ne58⟩
theorem Ek.c {w : World} (h : Ek B W g2 g4 g5 g7 g8 g9 room v vw L Li ks c12 w) : w.cell? ⟨g2, 0, none⟩ = some (.int .i64 room) ∧ w.cell? ⟨g2, 1, none⟩ = some v ∧ w.frozen? ⟨g2, 0, none⟩ = false ∧ w.frozen? ⟨g2, 1, none⟩ = false ∧ g2 < w.heap.size := ⟨h.x2.cell 0, h.x2.cell 1, d_free h.x2 0, d_free h.x2 1, h.x2.lt⟩
theorem Ek.r {w : World} (h : Ek B W g2 g4 g5 g7 g8 g9 room v vw L Li ks c12 w) : (w.cell? ⟨g4, 0, none⟩ = some (.int .i64 0) ∧ w.cell? ⟨g4, 1, none⟩ = some (.slice none 0 0) ∧ w.frozen? ⟨g4, 0, none⟩ = false ∧ w.frozen? ⟨g4, 1, none⟩ = false ∧ g4 < w.heap.size) ∧ w.cell? ⟨g5, 0, none⟩ = some (.int .i64 0) ∧ w.cell? ⟨g5, 1, none⟩ = some (.int .i64 0) ∧ w.cell? ⟨g5, 2, none⟩ = some (.int .i64 0) ∧ w.frozen? ⟨g5, 0, none⟩ = false ∧ w.frozen? ⟨g5, 1, none⟩ = false ∧ w.frozen? ⟨g5, 2, none⟩ = false ∧ g5 < w.heap.size :=
  ⟨⟨h.x4.cell 0, h.x4.cell 1, d_free h.x4 0, d_free h.x4 1, h.x4.lt⟩, h.x5.cell 0, h.x5.cell 1, h.x5.cell 2, d_free h.x5 0, d_free h.x5 1, d_free h.x5 2, h.x5.lt⟩
theorem Ek.k {w : World} {x y z : Value} (h : Ek B W g2 g4 g5 g7 g8 g9 room v vw L Li #[x, y, z] c12 w) : w.cell? ⟨g8, 0, none⟩ = some x ∧ w.cell? ⟨g8, 1, none⟩ = some y ∧ w.cell? ⟨g8, 2, none⟩ = some z ∧ w.frozen? ⟨g8, 0, none⟩ = false ∧ w.frozen? ⟨g8, 1, none⟩ = false ∧ w.frozen? ⟨g8, 2, none⟩ = false ∧ g8 < w.heap.size := ⟨h.x8.cell 0, h.x8.cell 1, h.x8.cell 2, d_free h.x8 0, d_free h.x8 1, d_free h.x8 2, h.x8.lt⟩
/-- The results written. -/
def setR (w : World) (g4 g5 : Nat) (a b x y z : Value) : World := ((((w.setCell ⟨g4, 0, none⟩ a).setCell ⟨g4, 1, none⟩ b).setCell ⟨g5, 0, none⟩ x).setCell ⟨g5, 1, none⟩ y).setCell ⟨g5, 2, none⟩ z
theorem Ek.fin {w : World} (h : Ek B W g2 g4 g5 g7 g8 g9 room v vw L Li ks c12 w) {B' : Nat} {u : Value} {M : List Tm} (hd : DtL B' w u M) (a b x y z : Value) : Below W.heap.size W (setR w g4 g5 a b x y z) ∧ DtL B' (setR w g4 g5 a b x y z) u M := by
  have a1 : Fb (w.setCell ⟨g4, 0, none⟩ a) g4 30 #[a, .slice none 0 0] := h.x4.set' 0 _
  have hne := fb_ne h.x5 h.x4 tD_ne_k.symm
  have b0 := (h.x5.far' 0 a hne).far' 1 b hne
  have b1 := b0.set' 0 x
  have b2 := b1.set' 1 y
  exact ⟨Below.setCell (Below.setCell (Below.setCell (Below.setCell (Below.setCell h.b h.n4 _) h.n4 _) h.n5 _) h.n5 _) h.n5 _, ((((hd.setc h.x4 _).setc a1 _).setk b0 _).setk b1 _).setk b2 _⟩
end
theorem EPutPost.of {B : Nat} {W : World} {room : Int} {r : List Tm × Int × Int} {e : Ending} {w' : World} (h : EPutPost B W room r e w') : ∃ v', e = .returned (.tuple #[.agg #[.int .i64 room, v'], .int .i64 r.2.1, .int .i64 r.2.2]) ∧ DtL B w' v' r.1 ∧ Below W.heap.size W w' := h
theorem putP_good {room : Int} {L : List Tm} {t : Tm} (h : goodT t = true) : putP room L t = putG room L t := by unfold putP; rw [if_pos h]
theorem okR_goods {a b c : Tm} (h : okR a b c 0 = true) : goodT a = true ∧ goodT b = true ∧ goodT c = true := by
  unfold okR okP at h
  simp at h
  simp [h]
theorem putG_mem {room : Int} {L : List Tm} {t u : Tm} (h : u ∈ (putG room L t).1) : u ∈ L ∨ u = t := by
  unfold putG at h
  cases hn : nm t L with
  | some j => rw [hn] at h; exact .inl h
  | none =>
    rw [hn] at h
    dsimp only at h
    split at h
    · exact .inl h
    · rcases List.mem_append.1 h with y | y
      · exact .inl y
      · exact .inr (by simpa using y)

def EkI (B : Nat) (W : World) (g2 g4 g5 g7 g8 g9 : Nat) (room : Int) (vw : Value) (L L1 L2 L3 : List Tm) (n0 n1 n2 e0 e1 e2 : Int) (c12 : Array Value) (g : Nat) (s28 : Value) (wr : World) : Prop :=
  (g = 3 ∧ s28 = .int .i64 0 ∧ ∃ v, Ek B W g2 g4 g5 g7 g8 g9 room v vw L L #[.int .i64 0, .int .i64 0, .int .i64 0] c12 wr) ∨
  (g = 2 ∧ s28 = .int .i64 1 ∧ Hid (e0 = 0) ∧ ∃ v, Ek B W g2 g4 g5 g7 g8 g9 room v vw L L1 #[.int .i64 n0, .int .i64 0, .int .i64 0] c12 wr) ∨
  (g = 1 ∧ s28 = .int .i64 2 ∧ Hid (e0 = 0 ∧ e1 = 0) ∧ ∃ v, Ek B W g2 g4 g5 g7 g8 g9 room v vw L L2 #[.int .i64 n0, .int .i64 n1, .int .i64 0] c12 wr) ∨
  (g = 0 ∧ s28 = .int .i64 3 ∧ Hid (e0 = 0 ∧ e1 = 0 ∧ e2 = 0) ∧ ∃ v, Ek B W g2 g4 g5 g7 g8 g9 room v vw L L3 #[.int .i64 n0, .int .i64 n1, .int .i64 n2] c12 wr)
set_option maxHeartbeats 32000000 in
theorem ekey_any {B : Nat} {W : World} {v : Value} {L : List Tm} (hL : DtL B W v L) (hB : B ≤ W.heap.size) (hk : Ks L) (hl : L.length ≤ 90000) (room : Int) (a b c : Tm) (ha : a.few) (hb : b.few) (hc : c.few) (ka : a.kind < 3) (kb : b.kind < 3) (kc : c.kind < 3) :
    Calls Try.prog 15 #[.agg #[.int .i64 room, v], T12 a b c] W (EKeyPost B W room (keyP room L a b c)) := by
  have cG := qgood_any a b c ha hb hc
  have l1 := (putG_len (room := room) (L := L) (t := a)).2
  have l2 := (putG_len (room := room) (L := (putG room L a).1) (t := b)).2
  have k1 : Ks (putG room L a).1 := fun t ht => by
    rcases putG_mem ht with y | rfl
    · exact hk t y
    · exact ka
  have k2 : Ks (putG room (putG room L a).1 b).1 := fun t ht => by
    rcases putG_mem ht with y | rfl
    · exact k1 t y
    · exact kb
  obtain ⟨ok, hok⟩ : ∃ ok, ok = okR a b c 0 := ⟨_, rfl⟩
  have hgd : ok = true → goodT a = true ∧ goodT b = true ∧ goodT c = true := fun h => okR_goods (hok.symm.trans h)
  have p0 : ok = true → ∀ {W : World} {v : Value}, B ≤ W.heap.size → DtL B W v L → Calls Try.prog 9 #[.agg #[.int .i64 room, v], T4 a] W (EPutPost B W room (putG room L a)) := fun h {W v} hB h1 => by
    have := eput_any h1 hB hk (by omega) room a ka ha
    rw [putP_good (hgd h).1] at this
    exact this
  have p1 : ok = true → ∀ {W : World} {v : Value}, B ≤ W.heap.size → DtL B W v (putG room L a).1 → Calls Try.prog 9 #[.agg #[.int .i64 room, v], T4 b] W (EPutPost B W room (putG room (putG room L a).1 b)) := fun h {W v} hB h1 => by
    have := eput_any h1 hB k1 (by omega) room b kb hb
    rw [putP_good (hgd h).2.1] at this
    exact this
  have p2 : ok = true → ∀ {W : World} {v : Value}, B ≤ W.heap.size → DtL B W v (putG room (putG room L a).1 b).1 → Calls Try.prog 9 #[.agg #[.int .i64 room, v], T4 c] W (EPutPost B W room (putG room (putG room (putG room L a).1 b).1 c)) := fun h {W v} hB h1 => by
    have := eput_any h1 hB k2 (by omega) room c kc hc
    rw [putP_good (hgd h).2.2] at this
    exact this
  unfold keyP
  unfold key3
  rw [← hok] at cG ⊢
  generalize putG room (putG room (putG room L a).1 b).1 c = R2 at *
  generalize putG room (putG room L a).1 b = R1 at *
  generalize putG room L a = R0 at *
  obtain ⟨L1, n0, e0⟩ := R0
  obtain ⟨L2, n1, e1⟩ := R1
  obtain ⟨L3, n2, e2⟩ := R2
  unfold EPutPost at p0 p1 p2
  dsimp only at p0 p1 p2 l1 l2 k1 k2 ⊢
  clear l1 l2 k1 k2 hgd hok ha hb hc ka kb kc hk
  unfold T4 at p0 p1 p2
  unfold T12 at cG ⊢
  obtain ⟨qa, hqa⟩ : ∃ x, x = a.kind := ⟨_, rfl⟩
  obtain ⟨a0, ha0⟩ : ∃ x, x = a.ta := ⟨_, rfl⟩
  obtain ⟨a1, ha1⟩ : ∃ x, x = a.tb := ⟨_, rfl⟩
  obtain ⟨a2, ha2⟩ : ∃ x, x = a.tc := ⟨_, rfl⟩
  obtain ⟨qb, hqb⟩ : ∃ x, x = b.kind := ⟨_, rfl⟩
  obtain ⟨b0, hb0⟩ : ∃ x, x = b.ta := ⟨_, rfl⟩
  obtain ⟨b1, hb1⟩ : ∃ x, x = b.tb := ⟨_, rfl⟩
  obtain ⟨b2, hb2⟩ : ∃ x, x = b.tc := ⟨_, rfl⟩
  obtain ⟨qc, hqc⟩ : ∃ x, x = c.kind := ⟨_, rfl⟩
  obtain ⟨c0, hc0⟩ : ∃ x, x = c.ta := ⟨_, rfl⟩
  obtain ⟨c1, hc1⟩ : ∃ x, x = c.tb := ⟨_, rfl⟩
  obtain ⟨c2, hc2⟩ : ∃ x, x = c.tc := ⟨_, rfl⟩
  rw [← hqa, ← ha0, ← ha1, ← ha2, ← hqb, ← hb0, ← hb1, ← hb2, ← hqc, ← hc0, ← hc1, ← hc2] at cG ⊢
  rw [← hqa, ← ha0, ← ha1, ← ha2] at p0
  rw [← hqb, ← hb0, ← hb1, ← hb2] at p1
  rw [← hqc, ← hc0, ← hc1, ← hc2] at p2
  clear hqa ha0 ha1 ha2 hqb hb0 hb1 hb2 hqc hc0 hc1 hc2
  obtain ⟨A, cp, rfl⟩ := hL.shape
  obtain ⟨W2, hW2⟩ : ∃ W2, W2 = (((W.alloc (.cells #[.int .i64 room, .slice A L.length cp] 30)).alloc (.cells #[.int .i64 qa, .string a0, .string a1, .string a2, .int .i64 qb, .string b0, .string b1, .string b2, .int .i64 qc, .string c0, .string c1, .string c2] 34)).alloc (.cells #[.int .i64 0, .slice none 0 0] 30)).alloc (.cells #[.int .i64 0, .int .i64 0, .int .i64 0] 35) := ⟨_, rfl⟩
  have hb2 : Below W.heap.size W W2 := by rw [hW2]; exact ((((Below.refl _ _).alloc (Nat.le_refl _) _).alloc (by simp) _).alloc (by simp; omega) _).alloc (by simp; omega) _
  have hx2 : Fb W2 W.heap.size 30 #[.int .i64 room, .slice A L.length cp] := by rw [hW2]; exact (((Fb.new _ _ _).alloc _).alloc _).alloc _
  have hx3 : Fb W2 (W.heap.size + 1) 34 #[.int .i64 qa, .string a0, .string a1, .string a2, .int .i64 qb, .string b0, .string b1, .string b2, .int .i64 qc, .string c0, .string c1, .string c2] := by
    rw [hW2]
    exact ((fb_at 34 _ (by simp)).alloc _).alloc _
  have hx4 : Fb W2 (W.heap.size + 1 + 1) 30 #[.int .i64 0, .slice none 0 0] := by
    rw [hW2]
    exact (fb_at 30 _ (by simp)).alloc _
  have hx5 : Fb W2 (W.heap.size + 1 + 1 + 1) 35 #[.int .i64 0, .int .i64 0, .int .i64 0] := by
    rw [hW2]
    exact fb_at 35 _ (by simp)
  have hz2 : W2.heap.size = W.heap.size + 4 := by rw [hW2]; simp
  have hDL2 : DtL B W2 (.slice A L.length cp) L := hL.below ⟨hb2.os, hb2.tape, hb2.output, hb2.size, hb2.block⟩
  have HB := Lib.hid hB
  have HN := Lib.hid hl
  have HZ2 := Lib.hid hz2
  have HX2 := Lib.hid hx2
  have HX3 := Lib.hid hx3
  have HX4 := Lib.hid hx4
  have HX5 := Lib.hid hx5
  have HB2 := Lib.hid hb2
  have HD2 := Lib.hid hDL2
  have cG2 := cG W2
  rw [hW2] at cG2
  cases ok with
  | false =>
    rw [if_neg (by decide)]
    clear p0 p1 p2 cG hL hB hl hb2 hx2 hx3 hx4 hx5 hz2 hDL2
    go_enter Try.func15, Try.ntmps15
    go_wp2_with (go_at_call 30; (with_reducible refine cG2.mono ?_); rintro e w5 ⟨rfl, hb5⟩; rw [← hW2] at hb5; have y2 := HX2.out.below hb5; have y4 := HX4.out.below hb5; have y5 := HX5.out.below hb5; have s0 := y2.cell 0; have s1 := y2.cell 1; have u0 := y4.cell 0; have u1 := y4.cell 1; have uf0 := d_free y4 0; have uf1 := d_free y4 1; have ul := y4.lt; have v0 := y5.cell 0; have v1 := y5.cell 1; have v2 := y5.cell 2; have vf0 := d_free y5 0; have vf1 := d_free y5 1; have vf2 := d_free y5 2; have vl := y5.lt)
    have HY4 := Lib.hid y4
    have HY5 := Lib.hid y5
    have HB5 := Lib.hid (HB2.out.trans (hb5.mono HB2.out.size))
    have HD5 := Lib.hid (HD2.out.below hb5)
    exact bodyPost_ret (v := .tuple #[.agg #[.int .i64 room, .slice A L.length cp], .agg #[.int .i64 0, .int .i64 0, .int .i64 0], .int .i64 3]) (by simp [results, Try.results15, go_sem, u0, u1, ul, v0, v1, v2, vl]) rfl
      ⟨_, rfl, by
        have a1 := HY4.out.set' 0 (.int .i64 room)
        have hne := fb_ne HY5.out HY4.out tD_ne_k.symm
        have f0 := (HY5.out.far' 0 (.int .i64 room) hne).far' 1 (.slice A L.length cp) hne
        have f1 := f0.set' 0 (.int .i64 0)
        have f2 := f1.set' 1 (.int .i64 0)
        exact ((((HD5.out.setc HY4.out _).setc a1 _).setk f0 _).setk f1 _).setk f2 _,
        Below.setCell (Below.setCell (Below.setCell (Below.setCell (Below.setCell HB5.out (by dsimp only; omega) _) (by dsimp only; omega) _) (by dsimp only; omega) _) (by dsimp only; omega) _) (by dsimp only; omega) _⟩
  | true =>
    rw [if_pos rfl]
    have p0' := fun {W : World} {v : Value} => p0 rfl (W := W) (v := v)
    have p1' := fun {W : World} {v : Value} => p1 rfl (W := W) (v := v)
    have p2' := fun {W : World} {v : Value} => p2 rfl (W := W) (v := v)
    obtain ⟨r, hr⟩ : ∃ r, r = (if e0 ≠ 0 then (L, ((0, 0, 0) : Int × Int × Int), e0) else if e1 ≠ 0 then (L, (0, 0, 0), e1) else if e2 ≠ 0 then (L, (0, 0, 0), e2) else (L3, (n0, n1, n2), 0)) := ⟨_, rfl⟩
    rw [← hr]
    have HR := Lib.hid hr
    have hst : ∀ w5 : World, Below W2.heap.size W2 w5 → Ek B W W.heap.size (W.heap.size + 1 + 1) (W.heap.size + 1 + 1 + 1) w5.heap.size (w5.heap.size + 1) (w5.heap.size + 1 + 1) room (.slice A L.length cp) (.slice A L.length cp) L L #[.int .i64 0, .int .i64 0, .int .i64 0] #[.int .i64 qa, .string a0, .string a1, .string a2, .int .i64 qb, .string b0, .string b1, .string b2, .int .i64 qc, .string c0, .string c1, .string c2] (((w5.alloc (.cells #[.int .i64 room, .slice A L.length cp] 30)).alloc (.cells #[.int .i64 0, .int .i64 0, .int .i64 0] 35)).alloc (.cells #[.int .i64 qa, .string a0, .string a1, .string a2, .int .i64 qb, .string b0, .string b1, .string b2, .int .i64 qc, .string c0, .string c1, .string c2] 90)) := fun w5 hb5 => by
      have hs5 := hb5.size
      have hb : Below w5.heap.size w5 (((w5.alloc (.cells #[.int .i64 room, .slice A L.length cp] 30)).alloc (.cells #[.int .i64 0, .int .i64 0, .int .i64 0] 35)).alloc (.cells #[.int .i64 qa, .string a0, .string a1, .string a2, .int .i64 qb, .string b0, .string b1, .string b2, .int .i64 qc, .string c0, .string c1, .string c2] 90)) := (((Below.refl _ _).alloc (Nat.le_refl _) _).alloc (by simp) _).alloc (by simp; omega) _
      have hbb := hb5.trans (hb.mono hb5.size)
      exact ⟨HB2.out.trans (hbb.mono HB2.out.size), HX2.out.below hbb, HX4.out.below hbb, HX5.out.below hbb, ((Fb.new _ _ _).alloc _).alloc _, (fb_at 35 _ (by simp)).alloc _, fb_at 90 _ (by simp), HD2.out.below hbb, HD2.out.below hbb, Nat.le_refl _, by omega, by omega, by omega, by omega, by omega, by omega⟩
    have HST := Lib.hid hst
    clear p0 p1 p2 cG hL hB hl hb2 hx2 hx3 hx4 hx5 hz2 hDL2 hr hst
    go_enter Try.func15, Try.ntmps15
    go_wp2_with (go_at_call 30; (with_reducible refine cG2.mono ?_); rintro e w5 ⟨rfl, hb5⟩; rw [← hW2] at hb5; have y2 := HX2.out.below hb5; have y3 := HX3.out.below hb5; have s0 := y2.cell 0; have s1 := y2.cell 1; have hlt2 := y2.lt; have hlt3 := y3.lt; obtain ⟨t0, t1, t2, t3, t4, t5, t6, t7, t8, t9, ta, tb⟩ := Fb.c12 y3)
    have HS2 := Lib.hid (HST.out _ hb5)
    obtain ⟨g7, hg7⟩ : ∃ g, g = w5.heap.size := ⟨_, rfl⟩
    obtain ⟨g2, hg2⟩ : ∃ g, g = W.heap.size := ⟨_, rfl⟩
    rw [← hg7] at HS2 ⊢
    have HG7 := Lib.hid hg7
    clear cG2 hlt2 hlt3 y2 y3 s0 s1 t0 t1 t2 t3 t4 t5 t6 t7 t8 t9 ta tb HST hb5 hg7 hg2 hW2 HX2 HX3 HX4 HX5
    go_loopg [28] 3 (fun g s28 wr => EkI B W W.heap.size (W.heap.size + 1 + 1) (W.heap.size + 1 + 1 + 1) g7 (g7 + 1) (g7 + 1 + 1) room (.slice A L.length cp) L L1 L2 L3 n0 n1 n2 e0 e1 e2 #[.int .i64 qa, .string a0, .string a1, .string a2, .int .i64 qb, .string b0, .string b1, .string b2, .int .i64 qc, .string c0, .string c1, .string c2] g s28 wr)
    case atStart => exact .inl ⟨rfl, rfl, _, HS2.out⟩
    case round =>
      clear HS2
      rcases hrel with ⟨rfl, rfl, v5, hK⟩ | ⟨rfl, rfl, HZ, v5, hK⟩ | ⟨rfl, rfl, HZ, v5, hK⟩ | ⟨rfl, rfl, HZ, v5, hK⟩
      · obtain ⟨A5, c5, rfl⟩ := hK.dl.shape
        have HK := Lib.hid hK
        have K : ∀ w, Below wr.heap.size wr w → w.cell? ⟨W.heap.size, 0, none⟩ = some (.int .i64 room) ∧ w.cell? ⟨W.heap.size, 1, none⟩ = some (.slice A5 L.length c5) ∧ w.cell? ⟨g7 + 1 + 1, 0, none⟩ = some (.int .i64 qa) ∧ w.cell? ⟨g7 + 1 + 1, 1, none⟩ = some (.string a0) ∧ w.cell? ⟨g7 + 1 + 1, 2, none⟩ = some (.string a1) ∧ w.cell? ⟨g7 + 1 + 1, 3, none⟩ = some (.string a2) := fun w hb => by
          have h2 := HK.out.x2.below hb
          have h9 := HK.out.x9.below hb
          exact ⟨h2.cell 0, h2.cell 1, h9.cell 0, h9.cell 1, h9.cell 2, h9.cell 3⟩
        have cU : ∀ w, Below wr.heap.size wr w → _ := fun w hb => p0' (Nat.le_trans HB.out (Nat.le_trans HK.out.b.size hb.size)) (HK.out.dl.below hb)
        clear hK
        have hgl := HK.out.x2.lt
        by_cases he : e0 = 0
        · have HE := Lib.hid he
          have hne0 : (e0 != 0) = false := by rw [he]; rfl
          go_upto_region 9 with fail
          obtain ⟨k0, k1, k2, k3, k4, k5⟩ := K wr (Below.refl _ _)
          go_region_held3 (fun w => w.cell? ⟨W.heap.size, 0, none⟩ = some (.int .i64 room) ∧ w.cell? ⟨W.heap.size, 1, none⟩ = some (.slice A5 L.length c5) ∧ w.cell? ⟨g7 + 1 + 1, 0, none⟩ = some (.int .i64 qa) ∧ w.cell? ⟨g7 + 1 + 1, 1, none⟩ = some (.string a0) ∧ w.cell? ⟨g7 + 1 + 1, 2, none⟩ = some (.string a1) ∧ w.cell? ⟨g7 + 1 + 1, 3, none⟩ = some (.string a2))
            (first | (refine K _ ?_; repeat (first | assumption | exact Below.refl _ _ | refine Below.drew ?_ | refine Below.setCell ?_ (by simp) _ | refine Below.alloc ?_ (by first | exact Nat.le_refl _ | exact hB6.size | (simp; done) | (simp; omega) | (have := hB6.size; simp; omega)) _)))
            (first
              | (go_at_call 9; (with_reducible refine (cU _ (by repeat (first | assumption | exact Below.refl _ _ | refine Below.drew ?_ | refine Below.alloc ?_ (by first | exact Nat.le_refl _ | exact hB6.size | (simp; done) | (simp; omega) | (have := hB6.size; simp; omega)) _))).mono ?_); rintro e w6 ⟨v6, rfl, hd6, hb6⟩; obtain ⟨A6, c6, rfl⟩ := hd6.shape; have hB6 : Below wr.heap.size wr w6 := Below.trans (by repeat (first | assumption | exact Below.refl _ _ | refine Below.drew ?_ | refine Below.alloc ?_ (by first | exact Nat.le_refl _ | exact hB6.size | (simp; done) | (simp; omega) | (have := hB6.size; simp; omega)) _)) (hb6.mono (by simp)); (try (have hN := Fb.below (Fb.drew (Fb.new wr 30 #[.int .i64 0, .slice none 0 0])) hb6; have hN0 := hN.cell 0; have hN1 := hN.cell 1; have hF0 := d_free hN 0; have hF1 := d_free hN 1; have hNl := hN.lt)))
              | fail)
          all_goals
            have hs6 := hB6.size
            first
              | (have hF := (hN.set' 0 (.int .i64 room)).set' 1 (.slice A6 L1.length c6)
                 have hE := HK.out.below (Below.setCell (Below.setCell hB6 (p := ⟨wr.heap.size, 0, none⟩) (by exact Nat.le_refl _) (.int .i64 room)) (p := ⟨wr.heap.size, 1, none⟩) (by exact Nat.le_refl _) (.slice A6 L1.length c6))
                 have hD := (hd6.setc (i := 0) hN (.int .i64 room)).setc (i := 1) (hN.set' 0 (.int .i64 room)) (.slice A6 L1.length c6))
              | (have hF := Fb.new w6 30 #[.int .i64 room, .slice A6 L1.length c6]
                 have hE := HK.out.below (hB6.alloc hs6 (.cells #[.int .i64 room, .slice A6 L1.length c6] 30))
                 have hD := hd6.below ((Below.refl _ _).alloc (Nat.le_refl _) (.cells #[.int .i64 room, .slice A6 L1.length c6] 30)))
            have hE2 := hE.set2 hD
            have hE3 := Lib.hid (hE2.set8 0 (.int .i64 n0))
            have f0 := hF.cell 0
            have f1 := hF.cell 1
            have fl := hF.lt
            obtain ⟨d0, d1, df0, df1, dl⟩ := hE.c
            obtain ⟨j0, j1, j2, jf0, jf1, jf2, jl⟩ := hE2.k
            clear he hE hE2 hF hD hd6 hb6 hB6 hs6 K cU
            go_wp2
            go_roundg 2
            case measure => exact Nat.lt_succ_self _
            case rel => exact .inr (.inl ⟨rfl, rfl, Lib.hid HE.out, _, hE3.out⟩)
        · have hne0 : (e0 != 0) = true := by simpa using he
          have hr2 : r = (L, (0, 0, 0), e0) := by rw [HR.out]; simp [he]
          have HR2 := Lib.hid hr2
          clear hr2
          go_upto_region 9 with fail
          obtain ⟨k0, k1, k2, k3, k4, k5⟩ := K wr (Below.refl _ _)
          go_region_held3 (fun w => w.cell? ⟨W.heap.size, 0, none⟩ = some (.int .i64 room) ∧ w.cell? ⟨W.heap.size, 1, none⟩ = some (.slice A5 L.length c5) ∧ w.cell? ⟨g7 + 1 + 1, 0, none⟩ = some (.int .i64 qa) ∧ w.cell? ⟨g7 + 1 + 1, 1, none⟩ = some (.string a0) ∧ w.cell? ⟨g7 + 1 + 1, 2, none⟩ = some (.string a1) ∧ w.cell? ⟨g7 + 1 + 1, 3, none⟩ = some (.string a2))
            (first | (refine K _ ?_; repeat (first | assumption | exact Below.refl _ _ | refine Below.drew ?_ | refine Below.setCell ?_ (by simp) _ | refine Below.alloc ?_ (by first | exact Nat.le_refl _ | exact hB6.size | (simp; done) | (simp; omega) | (have := hB6.size; simp; omega)) _)))
            (first
              | (go_at_call 9; (with_reducible refine (cU _ (by repeat (first | assumption | exact Below.refl _ _ | refine Below.drew ?_ | refine Below.alloc ?_ (by first | exact Nat.le_refl _ | exact hB6.size | (simp; done) | (simp; omega) | (have := hB6.size; simp; omega)) _))).mono ?_); rintro e w6 ⟨v6, rfl, hd6, hb6⟩; obtain ⟨A6, c6, rfl⟩ := hd6.shape; have hB6 : Below wr.heap.size wr w6 := Below.trans (by repeat (first | assumption | exact Below.refl _ _ | refine Below.drew ?_ | refine Below.alloc ?_ (by first | exact Nat.le_refl _ | exact hB6.size | (simp; done) | (simp; omega) | (have := hB6.size; simp; omega)) _)) (hb6.mono (by simp)); (try (have hN := Fb.below (Fb.drew (Fb.new wr 30 #[.int .i64 0, .slice none 0 0])) hb6; have hN0 := hN.cell 0; have hN1 := hN.cell 1; have hF0 := d_free hN 0; have hF1 := d_free hN 1; have hNl := hN.lt)))
              | fail)
          all_goals
            have hs6 := hB6.size
            first
              | (have hF := (hN.set' 0 (.int .i64 room)).set' 1 (.slice A6 L1.length c6)
                 have hE := HK.out.below (Below.setCell (Below.setCell hB6 (p := ⟨wr.heap.size, 0, none⟩) (by exact Nat.le_refl _) (.int .i64 room)) (p := ⟨wr.heap.size, 1, none⟩) (by exact Nat.le_refl _) (.slice A6 L1.length c6)))
              | (have hE := HK.out.below (hB6.alloc hs6 (.cells #[.int .i64 room, .slice A6 L1.length c6] 30)))
            have x0 := hE.x7.cell 0
            have x1 := hE.x7.cell 1
            have xl := hE.x7.lt
            obtain ⟨⟨u0, u1, uf0, uf1, ul⟩, w0, w1, w2, wf0, wf1, wf2, wl⟩ := hE.r
            have HF := Lib.hid (hE.fin hE.dw (.int .i64 room) (.slice A L.length cp) (.int .i64 0) (.int .i64 0) (.int .i64 0))
            clear hE hd6 hb6 hB6 hs6 K cU he
            go_wp2
            (try rw [Exit.noGoto_ret])
            exact bodyPost_ret (v := .tuple #[.agg #[.int .i64 room, .slice A L.length cp], .agg #[.int .i64 0, .int .i64 0, .int .i64 0], .int .i64 e0]) (by simp [results, Try.results15, go_sem, u0, u1, ul, w0, w1, w2, wl]) rfl ⟨_, by rw [HR2.out], by rw [HR2.out]; exact HF.out.2, HF.out.1⟩
      · obtain ⟨A5, c5, rfl⟩ := hK.dl.shape
        have HK := Lib.hid hK
        have K : ∀ w, Below wr.heap.size wr w → w.cell? ⟨W.heap.size, 0, none⟩ = some (.int .i64 room) ∧ w.cell? ⟨W.heap.size, 1, none⟩ = some (.slice A5 L1.length c5) ∧ w.cell? ⟨g7 + 1 + 1, 4, none⟩ = some (.int .i64 qb) ∧ w.cell? ⟨g7 + 1 + 1, 5, none⟩ = some (.string b0) ∧ w.cell? ⟨g7 + 1 + 1, 6, none⟩ = some (.string b1) ∧ w.cell? ⟨g7 + 1 + 1, 7, none⟩ = some (.string b2) := fun w hb => by
          have h2 := HK.out.x2.below hb
          have h9 := HK.out.x9.below hb
          exact ⟨h2.cell 0, h2.cell 1, h9.cell 4, h9.cell 5, h9.cell 6, h9.cell 7⟩
        have cU : ∀ w, Below wr.heap.size wr w → _ := fun w hb => p1' (Nat.le_trans HB.out (Nat.le_trans HK.out.b.size hb.size)) (HK.out.dl.below hb)
        clear hK
        have hgl := HK.out.x2.lt
        by_cases he : e1 = 0
        · have HE := Lib.hid he
          have hne0 : (e1 != 0) = false := by rw [he]; rfl
          go_upto_region 9 with fail
          obtain ⟨k0, k1, k2, k3, k4, k5⟩ := K wr (Below.refl _ _)
          go_region_held3 (fun w => w.cell? ⟨W.heap.size, 0, none⟩ = some (.int .i64 room) ∧ w.cell? ⟨W.heap.size, 1, none⟩ = some (.slice A5 L1.length c5) ∧ w.cell? ⟨g7 + 1 + 1, 4, none⟩ = some (.int .i64 qb) ∧ w.cell? ⟨g7 + 1 + 1, 5, none⟩ = some (.string b0) ∧ w.cell? ⟨g7 + 1 + 1, 6, none⟩ = some (.string b1) ∧ w.cell? ⟨g7 + 1 + 1, 7, none⟩ = some (.string b2))
            (first | (refine K _ ?_; repeat (first | assumption | exact Below.refl _ _ | refine Below.drew ?_ | refine Below.setCell ?_ (by simp) _ | refine Below.alloc ?_ (by first | exact Nat.le_refl _ | exact hB6.size | (simp; done) | (simp; omega) | (have := hB6.size; simp; omega)) _)))
            (first
              | (go_at_call 9; (with_reducible refine (cU _ (by repeat (first | assumption | exact Below.refl _ _ | refine Below.drew ?_ | refine Below.alloc ?_ (by first | exact Nat.le_refl _ | exact hB6.size | (simp; done) | (simp; omega) | (have := hB6.size; simp; omega)) _))).mono ?_); rintro e w6 ⟨v6, rfl, hd6, hb6⟩; obtain ⟨A6, c6, rfl⟩ := hd6.shape; have hB6 : Below wr.heap.size wr w6 := Below.trans (by repeat (first | assumption | exact Below.refl _ _ | refine Below.drew ?_ | refine Below.alloc ?_ (by first | exact Nat.le_refl _ | exact hB6.size | (simp; done) | (simp; omega) | (have := hB6.size; simp; omega)) _)) (hb6.mono (by simp)); (try (have hN := Fb.below (Fb.drew (Fb.new wr 30 #[.int .i64 0, .slice none 0 0])) hb6; have hN0 := hN.cell 0; have hN1 := hN.cell 1; have hF0 := d_free hN 0; have hF1 := d_free hN 1; have hNl := hN.lt)))
              | fail)
          all_goals
            have hs6 := hB6.size
            first
              | (have hF := (hN.set' 0 (.int .i64 room)).set' 1 (.slice A6 L2.length c6)
                 have hE := HK.out.below (Below.setCell (Below.setCell hB6 (p := ⟨wr.heap.size, 0, none⟩) (by exact Nat.le_refl _) (.int .i64 room)) (p := ⟨wr.heap.size, 1, none⟩) (by exact Nat.le_refl _) (.slice A6 L2.length c6))
                 have hD := (hd6.setc (i := 0) hN (.int .i64 room)).setc (i := 1) (hN.set' 0 (.int .i64 room)) (.slice A6 L2.length c6))
              | (have hF := Fb.new w6 30 #[.int .i64 room, .slice A6 L2.length c6]
                 have hE := HK.out.below (hB6.alloc hs6 (.cells #[.int .i64 room, .slice A6 L2.length c6] 30))
                 have hD := hd6.below ((Below.refl _ _).alloc (Nat.le_refl _) (.cells #[.int .i64 room, .slice A6 L2.length c6] 30)))
            have hE2 := hE.set2 hD
            have hE3 := Lib.hid (hE2.set8 1 (.int .i64 n1))
            have f0 := hF.cell 0
            have f1 := hF.cell 1
            have fl := hF.lt
            obtain ⟨d0, d1, df0, df1, dl⟩ := hE.c
            obtain ⟨j0, j1, j2, jf0, jf1, jf2, jl⟩ := hE2.k
            clear he hE hE2 hF hD hd6 hb6 hB6 hs6 K cU
            go_wp2
            go_roundg 1
            case measure => exact Nat.lt_succ_self _
            case rel => exact .inr (.inr (.inl ⟨rfl, rfl, Lib.hid ⟨HZ.out, HE.out⟩, _, hE3.out⟩))
        · have hne0 : (e1 != 0) = true := by simpa using he
          have hr2 : r = (L, (0, 0, 0), e1) := by rw [HR.out]; simp [he, HZ.out]
          have HR2 := Lib.hid hr2
          clear hr2
          go_upto_region 9 with fail
          obtain ⟨k0, k1, k2, k3, k4, k5⟩ := K wr (Below.refl _ _)
          go_region_held3 (fun w => w.cell? ⟨W.heap.size, 0, none⟩ = some (.int .i64 room) ∧ w.cell? ⟨W.heap.size, 1, none⟩ = some (.slice A5 L1.length c5) ∧ w.cell? ⟨g7 + 1 + 1, 4, none⟩ = some (.int .i64 qb) ∧ w.cell? ⟨g7 + 1 + 1, 5, none⟩ = some (.string b0) ∧ w.cell? ⟨g7 + 1 + 1, 6, none⟩ = some (.string b1) ∧ w.cell? ⟨g7 + 1 + 1, 7, none⟩ = some (.string b2))
            (first | (refine K _ ?_; repeat (first | assumption | exact Below.refl _ _ | refine Below.drew ?_ | refine Below.setCell ?_ (by simp) _ | refine Below.alloc ?_ (by first | exact Nat.le_refl _ | exact hB6.size | (simp; done) | (simp; omega) | (have := hB6.size; simp; omega)) _)))
            (first
              | (go_at_call 9; (with_reducible refine (cU _ (by repeat (first | assumption | exact Below.refl _ _ | refine Below.drew ?_ | refine Below.alloc ?_ (by first | exact Nat.le_refl _ | exact hB6.size | (simp; done) | (simp; omega) | (have := hB6.size; simp; omega)) _))).mono ?_); rintro e w6 ⟨v6, rfl, hd6, hb6⟩; obtain ⟨A6, c6, rfl⟩ := hd6.shape; have hB6 : Below wr.heap.size wr w6 := Below.trans (by repeat (first | assumption | exact Below.refl _ _ | refine Below.drew ?_ | refine Below.alloc ?_ (by first | exact Nat.le_refl _ | exact hB6.size | (simp; done) | (simp; omega) | (have := hB6.size; simp; omega)) _)) (hb6.mono (by simp)); (try (have hN := Fb.below (Fb.drew (Fb.new wr 30 #[.int .i64 0, .slice none 0 0])) hb6; have hN0 := hN.cell 0; have hN1 := hN.cell 1; have hF0 := d_free hN 0; have hF1 := d_free hN 1; have hNl := hN.lt)))
              | fail)
          all_goals
            have hs6 := hB6.size
            first
              | (have hF := (hN.set' 0 (.int .i64 room)).set' 1 (.slice A6 L2.length c6)
                 have hE := HK.out.below (Below.setCell (Below.setCell hB6 (p := ⟨wr.heap.size, 0, none⟩) (by exact Nat.le_refl _) (.int .i64 room)) (p := ⟨wr.heap.size, 1, none⟩) (by exact Nat.le_refl _) (.slice A6 L2.length c6)))
              | (have hE := HK.out.below (hB6.alloc hs6 (.cells #[.int .i64 room, .slice A6 L2.length c6] 30)))
            have x0 := hE.x7.cell 0
            have x1 := hE.x7.cell 1
            have xl := hE.x7.lt
            obtain ⟨⟨u0, u1, uf0, uf1, ul⟩, w0, w1, w2, wf0, wf1, wf2, wl⟩ := hE.r
            have HF := Lib.hid (hE.fin hE.dw (.int .i64 room) (.slice A L.length cp) (.int .i64 0) (.int .i64 0) (.int .i64 0))
            clear hE hd6 hb6 hB6 hs6 K cU he
            go_wp2
            (try rw [Exit.noGoto_ret])
            exact bodyPost_ret (v := .tuple #[.agg #[.int .i64 room, .slice A L.length cp], .agg #[.int .i64 0, .int .i64 0, .int .i64 0], .int .i64 e1]) (by simp [results, Try.results15, go_sem, u0, u1, ul, w0, w1, w2, wl]) rfl ⟨_, by rw [HR2.out], by rw [HR2.out]; exact HF.out.2, HF.out.1⟩
      · obtain ⟨A5, c5, rfl⟩ := hK.dl.shape
        have HK := Lib.hid hK
        have K : ∀ w, Below wr.heap.size wr w → w.cell? ⟨W.heap.size, 0, none⟩ = some (.int .i64 room) ∧ w.cell? ⟨W.heap.size, 1, none⟩ = some (.slice A5 L2.length c5) ∧ w.cell? ⟨g7 + 1 + 1, 8, none⟩ = some (.int .i64 qc) ∧ w.cell? ⟨g7 + 1 + 1, 9, none⟩ = some (.string c0) ∧ w.cell? ⟨g7 + 1 + 1, 10, none⟩ = some (.string c1) ∧ w.cell? ⟨g7 + 1 + 1, 11, none⟩ = some (.string c2) := fun w hb => by
          have h2 := HK.out.x2.below hb
          have h9 := HK.out.x9.below hb
          exact ⟨h2.cell 0, h2.cell 1, h9.cell 8, h9.cell 9, h9.cell 10, h9.cell 11⟩
        have cU : ∀ w, Below wr.heap.size wr w → _ := fun w hb => p2' (Nat.le_trans HB.out (Nat.le_trans HK.out.b.size hb.size)) (HK.out.dl.below hb)
        clear hK
        have hgl := HK.out.x2.lt
        by_cases he : e2 = 0
        · have HE := Lib.hid he
          have hne0 : (e2 != 0) = false := by rw [he]; rfl
          go_upto_region 9 with fail
          obtain ⟨k0, k1, k2, k3, k4, k5⟩ := K wr (Below.refl _ _)
          go_region_held3 (fun w => w.cell? ⟨W.heap.size, 0, none⟩ = some (.int .i64 room) ∧ w.cell? ⟨W.heap.size, 1, none⟩ = some (.slice A5 L2.length c5) ∧ w.cell? ⟨g7 + 1 + 1, 8, none⟩ = some (.int .i64 qc) ∧ w.cell? ⟨g7 + 1 + 1, 9, none⟩ = some (.string c0) ∧ w.cell? ⟨g7 + 1 + 1, 10, none⟩ = some (.string c1) ∧ w.cell? ⟨g7 + 1 + 1, 11, none⟩ = some (.string c2))
            (first | (refine K _ ?_; repeat (first | assumption | exact Below.refl _ _ | refine Below.drew ?_ | refine Below.setCell ?_ (by simp) _ | refine Below.alloc ?_ (by first | exact Nat.le_refl _ | exact hB6.size | (simp; done) | (simp; omega) | (have := hB6.size; simp; omega)) _)))
            (first
              | (go_at_call 9; (with_reducible refine (cU _ (by repeat (first | assumption | exact Below.refl _ _ | refine Below.drew ?_ | refine Below.alloc ?_ (by first | exact Nat.le_refl _ | exact hB6.size | (simp; done) | (simp; omega) | (have := hB6.size; simp; omega)) _))).mono ?_); rintro e w6 ⟨v6, rfl, hd6, hb6⟩; obtain ⟨A6, c6, rfl⟩ := hd6.shape; have hB6 : Below wr.heap.size wr w6 := Below.trans (by repeat (first | assumption | exact Below.refl _ _ | refine Below.drew ?_ | refine Below.alloc ?_ (by first | exact Nat.le_refl _ | exact hB6.size | (simp; done) | (simp; omega) | (have := hB6.size; simp; omega)) _)) (hb6.mono (by simp)); (try (have hN := Fb.below (Fb.drew (Fb.new wr 30 #[.int .i64 0, .slice none 0 0])) hb6; have hN0 := hN.cell 0; have hN1 := hN.cell 1; have hF0 := d_free hN 0; have hF1 := d_free hN 1; have hNl := hN.lt)))
              | fail)
          all_goals
            have hs6 := hB6.size
            first
              | (have hF := (hN.set' 0 (.int .i64 room)).set' 1 (.slice A6 L3.length c6)
                 have hE := HK.out.below (Below.setCell (Below.setCell hB6 (p := ⟨wr.heap.size, 0, none⟩) (by exact Nat.le_refl _) (.int .i64 room)) (p := ⟨wr.heap.size, 1, none⟩) (by exact Nat.le_refl _) (.slice A6 L3.length c6))
                 have hD := (hd6.setc (i := 0) hN (.int .i64 room)).setc (i := 1) (hN.set' 0 (.int .i64 room)) (.slice A6 L3.length c6))
              | (have hF := Fb.new w6 30 #[.int .i64 room, .slice A6 L3.length c6]
                 have hE := HK.out.below (hB6.alloc hs6 (.cells #[.int .i64 room, .slice A6 L3.length c6] 30))
                 have hD := hd6.below ((Below.refl _ _).alloc (Nat.le_refl _) (.cells #[.int .i64 room, .slice A6 L3.length c6] 30)))
            have hE2 := hE.set2 hD
            have hE3 := Lib.hid (hE2.set8 2 (.int .i64 n2))
            have f0 := hF.cell 0
            have f1 := hF.cell 1
            have fl := hF.lt
            obtain ⟨d0, d1, df0, df1, dl⟩ := hE.c
            obtain ⟨j0, j1, j2, jf0, jf1, jf2, jl⟩ := hE2.k
            clear he hE hE2 hF hD hd6 hb6 hB6 hs6 K cU
            go_wp2
            go_roundg 0
            case measure => exact Nat.lt_succ_self _
            case rel => exact .inr (.inr (.inr ⟨rfl, rfl, Lib.hid ⟨HZ.out.1, HZ.out.2, HE.out⟩, _, hE3.out⟩))
        · have hne0 : (e2 != 0) = true := by simpa using he
          have hr2 : r = (L, (0, 0, 0), e2) := by rw [HR.out]; simp [he, HZ.out.1, HZ.out.2]
          have HR2 := Lib.hid hr2
          clear hr2
          go_upto_region 9 with fail
          obtain ⟨k0, k1, k2, k3, k4, k5⟩ := K wr (Below.refl _ _)
          go_region_held3 (fun w => w.cell? ⟨W.heap.size, 0, none⟩ = some (.int .i64 room) ∧ w.cell? ⟨W.heap.size, 1, none⟩ = some (.slice A5 L2.length c5) ∧ w.cell? ⟨g7 + 1 + 1, 8, none⟩ = some (.int .i64 qc) ∧ w.cell? ⟨g7 + 1 + 1, 9, none⟩ = some (.string c0) ∧ w.cell? ⟨g7 + 1 + 1, 10, none⟩ = some (.string c1) ∧ w.cell? ⟨g7 + 1 + 1, 11, none⟩ = some (.string c2))
            (first | (refine K _ ?_; repeat (first | assumption | exact Below.refl _ _ | refine Below.drew ?_ | refine Below.setCell ?_ (by simp) _ | refine Below.alloc ?_ (by first | exact Nat.le_refl _ | exact hB6.size | (simp; done) | (simp; omega) | (have := hB6.size; simp; omega)) _)))
            (first
              | (go_at_call 9; (with_reducible refine (cU _ (by repeat (first | assumption | exact Below.refl _ _ | refine Below.drew ?_ | refine Below.alloc ?_ (by first | exact Nat.le_refl _ | exact hB6.size | (simp; done) | (simp; omega) | (have := hB6.size; simp; omega)) _))).mono ?_); rintro e w6 ⟨v6, rfl, hd6, hb6⟩; obtain ⟨A6, c6, rfl⟩ := hd6.shape; have hB6 : Below wr.heap.size wr w6 := Below.trans (by repeat (first | assumption | exact Below.refl _ _ | refine Below.drew ?_ | refine Below.alloc ?_ (by first | exact Nat.le_refl _ | exact hB6.size | (simp; done) | (simp; omega) | (have := hB6.size; simp; omega)) _)) (hb6.mono (by simp)); (try (have hN := Fb.below (Fb.drew (Fb.new wr 30 #[.int .i64 0, .slice none 0 0])) hb6; have hN0 := hN.cell 0; have hN1 := hN.cell 1; have hF0 := d_free hN 0; have hF1 := d_free hN 1; have hNl := hN.lt)))
              | fail)
          all_goals
            have hs6 := hB6.size
            first
              | (have hF := (hN.set' 0 (.int .i64 room)).set' 1 (.slice A6 L3.length c6)
                 have hE := HK.out.below (Below.setCell (Below.setCell hB6 (p := ⟨wr.heap.size, 0, none⟩) (by exact Nat.le_refl _) (.int .i64 room)) (p := ⟨wr.heap.size, 1, none⟩) (by exact Nat.le_refl _) (.slice A6 L3.length c6)))
              | (have hE := HK.out.below (hB6.alloc hs6 (.cells #[.int .i64 room, .slice A6 L3.length c6] 30)))
            have x0 := hE.x7.cell 0
            have x1 := hE.x7.cell 1
            have xl := hE.x7.lt
            obtain ⟨⟨u0, u1, uf0, uf1, ul⟩, w0, w1, w2, wf0, wf1, wf2, wl⟩ := hE.r
            have HF := Lib.hid (hE.fin hE.dw (.int .i64 room) (.slice A L.length cp) (.int .i64 0) (.int .i64 0) (.int .i64 0))
            clear hE hd6 hb6 hB6 hs6 K cU he
            go_wp2
            (try rw [Exit.noGoto_ret])
            exact bodyPost_ret (v := .tuple #[.agg #[.int .i64 room, .slice A L.length cp], .agg #[.int .i64 0, .int .i64 0, .int .i64 0], .int .i64 e2]) (by simp [results, Try.results15, go_sem, u0, u1, ul, w0, w1, w2, wl]) rfl ⟨_, by rw [HR2.out], by rw [HR2.out]; exact HF.out.2, HF.out.1⟩
      · obtain ⟨A5, c5, rfl⟩ := hK.dl.shape
        obtain ⟨d0, d1, df0, df1, dl⟩ := hK.c
        obtain ⟨j0, j1, j2, jf0, jf1, jf2, jl⟩ := hK.k
        obtain ⟨⟨u0, u1, uf0, uf1, ul⟩, w0, w1, w2, wf0, wf1, wf2, wl⟩ := hK.r
        have HF := Lib.hid (hK.fin hK.dl (.int .i64 room) (.slice A5 L3.length c5) (.int .i64 n0) (.int .i64 n1) (.int .i64 n2))
        have hr2 : r = (L3, (n0, n1, n2), 0) := by rw [HR.out]; simp [HZ.out.1, HZ.out.2.1, HZ.out.2.2]
        have n1' : ¬ g7 + 1 = W.heap.size + 1 + 1 := by have := HG7.out; have := hK.ne58; have := fb_ne hK.x8 hK.x4 tD_ne_k.symm; omega
        clear hK
        go_wp2
        go_region
        all_goals
          (try go_wp2)
          exact bodyPost_ret (v := .tuple #[.agg #[.int .i64 room, .slice A5 L3.length c5], .agg #[.int .i64 n0, .int .i64 n1, .int .i64 n2], .int .i64 0]) (by simp [results, Try.results15, go_sem, u0, u1, ul, w0, w1, w2, wl]) rfl ⟨_, by rw [hr2], by rw [hr2]; exact HF.out.2, by first | exact HF.out.1 | exact Below.drew HF.out.1⟩
end Go.Proofs.Ytehechbiajbobaa
