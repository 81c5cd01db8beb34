/-
  WHAT IS TOLD, GATHERED.
-/
import Derived.Test.YtpmimmbheieobaaWApp
import Derived.Laws.AppendOwn
namespace Go.Proofs.Ytpmimmbheieobaa
open Go.RowKit
set_option linter.unusedVariables false
set_option linter.unusedSimpArgs false
set_option maxRecDepth 100000

/-- So many integers from one on. -/
def ups (f : Int) (n : Nat) : List Int := (List.range n).map fun j : Nat => f + (j : Int)
theorem ups_len (f : Int) (n : Nat) : (ups f n).length = n := by unfold ups; simp
theorem ups_succ (f : Int) (n : Nat) : ups f (n + 1) = ups f n ++ [f + n] := by unfold ups; rw [List.range_succ, List.map_append]; rfl
theorem ups_get (f : Int) {n i : Nat} (h : i < n) : (ups f n)[i]? = some (f + i) := by unfold ups; rw [List.getElem?_map, List.getElem?_range h]; rfl
theorem ups_add (f : Int) (n m : Nat) : ups f n ++ ups (f + n) m = ups f (n + m) := by
  induction m with
  | zero => unfold ups; simp
  | succ m ih =>
    rw [ups_succ, ← List.append_assoc, ih, ← Nat.add_assoc, ups_succ, show f + (n : Int) + m = f + ((n + m : Nat) : Int) by omega]
/-- The gathering so far. -/
structure Td (wT : World) (g6 G : Nat) (l0 : List (Nat × TypeId × Array Value)) (f : Int) (k : Nat) (W : World) : Prop where
  h : Hs wT l0 W
  v : ∃ v, Fb W g6 29 #[v] ∧ TmR G W v (ups f k)
  g : G ≤ W.heap.size
structure Tx (wT : World) (g6 G : Nat) (l0 : List (Nat × TypeId × Array Value)) : Prop where
  a : wT.heap.size ≤ g6
  b : g6 < G
  l : ∀ p ∈ l0, p.1 < G ∧ p.1 ≠ g6
theorem Td.below {wT : World} {g6 G : Nat} {l0 : List (Nat × TypeId × Array Value)} {f : Int} {k : Nat} {W W' : World} (h : Td wT g6 G l0 f k W) (hb : Below W.heap.size W W') : Td wT g6 G l0 f k W' := by
  obtain ⟨v, h1, h2⟩ := h.v
  exact ⟨h.h.below hb, ⟨v, h1.below hb, row_below h2 hb⟩, Nat.le_trans h.g hb.size⟩
theorem Fb.low {W W' : World} {g G : Nat} {t : TypeId} {cs : Array Value} (h : Fb W g t cs) (hg : g < G) (hb : Below G W W') : Fb W' g t cs := (hb.block g hg).trans h
set_option maxHeartbeats 1000000 in
theorem pyield_any {wT : World} {g6 G : Nat} {l0 : List (Nat × TypeId × Array Value)} {f : Int} {k : Nat} {W : World} (hx : Tx wT g6 G l0) (h : Td wT g6 G l0 f k W) (hk : k < 999) : Calls Try.prog 23 #[.int .i64 (f + k), .pointer (some ⟨g6, 0, none⟩)] W fun e w' => e = .returned (.bool true) ∧ Td wT g6 G l0 f (k + 1) w' := by
  obtain ⟨v, h1, h2⟩ := h.v
  obtain ⟨A, c, rfl⟩ := h2.shape
  obtain ⟨i0, hi, hz0, hz1, hz2⟩ := info_parts jintInfo
  have hr : (W.alloc (.cells #[.int .i64 (f + k)] 3)).ownsRow G 3 1 (.slice A (ups f k).length c) (ups f k).length ((ups f k).map (.int .i64)) := World.ownsRow.alloc h2 _
  rw [ups_len] at hr h1
  have hG := h.g
  have hB9 : Below G W (W.alloc (.cells #[.int .i64 (f + k)] 3)) := (Below.refl _ _).alloc hG _
  have hg6 := h1.low hx.b hB9
  have hlt := h1.lt
  have q0 := h1.cell 0
  have q1 := h1.free 0
  have ho : ∀ j, (Value.slice A k c).ownBlock = some j → G ≤ j := fun j hj => (World.ownsRow.lt hr j hj).1
  have H := Lib.hid h
  have HX := Lib.hid hx
  have HK := Lib.hid hk
  have HR := Lib.hid hr
  have HO := Lib.hid ho
  have HB9 := Lib.hid hB9
  have HG := Lib.hid hG
  have e0 : ups f (k + 1) = ups f k ++ [f + k] := ups_succ f k
  have hun : (ups f k).map (Value.int .i64) ++ [.int .i64 (f + k)] = (ups f (k + 1)).map (.int .i64) := by rw [e0, List.map_append]; rfl
  have HU := Lib.hid hun
  have H1 := Lib.hid h1
  have hk9 : (k : Int) + 1 < 1000 := by omega
  clear h hx hk hr ho hB9 hG h1 h2 e0 hun
  generalize f + (k : Int) = y at *
  go_enter Try.func23, Try.ntmps23
  go_wp2_with (first
    | (at_builtin; refine wpList_append_own _ rfl _ _ 29 rfl G 3 i0 (.int .i64 0) 1 8 Try.underlying29 hi hz0 hz1 hz2 rfl (by decide) _ _ _ rfl HR.out ⟨W.heap.size, 0, none⟩ 1 1 [.int .i64 y] rfl rfl ?c1 ?c2 ?c3 ?c4 ?c5 ?_))
  case c1 =>
    intro j u hj
    match j, hj with
    | 0, hj => simp at hj; subst hj; simp [Addr.add]
  case c2 => intro u hu; simp at hu; subst hu; rfl
  case c3 => have := HK.out; unfold maxLen; omega
  case c4 => have := HK.out; omega
  case c5 => have := HG.out; simp; omega
  intro v' w5 hown' hgrow' _
  obtain ⟨g', c', rfl⟩ := Joins.ownsRow_form hown' (by omega)
  have hB5 : Below G W w5 := HB9.out.grown hgrow' (by have := HG.out; simp; omega) HO.out
  have h5 := H1.out.low HX.out.b hB5
  have q2 := h5.cell 0
  have q3 := h5.free 0
  have q4 := h5.lt
  have q5 := (h5.set 0 (.slice (some ⟨g', 0, none⟩) (k + 1) c')).cell 0
  have HB5 := Lib.hid hB5
  have HW5 := Lib.hid hown'
  have H5 := Lib.hid h5
  clear hB5 hown' h5 hgrow' q0 q1 hg6 hlt
  go_wp2
  go_ret
  refine ⟨rfl, ⟨?_, ⟨_, H5.out.set 0 _, ?_⟩, ?_⟩⟩
  · refine ⟨((H.out.h.1.trans (HB5.out.mono (by have := HX.out.a; have := HX.out.b; omega))).setCell HX.out.a _), fun p hp => ?_⟩
    exact ((H.out.h.2 p hp).low (HX.out.l p hp).1 HB5.out).far 0 _ (HX.out.l p hp).2
  · unfold TmR
    rw [ups_len, ← HU.out]
    exact ownsRow_setCell_below HW5.out HX.out.b _
  · have := HB5.out.size; have := HG.out; simp; omega
/-- What is told of a while, gathered. -/
def ToldPost (G : Nat) (W : World) (f : Int) (n : Nat) (e : Ending) (w' : World) : Prop := ∃ v, e = .returned v ∧ TmR G w' v (ups f n) ∧ Below W.heap.size W w'
set_option maxHeartbeats 1000000 in
theorem told_any {s : Sh} (h : s.ok) (a b : Int) {gs : Nat} {w : World} (hs : Fb w gs 25 (shc s)) (n : Nat) (hn : max (s.fst a) (s.fst b) - s.fst a = n) (hn9 : n < 900) :
    Calls Try.prog 22 #[.int .i64 a, .int .i64 b, .pointer (some ⟨gs, 0, none⟩)] w (ToldPost w.heap.size w (s.fst a) n) := by
  have cR := fun W => (wreports_any s a b W).mono (R' := fun e w' => ∃ g, e = .returned (repv g) ∧ W.heap.size ≤ g ∧ Below W.heap.size W w' ∧ Rb g s a b w') fun e w' ⟨p, q, r⟩ => ⟨_, p, Nat.le_refl _, q, r⟩
  have hs1 := hs.alloc (.cells #[.slice none 0 0] 29)
  have c0 := hs1.cell 0
  have c1 := hs1.cell 1
  have c2 := hs1.cell 2
  have hh := hs1
  clear hs1
  have H0 := Lib.hid (Fb.new w 29 #[.slice none 0 0])
  simp at c0 c1 c2
  have HS := Lib.hid hs
  have HO := Lib.hid h
  clear hh
  have HN := Lib.hid hn
  have HN9 := Lib.hid hn9
  clear hs h hn hn9
  obtain ⟨A, S, B⟩ := s
  go_enter Try.func22, Try.ntmps22
  go_wp2_with (first
    | (go_at_call 19; (with_reducible refine (cR _).mono ?_); rintro e w7 ⟨g, rfl, hg, hB7, hRb⟩; have HB7 := Lib.hid hB7; have HG := Lib.hid hg; have HRB := Lib.hid hRb; clear hg hB7 hRb)
    | fail)
  have hg := HG.out
  simp only [World.size_alloc] at hg
  have h7 := HB7.out.size
  simp only [World.size_alloc] at h7
  have hl1 := HRB.out.s.lt
  have hl2 := HRB.out.a.lt
  have hl3 := HRB.out.b.lt
  have hX : Tx w w.heap.size w7.heap.size [(g, 25, shc ⟨A, S, B⟩), (g + 1, 3, #[.int .i64 a]), (g + 2, 3, #[.int .i64 b])] := ⟨Nat.le_refl _, by omega, fun p hp => by
    simp only [List.mem_cons, List.not_mem_nil, or_false] at hp
    rcases hp with rfl | rfl | rfl <;> (dsimp only; omega)⟩
  have hT : Td w w.heap.size w7.heap.size [(g, 25, shc ⟨A, S, B⟩), (g + 1, 3, #[.int .i64 a]), (g + 2, 3, #[.int .i64 b])] ((⟨A, S, B⟩ : Sh).fst a) 0 w7 :=
    ⟨⟨(bl1 w _).trans (HB7.out.mono (by simp)), fun p hp => by
      simp only [List.mem_cons, List.not_mem_nil, or_false] at hp
      rcases hp with rfl | rfl | rfl
      · exact HRB.out.s
      · exact HRB.out.a
      · exact HRB.out.b⟩, ⟨_, H0.out.below HB7.out, World.ownsRow_nil _ _ _ _⟩, Nat.le_refl _⟩
  have cP := rep_p HO.out a b g w.heap.size (fun i W => ∃ k : Nat, i = (⟨A, S, B⟩ : Sh).fst a + k ∧ Td w w.heap.size w7.heap.size [(g, 25, shc ⟨A, S, B⟩), (g + 1, 3, #[.int .i64 a]), (g + 2, 3, #[.int .i64 b])] ((⟨A, S, B⟩ : Sh).fst a) k W) (fun _ => False)
    (fun i W W' ⟨k, e, hk⟩ hb => ⟨k, e, hk.below hb⟩) (fun i W ⟨k, e, hk⟩ => ⟨hk.h.2 _ (.head _), hk.h.2 _ (.tail _ (.head _)), hk.h.2 _ (.tail _ (.tail _ (.head _)))⟩)
    (fun i W hi hb ⟨k, e, hk⟩ => by
      subst e
      refine (pyield_any hX hk (by have := HN.out; have := HN9.out; omega)).mono fun e w' ⟨h1, h2⟩ => .inl ⟨h1, k + 1, by omega, h2⟩) w7 ⟨0, by omega, hT⟩
  have cP2 : Calls Try.prog 27 #[.func (.func 23) #[] #[.pointer (some ⟨w.heap.size, 0, none⟩)], .pointer (some ⟨g, 0, none⟩), .pointer (some ⟨g + 2, 0, none⟩), .pointer (some ⟨g + 1, 0, none⟩)] w7 fun e w' => e = .returned (.tuple #[]) ∧ Td w w.heap.size w7.heap.size [(g, 25, shc ⟨A, S, B⟩), (g + 1, 3, #[.int .i64 a]), (g + 2, 3, #[.int .i64 b])] ((⟨A, S, B⟩ : Sh).fst a) n w' := cP.mono fun e w' ⟨h1, h2⟩ => ⟨h1, by
    rcases h2 with ⟨k, e, hk⟩ | h2
    · obtain rfl : k = n := by have := HN.out; omega
      exact hk
    · exact h2.elim⟩
  clear cP hX hT hl1 hl2 hl3 hg
  refine cP2.mono ?_
  rintro e w8 ⟨rfl, hT8⟩
  obtain ⟨v, hv, hr⟩ := hT8.v
  obtain ⟨D, d, rfl⟩ := hr.shape
  rw [ups_len] at hv
  have q0 := hv.cell 0
  have HT := Lib.hid hT8
  have HR := Lib.hid hr
  have H7 := Lib.hid h7
  clear hT8 hr hv cP2 h7
  go_wp2
  go_ret
  exact ⟨_, rfl, by have := row_mono HR.out (B' := w.heap.size) (by have := H7.out; omega); rw [ups_len] at this; exact (by unfold TmR; rw [ups_len]; exact this), HT.out.h.1⟩
end Go.Proofs.Ytpmimmbheieobaa
