/-
  NtTerms, WHATEVER THE TERM AND THE TEXT BEHIND IT: a good term's text is read as it, and nothing of what stands behind a blank is taken: the law returns true, and its arguments read as before. The table 'escapes' starts as the program's text lays it (tied).
-/
import Derived.Test.YtcllamipcgbfiaaDoorZ39
import Derived.Test.YtcllamipcgbfiaaDoorZ38
import Derived.Test.YtcllamipcgbfiaaDoorZ36
import Derived.Test.YtcllamipcgbfiaaDoorCards
import Derived.Test.YtcllamipcgbfiaaDoorTie
import Derived.Lib.SmallJoins
import Derived.ProofKit
import Derived.OpenShut
namespace Go.Proofs.YtcllamipcgbfiaaDoor
open Go.ChangeShapes Go.WideShapes Go.ChangeAt Go.RowKit
set_option linter.unusedVariables false
set_option linter.unusedSimpArgs false

/-- The term that the law makes of one. -/
def pl3 (k : Int) (a b c : ByteArray) : Tm := if k % 18446744073709551616 % 3 = 0 then .blank a else if k % 18446744073709551616 % 3 = 1 then .iri a else .lit a b c
set_option maxHeartbeats 2000000 in
theorem plain3_any (k : Int) (hk : -9223372036854775808 ≤ k ∧ k ≤ 9223372036854775807) (a b c : ByteArray) (w : World) : Calls Tryd.prog 34 #[F4 k a b c] w fun e w' => e = .returned (T4 (pl3 k a b c)) ∧ Below w.heap.size w w' := by
  obtain ⟨r, hr⟩ : ∃ r, r = k % 18446744073709551616 % 3 := ⟨_, rfl⟩
  have h3 : r = 0 ∨ r = 1 ∨ r = 2 := by omega
  have hw : wrap64 ((IntKind.u64.wrap k).tmod 3) = r := by
    rw [show IntKind.u64.wrap k = k % 18446744073709551616 from rfl, Int.tmod_eq_emod_of_nonneg (by omega), ← hr]
    exact IntWalk.wrap64_in r ⟨by omega, by omega⟩
  unfold pl3
  rw [← hr]
  clear hr hk
  rcases h3 with rfl | rfl | rfl
  · rw [if_pos rfl]
    simp only [T4, Tm.kind, Tm.ta, Tm.tb, Tm.tc]
    go_enter Tryd.func34, Tryd.ntmps34
    go_wp2
    exact bodyPost_ret (v := F4 0 a mt mt) (by simp [results, Tryd.results34, go_sem]) rfl ⟨rfl, ((Below.refl _ _).alloc (Nat.le_refl _) _).alloc (by simp) _⟩
  · rw [if_neg (by decide), if_pos rfl]
    simp only [T4, Tm.kind, Tm.ta, Tm.tb, Tm.tc]
    go_enter Tryd.func34, Tryd.ntmps34
    go_wp2
    exact bodyPost_ret (v := F4 1 a mt mt) (by simp [results, Tryd.results34, go_sem]) rfl ⟨rfl, ((Below.refl _ _).alloc (Nat.le_refl _) _).alloc (by simp) _⟩
  · rw [if_neg (by decide), if_neg (by decide)]
    simp only [T4, Tm.kind, Tm.ta, Tm.tb, Tm.tc]
    go_enter Tryd.func34, Tryd.ntmps34
    go_wp2
    exact bodyPost_ret (v := F4 2 a b c) (by simp [results, Tryd.results34, go_sem]) rfl ⟨rfl, ((Below.refl _ _).alloc (Nat.le_refl _) _).alloc (by simp) _⟩
theorem pl3_small (k : Int) (a b c : ByteArray) : (pl3 k a b c).ta.size ≤ a.size ∧ (pl3 k a b c).tb.size ≤ b.size ∧ (pl3 k a b c).tc.size ≤ c.size := by
  unfold pl3
  split
  · exact ⟨Nat.le_refl _, Nat.zero_le _, Nat.zero_le _⟩
  split
  · exact ⟨Nat.le_refl _, Nat.zero_le _, Nat.zero_le _⟩
  · exact ⟨Nat.le_refl _, Nat.le_refl _, Nat.le_refl _⟩
theorem pl3_real (k : Int) (a b c : ByteArray) (w : World) : Calls Tryd.prog 12 #[T4 (pl3 k a b c)] w fun e w' => e = .returned (pl3 k a b c).val ∧ Below w.heap.size w w' := by
  apply real_any
  unfold pl3
  split
  · exact .inl rfl
  split
  · exact .inr (.inl rfl)
  · exact .inr (.inr (.inl rfl))
theorem pl3_val (k : Int) (a b c : ByteArray) : ∃ ty x, (pl3 k a b c).val = .iface ty x := by
  unfold pl3
  split
  · exact ⟨_, _, rfl⟩
  split
  · exact ⟨_, _, rfl⟩
  · exact ⟨_, _, rfl⟩
theorem tS_len (t : Tm) : (tS t).length ≤ 6 * t.ta.size + t.tb.size + t.tc.size + 8 := by
  cases t with
  | iri s => have := sg_small s; unfold tS; simp [Tm.ta, Tm.tb, Tm.tc]; omega
  | blank s => have := sg_small s; unfold tS; simp [Tm.ta, Tm.tb, Tm.tc]; omega
  | lit a b c =>
    have h1 := sg_small a
    have h2 := sg_small b
    have h3 := sg_small c
    have h4 := body_six (sgP a).1
    have h5 := quoS_len (sgP a).1
    unfold tS tailS
    simp only [Tm.ta, Tm.tb, Tm.tc, List.length_append]
    split
    · split
      · simp; omega
      · simp; omega
    · simp; omega
  | odd n => unfold tS; simp
  | none => unfold tS; simp
/-- A box, wherever. -/
def Ny (w : World) (g : Nat) (cs : Array Value) (W : World) : Prop := Below w.heap.size w W ∧ Fb W g 23 cs
section
variable {w : World} {g : Nat} {cs : Array Value}
theorem Ny.below {W W' : World} (h : Ny w g cs W) (hb : Below W.heap.size W W') : Ny w g cs W' := ⟨h.1.trans (hb.mono h.1.size), h.2.below hb⟩
theorem Ny.mk {W : World} (hb : Below w.heap.size w W) (cs : Array Value) : Ny w W.heap.size cs (W.alloc (.cells cs 23)) := ⟨hb.alloc hb.size _, Fb.new _ _ _⟩
theorem Ny.cells {x0 x1 x2 x3 : Value} {W : World} (h : Ny w g #[x0, x1, x2, x3] W) : W.cell? ⟨g, 0, none⟩ = some x0 ∧ W.cell? ⟨g, 1, none⟩ = some x1 ∧ W.cell? ⟨g, 2, none⟩ = some x2 ∧ W.cell? ⟨g, 3, none⟩ = some x3 := ⟨h.2.cell 0, h.2.cell 1, h.2.cell 2, h.2.cell 3⟩
theorem ny_of {W : World} {f : Nat} {args : Array Value} {y : Value} (h : Ny w g cs W) (k : Calls Tryd.prog f args W fun e w' => e = .returned y ∧ Below W.heap.size W w') :
    Calls Tryd.prog f args W fun e w' => e = .returned y ∧ Ny w g cs w' := k.mono fun _ _ ⟨x, z⟩ => ⟨x, h.below z⟩
end
/-- The scanner, and the box. -/
def Nz (w : World) (b : Nat) (v : Value) (sl : List Int) (k g : Nat) (cs : Array Value) (W : World) : Prop := Sc w.heap.size W b v sl k ∧ Ny w g cs W ∧ g ≠ b
section
variable {w : World} {b : Nat} {v : Value} {sl : List Int} {k g : Nat} {cs : Array Value}
theorem Nz.of {W W' : World} (h : Ny w g cs W) (hs : Sc W.heap.size W' b v sl k) (hb : Below W.heap.size W W') : Nz w b v sl k g cs W' := ⟨hs.mono h.1.size, h.below hb, fun e => by have := h.2.lt; have := hs.ge; omega⟩
theorem Nz.below {W W' : World} (h : Nz w b v sl k g cs W) (hb : Below W.heap.size W W') : Nz w b v sl k g cs W' := ⟨h.1.below hb, h.2.1.below hb, h.2.2⟩
theorem Nz.drew {W : World} (h : Nz w b v sl k g cs W) : Nz w b v sl k g cs W.drew := ⟨(show Same W W.drew from ⟨rfl, rfl, rfl, rfl⟩).sc h.1, ⟨Below.drew h.2.1.1, h.2.1.2⟩, h.2.2⟩
theorem Nz.moves {k' : Nat} {W W' : World} (h : Nz w b v sl k g cs W) (m : Moves w.heap.size W b v sl k' W') : Nz w b v sl k' g cs W' :=
  ⟨m.1, ⟨h.2.1.1.grown m.2 h.2.1.1.size (fun j hj => by cases hj; exact h.1.ge), (m.2.block _ h.2.1.2.lt (fun e => h.2.2 (Option.some.inj e))).trans h.2.1.2⟩, h.2.2⟩
theorem Nz.all {x0 x1 x2 x3 : Value} {W : World} (h : Nz w b v sl k g #[x0, x1, x2, x3] W) : W.cell? ⟨g, 0, none⟩ = some x0 ∧ W.cell? ⟨g, 1, none⟩ = some x1 ∧ W.cell? ⟨g, 2, none⟩ = some x2 ∧ W.cell? ⟨g, 3, none⟩ = some x3 ∧ Nz w b v sl k g #[x0, x1, x2, x3] W :=
  ⟨h.2.1.2.cell 0, h.2.1.2.cell 1, h.2.1.2.cell 2, h.2.1.2.cell 3, h⟩
theorem nz_of {W : World} {f : Nat} {args : Array Value} {y : Value} (h : Nz w b v sl k g cs W) (c : Calls Tryd.prog f args W fun e w' => e = .returned y ∧ Below W.heap.size W w') :
    Calls Tryd.prog f args W fun e w' => e = .returned y ∧ Nz w b v sl k g cs w' := c.mono fun _ _ ⟨x, z⟩ => ⟨x, h.below z⟩
theorem nz_place {W : World} (h : Nz w b v sl k g cs W) : Calls Tryd.prog 24 #[.pointer (some ⟨b, 0, none⟩)] W fun e w' => e = .returned (.int .i64 k) ∧ Nz w b v sl k g cs w' :=
  (place_any h.1).mono fun _ _ ⟨x, y⟩ => ⟨x, y.sc h.1, ⟨y.below h.2.1.1, by have := h.2.1.2; unfold Fb at this ⊢; rw [y.heap]; exact this⟩, h.2.2⟩
end
set_option maxHeartbeats 8000000 in
set_option maxRecDepth 100000 in
theorem ntterms_walk (k : Int) (hk0 : -9223372036854775808 ≤ k) (hk1 : k ≤ 9223372036854775807) (a : ByteArray) (_ : a.size ≤ maxLen) (b : ByteArray) (_ : b.size ≤ maxLen) (c : ByteArray) (_ : c.size ≤ maxLen) (s : ByteArray) (_ : s.size ≤ maxLen)
    (w : World) (t : TypeId) (fr : Nat × Nat) (htab : w.heap[0]? = some (.cells escCells t fr)) :
    Calls Tryd.prog 8 #[F4 k a b c, .string s] w fun e w' => e = .returned (.bool true) ∧ Below w.heap.size w w' := by
  have hlt0 : 0 < w.heap.size := (Array.getElem?_eq_some_iff.1 htab).1
  have hN0 : Ny w w.heap.size #[.int .i64 k, .string a, .string b, .string c] (w.alloc (.cells #[.int .i64 k, .string a, .string b, .string c] 23)) := Ny.mk (Below.refl _ _) _
  have cA : ∀ {g cs W}, Ny w g cs W → Calls Tryd.prog 18 #[] W fun e w' => e = .returned (.bool true) ∧ Ny w g cs w' := fun {g cs W} h =>
    ny_of h (nawake_ok W t fr (tab_below htab h.1 hlt0))
  have HTAB := Lib.hid htab
  by_cases hbig : 300 < a.size ∨ 300 < b.size ∨ 100 < c.size ∨ 100 < s.size
  · have hways : (300 : Int) < (a.size : Int) ∨ (¬ (300 : Int) < (a.size : Int) ∧ (300 : Int) < (b.size : Int)) ∨ (¬ (300 : Int) < (a.size : Int) ∧ ¬ (300 : Int) < (b.size : Int) ∧ (100 : Int) < (c.size : Int)) ∨ (¬ (300 : Int) < (a.size : Int) ∧ ¬ (300 : Int) < (b.size : Int) ∧ ¬ (100 : Int) < (c.size : Int) ∧ (100 : Int) < (s.size : Int)) := by omega
    clear hbig htab hlt0
    rcases hways with k1 | ⟨k1, k2⟩ | ⟨k1, k2, k3⟩ | ⟨k1, k2, k3, k4⟩
    all_goals
      go_enter Tryd.func8, Tryd.ntmps8
      go_wp2_with (go_at_call 18; (with_reducible refine (cA (by assumption)).mono ?_); rintro e w1 ⟨rfl, hN1⟩; obtain ⟨x0, x1, x2, x3⟩ := hN1.cells)
      go_ret
      exact ⟨rfl, hN1.1⟩
  · have k1 : ¬ (300 : Int) < (a.size : Int) := by omega
    have k2 : ¬ (300 : Int) < (b.size : Int) := by omega
    have k3 : ¬ (100 : Int) < (c.size : Int) := by omega
    have k4 : ¬ (100 : Int) < (s.size : Int) := by omega
    obtain ⟨lm, rest, hp⟩ := parts_of s.data.toList
    have hlm : lm.length ≤ 100 := by have := hp.size; have := encL_len lm; omega
    have sA : ∀ W, Calls Tryd.prog 19 #[.string s] W (SignsPost W lm (decide (rest = []))) := fun W => signs_any s lm rest hp (by omega) W
    have cP := plain3_any k ⟨hk0, hk1⟩ a b c
    have hsm := pl3_small k a b c
    have cR := pl3_real k a b c
    obtain ⟨ty, wv, hv⟩ := pl3_val k a b c
    obtain ⟨u, hu⟩ : ∃ u, u = pl3 k a b c := ⟨_, rfl⟩
    rw [← hu] at cP hsm cR hv
    have hfew : u.few := ⟨by omega, by omega, by omega⟩
    have hul := tS_len u
    have cG := rgoodT_any u hfew
    have cF := lref_any u
    have hTX := fun (hg : goodT u = true) (W : World) (h : W.heap[0]? = some (.cells escCells t fr)) => ntext_any u hg hfew W t fr h
    unfold T4 at cP cR cG
    obtain ⟨K, hK⟩ : ∃ K, K = u.kind := ⟨_, rfl⟩
    obtain ⟨ya, hya⟩ : ∃ K, K = u.ta := ⟨_, rfl⟩
    obtain ⟨yb, hyb⟩ : ∃ K, K = u.tb := ⟨_, rfl⟩
    obtain ⟨yc, hyc⟩ : ∃ K, K = u.tc := ⟨_, rfl⟩
    rw [← hK, ← hya, ← hyb, ← hyc] at cP cR cG cF
    rw [hv] at cR cF hTX
    by_cases hr : rest = []
    · subst hr
      have hd : decide (([] : List UInt8) = []) = true := rfl
      rw [hd] at sA
      cases hg : goodT u
      · rw [hg] at cG
        clear hd hp hu hsm hv hfew hul cF hTX hK hya hyb hyc hg hlm cR hk0 hk1 htab hlt0
        go_enter Tryd.func8, Tryd.ntmps8
        go_wp2_with (first
          | (go_at_call 18; (with_reducible refine (cA (by assumption)).mono ?_); rintro e w1 ⟨rfl, hN1⟩; obtain ⟨x0, x1, x2, x3⟩ := hN1.cells)
          | (go_at_call 34; (with_reducible refine (ny_of hN1 (cP _)).mono ?_); rintro e w2 ⟨rfl, hN2⟩; have hN3 := Ny.mk hN2.1 #[.int .i64 K, .string ya, .string yb, .string yc])
          | (go_at_call 19; (with_reducible refine (sA _).mono ?_); rintro e w4 ⟨vI, rfl, hI4, hb4⟩; obtain ⟨aoI, capI, rfl⟩ := ints_shape hI4; have hN4 := hN3.below hb4; obtain ⟨z0, z1, z2, z3⟩ := hN4.cells; clear hb4 hI4)
          | (go_at_call 35; (with_reducible refine (ny_of hN4 (cG _)).mono ?_); rintro e w5 ⟨rfl, hN5⟩))
        go_ret
        exact ⟨rfl, hN5.1⟩
      · rw [hg] at cG
        have hTX := hTX hg
        obtain ⟨z, hz⟩ : ∃ z, z = textOf (tS u) := ⟨_, rfl⟩
        rw [← hz] at hTX
        obtain ⟨N, hN⟩ : ∃ N, N = (tS u).length := ⟨_, rfl⟩
        have hNl : N ≤ 3000 := by omega
        have hzp : Parts z.data.toList (tS u) [] := by rw [hz]; exact parts_text (tS_all u)
        have hzs : z.size ≤ 12000 := by rw [hz]; have := text_size (tS u); omega
        have cL : ∀ W, Calls Tryd.prog 37 #[.string z] W fun e w' => e = .returned (.int .i64 N) ∧ Below W.heap.size W w' := fun W => by rw [hN]; exact len_any z (tS u) [] hzp (by omega) W
        have hall : AllS (tS u ++ 32 :: lm) := allS_app (tS_all u) (allS_cons (by decide) hp.all)
        have hrd := readP_text (tS u ++ 32 :: lm) lm 0 u hg rfl
        rw [Nat.zero_add, ← hN] at hrd
        have hse : s = textOf lm := hp.text
        obtain ⟨z1, hz1⟩ : ∃ z1 : ByteArray, z1 = z ++ ⟨#[32]⟩ := ⟨_, rfl⟩
        have hz1s : z1.size = z.size + 1 := by rw [hz1, ByteArray.size_append]; rfl
        obtain ⟨z2, hz2⟩ : ∃ z2 : ByteArray, z2 = z1 ++ s := ⟨_, rfl⟩
        have hz2s : z2.size = z1.size + s.size := by rw [hz2, ByteArray.size_append]
        have a1 : ∀ W, (Op.stringOp .add z ⟨#[32]⟩).run Tryd.prog W = .ok (.string z1) W := fun W => by rw [hz1]; exact add_any _ _ (by show z.size + 1 ≤ _; omega) W
        have a2 : ∀ W, (Op.stringOp .add z1 s).run Tryd.prog W = .ok (.string z2) W := fun W => by rw [hz2]; exact add_any _ _ (by omega) W
        have hz2t : z2 = textOf (tS u ++ 32 :: lm) := by
          rw [hz2, hz1, hz, hse, textOf_app, text_cons, ← ByteArray.append_assoc]; rfl
        obtain ⟨sl, hsl⟩ : ∃ sl, sl = tS u ++ 32 :: lm := ⟨_, rfl⟩
        rw [← hsl] at hall hrd hz2t
        have hsll : sl.length ≤ 100000 := by rw [hsl]; simp; omega
        have cN : ∀ W, Calls Tryd.prog 20 #[.string z2] W (NewPost W sl) := fun W => new_good z2 sl (by rw [hz2t]; exact parts_text hall) (by omega) W
        have cX : ∀ {g cs W}, Ny w g cs W → Calls Tryd.prog 36 #[.iface ty wv] W fun e w' => e = .returned (.string z) ∧ Ny w g cs w' := fun {g cs W} h => ny_of h (hTX W (tab_below htab h.1 hlt0))
        have cRd : ∀ {b v g cs W}, Nz w b v sl 0 g cs W → Calls Tryd.prog 22 #[.pointer (some ⟨b, 0, none⟩)] W fun e w' => e = .returned (.tuple #[.iface ty wv, .int .i64 N, .int .i64 0]) ∧ Nz w b v sl N g cs w' := fun {b v g cs W} h => by
          have := nread_any h.1 (Nat.zero_le _) hsll hall t fr (tab_below htab h.2.1.1 hlt0)
          rw [hrd] at this
          exact this.mono fun e w' ⟨x, m⟩ => ⟨by rw [x, hv], h.moves m⟩
        have hE := eqlT4
        clear hd hp hu hsm hv hfew hul hTX hK hya hyb hyc hg hlm hk0 hk1 htab hlt0 hz hN hNl hzp hzs hall hrd hse hz1 hz1s hz2 hz2s hz2t hsl hsll
        go_enter Tryd.func8, Tryd.ntmps8
        go_wp2_with (first
          | (go_at_call 18; (with_reducible refine (cA (by assumption)).mono ?_); rintro e w1 ⟨rfl, hN1⟩; obtain ⟨x0, x1, x2, x3⟩ := hN1.cells)
          | (go_at_call 34; (with_reducible refine (ny_of hN1 (cP _)).mono ?_); rintro e w2 ⟨rfl, hN2⟩; have hN3 := Ny.mk hN2.1 #[.int .i64 K, .string ya, .string yb, .string yc])
          | (go_at_call 19; (with_reducible refine (sA _).mono ?_); rintro e w4 ⟨vI, rfl, hI4, hb4⟩; obtain ⟨aoI, capI, rfl⟩ := ints_shape hI4; have hN4 := hN3.below hb4; obtain ⟨z0, z1, z2, z3⟩ := hN4.cells; clear hb4 hI4)
          | (go_at_call 35; (with_reducible refine (ny_of hN4 (cG _)).mono ?_); rintro e w5 ⟨rfl, hN5⟩; obtain ⟨y0, y1, y2, y3⟩ := hN5.cells)
          | (go_at_call 12; (with_reducible refine (ny_of hN5 (cR _)).mono ?_); rintro e w6 ⟨rfl, hN6⟩)
          | (go_at_call 36; (with_reducible refine (cX hN6).mono ?_); rintro e w7 ⟨rfl, hN7⟩)
          | (go_at_call 20; (with_reducible refine (cN _).mono ?_); rintro e w8 ⟨b, v, rfl, hsc8, hb8⟩; have hZ8 := Nz.of hN7 hsc8 hb8; clear hsc8 hb8)
          | (go_at_call 22; (with_reducible refine (cRd hZ8).mono ?_); rintro e w9 ⟨rfl, hZ9⟩))
        clear hN1 hN2 hN3 hN4 hN5 hN6 hN7 hZ8 x0 x1 x2 x3 z0 z1 z2 z3 y0 y1 y2 y3
        generalize w2.heap.size = g at hZ9 ⊢
        go_region_held3 (fun W => W.cell? ⟨g, 0, none⟩ = some (.int .i64 K) ∧ W.cell? ⟨g, 1, none⟩ = some (.string ya) ∧ W.cell? ⟨g, 2, none⟩ = some (.string yb) ∧ W.cell? ⟨g, 3, none⟩ = some (.string yc) ∧ Nz w b v sl N g #[.int .i64 K, .string ya, .string yb, .string yc] W)
          (first | exact Nz.all (by assumption) | exact Nz.all (Nz.drew (by assumption)))
          (first
            | (go_at_call 25; (with_reducible refine (nz_of (by first | assumption | exact Nz.drew (by assumption)) (cF _)).mono ?_); rintro e wa ⟨rfl, hZa⟩)
            | (go_at_call 37; (with_reducible refine (nz_of (by first | assumption | exact Nz.drew (by assumption)) (cL _)).mono ?_); rintro e wb ⟨rfl, hZb⟩)
            | (go_at_call 24; (with_reducible refine (nz_place (by first | assumption | exact Nz.drew (by assumption))).mono ?_); rintro e wc ⟨rfl, hZc⟩))
        all_goals
          go_wp2
          go_ret
          exact ⟨ret_bool (by first | rfl | simp), by first | exact hZc.2.1.1 | exact hZb.2.1.1 | exact hZa.2.1.1⟩
    · have hd : decide (rest = []) = false := decide_eq_false hr
      rw [hd] at sA
      clear hd hp hr hu hsm hv hfew hul cF hTX hK hya hyb hyc hlm cR cG hk0 hk1 htab hlt0
      go_enter Tryd.func8, Tryd.ntmps8
      go_wp2_with (first
        | (go_at_call 18; (with_reducible refine (cA (by assumption)).mono ?_); rintro e w1 ⟨rfl, hN1⟩; obtain ⟨x0, x1, x2, x3⟩ := hN1.cells)
        | (go_at_call 34; (with_reducible refine (ny_of hN1 (cP _)).mono ?_); rintro e w2 ⟨rfl, hN2⟩; have hN3 := Ny.mk hN2.1 #[.int .i64 K, .string ya, .string yb, .string yc])
        | (go_at_call 19; (with_reducible refine (sA _).mono ?_); rintro e w4 ⟨vI, rfl, hI4, hb4⟩; obtain ⟨aoI, capI, rfl⟩ := ints_shape hI4; have hN4 := hN3.below hb4; clear hb4 hI4))
      go_ret
      exact ⟨rfl, hN4.1⟩

namespace NtTermsF
theorem laidOut : laidOutB Tryd.prog = true := by kernel_rfl
set_option maxRecDepth 100000 in
theorem contract (H : Type) (enc : TypeId × Value → H) (W : World) (base : Nat) (args : Array Value) (ds gs : List (DataW H)) (before : List MemPlace)
    (hval : ∀ (j : Nat) t v, Tryd.f8.params[j]? = some t → args[j]? = some v → Value.okWide Tryd.prog W .any base t v)
    (hW : DataW.Whole enc Tryd.prog Tryd.f8.params.toList Rows.ntTermsSpec.vars false W args.toList ds gs before) (hL : laidMetH Tryd.prog Rows.ntTermsRow.laid W) :
    Calls Tryd.prog 8 args W fun e W' => ∃ v, e = .returned v ∧ Rows.ntTermsSpec.post enc Tryd.prog Tryd.f8 false true false false W args v W' := by
  have hW' := hW
  obtain ⟨p, q, hA0, hV, rfl, hfz, hnd⟩ := hW
  have hA : DataW.TrodAll enc Tryd.prog W 0 (fun _ => true) true Tryd.f8.params.toList args.toList ds p := hA0
  rw [Tryd.params8] at hA hval
  obtain ⟨v0, vs0, d0, ds0, p0, q0, hargs, rfl, rfl, h0, r0⟩ := trodAll_cons hA
  obtain ⟨v1, vs1, d1, ds1, p1, q1, rfl, rfl, rfl, h1, r1⟩ := trodAll_cons r0
  obtain ⟨rfl, rfl, rfl⟩ := trodAll_nil r1
  obtain rfl : args = #[v0, v1] := by cases args; simp_all
  obtain ⟨rfl, rfl⟩ := trodVars_none hV
  obtain ⟨a0, b0, c0, e0, y0, u0, s0, z0, n0, rfl, rfl, rfl, t0, m0, k0, l0⟩ := Joins.open_agg4 Tryd.underlying23 (by kernel_rfl) (by kernel_rfl) (hval 0 23 v0 rfl rfl) h0
  obtain ⟨ki0, ea0, _, wa0⟩ := DataW.trod_int Tryd.underlying3 t0
  obtain ⟨sb0, eb0, _, wb0⟩ := DataW.trod_string Tryd.underlying9 m0
  obtain ⟨sc0, ec0, _, wc0⟩ := DataW.trod_string Tryd.underlying9 k0
  obtain ⟨se0, ee0, _, we0⟩ := DataW.trod_string Tryd.underlying9 l0
  obtain rfl : a0 = .int .i64 ki0 := by simpa using ea0
  obtain rfl : b0 = .string sb0 := by simpa using eb0
  obtain rfl : c0 = .string sc0 := by simpa using ec0
  obtain rfl : e0 = .string se0 := by simpa using ee0
  have bd0 := bounds_i64 wa0
  clear ea0 eb0 ec0 ee0
  obtain ⟨x1, rfl, rfl, rfl, w1⟩ := Go.ChangeMaps.open_string Tryd.underlying9 (hval 1 9 v1 rfl rfl) h1
  clear hA0
  simp only [List.append_nil] at hW'
  have hlt0 : ∀ x ∈ y0.2 ++ (u0.2 ++ (s0.2 ++ z0.2)), x.block < W.heap.size := fun x hx => by
    have := hW'.lt x (by first | exact hx | exact List.mem_append_left _ hx | exact List.mem_append_right _ (List.mem_append_left _ hx) | exact List.mem_append_right _ (List.mem_append_right _ hx) | exact List.mem_append_right _ hx | (simp [hx]; done))
    simpa using this
  have hargs0 := fun (W' : World) (hn : Below W.heap.size W W') => Below.trod laidOut (by kernel_rfl) (of_decide_eq_true (by kernel_rfl)) h0 hn hlt0
  obtain ⟨t, fr, htab⟩ := table hL
  refine (ntterms_walk ki0 bd0.1 bd0.2 sb0 wb0 sc0 wc0 se0 we0 x1 w1 W t fr htab).mono fun e W' ⟨he, hb⟩ => ?_
  subst he
  exact ⟨_, rfl, _, _, _, [], _, [], hW', trodAll_mk1 (shut_bool Tryd.underlying4 _), trodAll_cons_mk (hargs0 _ hb) (trodAll_cons_mk (Go.ChangeMaps.shut_string Tryd.underlying9 w1) (trodAll_mk0)), rfl, hb.frame _, fun h => by cases h⟩

noncomputable def laidWorld (os : Os) : World :=
  { World.holding Tryd.prog os ⟨#[], #[], []⟩ with heap := (World.holding Tryd.prog os ⟨#[], #[], []⟩).heap.modify 0 fun
      | .cells _ t frozen => .cells escCells t frozen
      | o => o }
theorem laid_met (os : Os) : laidMet Tryd.prog Rows.ntTermsRow.laid ((laidWorld os).forCall (fun _ _ => 0) ⟨#[], #[.agg #[.int .i64 0, .string ⟨#[]⟩, .string ⟨#[]⟩, .string ⟨#[]⟩], .string ⟨#[]⟩], []⟩).memory :=
  laidMet_of_run' 8 (by kernel_rfl) (by kernel_rfl)
theorem reads (os : Os) {H : Type} (enc : TypeId × Value → H) : ∃ places, DataW.whole enc Tryd.prog ((laidWorld os).forCall (fun _ _ => 0) ⟨#[], #[.agg #[.int .i64 0, .string ⟨#[]⟩, .string ⟨#[]⟩, .string ⟨#[]⟩], .string ⟨#[]⟩], []⟩).memory Tryd.f8.params.toList Rows.ntTermsSpec.vars false (#[.agg #[.int .i64 0, .string ⟨#[]⟩, .string ⟨#[]⟩, .string ⟨#[]⟩], .string ⟨#[]⟩] : Array Value).toList 8 = some ([.agg [.lit (.int .i64 0), .lit (.string []), .lit (.string []), .lit (.string [])], .lit (.string [])], [], places) :=
  ⟨[], by kernel_rfl⟩

set_option maxRecDepth 100000 in
theorem lifted (os : Os) (started : os.Started) (H : Type) (enc : TypeId × Value → H) (F : Stop.Interp) :
    ReturnsInHanded {} Tryd.checked os 8 .any ((OpenSpec.ofChange Rows.ntTermsSpec).preRow enc Tryd.prog Tryd.f8 Rows.ntTermsRow.domain false Rows.ntTermsRow.laid) (((OpenSpec.ofChange Rows.ntTermsSpec).at F).post enc Tryd.prog Tryd.f8 false true false false) := by
  obtain ⟨places, hx⟩ := reads os enc
  refine returnsInHanded_of_row (C := Tryd.checked) (s := OpenSpec.ofChange Rows.ntTermsSpec) own started (by kernel_rfl) Tryd.func8
    (witness_row_at (enc := enc) (C := Tryd.checked) false (laidWorld os) #[.agg #[.int .i64 0, .string ⟨#[]⟩, .string ⟨#[]⟩, .string ⟨#[]⟩], .string ⟨#[]⟩] rfl (by kernel_rfl) (by kernel_rfl) (by kernel_rfl)
      (OpenSpec.preRow_of_cond 8 hx (by kernel_rfl) (fun k hk => by cases hk) (by kernel_rfl) (laid_met os))) ?_
  intro W base args ds gs before hval hW _ _ _ hL _ _
  exact contract H enc W base args ds gs before hval hW hL

theorem said : Rows.NtTermsSaid :=
  OpenClaim.holds_of_cond 8 Tryd.f8 rfl rfl rfl rfl rfl rfl rfl ⟨rfl, rfl, rfl, rfl, rfl⟩ rfl rfl rfl rfl rfl (by kernel_rfl) Tryd.func8 (by kernel_rfl)
    (of_decide_eq_true (by kernel_rfl)) (by unfold Func.isWrapper; first | (rw [if_pos (by decide +kernel)]; kernel_rfl) | (rw [if_neg (by decide +kernel)]; exact ⟨rfl, rfl⟩))
    (fun os started H enc _ F => by rw [OpenClaim.pre_eq_preRow]; exact lifted os started H enc F)

theorem plain (f : FuncId) (fn : Func) (hf : Tryd.pinned.checked.prog.funcNamed "beck/becklaw04.NtTerms" = some f) (hfn : Tryd.pinned.checked.prog.funcs[f]? = some fn) :
    true = Tryd.pinned.checked.prog.looks [] ∧ ∀ (j : Nat) t, fn.params[j]? = some t → Tryd.pinned.checked.prog.wantsStandIn t = false := by
  obtain rfl : f = 8 := Option.some.inj ((show Tryd.prog.funcNamed "beck/becklaw04.NtTerms" = some 8 by kernel_rfl).symm.trans hf) |>.symm
  obtain rfl : fn = Tryd.f8 := (Option.some.inj (Tryd.func8.symm.trans hfn)).symm
  refine ⟨by kernel_rfl, fun j t ht => ?_⟩
  rw [Tryd.params8] at ht
  have hm : t ∈ [23, 9] := by simpa using Array.mem_of_getElem? ht
  have hall : ([23, 9].all fun u => !Tryd.prog.wantsStandIn u) = true := by kernel_rfl
  exact (show Tryd.prog.wantsStandIn t = false by simpa using List.all_eq_true.1 hall t hm)
end NtTermsF
theorem ntTerms_card : Rows.NtTermsCardSaid :=
  Claim7.holds_tied_plain_at .later [] _ _ _ _ NtTermsF.said (fun _ h => by cases h) (by kernel_rfl) (fun _ h => by cases h) ntTerms_row_tie rfl ⟨rfl, rfl⟩ (by kernel_rfl) rfl NtTermsF.plain (by kernel_rfl)

end Go.Proofs.YtcllamipcgbfiaaDoor
