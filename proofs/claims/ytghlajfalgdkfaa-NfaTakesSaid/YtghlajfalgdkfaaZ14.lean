/-
  MERGED (a claim has at most 60 files): NgAl, NgAg.
-/
import Derived.Test.YtghlajfalgdkfaaZ12
import Derived.Deep.Cut
/-
  alt, any.
-/
namespace Go.Proofs.Ytghlajfalgdkfaa
open Go.RowKit
set_option linter.unusedVariables false
set_option linter.unusedSimpArgs false
set_option maxRecDepth 100000

def AlR (B d : Nat) (T : List St) (sy : Nat → Sy) (W : World) (ts : List PT) (gk : Nat) (s : Value) (wr : World) : Prop := ∃ (j : Nat) (Af : Option Addr) (nf cf : Nat) (Al : Option Addr) (nl cl : Nat) (T1 : List St) (sy1 : Nat → Sy) (g : Gd) (em : Bool), j + gk = ts.length ∧ s = .int .i64 (j : Int) ∧ em = g.em ∧
  LyR B d T sy (Altl (langs (ts.take j))) (lvs (ts.take j)) W (.slice Af nf cf) (.slice Al nl cl) T1 sy1 g wr ∧ Fb wr W.heap.size 69 #[.slice none 0 0, .slice none 0 0, .bool false] ∧ Fb wr (W.heap.size + 1) 69 #[.slice Af nf cf, .slice Al nl cl, .bool em]
set_option maxHeartbeats 32000000 in
theorem alt_any {B d n0 c0 : Nat} {A0 : Option Addr} {T : List St} {sy : Nat → Sy} {W : World} {ts : List PT} {ps : List Pa} (hM : Ma B d T W) (hw : Wt sy T) (hR : RowP W (.slice A0 n0 c0) ps) (hP : Pths W ts ps) (hn0 : n0 = ts.length) (hT : T.length + lvs ts ≤ 1000) (hB : B ≤ W.heap.size) (hts : ts.length ≤ 1000) (IH : ∀ t ∈ ts, LayAll B d t) :
    Calls Try.prog 50 #[.pointer (some ⟨d, 0, none⟩), .slice A0 n0 c0] W (LyQ2 B d T sy (Altl (langs ts)) (lvs ts) W) := by
  obtain ⟨W1, hW1⟩ : ∃ W1, W1 = (W.alloc (.cells #[.slice none 0 0, .slice none 0 0, .bool false] 69)).alloc (.cells #[.slice none 0 0, .slice none 0 0, .bool false] 69) := ⟨_, rfl⟩
  have hb1 : Below W.heap.size W W1 := by rw [hW1]; exact ((Below.refl _ _).alloc (Nat.le_refl _) _).alloc (by simp) _
  have hZ : Fb W1 W.heap.size 69 #[.slice none 0 0, .slice none 0 0, .bool false] := by rw [hW1]; exact (Fb.new W _ _).alloc _
  have hY : Fb W1 (W.heap.size + 1) 69 #[.slice none 0 0, .slice none 0 0, .bool false] := by
    have := Fb.new (W.alloc (.cells #[.slice none 0 0, .slice none 0 0, .bool false] 69)) 69 #[.slice none 0 0, .slice none 0 0, .bool false]
    rw [World.size_alloc] at this
    rw [hW1]; exact this
  have H0 := Lib.hid (show AlR B d T sy W ts ts.length (.int .i64 0) W1 from ⟨0, none, 0, 0, none, 0, 0, T, sy, _, false, by omega, rfl, rfl, start_seq (hM.below hb1) hw (Fr.below hb1 hB) false (fun w => by simp [langs, Altl]), hZ, hY⟩)
  have HPart := Lib.hid (fun (j : Nat) (t : PT) (hj : ts[j]? = some t) => part_at hM hR hP hj)
  have HIH := Lib.hid IH
  have HB := Lib.hid hB
  have HTl := Lib.hid hT
  have HTS := Lib.hid hts
  have n0I : (0 : Int) ≤ (n0 : Int) := by omega
  have n1I : (n0 : Int) ≤ 1000 := by omega
  have HN0 := Lib.hid hn0
  have HW1 := Lib.hid hW1
  clear hM hw hR hP hT hB hts IH hb1 hZ hY hn0
  go_enter Try.func50, Try.ntmps50
  go_wp2
  rw [← HW1.out]
  clear hW1
  go_loopg [11] ts.length (fun gk s wr => AlR B d T sy W ts gk s wr)
  case atStart => exact H0.out
  case round =>
    obtain ⟨j, Af, nf, cf, Al, nl, cl, T1, sy1, g, em, hj, rfl, hem, h1, hz, hy⟩ := hrel
    have HJ := Lib.hid hj
    by_cases hlt : j < ts.length
    · obtain ⟨t, ht⟩ : ∃ t, ts[j]? = some t := ⟨_, List.getElem?_eq_getElem hlt⟩
      obtain ⟨gp, kd, nn, A9, m9, c9, hs, hat⟩ := HPart.out j t ht
      obtain ⟨hpt, x0, x1, x2⟩ := hat wr T1 h1.fr
      have hs1 : A0 = some ⟨gp, 0, none⟩ := by simpa using (Value.slice.inj hs).1
      subst hs1
      have hn := HN0.out
      have j0 : (0 : Int) ≤ (j : Int) := by omega
      have j1 : (j : Int) < (n0 : Int) := by omega
      obtain ⟨w2, hw2⟩ : ∃ w2, w2 = wr.alloc (.cells #[.int .i64 kd, .int .i64 nn, .slice A9 m9 c9] 28) := ⟨_, rfl⟩
      have hb2 : Below wr.heap.size wr w2 := by rw [hw2]; exact (Below.refl _ _).alloc (Nat.le_refl _) _
      have hBr : B ≤ wr.heap.size := Nat.le_trans HB.out h1.fr.b.size
      have hlen := h1.len
      have hlv := lvs_take ts j t ht
      have hlv2 := lvs_take_le ts (j + 1)
      have hTl := HTl.out
      have cL := HIH.out t (List.mem_of_getElem? ht) kd nn A9 m9 c9 T1 sy1 w2 (hpt.below hb2) (h1.ma.below hb2) h1.wt (by omega) (Nat.le_trans hBr hb2.size)
      have HT := Lib.hid ht
      have H1 := Lib.hid h1
      have HE1 := Lib.hid hem
      have HZ := Lib.hid (hz.below hb2)
      have HY := Lib.hid (hy.below hb2)
      have HNoY := Lib.hid (fun (q : Nat) (cs : Array Value) (hq : Fb w2 q 69 cs) => OB.not (h1.ma.below hb2) hq (by decide))
      have HB2 := Lib.hid hb2
      have HBr := Lib.hid hBr
      have HLT := Lib.hid hlt
      have HLv := Lib.hid (And.intro hlv (And.intro hlv2 hlen))
      clear hj hem h1 hz hy hlt ht hs hat hpt hn hb2 hBr hlen hlv hlv2 hTl
      subst hw2
      go_upto_region 6 with (first
        | (go_at_call 30; (with_reducible refine cL.mono ?_); rintro e w5 ⟨f2, l2, T2, sy2, g2, rfl, h2⟩; obtain ⟨Ax, cx, rfl, _⟩ := h2.fR.shape; obtain ⟨Ay, cy, rfl, _⟩ := h2.lR.shape; have H2 := Lib.hid h2; clear h2))
      have h1 := H1.out
      have h2 := H2.out
      obtain ⟨e2, he2⟩ : ∃ e2, e2 = g2.em := ⟨_, rfl⟩
      rw [← he2]
      have hy5 := h2.fr.k _ _ _ HY.out (by decide) (by decide) (HNoY.out _ _ HY.out)
      have hz5 := h2.fr.k _ _ _ HZ.out (by decide) (by decide) (HNoY.out _ _ HZ.out)
      have h2r := h2.from HB2.out HBr.out
      obtain ⟨w6, hw6⟩ : ∃ w6, w6 = w5.alloc (.cells #[.slice Ax g2.f.length cx, .slice Ay g2.l.length cy, .bool e2] 69) := ⟨_, rfl⟩
      have hb6 : Below w5.heap.size w5 w6 := by rw [hw6]; exact (Below.refl _ _).alloc (Nat.le_refl _) _
      have ht6 : Fb w6 w5.heap.size 69 #[.slice Ax g2.f.length cx, .slice Ay g2.l.length cy, .bool e2] := by rw [hw6]; exact Fb.new w5 _ _
      have hy6 := hy5.below hb6
      have hz6 := hz5.below hb6
      have hlt8 : W.heap.size + 1 < w5.heap.size := hy5.lt
      have hB5 : B ≤ w5.heap.size := Nat.le_trans HBr.out h2r.fr.b.size
      obtain ⟨hv1, hv2, hv3⟩ := HLv.out
      have hTl := HTl.out
      have hT2 : T2.length ≤ 1000 := by have := h2.len; omega
      obtain ⟨hfl1, hfl2⟩ := h1.fl
      obtain ⟨hxl1, hxl2⟩ := h2.fl
      have hf6 : MvR B w6 (.slice Af nf cf) g.f := row_below (h2r.fr.row h1.fR (by decide) (by decide) fun k hk => (h1.fd k hk).1) hb6
      have hl6 : InR B w6 (.slice Al nl cl) g.l := row_below (h2r.fr.row h1.lR (by decide) (by decide) fun k hk => by
        obtain ⟨cs, hc⟩ := row_type h1.lR hk
        exact OB.not h1.ma hc (by decide)) hb6
      have h26 := h2.below hb6 hB5
      have hll : ∀ q ∈ g.l, q < T2.length := fun q hq => by have h3 := (h1.ok.l q hq).2; have h4 := h1.hi; have h5 := h2.len; omega
      have HFin := Lib.hid (And.intro hll (And.intro hT2 (And.intro (show g.f.length ≤ 1000 by omega) (And.intro (show g.l.length ≤ 1000 by omega) (And.intro (show g2.f.length ≤ 1000 by omega) (show g2.l.length ≤ 1000 by omega))))))
      have HF6 := Lib.hid hf6
      have HL6 := Lib.hid hl6
      have H26 := Lib.hid h26
      have H2r := Lib.hid h2r
      have HY6 := Lib.hid hy6
      have HZ6 := Lib.hid hz6
      have HT6 := Lib.hid ht6
      have HB6 := Lib.hid hb6
      have HB5 := Lib.hid hB5
      have HE2 := Lib.hid he2
      have t60 := ht6.cell 0
      have y61 := hy6.cell 1
      have y60 := hy6.cell 0
      have yf60 := hy6.free 0
      clear h1 h2 hy5 hz5 h2r hb6 ht6 hy6 hz6 hB5 hv1 hv2 hv3 hTl hfl1 hfl2 hxl1 hxl2 hf6 hl6 h26 he2 HY HZ hll hT2 x0 x1 x2 cL
      rw [← hw6]
      clear hw6
      have HSq := Lib.hid (Sq.mk (Bd.mk H26.out.ma ((H1.out.fr.trans H2r.out.fr).trans (Fr.below HB6.out HB5.out))) HF6.out (H1.out.fob (H2r.out.fr.trans (Fr.below HB6.out HB5.out))) H26.out.lR (fun q hq => Nat.le_trans (Nat.le_trans H1.out.fr.b.size HB2.out.size) (H26.out.ld q hq)) HL6.out H1.out.ld)
      have HB7 := Lib.hid (Nat.le_trans HB5.out HB6.out.size)
      cases em with
      | false =>
        cases e2 with
        | false =>
          go_wp2_with (first
            | (at_builtin; refine wpl_app_m rfl _ _ rfl rfl rfl HSq.out.fR H26.out.fR HB7.out HFin.out.2.2.1 HFin.out.2.2.2.2.1 ?_; intro A8 n8 c8 w8 hl8 hr8 hg8 hn8; clear hl8; have hy8 := (grown_neT HSq.out.fR hg8 HY6.out (by decide)).trans HY6.out; have hz8 := (grown_neT HSq.out.fR hg8 HZ6.out (by decide)).trans HZ6.out; have ht8 := (grown_neT HSq.out.fR hg8 HT6.out (by decide)).trans HT6.out; have HSq8 := Lib.hid (HSq.out.appM HB.out hr8 hg8 hn8); have HY8 : Hid (Fb w8 (W.heap.size + 1) 69 _) := Lib.hid hy8; have HZ8 : Hid (Fb w8 W.heap.size 69 _) := Lib.hid hz8; have HT8 : Hid (Fb w8 w5.heap.size 69 _) := Lib.hid ht8; clear t60 y61 y60 yf60 hy8 hz8 ht8 hr8 hg8 hn8; have y0 := HY8.out.cell 0; have y1 := HY8.out.cell 1; have y2 := HY8.out.cell 2; have yf0 := HY8.out.free 0; have yf1 := HY8.out.free 1; have yf2 := HY8.out.free 2; have t0 := HT8.out.cell 0; have t1 := HT8.out.cell 1; have t2 := HT8.out.cell 2; have HSq9 := Lib.hid (HSq8.out.set HY8.out (Nat.le_succ _) HB.out 0 (.slice A8 n8 c8)); have HY9 := Lib.hid (HY8.out.set 0 (.slice A8 n8 c8)); have HZ9 := Lib.hid (HZ8.out.far (g' := W.heap.size + 1) 0 (.slice A8 n8 c8) (by omega)); have HT9 := Lib.hid (HT8.out.far (g' := W.heap.size + 1) 0 (.slice A8 n8 c8) (by omega)); have HB9 := Lib.hid (show B ≤ (w8.setCell ⟨W.heap.size + 1, 0, none⟩ (.slice A8 n8 c8)).heap.size from Nat.le_trans HB.out HSq9.out.bd.fr.b.size))
            | (at_builtin; refine wpl_app_i rfl _ _ rfl rfl rfl HSq9.out.yR HSq9.out.lR HB9.out HFin.out.2.2.2.1 HFin.out.2.2.2.2.2 ?_; intro A10 n10 c10 w10 hl10 hr10 hg10 hn10; clear hl10; have hy10 := (grown_neT HSq9.out.yR hg10 HY9.out (by decide)).trans HY9.out; have hz10 := (grown_neT HSq9.out.yR hg10 HZ9.out (by decide)).trans HZ9.out; have ht10 := (grown_neT HSq9.out.yR hg10 HT9.out (by decide)).trans HT9.out; have HSq10 := Lib.hid (HSq9.out.appI HB.out hr10 hg10 hn10); have HY10 : Hid (Fb w10 (W.heap.size + 1) 69 _) := Lib.hid hy10; have HZ10 : Hid (Fb w10 W.heap.size 69 _) := Lib.hid hz10; have HT10 : Hid (Fb w10 w5.heap.size 69 _) := Lib.hid ht10; clear y0 y1 y2 yf0 yf1 yf2 t0 t1 t2 hy10 hz10 ht10 hr10 hg10 hn10; have y0 := HY10.out.cell 0; have y1 := HY10.out.cell 1; have y2 := HY10.out.cell 2; have yf0 := HY10.out.free 0; have yf1 := HY10.out.free 1; have yf2 := HY10.out.free 2; have t0 := HT10.out.cell 0; have t1 := HT10.out.cell 1; have t2 := HT10.out.cell 2))
          go_roundg (ts.length - (j + 1))
          case measure => have := HJ.out; have := HLT.out; omega
          case rel =>
            have hSq := ((HSq10.out.set HY10.out (Nat.le_succ _) HB.out 1 (.slice A10 n10 c10)).set (HY10.out.set 1 (.slice A10 n10 c10)) (Nat.le_succ _) HB.out 2 (.bool false))
            have hfin := alt_fin H1.out H2r.out hSq.bd hSq.fR hSq.fo hSq.yR hSq.yo
            refine ⟨j + 1, _, _, _, _, _, _, T2, sy2, altG g g2, _, by have := HLT.out; omega, by rw [Int.natCast_add]; rfl, ?_, ?_, ((HZ10.out.far 1 (.slice A10 n10 c10) (by omega)).far 2 (.bool false) (by omega)), ((HY10.out.set 1 (.slice A10 n10 c10)).set 2 (.bool false))⟩
            · show _ = (g.em || g2.em)
              rw [← HE1.out, ← HE2.out]
              rfl
            · rw [langs_take ts j t HT.out, lvs_take ts j t HT.out]
              exact hfin.iff (fun w => (altl_snoc _ _ w).symm)
        | true =>
          go_wp2_with (first
            | (at_builtin; refine wpl_app_m rfl _ _ rfl rfl rfl HSq.out.fR H26.out.fR HB7.out HFin.out.2.2.1 HFin.out.2.2.2.2.1 ?_; intro A8 n8 c8 w8 hl8 hr8 hg8 hn8; clear hl8; have hy8 := (grown_neT HSq.out.fR hg8 HY6.out (by decide)).trans HY6.out; have hz8 := (grown_neT HSq.out.fR hg8 HZ6.out (by decide)).trans HZ6.out; have ht8 := (grown_neT HSq.out.fR hg8 HT6.out (by decide)).trans HT6.out; have HSq8 := Lib.hid (HSq.out.appM HB.out hr8 hg8 hn8); have HY8 : Hid (Fb w8 (W.heap.size + 1) 69 _) := Lib.hid hy8; have HZ8 : Hid (Fb w8 W.heap.size 69 _) := Lib.hid hz8; have HT8 : Hid (Fb w8 w5.heap.size 69 _) := Lib.hid ht8; clear t60 y61 y60 yf60 hy8 hz8 ht8 hr8 hg8 hn8; have y0 := HY8.out.cell 0; have y1 := HY8.out.cell 1; have y2 := HY8.out.cell 2; have yf0 := HY8.out.free 0; have yf1 := HY8.out.free 1; have yf2 := HY8.out.free 2; have t0 := HT8.out.cell 0; have t1 := HT8.out.cell 1; have t2 := HT8.out.cell 2; have HSq9 := Lib.hid (HSq8.out.set HY8.out (Nat.le_succ _) HB.out 0 (.slice A8 n8 c8)); have HY9 := Lib.hid (HY8.out.set 0 (.slice A8 n8 c8)); have HZ9 := Lib.hid (HZ8.out.far (g' := W.heap.size + 1) 0 (.slice A8 n8 c8) (by omega)); have HT9 := Lib.hid (HT8.out.far (g' := W.heap.size + 1) 0 (.slice A8 n8 c8) (by omega)); have HB9 := Lib.hid (show B ≤ (w8.setCell ⟨W.heap.size + 1, 0, none⟩ (.slice A8 n8 c8)).heap.size from Nat.le_trans HB.out HSq9.out.bd.fr.b.size))
            | (at_builtin; refine wpl_app_i rfl _ _ rfl rfl rfl HSq9.out.yR HSq9.out.lR HB9.out HFin.out.2.2.2.1 HFin.out.2.2.2.2.2 ?_; intro A10 n10 c10 w10 hl10 hr10 hg10 hn10; clear hl10; have hy10 := (grown_neT HSq9.out.yR hg10 HY9.out (by decide)).trans HY9.out; have hz10 := (grown_neT HSq9.out.yR hg10 HZ9.out (by decide)).trans HZ9.out; have ht10 := (grown_neT HSq9.out.yR hg10 HT9.out (by decide)).trans HT9.out; have HSq10 := Lib.hid (HSq9.out.appI HB.out hr10 hg10 hn10); have HY10 : Hid (Fb w10 (W.heap.size + 1) 69 _) := Lib.hid hy10; have HZ10 : Hid (Fb w10 W.heap.size 69 _) := Lib.hid hz10; have HT10 : Hid (Fb w10 w5.heap.size 69 _) := Lib.hid ht10; clear y0 y1 y2 yf0 yf1 yf2 t0 t1 t2 hy10 hz10 ht10 hr10 hg10 hn10; have y0 := HY10.out.cell 0; have y1 := HY10.out.cell 1; have y2 := HY10.out.cell 2; have yf0 := HY10.out.free 0; have yf1 := HY10.out.free 1; have yf2 := HY10.out.free 2; have t0 := HT10.out.cell 0; have t1 := HT10.out.cell 1; have t2 := HT10.out.cell 2))
          go_roundg (ts.length - (j + 1))
          case measure => have := HJ.out; have := HLT.out; omega
          case rel =>
            have hSq := ((HSq10.out.set HY10.out (Nat.le_succ _) HB.out 1 (.slice A10 n10 c10)).set (HY10.out.set 1 (.slice A10 n10 c10)) (Nat.le_succ _) HB.out 2 (.bool true))
            have hfin := alt_fin H1.out H2r.out hSq.bd hSq.fR hSq.fo hSq.yR hSq.yo
            refine ⟨j + 1, _, _, _, _, _, _, T2, sy2, altG g g2, _, by have := HLT.out; omega, by rw [Int.natCast_add]; rfl, ?_, ?_, ((HZ10.out.far 1 (.slice A10 n10 c10) (by omega)).far 2 (.bool true) (by omega)), ((HY10.out.set 1 (.slice A10 n10 c10)).set 2 (.bool true))⟩
            · show _ = (g.em || g2.em)
              rw [← HE1.out, ← HE2.out]
              rfl
            · rw [langs_take ts j t HT.out, lvs_take ts j t HT.out]
              exact hfin.iff (fun w => (altl_snoc _ _ w).symm)
      | true =>
        cases e2 with
        | false =>
          go_wp2_with (first
            | (at_builtin; refine wpl_app_m rfl _ _ rfl rfl rfl HSq.out.fR H26.out.fR HB7.out HFin.out.2.2.1 HFin.out.2.2.2.2.1 ?_; intro A8 n8 c8 w8 hl8 hr8 hg8 hn8; clear hl8; have hy8 := (grown_neT HSq.out.fR hg8 HY6.out (by decide)).trans HY6.out; have hz8 := (grown_neT HSq.out.fR hg8 HZ6.out (by decide)).trans HZ6.out; have ht8 := (grown_neT HSq.out.fR hg8 HT6.out (by decide)).trans HT6.out; have HSq8 := Lib.hid (HSq.out.appM HB.out hr8 hg8 hn8); have HY8 : Hid (Fb w8 (W.heap.size + 1) 69 _) := Lib.hid hy8; have HZ8 : Hid (Fb w8 W.heap.size 69 _) := Lib.hid hz8; have HT8 : Hid (Fb w8 w5.heap.size 69 _) := Lib.hid ht8; clear t60 y61 y60 yf60 hy8 hz8 ht8 hr8 hg8 hn8; have y0 := HY8.out.cell 0; have y1 := HY8.out.cell 1; have y2 := HY8.out.cell 2; have yf0 := HY8.out.free 0; have yf1 := HY8.out.free 1; have yf2 := HY8.out.free 2; have t0 := HT8.out.cell 0; have t1 := HT8.out.cell 1; have t2 := HT8.out.cell 2; have HSq9 := Lib.hid (HSq8.out.set HY8.out (Nat.le_succ _) HB.out 0 (.slice A8 n8 c8)); have HY9 := Lib.hid (HY8.out.set 0 (.slice A8 n8 c8)); have HZ9 := Lib.hid (HZ8.out.far (g' := W.heap.size + 1) 0 (.slice A8 n8 c8) (by omega)); have HT9 := Lib.hid (HT8.out.far (g' := W.heap.size + 1) 0 (.slice A8 n8 c8) (by omega)); have HB9 := Lib.hid (show B ≤ (w8.setCell ⟨W.heap.size + 1, 0, none⟩ (.slice A8 n8 c8)).heap.size from Nat.le_trans HB.out HSq9.out.bd.fr.b.size))
            | (at_builtin; refine wpl_app_i rfl _ _ rfl rfl rfl HSq9.out.yR HSq9.out.lR HB9.out HFin.out.2.2.2.1 HFin.out.2.2.2.2.2 ?_; intro A10 n10 c10 w10 hl10 hr10 hg10 hn10; clear hl10; have hy10 := (grown_neT HSq9.out.yR hg10 HY9.out (by decide)).trans HY9.out; have hz10 := (grown_neT HSq9.out.yR hg10 HZ9.out (by decide)).trans HZ9.out; have ht10 := (grown_neT HSq9.out.yR hg10 HT9.out (by decide)).trans HT9.out; have HSq10 := Lib.hid (HSq9.out.appI HB.out hr10 hg10 hn10); have HY10 : Hid (Fb w10 (W.heap.size + 1) 69 _) := Lib.hid hy10; have HZ10 : Hid (Fb w10 W.heap.size 69 _) := Lib.hid hz10; have HT10 : Hid (Fb w10 w5.heap.size 69 _) := Lib.hid ht10; clear y0 y1 y2 yf0 yf1 yf2 t0 t1 t2 hy10 hz10 ht10 hr10 hg10 hn10; have y0 := HY10.out.cell 0; have y1 := HY10.out.cell 1; have y2 := HY10.out.cell 2; have yf0 := HY10.out.free 0; have yf1 := HY10.out.free 1; have yf2 := HY10.out.free 2; have t0 := HT10.out.cell 0; have t1 := HT10.out.cell 1; have t2 := HT10.out.cell 2))
          go_roundg (ts.length - (j + 1))
          case measure => have := HJ.out; have := HLT.out; omega
          case rel =>
            have hSq := ((HSq10.out.set HY10.out (Nat.le_succ _) HB.out 1 (.slice A10 n10 c10)).set (HY10.out.set 1 (.slice A10 n10 c10)) (Nat.le_succ _) HB.out 2 (.bool true))
            have hfin := alt_fin H1.out H2r.out hSq.bd hSq.fR hSq.fo hSq.yR hSq.yo
            refine ⟨j + 1, _, _, _, _, _, _, T2, sy2, altG g g2, _, by have := HLT.out; omega, by rw [Int.natCast_add]; rfl, ?_, ?_, ((HZ10.out.far 1 (.slice A10 n10 c10) (by omega)).far 2 (.bool true) (by omega)), ((HY10.out.set 1 (.slice A10 n10 c10)).set 2 (.bool true))⟩
            · show _ = (g.em || g2.em)
              rw [← HE1.out, ← HE2.out]
              rfl
            · rw [langs_take ts j t HT.out, lvs_take ts j t HT.out]
              exact hfin.iff (fun w => (altl_snoc _ _ w).symm)
        | true =>
          go_wp2_with (first
            | (at_builtin; refine wpl_app_m rfl _ _ rfl rfl rfl HSq.out.fR H26.out.fR HB7.out HFin.out.2.2.1 HFin.out.2.2.2.2.1 ?_; intro A8 n8 c8 w8 hl8 hr8 hg8 hn8; clear hl8; have hy8 := (grown_neT HSq.out.fR hg8 HY6.out (by decide)).trans HY6.out; have hz8 := (grown_neT HSq.out.fR hg8 HZ6.out (by decide)).trans HZ6.out; have ht8 := (grown_neT HSq.out.fR hg8 HT6.out (by decide)).trans HT6.out; have HSq8 := Lib.hid (HSq.out.appM HB.out hr8 hg8 hn8); have HY8 : Hid (Fb w8 (W.heap.size + 1) 69 _) := Lib.hid hy8; have HZ8 : Hid (Fb w8 W.heap.size 69 _) := Lib.hid hz8; have HT8 : Hid (Fb w8 w5.heap.size 69 _) := Lib.hid ht8; clear t60 y61 y60 yf60 hy8 hz8 ht8 hr8 hg8 hn8; have y0 := HY8.out.cell 0; have y1 := HY8.out.cell 1; have y2 := HY8.out.cell 2; have yf0 := HY8.out.free 0; have yf1 := HY8.out.free 1; have yf2 := HY8.out.free 2; have t0 := HT8.out.cell 0; have t1 := HT8.out.cell 1; have t2 := HT8.out.cell 2; have HSq9 := Lib.hid (HSq8.out.set HY8.out (Nat.le_succ _) HB.out 0 (.slice A8 n8 c8)); have HY9 := Lib.hid (HY8.out.set 0 (.slice A8 n8 c8)); have HZ9 := Lib.hid (HZ8.out.far (g' := W.heap.size + 1) 0 (.slice A8 n8 c8) (by omega)); have HT9 := Lib.hid (HT8.out.far (g' := W.heap.size + 1) 0 (.slice A8 n8 c8) (by omega)); have HB9 := Lib.hid (show B ≤ (w8.setCell ⟨W.heap.size + 1, 0, none⟩ (.slice A8 n8 c8)).heap.size from Nat.le_trans HB.out HSq9.out.bd.fr.b.size))
            | (at_builtin; refine wpl_app_i rfl _ _ rfl rfl rfl HSq9.out.yR HSq9.out.lR HB9.out HFin.out.2.2.2.1 HFin.out.2.2.2.2.2 ?_; intro A10 n10 c10 w10 hl10 hr10 hg10 hn10; clear hl10; have hy10 := (grown_neT HSq9.out.yR hg10 HY9.out (by decide)).trans HY9.out; have hz10 := (grown_neT HSq9.out.yR hg10 HZ9.out (by decide)).trans HZ9.out; have ht10 := (grown_neT HSq9.out.yR hg10 HT9.out (by decide)).trans HT9.out; have HSq10 := Lib.hid (HSq9.out.appI HB.out hr10 hg10 hn10); have HY10 : Hid (Fb w10 (W.heap.size + 1) 69 _) := Lib.hid hy10; have HZ10 : Hid (Fb w10 W.heap.size 69 _) := Lib.hid hz10; have HT10 : Hid (Fb w10 w5.heap.size 69 _) := Lib.hid ht10; clear y0 y1 y2 yf0 yf1 yf2 t0 t1 t2 hy10 hz10 ht10 hr10 hg10 hn10; have y0 := HY10.out.cell 0; have y1 := HY10.out.cell 1; have y2 := HY10.out.cell 2; have yf0 := HY10.out.free 0; have yf1 := HY10.out.free 1; have yf2 := HY10.out.free 2; have t0 := HT10.out.cell 0; have t1 := HT10.out.cell 1; have t2 := HT10.out.cell 2))
          go_roundg (ts.length - (j + 1))
          case measure => have := HJ.out; have := HLT.out; omega
          case rel =>
            have hSq := ((HSq10.out.set HY10.out (Nat.le_succ _) HB.out 1 (.slice A10 n10 c10)).set (HY10.out.set 1 (.slice A10 n10 c10)) (Nat.le_succ _) HB.out 2 (.bool true))
            have hfin := alt_fin H1.out H2r.out hSq.bd hSq.fR hSq.fo hSq.yR hSq.yo
            refine ⟨j + 1, _, _, _, _, _, _, T2, sy2, altG g g2, _, by have := HLT.out; omega, by rw [Int.natCast_add]; rfl, ?_, ?_, ((HZ10.out.far 1 (.slice A10 n10 c10) (by omega)).far 2 (.bool true) (by omega)), ((HY10.out.set 1 (.slice A10 n10 c10)).set 2 (.bool true))⟩
            · show _ = (g.em || g2.em)
              rw [← HE1.out, ← HE2.out]
              rfl
            · rw [langs_take ts j t HT.out, lvs_take ts j t HT.out]
              exact hfin.iff (fun w => (altl_snoc _ _ w).symm)
    · obtain rfl : j = ts.length := by omega
      have hn := HN0.out
      have j1 : ¬ ((ts.length : Int) < (n0 : Int)) := by omega
      have z0 := hz.cell 0
      have z1 := hz.cell 1
      have z2 := hz.cell 2
      have zf0 := hz.free 0
      have zf1 := hz.free 1
      have zf2 := hz.free 2
      have y0 := hy.cell 0
      have y1 := hy.cell 1
      have y2 := hy.cell 2
      have HZ9 := Lib.hid hz
      have H1 := Lib.hid h1
      have HE1 := Lib.hid hem
      clear h1 hz hy hem hj hlt hn
      go_wp2
      have hY9 : Fb (((wr.setCell ⟨W.heap.size, 0, none⟩ (.slice Af nf cf)).setCell ⟨W.heap.size, 1, none⟩ (.slice Al nl cl)).setCell ⟨W.heap.size, 2, none⟩ (.bool em)) W.heap.size 69 #[.slice Af nf cf, .slice Al nl cl, .bool em] := ((HZ9.out.set 0 _).set 1 _).set 2 _
      have hL9 := ((H1.out.set HZ9.out (Nat.le_refl _) HB.out 0 (.slice Af nf cf)).set (HZ9.out.set 0 _) (Nat.le_refl _) HB.out 1 (.slice Al nl cl)).set ((HZ9.out.set 0 _).set 1 _) (Nat.le_refl _) HB.out 2 (.bool em)
      obtain ⟨W9, hW9⟩ : ∃ W9, W9 = (((wr.setCell ⟨W.heap.size, 0, none⟩ (.slice Af nf cf)).setCell ⟨W.heap.size, 1, none⟩ (.slice Al nl cl)).setCell ⟨W.heap.size, 2, none⟩ (.bool em)) := ⟨_, rfl⟩
      rw [← hW9] at hY9 hL9
      rw [← hW9]
      have v0 := hY9.cell 0
      have v1 := hY9.cell 1
      have v2 := hY9.cell 2
      clear hW9
      try simp only [Exit.inBlock, Exit.then]
      refine bodyPost_ret (results_cell_row (P := Try.prog) rfl _ W9 W.heap.size 69 _ (0, 0) _ rfl hY9 Try.underlying69 rfl (by kernel_rfl)) rfl ?_
      rw [List.take_length] at hL9
      exact ⟨_, _, _, _, g, by rw [← HE1.out], hL9⟩
end Go.Proofs.Ytghlajfalgdkfaa

/-
  again: any.
-/
namespace Go.Proofs.Ytghlajfalgdkfaa
open Go.RowKit
set_option linter.unusedVariables false
set_option linter.unusedSimpArgs false
set_option maxRecDepth 100000

def agL (k : Int) (A : Lg) : Lg := if k = 4 then StarL A else if k = 5 then plusL A else fun w => w = [] ∨ A w
def AgR (B d n : Nat) (T : List St) (sy sy1 : Nat → Sy) (A' : Lg) (W w : World) (f l : Value) (T1 : List St) (e : Ending) (w' : World) : Prop := ∃ T3 g', e = .returned (.agg #[f, l, .bool g'.em]) ∧ LyR B d T sy A' n W f l T3 sy1 g' w' ∧ Fr B T1 T3 w w'
set_option maxHeartbeats 16000000 in
theorem again_gen {B d n : Nat} {k : Int} {T T1 : List St} {sy sy1 : Nat → Sy} {A : Lg} {Af Al : Option Addr} {nf cf nl cl : Nat} {em : Bool} {g : Gd} {W w : World} (h : LyR B d T sy A n W (.slice Af nf cf) (.slice Al nl cl) T1 sy1 g w) (hem : em = g.em) (hT : T1.length ≤ 1000) (hB : B ≤ W.heap.size) (hk : k = 4 ∨ k = 5 ∨ k = 6) :
    Calls Try.prog 51 #[.pointer (some ⟨d, 0, none⟩), .int .i64 k, .agg #[.slice Af nf cf, .slice Al nl cl, .bool em]] w (AgR B d n T sy sy1 (agL k A) W w (.slice Af nf cf) (.slice Al nl cl) T1) := by
  obtain ⟨W1, hW1⟩ : ∃ W1, W1 = (w.alloc (.cells #[.slice Af nf cf, .slice Al nl cl, .bool em] 69)).alloc (.cells #[.slice none 0 0, .slice none 0 0, .bool false] 69) := ⟨_, rfl⟩
  have hb1 : Below w.heap.size w W1 := by rw [hW1]; exact ((Below.refl _ _).alloc (Nat.le_refl _) _).alloc (by simp) _
  have hX : Fb W1 w.heap.size 69 #[.slice Af nf cf, .slice Al nl cl, .bool em] := by rw [hW1]; exact (Fb.new w _ _).alloc _
  have hY : Fb W1 (w.heap.size + 1) 69 #[.slice none 0 0, .slice none 0 0, .bool false] := by
    have := Fb.new (w.alloc (.cells #[.slice Af nf cf, .slice Al nl cl, .bool em] 69)) 69 #[.slice none 0 0, .slice none 0 0, .bool false]
    rw [World.size_alloc] at this
    rw [hW1]; exact this
  have hBw : B ≤ w.heap.size := Nat.le_trans hB h.fr.b.size
  have h1 := h.below hb1 hBw
  have hlen := h.len
  obtain ⟨hf1, hf2⟩ := h.fl
  have hll : ∀ q ∈ g.l, q < T1.length := fun q hq => by have := (h.ok.l q hq).2; have := h.hi; omega
  have cD := lead_any (B1 := B) (B2 := B) h1.ma h1.wt h1.fg hT h1.lR h1.fR (fun q hq => (h1.fd q hq).1) hll (by omega) (by omega) hT (Nat.le_trans hBw hb1.size)
  have hNX := OB.not h1.ma hX (by decide)
  have hNY := OB.not h1.ma hY (by decide)
  have HL1 := Lib.hid h1
  have H0 := Lib.hid h
  have HB1 := Lib.hid (Fr.below (T := T1) hb1 hBw)
  have HX := Lib.hid (And.intro hX hNX)
  have HY := Lib.hid (And.intro hY hNY)
  have x0 := hX.cell 0
  have x1 := hX.cell 1
  have x2 := hX.cell 2
  have HBB := Lib.hid hB
  have HWw := Lib.hid h.fr.b.size
  have HBw := Lib.hid hBw
  have HE := Lib.hid hem
  have HL := Lib.hid h.L
  clear h h1 hB hb1 hX hY hBw hlen hf1 hf2 hll hNX hNY hem
  subst hW1
  rcases hk with rfl | rfl | rfl
  · cases em with
    | false =>
      go_enter Try.func51, Try.ntmps51
      go_wp2_with (go_at_call 31; (with_reducible refine cD.mono ?_); rintro e w5 ⟨rfl, T3, hM5, hfr5, hlk⟩; have hx5 := hfr5.k _ _ _ HX.out.1 (by decide) (by decide) HX.out.2; have hy5 := hfr5.k _ _ _ HY.out.1 (by decide) (by decide) HY.out.2; have r0 := hx5.cell 0; have r1 := hx5.cell 1; have r2 := hx5.cell 2; have rf := hx5.free 2; have t0 := hy5.cell 0; have t1 := hy5.cell 1; have t2 := hy5.cell 2; have u0 := hy5.free 0; have u1 := hy5.free 1; have u2 := hy5.free 2; have HM5 := Lib.hid hM5; have HF5 := Lib.hid hfr5; have HK5 := Lib.hid hlk; have HX5 := Lib.hid hx5; have HY5 := Lib.hid hy5; clear hM5 hfr5 hlk hx5 hy5)
      have hL0 := again_fin HL1.out HK5.out HM5.out HF5.out true (fun w => by rw [star_L (a := g)]; exact (starL_congr HL.out w) : ∀ w, (Gd.mk g.lo g.hi g.f g.l true).L (linked g.l g.f (dl T1)) w ↔ agL 4 A w)
      have hxw : W.heap.size ≤ w.heap.size := HWw.out
      have hY9 : Fb ((((w5.setCell ⟨w.heap.size, 2, none⟩ (.bool true)).setCell ⟨w.heap.size + 1, 0, none⟩ (.slice Af nf cf)).setCell ⟨w.heap.size + 1, 1, none⟩ (.slice Al nl cl)).setCell ⟨w.heap.size + 1, 2, none⟩ (.bool true)) (w.heap.size + 1) 69 #[.slice Af nf cf, .slice Al nl cl, .bool true] := (((HY5.out.far _ _ (by omega)).set 0 _).set 1 _).set 2 _
      have hL9 := (((hL0.set HX5.out hxw HBB.out 2 (.bool true)).set (HY5.out.far (g' := w.heap.size) 2 (.bool true) (by omega)) (by omega) HBB.out 0 (.slice Af nf cf)).set ((HY5.out.far (g' := w.heap.size) 2 (.bool true) (by omega)).set 0 _) (by omega) HBB.out 1 (.slice Al nl cl)).set (((HY5.out.far (g' := w.heap.size) 2 (.bool true) (by omega)).set 0 _).set 1 _) (by omega) HBB.out 2 (.bool true)
      have hF9 : Fr B T1 T3 w ((((w5.setCell ⟨w.heap.size, 2, none⟩ (.bool true)).setCell ⟨w.heap.size + 1, 0, none⟩ (.slice Af nf cf)).setCell ⟨w.heap.size + 1, 1, none⟩ (.slice Al nl cl)).setCell ⟨w.heap.size + 1, 2, none⟩ (.bool true)) := ⟨(((HB1.out.trans HF5.out).b.setCell HBw.out _).setCell (Nat.le_trans HBw.out (Nat.le_succ _)) _ |>.setCell (Nat.le_trans HBw.out (Nat.le_succ _)) _).setCell (Nat.le_trans HBw.out (Nat.le_succ _)) _, fun q t cs hf a1 a2 a3 => (((((HB1.out.trans HF5.out).k q t cs hf a1 a2 a3).far _ _ (by have := hf.lt; omega)).far _ _ (by have := hf.lt; omega)).far _ _ (by have := hf.lt; omega)).far _ _ (by have := hf.lt; omega), (HB1.out.trans HF5.out).o⟩
      obtain ⟨W9, hW9⟩ : ∃ W9, W9 = ((((w5.setCell ⟨w.heap.size, 2, none⟩ (.bool true)).setCell ⟨w.heap.size + 1, 0, none⟩ (.slice Af nf cf)).setCell ⟨w.heap.size + 1, 1, none⟩ (.slice Al nl cl)).setCell ⟨w.heap.size + 1, 2, none⟩ (.bool true)) := ⟨_, rfl⟩
      rw [← hW9] at hY9 hL9 hF9
      rw [← hW9]
      have v0 := hY9.cell 0
      have v1 := hY9.cell 1
      have v2 := hY9.cell 2
      clear hW9
      try simp only [Exit.inBlock, Exit.then]
      refine bodyPost_ret (results_cell_row (P := Try.prog) rfl _ W9 (w.heap.size + 1) 69 _ (0, 0) _ rfl hY9 Try.underlying69 rfl (by kernel_rfl)) rfl ?_
      exact ⟨_, _, rfl, hL9, hF9⟩
    | true =>
      go_enter Try.func51, Try.ntmps51
      go_wp2_with (go_at_call 31; (with_reducible refine cD.mono ?_); rintro e w5 ⟨rfl, T3, hM5, hfr5, hlk⟩; have hx5 := hfr5.k _ _ _ HX.out.1 (by decide) (by decide) HX.out.2; have hy5 := hfr5.k _ _ _ HY.out.1 (by decide) (by decide) HY.out.2; have r0 := hx5.cell 0; have r1 := hx5.cell 1; have r2 := hx5.cell 2; have rf := hx5.free 2; have t0 := hy5.cell 0; have t1 := hy5.cell 1; have t2 := hy5.cell 2; have u0 := hy5.free 0; have u1 := hy5.free 1; have u2 := hy5.free 2; have HM5 := Lib.hid hM5; have HF5 := Lib.hid hfr5; have HK5 := Lib.hid hlk; have HX5 := Lib.hid hx5; have HY5 := Lib.hid hy5; clear hM5 hfr5 hlk hx5 hy5)
      have hL0 := again_fin HL1.out HK5.out HM5.out HF5.out true (fun w => by rw [star_L (a := g)]; exact (starL_congr HL.out w) : ∀ w, (Gd.mk g.lo g.hi g.f g.l true).L (linked g.l g.f (dl T1)) w ↔ agL 4 A w)
      have hxw : W.heap.size ≤ w.heap.size := HWw.out
      have hY9 : Fb ((((w5.setCell ⟨w.heap.size, 2, none⟩ (.bool true)).setCell ⟨w.heap.size + 1, 0, none⟩ (.slice Af nf cf)).setCell ⟨w.heap.size + 1, 1, none⟩ (.slice Al nl cl)).setCell ⟨w.heap.size + 1, 2, none⟩ (.bool true)) (w.heap.size + 1) 69 #[.slice Af nf cf, .slice Al nl cl, .bool true] := (((HY5.out.far _ _ (by omega)).set 0 _).set 1 _).set 2 _
      have hL9 := (((hL0.set HX5.out hxw HBB.out 2 (.bool true)).set (HY5.out.far (g' := w.heap.size) 2 (.bool true) (by omega)) (by omega) HBB.out 0 (.slice Af nf cf)).set ((HY5.out.far (g' := w.heap.size) 2 (.bool true) (by omega)).set 0 _) (by omega) HBB.out 1 (.slice Al nl cl)).set (((HY5.out.far (g' := w.heap.size) 2 (.bool true) (by omega)).set 0 _).set 1 _) (by omega) HBB.out 2 (.bool true)
      have hF9 : Fr B T1 T3 w ((((w5.setCell ⟨w.heap.size, 2, none⟩ (.bool true)).setCell ⟨w.heap.size + 1, 0, none⟩ (.slice Af nf cf)).setCell ⟨w.heap.size + 1, 1, none⟩ (.slice Al nl cl)).setCell ⟨w.heap.size + 1, 2, none⟩ (.bool true)) := ⟨(((HB1.out.trans HF5.out).b.setCell HBw.out _).setCell (Nat.le_trans HBw.out (Nat.le_succ _)) _ |>.setCell (Nat.le_trans HBw.out (Nat.le_succ _)) _).setCell (Nat.le_trans HBw.out (Nat.le_succ _)) _, fun q t cs hf a1 a2 a3 => (((((HB1.out.trans HF5.out).k q t cs hf a1 a2 a3).far _ _ (by have := hf.lt; omega)).far _ _ (by have := hf.lt; omega)).far _ _ (by have := hf.lt; omega)).far _ _ (by have := hf.lt; omega), (HB1.out.trans HF5.out).o⟩
      obtain ⟨W9, hW9⟩ : ∃ W9, W9 = ((((w5.setCell ⟨w.heap.size, 2, none⟩ (.bool true)).setCell ⟨w.heap.size + 1, 0, none⟩ (.slice Af nf cf)).setCell ⟨w.heap.size + 1, 1, none⟩ (.slice Al nl cl)).setCell ⟨w.heap.size + 1, 2, none⟩ (.bool true)) := ⟨_, rfl⟩
      rw [← hW9] at hY9 hL9 hF9
      rw [← hW9]
      have v0 := hY9.cell 0
      have v1 := hY9.cell 1
      have v2 := hY9.cell 2
      clear hW9
      try simp only [Exit.inBlock, Exit.then]
      refine bodyPost_ret (results_cell_row (P := Try.prog) rfl _ W9 (w.heap.size + 1) 69 _ (0, 0) _ rfl hY9 Try.underlying69 rfl (by kernel_rfl)) rfl ?_
      exact ⟨_, _, rfl, hL9, hF9⟩
  · cases em with
    | false =>
      go_enter Try.func51, Try.ntmps51
      go_wp2_with (go_at_call 31; (with_reducible refine cD.mono ?_); rintro e w5 ⟨rfl, T3, hM5, hfr5, hlk⟩; have hx5 := hfr5.k _ _ _ HX.out.1 (by decide) (by decide) HX.out.2; have hy5 := hfr5.k _ _ _ HY.out.1 (by decide) (by decide) HY.out.2; have r0 := hx5.cell 0; have r1 := hx5.cell 1; have r2 := hx5.cell 2; have rf := hx5.free 2; have t0 := hy5.cell 0; have t1 := hy5.cell 1; have t2 := hy5.cell 2; have u0 := hy5.free 0; have u1 := hy5.free 1; have u2 := hy5.free 2; have HM5 := Lib.hid hM5; have HF5 := Lib.hid hfr5; have HK5 := Lib.hid hlk; have HX5 := Lib.hid hx5; have HY5 := Lib.hid hy5; clear hM5 hfr5 hlk hx5 hy5)
      have hL0 := again_fin HL1.out HK5.out HM5.out HF5.out false (fun w => by rw [show (false : Bool) = g.em from HE.out, plus_L (a := g)]; exact (plusL_congr HL.out w) : ∀ w, (Gd.mk g.lo g.hi g.f g.l false).L (linked g.l g.f (dl T1)) w ↔ agL 5 A w)
      have hxw : W.heap.size ≤ w.heap.size := HWw.out
      have hY9 : Fb ((((w5.setCell ⟨w.heap.size, 2, none⟩ (.bool false)).setCell ⟨w.heap.size + 1, 0, none⟩ (.slice Af nf cf)).setCell ⟨w.heap.size + 1, 1, none⟩ (.slice Al nl cl)).setCell ⟨w.heap.size + 1, 2, none⟩ (.bool false)) (w.heap.size + 1) 69 #[.slice Af nf cf, .slice Al nl cl, .bool false] := (((HY5.out.far _ _ (by omega)).set 0 _).set 1 _).set 2 _
      have hL9 := (((hL0.set HX5.out hxw HBB.out 2 (.bool false)).set (HY5.out.far (g' := w.heap.size) 2 (.bool false) (by omega)) (by omega) HBB.out 0 (.slice Af nf cf)).set ((HY5.out.far (g' := w.heap.size) 2 (.bool false) (by omega)).set 0 _) (by omega) HBB.out 1 (.slice Al nl cl)).set (((HY5.out.far (g' := w.heap.size) 2 (.bool false) (by omega)).set 0 _).set 1 _) (by omega) HBB.out 2 (.bool false)
      have hF9 : Fr B T1 T3 w ((((w5.setCell ⟨w.heap.size, 2, none⟩ (.bool false)).setCell ⟨w.heap.size + 1, 0, none⟩ (.slice Af nf cf)).setCell ⟨w.heap.size + 1, 1, none⟩ (.slice Al nl cl)).setCell ⟨w.heap.size + 1, 2, none⟩ (.bool false)) := ⟨(((HB1.out.trans HF5.out).b.setCell HBw.out _).setCell (Nat.le_trans HBw.out (Nat.le_succ _)) _ |>.setCell (Nat.le_trans HBw.out (Nat.le_succ _)) _).setCell (Nat.le_trans HBw.out (Nat.le_succ _)) _, fun q t cs hf a1 a2 a3 => (((((HB1.out.trans HF5.out).k q t cs hf a1 a2 a3).far _ _ (by have := hf.lt; omega)).far _ _ (by have := hf.lt; omega)).far _ _ (by have := hf.lt; omega)).far _ _ (by have := hf.lt; omega), (HB1.out.trans HF5.out).o⟩
      obtain ⟨W9, hW9⟩ : ∃ W9, W9 = ((((w5.setCell ⟨w.heap.size, 2, none⟩ (.bool false)).setCell ⟨w.heap.size + 1, 0, none⟩ (.slice Af nf cf)).setCell ⟨w.heap.size + 1, 1, none⟩ (.slice Al nl cl)).setCell ⟨w.heap.size + 1, 2, none⟩ (.bool false)) := ⟨_, rfl⟩
      rw [← hW9] at hY9 hL9 hF9
      rw [← hW9]
      have v0 := hY9.cell 0
      have v1 := hY9.cell 1
      have v2 := hY9.cell 2
      clear hW9
      try simp only [Exit.inBlock, Exit.then]
      refine bodyPost_ret (results_cell_row (P := Try.prog) rfl _ W9 (w.heap.size + 1) 69 _ (0, 0) _ rfl hY9 Try.underlying69 rfl (by kernel_rfl)) rfl ?_
      exact ⟨_, _, rfl, hL9, hF9⟩
    | true =>
      go_enter Try.func51, Try.ntmps51
      go_wp2_with (go_at_call 31; (with_reducible refine cD.mono ?_); rintro e w5 ⟨rfl, T3, hM5, hfr5, hlk⟩; have hx5 := hfr5.k _ _ _ HX.out.1 (by decide) (by decide) HX.out.2; have hy5 := hfr5.k _ _ _ HY.out.1 (by decide) (by decide) HY.out.2; have r0 := hx5.cell 0; have r1 := hx5.cell 1; have r2 := hx5.cell 2; have rf := hx5.free 2; have t0 := hy5.cell 0; have t1 := hy5.cell 1; have t2 := hy5.cell 2; have u0 := hy5.free 0; have u1 := hy5.free 1; have u2 := hy5.free 2; have HM5 := Lib.hid hM5; have HF5 := Lib.hid hfr5; have HK5 := Lib.hid hlk; have HX5 := Lib.hid hx5; have HY5 := Lib.hid hy5; clear hM5 hfr5 hlk hx5 hy5)
      have hL0 := again_fin HL1.out HK5.out HM5.out HF5.out true (fun w => by rw [show (true : Bool) = g.em from HE.out, plus_L (a := g)]; exact (plusL_congr HL.out w) : ∀ w, (Gd.mk g.lo g.hi g.f g.l true).L (linked g.l g.f (dl T1)) w ↔ agL 5 A w)
      have hxw : W.heap.size ≤ w.heap.size := HWw.out
      have hY9 : Fb ((((w5.setCell ⟨w.heap.size, 2, none⟩ (.bool true)).setCell ⟨w.heap.size + 1, 0, none⟩ (.slice Af nf cf)).setCell ⟨w.heap.size + 1, 1, none⟩ (.slice Al nl cl)).setCell ⟨w.heap.size + 1, 2, none⟩ (.bool true)) (w.heap.size + 1) 69 #[.slice Af nf cf, .slice Al nl cl, .bool true] := (((HY5.out.far _ _ (by omega)).set 0 _).set 1 _).set 2 _
      have hL9 := (((hL0.set HX5.out hxw HBB.out 2 (.bool true)).set (HY5.out.far (g' := w.heap.size) 2 (.bool true) (by omega)) (by omega) HBB.out 0 (.slice Af nf cf)).set ((HY5.out.far (g' := w.heap.size) 2 (.bool true) (by omega)).set 0 _) (by omega) HBB.out 1 (.slice Al nl cl)).set (((HY5.out.far (g' := w.heap.size) 2 (.bool true) (by omega)).set 0 _).set 1 _) (by omega) HBB.out 2 (.bool true)
      have hF9 : Fr B T1 T3 w ((((w5.setCell ⟨w.heap.size, 2, none⟩ (.bool true)).setCell ⟨w.heap.size + 1, 0, none⟩ (.slice Af nf cf)).setCell ⟨w.heap.size + 1, 1, none⟩ (.slice Al nl cl)).setCell ⟨w.heap.size + 1, 2, none⟩ (.bool true)) := ⟨(((HB1.out.trans HF5.out).b.setCell HBw.out _).setCell (Nat.le_trans HBw.out (Nat.le_succ _)) _ |>.setCell (Nat.le_trans HBw.out (Nat.le_succ _)) _).setCell (Nat.le_trans HBw.out (Nat.le_succ _)) _, fun q t cs hf a1 a2 a3 => (((((HB1.out.trans HF5.out).k q t cs hf a1 a2 a3).far _ _ (by have := hf.lt; omega)).far _ _ (by have := hf.lt; omega)).far _ _ (by have := hf.lt; omega)).far _ _ (by have := hf.lt; omega), (HB1.out.trans HF5.out).o⟩
      obtain ⟨W9, hW9⟩ : ∃ W9, W9 = ((((w5.setCell ⟨w.heap.size, 2, none⟩ (.bool true)).setCell ⟨w.heap.size + 1, 0, none⟩ (.slice Af nf cf)).setCell ⟨w.heap.size + 1, 1, none⟩ (.slice Al nl cl)).setCell ⟨w.heap.size + 1, 2, none⟩ (.bool true)) := ⟨_, rfl⟩
      rw [← hW9] at hY9 hL9 hF9
      rw [← hW9]
      have v0 := hY9.cell 0
      have v1 := hY9.cell 1
      have v2 := hY9.cell 2
      clear hW9
      try simp only [Exit.inBlock, Exit.then]
      refine bodyPost_ret (results_cell_row (P := Try.prog) rfl _ W9 (w.heap.size + 1) 69 _ (0, 0) _ rfl hY9 Try.underlying69 rfl (by kernel_rfl)) rfl ?_
      exact ⟨_, _, rfl, hL9, hF9⟩
  · cases em with
    | false =>
      have hY9 : Fb ((w.alloc (.cells #[.slice Af nf cf, .slice Al nl cl, .bool true] 69)).alloc (.cells #[.slice Af nf cf, .slice Al nl cl, .bool true] 69)) (w.heap.size + 1) 69 #[.slice Af nf cf, .slice Al nl cl, .bool true] := by
        have := Fb.new (w.alloc (.cells #[.slice Af nf cf, .slice Al nl cl, .bool true] 69)) 69 #[.slice Af nf cf, .slice Al nl cl, .bool true]
        rw [World.size_alloc] at this
        exact this
      have hb9 : Below w.heap.size w ((w.alloc (.cells #[.slice Af nf cf, .slice Al nl cl, .bool true] 69)).alloc (.cells #[.slice Af nf cf, .slice Al nl cl, .bool true] 69)) := ((Below.refl _ _).alloc (Nat.le_refl _) _).alloc (by simp) _
      have HY9 := Lib.hid hY9
      have HB9 := Lib.hid hb9
      clear hY9 hb9 cD x0 x1 x2
      have HG := Lib.hid H0.out
      go_enter Try.func51, Try.ntmps51
      go_wp2
      try simp only [Exit.inBlock, Exit.then]
      refine bodyPost_ret (results_cell_row (P := Try.prog) rfl _ _ (w.heap.size + 1) 69 _ (0, 0) _ rfl HY9.out Try.underlying69 rfl (by kernel_rfl)) rfl ?_
      exact ⟨T1, _, rfl, (opt_fin HG.out).below HB9.out HBw.out, Fr.below HB9.out HBw.out⟩
    | true =>
      have hY9 : Fb ((w.alloc (.cells #[.slice Af nf cf, .slice Al nl cl, .bool true] 69)).alloc (.cells #[.slice Af nf cf, .slice Al nl cl, .bool true] 69)) (w.heap.size + 1) 69 #[.slice Af nf cf, .slice Al nl cl, .bool true] := by
        have := Fb.new (w.alloc (.cells #[.slice Af nf cf, .slice Al nl cl, .bool true] 69)) 69 #[.slice Af nf cf, .slice Al nl cl, .bool true]
        rw [World.size_alloc] at this
        exact this
      have hb9 : Below w.heap.size w ((w.alloc (.cells #[.slice Af nf cf, .slice Al nl cl, .bool true] 69)).alloc (.cells #[.slice Af nf cf, .slice Al nl cl, .bool true] 69)) := ((Below.refl _ _).alloc (Nat.le_refl _) _).alloc (by simp) _
      have HY9 := Lib.hid hY9
      have HB9 := Lib.hid hb9
      clear hY9 hb9 cD x0 x1 x2
      have HG := Lib.hid H0.out
      go_enter Try.func51, Try.ntmps51
      go_wp2
      try simp only [Exit.inBlock, Exit.then]
      refine bodyPost_ret (results_cell_row (P := Try.prog) rfl _ _ (w.heap.size + 1) 69 _ (0, 0) _ rfl HY9.out Try.underlying69 rfl (by kernel_rfl)) rfl ?_
      exact ⟨T1, _, rfl, (opt_fin HG.out).below HB9.out HBw.out, Fr.below HB9.out HBw.out⟩
end Go.Proofs.Ytghlajfalgdkfaa
