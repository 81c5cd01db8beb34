/-
  MERGED (a claim has at most 60 files): NgSq.
-/
import Derived.Test.YtghlajfalgdkfaaZ12
import Derived.Deep.Cut
/-
  seq, any.
-/
namespace Go.Proofs.Ytghlajfalgdkfaa
open Go.RowKit
set_option linter.unusedVariables false
set_option linter.unusedSimpArgs false
set_option maxRecDepth 100000

def SqR (B d : Nat) (T : List St) (sy : Nat → Sy) (W : World) (ts : List PT) (gk : Nat) (s : Value) (wr : World) : Prop := ∃ (j : Nat) (Af : Option Addr) (nf cf : Nat) (Al : Option Addr) (nl cl : Nat) (T1 : List St) (sy1 : Nat → Sy) (g : Gd) (em : Bool), j + gk = ts.length ∧ s = .int .i64 (j : Int) ∧ em = g.em ∧
  LyR B d T sy (Seql (langs (ts.take j))) (lvs (ts.take j)) W (.slice Af nf cf) (.slice Al nl cl) T1 sy1 g wr ∧ Fb wr W.heap.size 69 #[.slice none 0 0, .slice none 0 0, .bool false] ∧ Fb wr (W.heap.size + 1) 69 #[.slice Af nf cf, .slice Al nl cl, .bool em]
set_option maxHeartbeats 32000000 in
theorem seq_any {B d n0 c0 : Nat} {A0 : Option Addr} {T : List St} {sy : Nat → Sy} {W : World} {ts : List PT} {ps : List Pa} (hM : Ma B d T W) (hw : Wt sy T) (hR : RowP W (.slice A0 n0 c0) ps) (hP : Pths W ts ps) (hn0 : n0 = ts.length) (hT : T.length + lvs ts ≤ 1000) (hB : B ≤ W.heap.size) (hts : ts.length ≤ 1000) (IH : ∀ t ∈ ts, LayAll B d t) :
    Calls Try.prog 49 #[.pointer (some ⟨d, 0, none⟩), .slice A0 n0 c0] W (LyQ2 B d T sy (Seql (langs ts)) (lvs ts) W) := by
  obtain ⟨W1, hW1⟩ : ∃ W1, W1 = (W.alloc (.cells #[.slice none 0 0, .slice none 0 0, .bool false] 69)).alloc (.cells #[.slice none 0 0, .slice none 0 0, .bool true] 69) := ⟨_, rfl⟩
  have hb1 : Below W.heap.size W W1 := by rw [hW1]; exact ((Below.refl _ _).alloc (Nat.le_refl _) _).alloc (by simp) _
  have hZ : Fb W1 W.heap.size 69 #[.slice none 0 0, .slice none 0 0, .bool false] := by rw [hW1]; exact (Fb.new W _ _).alloc _
  have hY : Fb W1 (W.heap.size + 1) 69 #[.slice none 0 0, .slice none 0 0, .bool true] := by
    have := Fb.new (W.alloc (.cells #[.slice none 0 0, .slice none 0 0, .bool false] 69)) 69 #[.slice none 0 0, .slice none 0 0, .bool true]
    rw [World.size_alloc] at this
    rw [hW1]; exact this
  have H0 := Lib.hid (show SqR B d T sy W ts ts.length (.int .i64 0) W1 from ⟨0, none, 0, 0, none, 0, 0, T, sy, _, true, by omega, rfl, rfl, start_seq (hM.below hb1) hw (Fr.below hb1 hB) true (fun w => by simp [langs, Seql]), hZ, hY⟩)
  have HPart := Lib.hid (fun (j : Nat) (t : PT) (hj : ts[j]? = some t) => part_at hM hR hP hj)
  have HIH := Lib.hid IH
  have HB := Lib.hid hB
  have HTl := Lib.hid hT
  have HTS := Lib.hid hts
  have n0I : (0 : Int) ≤ (n0 : Int) := by omega
  have n1I : (n0 : Int) ≤ 1000 := by omega
  have HN0 := Lib.hid hn0
  have HW1 := Lib.hid hW1
  clear hM hw hR hP hT hB hts IH hb1 hZ hY hn0
  go_enter Try.func49, Try.ntmps49
  go_wp2
  rw [← HW1.out]
  clear hW1
  go_loopg [12] ts.length (fun gk s wr => SqR B d T sy W ts gk s wr)
  case atStart => exact H0.out
  case round =>
    obtain ⟨j, Af, nf, cf, Al, nl, cl, T1, sy1, g, em, hj, rfl, hem, h1, hz, hy⟩ := hrel
    have HJ := Lib.hid hj
    by_cases hlt : j < ts.length
    · obtain ⟨t, ht⟩ : ∃ t, ts[j]? = some t := ⟨_, List.getElem?_eq_getElem hlt⟩
      obtain ⟨gp, kd, nn, A9, m9, c9, hs, hat⟩ := HPart.out j t ht
      obtain ⟨hpt, x0, x1, x2⟩ := hat wr T1 h1.fr
      have hs1 : A0 = some ⟨gp, 0, none⟩ := by simpa using (Value.slice.inj hs).1
      subst hs1
      have hn := HN0.out
      have j0 : (0 : Int) ≤ (j : Int) := by omega
      have j1 : (j : Int) < (n0 : Int) := by omega
      obtain ⟨w2, hw2⟩ : ∃ w2, w2 = wr.alloc (.cells #[.int .i64 kd, .int .i64 nn, .slice A9 m9 c9] 28) := ⟨_, rfl⟩
      have hb2 : Below wr.heap.size wr w2 := by rw [hw2]; exact (Below.refl _ _).alloc (Nat.le_refl _) _
      have hBr : B ≤ wr.heap.size := Nat.le_trans HB.out h1.fr.b.size
      have hlen := h1.len
      have hlv := lvs_take ts j t ht
      have hlv2 := lvs_take_le ts (j + 1)
      have hTl := HTl.out
      have cL := HIH.out t (List.mem_of_getElem? ht) kd nn A9 m9 c9 T1 sy1 w2 (hpt.below hb2) (h1.ma.below hb2) h1.wt (by omega) (Nat.le_trans hBr hb2.size)
      have HT := Lib.hid ht
      have H1 := Lib.hid h1
      have HE1 := Lib.hid hem
      have HZ := Lib.hid (hz.below hb2)
      have HY := Lib.hid (hy.below hb2)
      have HNoY := Lib.hid (fun (q : Nat) (cs : Array Value) (hq : Fb w2 q 69 cs) => OB.not (h1.ma.below hb2) hq (by decide))
      have HB2 := Lib.hid hb2
      have HBr := Lib.hid hBr
      have HLT := Lib.hid hlt
      have HLv := Lib.hid (And.intro hlv (And.intro hlv2 hlen))
      clear hj hem h1 hz hy hlt ht hs hat hpt hn hb2 hBr hlen hlv hlv2 hTl
      subst hw2
      go_upto_region 6 with (first
        | (go_at_call 30; (with_reducible refine cL.mono ?_); rintro e w5 ⟨f2, l2, T2, sy2, g2, rfl, h2⟩; obtain ⟨Ax, cx, rfl, _⟩ := h2.fR.shape; obtain ⟨Ay, cy, rfl, _⟩ := h2.lR.shape; have H2 := Lib.hid h2; clear h2))
      have h1 := H1.out
      have h2 := H2.out
      obtain ⟨e2, he2⟩ : ∃ e2, e2 = g2.em := ⟨_, rfl⟩
      rw [← he2]
      have hy5 := h2.fr.k _ _ _ HY.out (by decide) (by decide) (HNoY.out _ _ HY.out)
      have hz5 := h2.fr.k _ _ _ HZ.out (by decide) (by decide) (HNoY.out _ _ HZ.out)
      have h2r := h2.from HB2.out HBr.out
      obtain ⟨w6, hw6⟩ : ∃ w6, w6 = w5.alloc (.cells #[.slice Ax g2.f.length cx, .slice Ay g2.l.length cy, .bool e2] 69) := ⟨_, rfl⟩
      have hb6 : Below w5.heap.size w5 w6 := by rw [hw6]; exact (Below.refl _ _).alloc (Nat.le_refl _) _
      have ht6 : Fb w6 w5.heap.size 69 #[.slice Ax g2.f.length cx, .slice Ay g2.l.length cy, .bool e2] := by rw [hw6]; exact Fb.new w5 _ _
      have hy6 := hy5.below hb6
      have hz6 := hz5.below hb6
      have hlt8 : W.heap.size + 1 < w5.heap.size := hy5.lt
      have hB5 : B ≤ w5.heap.size := Nat.le_trans HBr.out h2r.fr.b.size
      obtain ⟨hv1, hv2, hv3⟩ := HLv.out
      have hTl := HTl.out
      have hT2 : T2.length ≤ 1000 := by have := h2.len; omega
      obtain ⟨hfl1, hfl2⟩ := h1.fl
      obtain ⟨hxl1, hxl2⟩ := h2.fl
      have hf6 : MvR B w6 (.slice Af nf cf) g.f := row_below (h2r.fr.row h1.fR (by decide) (by decide) fun k hk => (h1.fd k hk).1) hb6
      have hl6 : InR B w6 (.slice Al nl cl) g.l := row_below (h2r.fr.row h1.lR (by decide) (by decide) fun k hk => by
        obtain ⟨cs, hc⟩ := row_type h1.lR hk
        exact OB.not h1.ma hc (by decide)) hb6
      have h26 := h2.below hb6 hB5
      have hll : ∀ q ∈ g.l, q < T2.length := fun q hq => by have h3 := (h1.ok.l q hq).2; have h4 := h1.hi; have h5 := h2.len; omega
      have HFin := Lib.hid (And.intro hll (And.intro hT2 (And.intro (show g.f.length ≤ 1000 by omega) (And.intro (show g.l.length ≤ 1000 by omega) (And.intro (show g2.f.length ≤ 1000 by omega) (show g2.l.length ≤ 1000 by omega))))))
      have cD := lead_any (B1 := B) (B2 := B) h26.ma h26.wt h26.fg hT2 hl6 h26.fR (fun q hq => (h26.fd q hq).1) hll (by omega) (by omega) hT2 (Nat.le_trans hB5 hb6.size)
      have HF6 := Lib.hid hf6
      have HL6 := Lib.hid hl6
      have H26 := Lib.hid h26
      have H2r := Lib.hid h2r
      have HY6 := Lib.hid hy6
      have HZ6 := Lib.hid hz6
      have HT6 := Lib.hid ht6
      have HB6 := Lib.hid hb6
      have HB5 := Lib.hid hB5
      have HE2 := Lib.hid he2
      have t60 := ht6.cell 0
      have y61 := hy6.cell 1
      clear h1 h2 hy5 hz5 h2r hb6 ht6 hy6 hz6 hB5 hv1 hv2 hv3 hTl hfl1 hfl2 hxl1 hxl2 hf6 hl6 h26 he2 HY HZ hll hT2 x0 x1 x2 cL
      rw [← hw6]
      clear hw6
      cases em with
      | false =>
        cases e2 with
        | false =>
          go_wp2_with (first
            | (go_at_call 31; (with_reducible refine cD.mono ?_); rintro e w7 ⟨rfl, T3, hM7, hfr7, hlk⟩; have hy7 := hfr7.k _ _ _ HY6.out (by decide) (by decide) (OB.not H26.out.ma HY6.out (by decide)); have hz7 := hfr7.k _ _ _ HZ6.out (by decide) (by decide) (OB.not H26.out.ma HZ6.out (by decide)); have ht7 := hfr7.k _ _ _ HT6.out (by decide) (by decide) (OB.not H26.out.ma HT6.out (by decide)); have hfr := (H1.out.fr.trans H2r.out.fr).trans ((Fr.below HB6.out HB5.out).trans hfr7); have hfob := H1.out.fob (H2r.out.fr.trans ((Fr.below HB6.out HB5.out).trans hfr7)); have HSq := Lib.hid (Sq.mk (Bd.mk hM7 hfr) (hfr7.row HF6.out (by decide) (by decide) (fun k hk => (H1.out.fob (H2r.out.fr.trans (Fr.below HB6.out HB5.out)) k hk).1)) hfob (hfr7.row HL6.out (by decide) (by decide) (fun k hk => by obtain ⟨cs, hc⟩ := row_type HL6.out hk; exact OB.not H26.out.ma hc (by decide))) H1.out.ld (hfr7.row H26.out.lR (by decide) (by decide) (fun k hk => by obtain ⟨cs, hc⟩ := row_type H26.out.lR hk; exact OB.not H26.out.ma hc (by decide))) (fun q hq => Nat.le_trans (Nat.le_trans H1.out.fr.b.size HB2.out.size) (H26.out.ld q hq))); have HX7 := Lib.hid (hfr7.row H26.out.fR (by decide) (by decide) (fun k hk => (H26.out.fd k hk).1)); have HLk := Lib.hid hlk; have HB7 := Lib.hid (Nat.le_trans HB.out hfr.b.size); have y0 := hy7.cell 0; have y1 := hy7.cell 1; have y2 := hy7.cell 2; have yf0 := hy7.free 0; have yf1 := hy7.free 1; have yf2 := hy7.free 2; have t0 := ht7.cell 0; have t1 := ht7.cell 1; have t2 := ht7.cell 2; have tf1 := ht7.free 1; have HY7 := Lib.hid hy7; have HZ7 := Lib.hid hz7; have HT7 := Lib.hid ht7; clear hM7 hfr7 hlk hy7 hz7 ht7 hfr hfob cD t60 y61))
          go_roundg (ts.length - (j + 1))
          case measure => have := HJ.out; have := HLT.out; omega
          case rel =>
            have hSq := ((HSq.out.set HY7.out (Nat.le_succ _) HB.out 1 (.slice Ay g2.l.length cy)).set (HY7.out.set 1 (.slice Ay g2.l.length cy)) (Nat.le_succ _) HB.out 2 (.bool false))
            have hf : g.f ++ (if g.em = true then g2.f else []) = g.f := by rw [← HE1.out]; simp
            have hl : g2.l ++ (if g2.em = true then g.l else []) = g2.l := by rw [← HE2.out]; simp
            have hfin := seq_fin H1.out H2r.out HLk.out hSq.bd (by show MvR B _ _ (g.f ++ (if g.em = true then g2.f else [])); rw [hf]; exact hSq.fR) hSq.fo (by show InR B _ _ (g2.l ++ (if g2.em = true then g.l else [])); rw [hl]; exact hSq.yR) hSq.yo
            refine ⟨j + 1, _, _, _, _, _, _, T3, sy2, seqG g g2, _, by have := HLT.out; omega, by rw [Int.natCast_add]; rfl, ?_, ?_, ((HZ7.out.far 1 (.slice Ay g2.l.length cy) (by omega)).far 2 (.bool false) (by omega)), ((HY7.out.set 1 (.slice Ay g2.l.length cy)).set 2 (.bool false))⟩
            · show _ = (g.em && g2.em)
              rw [← HE1.out, ← HE2.out]
              rfl
            · rw [langs_take ts j t HT.out, lvs_take ts j t HT.out]
              exact hfin.iff (fun w => (seql_snoc _ _ w).symm)
        | true =>
          go_wp2_with (first
            | (go_at_call 31; (with_reducible refine cD.mono ?_); rintro e w7 ⟨rfl, T3, hM7, hfr7, hlk⟩; have hy7 := hfr7.k _ _ _ HY6.out (by decide) (by decide) (OB.not H26.out.ma HY6.out (by decide)); have hz7 := hfr7.k _ _ _ HZ6.out (by decide) (by decide) (OB.not H26.out.ma HZ6.out (by decide)); have ht7 := hfr7.k _ _ _ HT6.out (by decide) (by decide) (OB.not H26.out.ma HT6.out (by decide)); have hfr := (H1.out.fr.trans H2r.out.fr).trans ((Fr.below HB6.out HB5.out).trans hfr7); have hfob := H1.out.fob (H2r.out.fr.trans ((Fr.below HB6.out HB5.out).trans hfr7)); have HSq := Lib.hid (Sq.mk (Bd.mk hM7 hfr) (hfr7.row HF6.out (by decide) (by decide) (fun k hk => (H1.out.fob (H2r.out.fr.trans (Fr.below HB6.out HB5.out)) k hk).1)) hfob (hfr7.row HL6.out (by decide) (by decide) (fun k hk => by obtain ⟨cs, hc⟩ := row_type HL6.out hk; exact OB.not H26.out.ma hc (by decide))) H1.out.ld (hfr7.row H26.out.lR (by decide) (by decide) (fun k hk => by obtain ⟨cs, hc⟩ := row_type H26.out.lR hk; exact OB.not H26.out.ma hc (by decide))) (fun q hq => Nat.le_trans (Nat.le_trans H1.out.fr.b.size HB2.out.size) (H26.out.ld q hq))); have HX7 := Lib.hid (hfr7.row H26.out.fR (by decide) (by decide) (fun k hk => (H26.out.fd k hk).1)); have HLk := Lib.hid hlk; have HB7 := Lib.hid (Nat.le_trans HB.out hfr.b.size); have y0 := hy7.cell 0; have y1 := hy7.cell 1; have y2 := hy7.cell 2; have yf0 := hy7.free 0; have yf1 := hy7.free 1; have yf2 := hy7.free 2; have t0 := ht7.cell 0; have t1 := ht7.cell 1; have t2 := ht7.cell 2; have tf1 := ht7.free 1; have HY7 := Lib.hid hy7; have HZ7 := Lib.hid hz7; have HT7 := Lib.hid ht7; clear hM7 hfr7 hlk hy7 hz7 ht7 hfr hfob cD t60 y61)
            | (at_builtin; refine wpl_app_i rfl _ _ rfl rfl rfl HSq.out.yR HSq.out.lR HB7.out HFin.out.2.2.2.2.2 HFin.out.2.2.2.1 ?_; intro A10 n10 c10 w10 hl10 hr10 hg10 hn10; clear hl10; have hy10 := (grown_neT HSq.out.yR hg10 HY7.out (by decide)).trans HY7.out; have hz10 := (grown_neT HSq.out.yR hg10 HZ7.out (by decide)).trans HZ7.out; have ht10 := (grown_neT HSq.out.yR hg10 HT7.out (by decide)).trans HT7.out; have HSq10 := Lib.hid (HSq.out.appI HB.out hr10 hg10 hn10); have HY10 : Hid (Fb w10 (W.heap.size + 1) 69 _) := Lib.hid hy10; have HZ10 : Hid (Fb w10 W.heap.size 69 _) := Lib.hid hz10; have HT10 : Hid (Fb w10 w5.heap.size 69 _) := Lib.hid ht10; clear y0 y1 y2 yf0 yf1 yf2 t0 t1 t2 tf1 hy10 hz10 ht10 hr10 hg10 hn10; have y0 := HY10.out.cell 0; have y1 := HY10.out.cell 1; have y2 := HY10.out.cell 2; have yf0 := HY10.out.free 0; have yf1 := HY10.out.free 1; have yf2 := HY10.out.free 2; have t0 := HT10.out.cell 0; have t1 := HT10.out.cell 1; have t2 := HT10.out.cell 2; have tf1 := HT10.out.free 1))
          go_roundg (ts.length - (j + 1))
          case measure => have := HJ.out; have := HLT.out; omega
          case rel =>
            have hSq := (((HSq10.out.set HT10.out (Nat.le_trans (Nat.le_succ _) (Nat.le_of_lt hlt8)) HB.out 1 (.slice A10 n10 c10)).set (HY10.out.far 1 (.slice A10 n10 c10) (by omega)) (Nat.le_succ _) HB.out 1 (.slice A10 n10 c10)).set ((HY10.out.far 1 (.slice A10 n10 c10) (by omega)).set 1 (.slice A10 n10 c10)) (Nat.le_succ _) HB.out 2 (.bool false))
            have hf : g.f ++ (if g.em = true then g2.f else []) = g.f := by rw [← HE1.out]; simp
            have hl : g2.l ++ (if g2.em = true then g.l else []) = (g2.l ++ g.l) := by rw [← HE2.out]; simp
            have hfin := seq_fin H1.out H2r.out HLk.out hSq.bd (by show MvR B _ _ (g.f ++ (if g.em = true then g2.f else [])); rw [hf]; exact hSq.fR) hSq.fo (by show InR B _ _ (g2.l ++ (if g2.em = true then g.l else [])); rw [hl]; exact hSq.yR) hSq.yo
            refine ⟨j + 1, _, _, _, _, _, _, T3, sy2, seqG g g2, _, by have := HLT.out; omega, by rw [Int.natCast_add]; rfl, ?_, ?_, (((HZ10.out.far 1 (.slice A10 n10 c10) (by omega)).far 1 (.slice A10 n10 c10) (by omega)).far 2 (.bool false) (by omega)), (((HY10.out.far 1 (.slice A10 n10 c10) (by omega)).set 1 (.slice A10 n10 c10)).set 2 (.bool false))⟩
            · show _ = (g.em && g2.em)
              rw [← HE1.out, ← HE2.out]
              rfl
            · rw [langs_take ts j t HT.out, lvs_take ts j t HT.out]
              exact hfin.iff (fun w => (seql_snoc _ _ w).symm)
      | true =>
        cases e2 with
        | false =>
          go_wp2_with (first
            | (go_at_call 31; (with_reducible refine cD.mono ?_); rintro e w7 ⟨rfl, T3, hM7, hfr7, hlk⟩; have hy7 := hfr7.k _ _ _ HY6.out (by decide) (by decide) (OB.not H26.out.ma HY6.out (by decide)); have hz7 := hfr7.k _ _ _ HZ6.out (by decide) (by decide) (OB.not H26.out.ma HZ6.out (by decide)); have ht7 := hfr7.k _ _ _ HT6.out (by decide) (by decide) (OB.not H26.out.ma HT6.out (by decide)); have hfr := (H1.out.fr.trans H2r.out.fr).trans ((Fr.below HB6.out HB5.out).trans hfr7); have hfob := H1.out.fob (H2r.out.fr.trans ((Fr.below HB6.out HB5.out).trans hfr7)); have HSq := Lib.hid (Sq.mk (Bd.mk hM7 hfr) (hfr7.row HF6.out (by decide) (by decide) (fun k hk => (H1.out.fob (H2r.out.fr.trans (Fr.below HB6.out HB5.out)) k hk).1)) hfob (hfr7.row HL6.out (by decide) (by decide) (fun k hk => by obtain ⟨cs, hc⟩ := row_type HL6.out hk; exact OB.not H26.out.ma hc (by decide))) H1.out.ld (hfr7.row H26.out.lR (by decide) (by decide) (fun k hk => by obtain ⟨cs, hc⟩ := row_type H26.out.lR hk; exact OB.not H26.out.ma hc (by decide))) (fun q hq => Nat.le_trans (Nat.le_trans H1.out.fr.b.size HB2.out.size) (H26.out.ld q hq))); have HX7 := Lib.hid (hfr7.row H26.out.fR (by decide) (by decide) (fun k hk => (H26.out.fd k hk).1)); have HLk := Lib.hid hlk; have HB7 := Lib.hid (Nat.le_trans HB.out hfr.b.size); have y0 := hy7.cell 0; have y1 := hy7.cell 1; have y2 := hy7.cell 2; have yf0 := hy7.free 0; have yf1 := hy7.free 1; have yf2 := hy7.free 2; have t0 := ht7.cell 0; have t1 := ht7.cell 1; have t2 := ht7.cell 2; have tf1 := ht7.free 1; have HY7 := Lib.hid hy7; have HZ7 := Lib.hid hz7; have HT7 := Lib.hid ht7; clear hM7 hfr7 hlk hy7 hz7 ht7 hfr hfob cD t60 y61)
            | (at_builtin; refine wpl_app_m rfl _ _ rfl rfl rfl HSq.out.fR HX7.out HB7.out HFin.out.2.2.1 HFin.out.2.2.2.2.1 ?_; intro A8 n8 c8 w8 hl8 hr8 hg8 hn8; clear hl8; have hy8 := (grown_neT HSq.out.fR hg8 HY7.out (by decide)).trans HY7.out; have hz8 := (grown_neT HSq.out.fR hg8 HZ7.out (by decide)).trans HZ7.out; have ht8 := (grown_neT HSq.out.fR hg8 HT7.out (by decide)).trans HT7.out; have HSq8 := Lib.hid (HSq.out.appM HB.out hr8 hg8 hn8); have HY8 : Hid (Fb w8 (W.heap.size + 1) 69 _) := Lib.hid hy8; have HZ8 : Hid (Fb w8 W.heap.size 69 _) := Lib.hid hz8; have HT8 : Hid (Fb w8 w5.heap.size 69 _) := Lib.hid ht8; clear y0 y1 y2 yf0 yf1 yf2 t0 t1 t2 tf1 hy8 hz8 ht8 hr8 hg8 hn8; have y0 := HY8.out.cell 0; have y1 := HY8.out.cell 1; have y2 := HY8.out.cell 2; have yf0 := HY8.out.free 0; have yf1 := HY8.out.free 1; have yf2 := HY8.out.free 2; have t0 := HT8.out.cell 0; have t1 := HT8.out.cell 1; have t2 := HT8.out.cell 2; have tf1 := HT8.out.free 1; have HSq9 := Lib.hid (HSq8.out.set HY8.out (Nat.le_succ _) HB.out 0 (.slice A8 n8 c8)); have HY9 := Lib.hid (HY8.out.set 0 (.slice A8 n8 c8)); have HZ9 := Lib.hid (HZ8.out.far (g' := W.heap.size + 1) 0 (.slice A8 n8 c8) (by omega)); have HT9 := Lib.hid (HT8.out.far (g' := W.heap.size + 1) 0 (.slice A8 n8 c8) (by omega)); have HB9 := Lib.hid (show B ≤ (w8.setCell ⟨W.heap.size + 1, 0, none⟩ (.slice A8 n8 c8)).heap.size from Nat.le_trans HB.out HSq9.out.bd.fr.b.size)))
          go_roundg (ts.length - (j + 1))
          case measure => have := HJ.out; have := HLT.out; omega
          case rel =>
            have hSq := ((HSq9.out.set HY9.out (Nat.le_succ _) HB.out 1 (.slice Ay g2.l.length cy)).set (HY9.out.set 1 (.slice Ay g2.l.length cy)) (Nat.le_succ _) HB.out 2 (.bool false))
            have hf : g.f ++ (if g.em = true then g2.f else []) = (g.f ++ g2.f) := by rw [← HE1.out]; simp
            have hl : g2.l ++ (if g2.em = true then g.l else []) = g2.l := by rw [← HE2.out]; simp
            have hfin := seq_fin H1.out H2r.out HLk.out hSq.bd (by show MvR B _ _ (g.f ++ (if g.em = true then g2.f else [])); rw [hf]; exact hSq.fR) hSq.fo (by show InR B _ _ (g2.l ++ (if g2.em = true then g.l else [])); rw [hl]; exact hSq.yR) hSq.yo
            refine ⟨j + 1, _, _, _, _, _, _, T3, sy2, seqG g g2, _, by have := HLT.out; omega, by rw [Int.natCast_add]; rfl, ?_, ?_, ((HZ9.out.far 1 (.slice Ay g2.l.length cy) (by omega)).far 2 (.bool false) (by omega)), ((HY9.out.set 1 (.slice Ay g2.l.length cy)).set 2 (.bool false))⟩
            · show _ = (g.em && g2.em)
              rw [← HE1.out, ← HE2.out]
              rfl
            · rw [langs_take ts j t HT.out, lvs_take ts j t HT.out]
              exact hfin.iff (fun w => (seql_snoc _ _ w).symm)
        | true =>
          go_wp2_with (first
            | (go_at_call 31; (with_reducible refine cD.mono ?_); rintro e w7 ⟨rfl, T3, hM7, hfr7, hlk⟩; have hy7 := hfr7.k _ _ _ HY6.out (by decide) (by decide) (OB.not H26.out.ma HY6.out (by decide)); have hz7 := hfr7.k _ _ _ HZ6.out (by decide) (by decide) (OB.not H26.out.ma HZ6.out (by decide)); have ht7 := hfr7.k _ _ _ HT6.out (by decide) (by decide) (OB.not H26.out.ma HT6.out (by decide)); have hfr := (H1.out.fr.trans H2r.out.fr).trans ((Fr.below HB6.out HB5.out).trans hfr7); have hfob := H1.out.fob (H2r.out.fr.trans ((Fr.below HB6.out HB5.out).trans hfr7)); have HSq := Lib.hid (Sq.mk (Bd.mk hM7 hfr) (hfr7.row HF6.out (by decide) (by decide) (fun k hk => (H1.out.fob (H2r.out.fr.trans (Fr.below HB6.out HB5.out)) k hk).1)) hfob (hfr7.row HL6.out (by decide) (by decide) (fun k hk => by obtain ⟨cs, hc⟩ := row_type HL6.out hk; exact OB.not H26.out.ma hc (by decide))) H1.out.ld (hfr7.row H26.out.lR (by decide) (by decide) (fun k hk => by obtain ⟨cs, hc⟩ := row_type H26.out.lR hk; exact OB.not H26.out.ma hc (by decide))) (fun q hq => Nat.le_trans (Nat.le_trans H1.out.fr.b.size HB2.out.size) (H26.out.ld q hq))); have HX7 := Lib.hid (hfr7.row H26.out.fR (by decide) (by decide) (fun k hk => (H26.out.fd k hk).1)); have HLk := Lib.hid hlk; have HB7 := Lib.hid (Nat.le_trans HB.out hfr.b.size); have y0 := hy7.cell 0; have y1 := hy7.cell 1; have y2 := hy7.cell 2; have yf0 := hy7.free 0; have yf1 := hy7.free 1; have yf2 := hy7.free 2; have t0 := ht7.cell 0; have t1 := ht7.cell 1; have t2 := ht7.cell 2; have tf1 := ht7.free 1; have HY7 := Lib.hid hy7; have HZ7 := Lib.hid hz7; have HT7 := Lib.hid ht7; clear hM7 hfr7 hlk hy7 hz7 ht7 hfr hfob cD t60 y61)
            | (at_builtin; refine wpl_app_m rfl _ _ rfl rfl rfl HSq.out.fR HX7.out HB7.out HFin.out.2.2.1 HFin.out.2.2.2.2.1 ?_; intro A8 n8 c8 w8 hl8 hr8 hg8 hn8; clear hl8; have hy8 := (grown_neT HSq.out.fR hg8 HY7.out (by decide)).trans HY7.out; have hz8 := (grown_neT HSq.out.fR hg8 HZ7.out (by decide)).trans HZ7.out; have ht8 := (grown_neT HSq.out.fR hg8 HT7.out (by decide)).trans HT7.out; have HSq8 := Lib.hid (HSq.out.appM HB.out hr8 hg8 hn8); have HY8 : Hid (Fb w8 (W.heap.size + 1) 69 _) := Lib.hid hy8; have HZ8 : Hid (Fb w8 W.heap.size 69 _) := Lib.hid hz8; have HT8 : Hid (Fb w8 w5.heap.size 69 _) := Lib.hid ht8; clear y0 y1 y2 yf0 yf1 yf2 t0 t1 t2 tf1 hy8 hz8 ht8 hr8 hg8 hn8; have y0 := HY8.out.cell 0; have y1 := HY8.out.cell 1; have y2 := HY8.out.cell 2; have yf0 := HY8.out.free 0; have yf1 := HY8.out.free 1; have yf2 := HY8.out.free 2; have t0 := HT8.out.cell 0; have t1 := HT8.out.cell 1; have t2 := HT8.out.cell 2; have tf1 := HT8.out.free 1; have HSq9 := Lib.hid (HSq8.out.set HY8.out (Nat.le_succ _) HB.out 0 (.slice A8 n8 c8)); have HY9 := Lib.hid (HY8.out.set 0 (.slice A8 n8 c8)); have HZ9 := Lib.hid (HZ8.out.far (g' := W.heap.size + 1) 0 (.slice A8 n8 c8) (by omega)); have HT9 := Lib.hid (HT8.out.far (g' := W.heap.size + 1) 0 (.slice A8 n8 c8) (by omega)); have HB9 := Lib.hid (show B ≤ (w8.setCell ⟨W.heap.size + 1, 0, none⟩ (.slice A8 n8 c8)).heap.size from Nat.le_trans HB.out HSq9.out.bd.fr.b.size))
            | (at_builtin; refine wpl_app_i rfl _ _ rfl rfl rfl HSq9.out.yR HSq9.out.lR HB9.out HFin.out.2.2.2.2.2 HFin.out.2.2.2.1 ?_; intro A10 n10 c10 w10 hl10 hr10 hg10 hn10; clear hl10; have hy10 := (grown_neT HSq9.out.yR hg10 HY9.out (by decide)).trans HY9.out; have hz10 := (grown_neT HSq9.out.yR hg10 HZ9.out (by decide)).trans HZ9.out; have ht10 := (grown_neT HSq9.out.yR hg10 HT9.out (by decide)).trans HT9.out; have HSq10 := Lib.hid (HSq9.out.appI HB.out hr10 hg10 hn10); have HY10 : Hid (Fb w10 (W.heap.size + 1) 69 _) := Lib.hid hy10; have HZ10 : Hid (Fb w10 W.heap.size 69 _) := Lib.hid hz10; have HT10 : Hid (Fb w10 w5.heap.size 69 _) := Lib.hid ht10; clear y0 y1 y2 yf0 yf1 yf2 t0 t1 t2 tf1 hy10 hz10 ht10 hr10 hg10 hn10; have y0 := HY10.out.cell 0; have y1 := HY10.out.cell 1; have y2 := HY10.out.cell 2; have yf0 := HY10.out.free 0; have yf1 := HY10.out.free 1; have yf2 := HY10.out.free 2; have t0 := HT10.out.cell 0; have t1 := HT10.out.cell 1; have t2 := HT10.out.cell 2; have tf1 := HT10.out.free 1))
          go_roundg (ts.length - (j + 1))
          case measure => have := HJ.out; have := HLT.out; omega
          case rel =>
            have hSq := (((HSq10.out.set HT10.out (Nat.le_trans (Nat.le_succ _) (Nat.le_of_lt hlt8)) HB.out 1 (.slice A10 n10 c10)).set (HY10.out.far 1 (.slice A10 n10 c10) (by omega)) (Nat.le_succ _) HB.out 1 (.slice A10 n10 c10)).set ((HY10.out.far 1 (.slice A10 n10 c10) (by omega)).set 1 (.slice A10 n10 c10)) (Nat.le_succ _) HB.out 2 (.bool true))
            have hf : g.f ++ (if g.em = true then g2.f else []) = (g.f ++ g2.f) := by rw [← HE1.out]; simp
            have hl : g2.l ++ (if g2.em = true then g.l else []) = (g2.l ++ g.l) := by rw [← HE2.out]; simp
            have hfin := seq_fin H1.out H2r.out HLk.out hSq.bd (by show MvR B _ _ (g.f ++ (if g.em = true then g2.f else [])); rw [hf]; exact hSq.fR) hSq.fo (by show InR B _ _ (g2.l ++ (if g2.em = true then g.l else [])); rw [hl]; exact hSq.yR) hSq.yo
            refine ⟨j + 1, _, _, _, _, _, _, T3, sy2, seqG g g2, _, by have := HLT.out; omega, by rw [Int.natCast_add]; rfl, ?_, ?_, (((HZ10.out.far 1 (.slice A10 n10 c10) (by omega)).far 1 (.slice A10 n10 c10) (by omega)).far 2 (.bool true) (by omega)), (((HY10.out.far 1 (.slice A10 n10 c10) (by omega)).set 1 (.slice A10 n10 c10)).set 2 (.bool true))⟩
            · show _ = (g.em && g2.em)
              rw [← HE1.out, ← HE2.out]
              rfl
            · rw [langs_take ts j t HT.out, lvs_take ts j t HT.out]
              exact hfin.iff (fun w => (seql_snoc _ _ w).symm)
    · obtain rfl : j = ts.length := by omega
      have hn := HN0.out
      have j1 : ¬ ((ts.length : Int) < (n0 : Int)) := by omega
      have z0 := hz.cell 0
      have z1 := hz.cell 1
      have z2 := hz.cell 2
      have zf0 := hz.free 0
      have zf1 := hz.free 1
      have zf2 := hz.free 2
      have y0 := hy.cell 0
      have y1 := hy.cell 1
      have y2 := hy.cell 2
      have HZ9 := Lib.hid hz
      have H1 := Lib.hid h1
      have HE1 := Lib.hid hem
      clear h1 hz hy hem hj hlt hn
      go_wp2
      have hY9 : Fb (((wr.setCell ⟨W.heap.size, 0, none⟩ (.slice Af nf cf)).setCell ⟨W.heap.size, 1, none⟩ (.slice Al nl cl)).setCell ⟨W.heap.size, 2, none⟩ (.bool em)) W.heap.size 69 #[.slice Af nf cf, .slice Al nl cl, .bool em] := ((HZ9.out.set 0 _).set 1 _).set 2 _
      have hL9 := ((H1.out.set HZ9.out (Nat.le_refl _) HB.out 0 (.slice Af nf cf)).set (HZ9.out.set 0 _) (Nat.le_refl _) HB.out 1 (.slice Al nl cl)).set ((HZ9.out.set 0 _).set 1 _) (Nat.le_refl _) HB.out 2 (.bool em)
      obtain ⟨W9, hW9⟩ : ∃ W9, W9 = (((wr.setCell ⟨W.heap.size, 0, none⟩ (.slice Af nf cf)).setCell ⟨W.heap.size, 1, none⟩ (.slice Al nl cl)).setCell ⟨W.heap.size, 2, none⟩ (.bool em)) := ⟨_, rfl⟩
      rw [← hW9] at hY9 hL9
      rw [← hW9]
      have v0 := hY9.cell 0
      have v1 := hY9.cell 1
      have v2 := hY9.cell 2
      clear hW9
      try simp only [Exit.inBlock, Exit.then]
      refine bodyPost_ret (results_cell_row (P := Try.prog) rfl _ W9 W.heap.size 69 _ (0, 0) _ rfl hY9 Try.underlying69 rfl (by kernel_rfl)) rfl ?_
      rw [List.take_length] at hL9
      exact ⟨_, _, _, _, g, by rw [← HE1.out], hL9⟩
end Go.Proofs.Ytghlajfalgdkfaa
