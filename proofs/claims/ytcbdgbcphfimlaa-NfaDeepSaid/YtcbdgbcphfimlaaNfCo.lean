/-
  Compile of a path of one part within another.
-/
import Derived.Test.YtcbdgbcphfimlaaNfCp
namespace Go.Proofs.Ytcbdgbcphfimlaa
open Go.RowKit
set_option linter.unusedVariables false
set_option linter.unusedSimpArgs false
set_option maxRecDepth 100000

set_option maxHeartbeats 8000000 in
theorem compile_deep {N kd nn : Int} (hN : 0 ≤ N) {ks : List Int} {W : World} {A : Option Addr} {m c : Nat} (hk : Kd ks) (h : Chn W N ks ⟨kd, nn, .slice A m c⟩) (hl : ks.length ≤ 100) (hd : 40 ≤ ks.length) :
    Calls Try.prog 14 #[.agg #[.int .i64 kd, .int .i64 nn, .slice A m c]] W fun e w' => e = .returned (.tuple #[.pointer none, .int .i64 15]) ∧ Below W.heap.size W w' := by
  obtain ⟨W2, hW2⟩ : ∃ W2, W2 = W.alloc (.cells #[.int .i64 kd, .int .i64 nn, .slice A m c] 28) := ⟨_, rfl⟩
  have hb2 : Below W.heap.size W W2 := by rw [hW2]; exact (Below.refl _ _).alloc (Nat.le_refl _) _
  have cC := check_any hN hk (h.below hb2) hl
  rw [if_pos hd] at cC
  have HB2 := Lib.hid hb2
  clear hb2 h hl hd hk
  subst hW2
  go_enter Try.func14, Try.ntmps14
  go_wp2_with (go_at_call 21; (with_reducible refine cC.mono ?_); rintro e w3 ⟨rfl, hb3⟩; have HB3 := Lib.hid hb3; clear hb3)
  go_ret2
  exact ⟨rfl, HB2.out.trans (HB3.out.mono HB2.out.size)⟩
theorem set_at {cs : Array Value} {i : Nat} {u : Value} (h : cs[i]? = some u) (v : Value) : (cs.setIfInBounds i v)[i]? = some v := by
  have hsz : i < cs.size := (Array.getElem?_eq_some_iff.1 h).1
  simp [Array.getElem?_setIfInBounds, hsz]
def CoR (wS : World) (g : Nat) (em : Bool) (gk : Nat) (s : Value) (wr : World) : Prop := match em with
  | false => (gk = 1 ∧ s = .int .i64 0 ∧ wS = wr) ∨ (gk = 0 ∧ s = .int .i64 1 ∧ wr = wS.setCell ⟨g, 3, none⟩ (.bool true))
  | true => (gk = 2 ∧ s = .int .i64 0 ∧ wS = wr) ∨ (gk = 1 ∧ s = .int .i64 1 ∧ wr = wS.setCell ⟨g, 3, none⟩ (.bool true)) ∨ (gk = 0 ∧ s = .int .i64 2 ∧ wr = (wS.setCell ⟨g, 3, none⟩ (.bool true)).setCell ⟨g, 1, none⟩ (.bool true))
def CoQ (N : Int) (em lp : Bool) (W : World) (e : Ending) (w' : World) : Prop := ∃ d, e = .returned (.tuple #[.pointer (some ⟨d, 0, none⟩), .int .i64 0]) ∧ Mc d N em lp w' ∧ Below W.heap.size W w'
set_option maxHeartbeats 16000000 in
theorem compile_ok {N kd nn : Int} (hN : 0 ≤ N) {ks : List Int} {W : World} {A : Option Addr} {m c : Nat} (hk : Kd ks) (h : Chn W N ks ⟨kd, nn, .slice A m c⟩) (hl : ks.length < 40) :
    Calls Try.prog 14 #[.agg #[.int .i64 kd, .int .i64 nn, .slice A m c]] W (CoQ N (emC ks) (lpC ks) W) := by
  obtain ⟨W2, hW2⟩ : ∃ W2, W2 = W.alloc (.cells #[.int .i64 kd, .int .i64 nn, .slice A m c] 28) := ⟨_, rfl⟩
  have hb2 : Below W.heap.size W W2 := by rw [hW2]; exact (Below.refl _ _).alloc (Nat.le_refl _) _
  have hX : Fb W2 W.heap.size 28 #[.int .i64 kd, .int .i64 nn, .slice A m c] := by rw [hW2]; exact Fb.new W _ _
  have cC := check_any hN hk (h.below hb2) (Nat.le_of_lt (Nat.lt_trans hl (by decide)))
  rw [if_neg (by omega)] at cC
  have HL := Lib.hid (fun (d B : Nat) (w : World) (hb : Below W.heap.size W w) (hM : MS B d 1 [.slice none 0 0, .bool false] w) (hB : B ≤ w.heap.size) => cp_lay hk h hb hM hB)
  obtain ⟨em, hem⟩ : ∃ em, em = emC ks := ⟨_, rfl⟩
  obtain ⟨lp, hlp⟩ : ∃ lp, lp = lpC ks := ⟨_, rfl⟩
  rw [← hem, ← hlp] at HL ⊢
  have HB2 := Lib.hid hb2
  have HX := Lib.hid hX
  have x0 := hX.cell 0
  have x1 := hX.cell 1
  have x2 := hX.cell 2
  clear hb2 hX h hl hk hem hlp
  subst hW2
  cases em with
  | false =>
    go_enter Try.func14, Try.ntmps14
    go_wp2_with (first
      | (go_at_call 21; (with_reducible refine cC.mono ?_); rintro e w3 ⟨rfl, hb3⟩; have HX3 := Lib.hid (HX.out.below hb3); have HB3 := Lib.hid (HB2.out.trans (hb3.mono HB2.out.size)); have cM := cp_more w3; clear hb3)
      | (go_at_call 30; (with_reducible refine cM.mono ?_); rintro e w5 ⟨rfl, hms, hk5⟩; have hx5 := hk5.k _ _ _ (HX3.out.alloc _) (by decide) (by decide); have hx6 := hx5.alloc (.cells #[.int .i64 0] 3); have y0 := hx6.cell 0; have y1 := hx6.cell 1; have y2 := hx6.cell 2; have hB5 := (HB3.out.trans ((((Below.refl w3.heap.size w3).alloc (Nat.le_refl _) _).trans hk5.b).mono HB3.out.size)); have hB6 := hB5.alloc (o := .cells #[.int .i64 0] 3) hB5.size; have hsz6 := Nat.le_trans (Nat.le_succ w3.heap.size) (by have := hk5.b.size; rw [World.size_alloc] at this; exact this); have cL := HL.out w3.heap.size w3.heap.size (w5.alloc (.cells #[.int .i64 0] 3)) hB6 (hms.below ((Below.refl w5.heap.size w5).alloc (Nat.le_refl _) _)) (by rw [World.size_alloc]; omega); have HI5 := Lib.hid (Fb.new w5 3 #[.int .i64 0]); have HB6 := Lib.hid hB6; have HS6 := Lib.hid hsz6; clear hms hk5 hx5 hx6 hB5 hB6 hsz6)
      | (go_at_call 31; (with_reducible refine cL.mono ?_); rintro e w7 ⟨f, l, rfl, hly, hk7⟩; obtain ⟨k, ck, rfl, _⟩ := id hly.fi; obtain ⟨gl, cl, rfl, _⟩ := own_at hly.la (by decide); have hi7 := hk7.k _ _ _ HI5.out (by decide) (by decide); have hT8 := Fb.new w7 70 #[.slice (some ⟨k, 0, none⟩) 1 ck, .slice (some ⟨gl, 0, none⟩) 1 cl, .bool false]; have t0 := hT8.cell 0; have cD := cp_lead (cf := 1) (hly.below ((Below.refl w7.heap.size w7).alloc (Nat.le_refl _) (.cells #[.slice (some ⟨k, 0, none⟩) 1 ck, .slice (some ⟨gl, 0, none⟩) 1 cl, .bool false] 70))) ((hi7.alloc _).cell 0); have HI7 := Lib.hid hi7; have HT8 := Lib.hid hT8; have HK7 := Lib.hid hk7; have HQ7 := Lib.hid (Nat.le_trans HS6.out (Nat.le_trans (Nat.le_succ _) (by have := hk7.b.size; rw [World.size_alloc] at this; exact this))); clear hi7 hT8 hk7 hly)
      | (go_at_call 32; (with_reducible refine cD.mono ?_); rintro e w9 ⟨g, c9, cs, rfl, hz, hlw, hk9⟩; have ht9 := hk9.k _ _ _ HT8.out (by decide) (by decide); have s0 := ht9.cell 0; have s1 := ht9.cell 1; have s2 := ht9.cell 2; have sf1 := ht9.free 1; have d0 := hz.d0.cell 0; have g3 := (hz.g0.cell 3).trans hz.f3; have gf3 := hz.g0.free 3; have l0 := (hlw.cells (g := gl) rfl 0 _ rfl : w9.cell? ((⟨gl, 0, none⟩ : Addr).add 0) = some (.int .i64 1)); rw [at_add, Nat.zero_add] at l0; have HB9 := Lib.hid (((HB6.out.trans ((HK7.out.b.trans (((Below.refl w3.heap.size w7).alloc HQ7.out _).trans hk9.b)).mono HB3.out.size)))); have HZ := Lib.hid hz; have HLW := Lib.hid hlw; have HK9 := Lib.hid hk9; have HT9 := Lib.hid ht9; clear hz hlw hk9 ht9))
    go_loopg [38] 1 (fun gk s wr => CoR w9 g false gk s wr)
    case atStart => exact .inl ⟨rfl, rfl, rfl⟩
    case round =>
      rcases hrel with ⟨hgk, rfl, rfl⟩ | ⟨hgk, rfl, rfl⟩
      · subst hgk
        go_wp2
        go_roundg 0
        case measure => exact Nat.lt_succ_self _
        case rel => exact .inr ⟨rfl, rfl, rfl⟩
      · subst hgk
        have HE := Lib.hid (Lz.end (em := false) HZ.out (HZ.out.d0.far 3 (.bool true) (HZ.out.d0.neT HZ.out.g0 (by decide))) (HZ.out.g0.set 3 (.bool true)) (Array.getElem?_setIfInBounds_ne (by omega)) ((Array.getElem?_setIfInBounds_ne (by omega)).trans HZ.out.f1) (Array.getElem?_setIfInBounds_ne (by omega)) (set_at HZ.out.f3 _) (fun k cs hk => hk.far _ _ (hk.neT HZ.out.g0 (by decide))))
        have HF := Lib.hid (show Below W.heap.size W (w9.setCell ⟨g, 3, none⟩ (.bool true)) from HB9.out.setCell (Nat.le_trans HB3.out.size HZ.out.hB) _)
        clear d0 g3 gf3 l0 s0 s1 s2 sf1 t0 y0 y1 y2 cC cM cL cD x0 x1 x2
        go_wp2
        go_ret2
        exact ⟨_, rfl, HE.out, HF.out⟩
  | true =>
    go_enter Try.func14, Try.ntmps14
    go_wp2_with (first
      | (go_at_call 21; (with_reducible refine cC.mono ?_); rintro e w3 ⟨rfl, hb3⟩; have HX3 := Lib.hid (HX.out.below hb3); have HB3 := Lib.hid (HB2.out.trans (hb3.mono HB2.out.size)); have cM := cp_more w3; clear hb3)
      | (go_at_call 30; (with_reducible refine cM.mono ?_); rintro e w5 ⟨rfl, hms, hk5⟩; have hx5 := hk5.k _ _ _ (HX3.out.alloc _) (by decide) (by decide); have hx6 := hx5.alloc (.cells #[.int .i64 0] 3); have y0 := hx6.cell 0; have y1 := hx6.cell 1; have y2 := hx6.cell 2; have hB5 := (HB3.out.trans ((((Below.refl w3.heap.size w3).alloc (Nat.le_refl _) _).trans hk5.b).mono HB3.out.size)); have hB6 := hB5.alloc (o := .cells #[.int .i64 0] 3) hB5.size; have hsz6 := Nat.le_trans (Nat.le_succ w3.heap.size) (by have := hk5.b.size; rw [World.size_alloc] at this; exact this); have cL := HL.out w3.heap.size w3.heap.size (w5.alloc (.cells #[.int .i64 0] 3)) hB6 (hms.below ((Below.refl w5.heap.size w5).alloc (Nat.le_refl _) _)) (by rw [World.size_alloc]; omega); have HI5 := Lib.hid (Fb.new w5 3 #[.int .i64 0]); have HB6 := Lib.hid hB6; have HS6 := Lib.hid hsz6; clear hms hk5 hx5 hx6 hB5 hB6 hsz6)
      | (go_at_call 31; (with_reducible refine cL.mono ?_); rintro e w7 ⟨f, l, rfl, hly, hk7⟩; obtain ⟨k, ck, rfl, _⟩ := id hly.fi; obtain ⟨gl, cl, rfl, _⟩ := own_at hly.la (by decide); have hi7 := hk7.k _ _ _ HI5.out (by decide) (by decide); have hT8 := Fb.new w7 70 #[.slice (some ⟨k, 0, none⟩) 1 ck, .slice (some ⟨gl, 0, none⟩) 1 cl, .bool true]; have t0 := hT8.cell 0; have cD := cp_lead (cf := 1) (hly.below ((Below.refl w7.heap.size w7).alloc (Nat.le_refl _) (.cells #[.slice (some ⟨k, 0, none⟩) 1 ck, .slice (some ⟨gl, 0, none⟩) 1 cl, .bool true] 70))) ((hi7.alloc _).cell 0); have HI7 := Lib.hid hi7; have HT8 := Lib.hid hT8; have HK7 := Lib.hid hk7; have HQ7 := Lib.hid (Nat.le_trans HS6.out (Nat.le_trans (Nat.le_succ _) (by have := hk7.b.size; rw [World.size_alloc] at this; exact this))); clear hi7 hT8 hk7 hly)
      | (go_at_call 32; (with_reducible refine cD.mono ?_); rintro e w9 ⟨g, c9, cs, rfl, hz, hlw, hk9⟩; have ht9 := hk9.k _ _ _ HT8.out (by decide) (by decide); have s0 := ht9.cell 0; have s1 := ht9.cell 1; have s2 := ht9.cell 2; have sf1 := ht9.free 1; have d0 := hz.d0.cell 0; have hi9 := hk9.k _ _ _ (HI7.out.alloc _) (by decide) (by decide); have HI9 := Lib.hid (hi9.cell 0); clear hi9; have HB9 := Lib.hid (((HB6.out.trans ((HK7.out.b.trans (((Below.refl w3.heap.size w7).alloc HQ7.out _).trans hk9.b)).mono HB3.out.size)))); have HZ := Lib.hid hz; have HLW := Lib.hid hlw; have HQ9 := Lib.hid (Nat.le_trans (Nat.le_trans HQ7.out (Nat.le_succ _)) (by have := hk9.b.size; rw [World.size_alloc] at this; exact this)); have HK9 := Lib.hid hk9; have HT9 := Lib.hid ht9; clear hz hlw hk9 ht9)
      | (at_builtin; refine wp_app_two rfl _ _ rfl rfl rfl HLW.out HI9.out HQ9.out ?_; intro ga ca w10 hl10 hb10 hk10; obtain ⟨ly, hly⟩ := row_type hl10 (k := ga) rfl; have ht10 := hk10 _ _ _ HT9.out (by decide); have hd10 := hk10 _ _ _ HZ.out.d0 (by decide); have hg10 := hk10 _ _ _ HZ.out.g0 (by decide); have z1 := ht10.cell 1; have zf1 := ht10.free 1; have nel := hly.neT ht10 (by decide); have ned := hd10.neT ht10 (by decide); have neg := hg10.neT ht10 (by decide); have ht11 := ht10.set 1 (.slice (some ⟨ga, 0, none⟩) 2 ca); have hd11 := hd10.far 1 (.slice (some ⟨ga, 0, none⟩) 2 ca) ned; have hg11 := hg10.far 1 (.slice (some ⟨ga, 0, none⟩) 2 ca) neg; have hly11 := hly.far 1 (.slice (some ⟨ga, 0, none⟩) 2 ca) nel; have r1 := ht11.cell 1; have e0 := hd11.cell 0; have g3 := (hg11.cell 3).trans HZ.out.f3; have gf3 := hg11.free 3; have m0 := (hl10.cells (g := ga) rfl 0 _ rfl : w10.cell? ((⟨ga, 0, none⟩ : Addr).add 0) = some (.int .i64 1)); rw [at_add, Nat.zero_add] at m0; have m1 := (hl10.cells (g := ga) rfl 1 _ rfl : w10.cell? ((⟨ga, 0, none⟩ : Addr).add 1) = some (.int .i64 0)); rw [at_add, Nat.zero_add] at m1; have m0' := (hly11.cell 0).trans ((hly.cell 0).symm.trans m0); have m1' := (hly11.cell 1).trans ((hly.cell 1).symm.trans m1); have HD11 := Lib.hid hd11; have HG11 := Lib.hid hg11; have HL11 := Lib.hid hly11; have HM1 := Lib.hid m1'; have HB11 := Lib.hid (show Below W.heap.size W (w10.setCell ⟨w7.heap.size, 1, none⟩ (.slice (some ⟨ga, 0, none⟩) 2 ca)) from (HB9.out.trans (hb10.mono HB3.out.size)).setCell (Nat.le_trans HB3.out.size HQ7.out) _); have HK10 := Lib.hid (fun k cs (hk : Fb w9 k 85 cs) => (hk10 k _ cs hk (by decide)).far 1 (.slice (some ⟨ga, 0, none⟩) 2 ca) ((hk10 k _ cs hk (by decide)).neT ht10 (by decide))); clear hl10 hb10 hk10 hly ht10 hd10 hg10 nel ned neg ht11 hd11 hg11 hly11 m0 m1 m1' s0 s1 s2 sf1 d0))
    obtain ⟨w11, hw11⟩ : ∃ w11, w11 = (w10.setCell ⟨w7.heap.size, 1, none⟩ (.slice (some ⟨ga, 0, none⟩) 2 ca)) := ⟨_, rfl⟩
    rw [← hw11] at HD11 HG11 HL11 HM1 HB11 HK10 r1 e0 g3 gf3 m0'
    rw [← hw11]
    clear hw11
    go_loopg [38] 2 (fun gk s wr => CoR w11 g true gk s wr)
    case atStart => exact .inl ⟨rfl, rfl, rfl⟩
    case round =>
      rcases hrel with ⟨hgk, rfl, rfl⟩ | ⟨hgk, rfl, rfl⟩ | ⟨hgk, rfl, rfl⟩
      · subst hgk
        go_wp2
        go_roundg 1
        case measure => exact Nat.lt_succ_self _
        case rel => exact .inr (.inl ⟨rfl, rfl, rfl⟩)
      · subst hgk
        have ned := HD11.out.neT HG11.out (by decide)
        have nel := HL11.out.neT HG11.out (by decide)
        have d1 := (HD11.out.far 3 (.bool true) ned).cell 0
        have l1 := ((HL11.out.far 3 (.bool true) nel).cell 1).trans ((HL11.out.cell 1).symm.trans HM1.out)
        have hg12 := HG11.out.set 3 (.bool true)
        have g1 := (hg12.cell 1).trans ((Array.getElem?_setIfInBounds_ne (by omega)).trans HZ.out.f1)
        have gf1 := hg12.free 1
        clear ned nel hg12 e0 g3 gf3 m0' r1
        go_wp2
        go_roundg 0
        case measure => exact Nat.lt_succ_self _
        case rel => exact .inr (.inr ⟨rfl, rfl, rfl⟩)
      · subst hgk
        have ned := HD11.out.neT HG11.out (by decide)
        have HE := Lib.hid (Lz.end (em := true) HZ.out ((HD11.out.far 3 (.bool true) ned).far 1 (.bool true) ned) ((HG11.out.set 3 (.bool true)).set 1 (.bool true)) ((Array.getElem?_setIfInBounds_ne (by omega)).trans (Array.getElem?_setIfInBounds_ne (by omega))) (set_at ((Array.getElem?_setIfInBounds_ne (by omega)).trans HZ.out.f1) _) ((Array.getElem?_setIfInBounds_ne (by omega)).trans (Array.getElem?_setIfInBounds_ne (by omega))) ((Array.getElem?_setIfInBounds_ne (by omega)).trans (set_at HZ.out.f3 _)) (fun k cs hk => ((HK10.out k cs hk).far _ _ ((HK10.out k cs hk).neT HG11.out (by decide))).far _ _ ((HK10.out k cs hk).neT HG11.out (by decide))))
        have HF := Lib.hid (show Below W.heap.size W ((w11.setCell ⟨g, 3, none⟩ (.bool true)).setCell ⟨g, 1, none⟩ (.bool true)) from (HB11.out.setCell (Nat.le_trans HB3.out.size HZ.out.hB) _).setCell (Nat.le_trans HB3.out.size HZ.out.hB) _)
        clear ned e0 g3 gf3 m0' r1
        go_wp2
        go_ret2
        exact ⟨_, rfl, HE.out, HF.out⟩
end Go.Proofs.Ytcbdgbcphfimlaa
