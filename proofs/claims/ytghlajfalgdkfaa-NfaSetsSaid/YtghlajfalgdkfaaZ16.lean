/-
  MERGED (a claim has at most 60 files): NgSt, NgLX.
-/
import Derived.Test.YtghlajfalgdkfaaZ09
import Derived.Test.YtghlajfalgdkfaaZ14
/-
  Next: as before, and its answer lies in a block of its own; States; has.
-/
namespace Go.Proofs.Ytghlajfalgdkfaa
open Go.RowKit
set_option linter.unusedVariables false
set_option linter.unusedSimpArgs false
set_option maxRecDepth 100000

def NgQ2 (W : World) (P : Nat → Prop) (n : Nat) (e : Ending) (w' : World) : Prop := ∃ A m c l, e = .returned (.slice A m c) ∧ Set1 w' (.slice A m c) l P n ∧ Below W.heap.size W w' ∧ InR W.heap.size w' (.slice A m c) l
set_option maxHeartbeats 32000000 in
theorem next_new {B d nl cl : Nat} {Al : Option Addr} {T : List St} {W : World} {l : List Nat} {s : Sy} {sy : Nat → Sy} (hM : Ma B d T W) (hw : Wt sy T) (hT : T.length ≤ 1000) (hl : InR 0 W (.slice Al nl cl) l) (hll : l.length ≤ 1000) (hlt : ∀ i ∈ l, i < T.length) :
    Calls Try.prog 23 #[.pointer (some ⟨d, 0, none⟩), .slice Al nl cl, .agg #[.int .i64 s.1, .bool s.2]] W (NgQ2 W (fun q => ∃ i ∈ l, ∃ t, T[i]? = some t ∧ (s, q) ∈ t.2.1) T.length) := by
  obtain ⟨⟨A0, c0, hd, hst⟩, _, _, _⟩ := id hM
  obtain ⟨nT, hnT⟩ : ∃ nT, nT = T.length := ⟨_, rfl⟩
  rw [← hnT] at hd hT ⊢
  obtain ⟨P, hPe⟩ : ∃ P : Nat → Prop, P = (fun q => ∃ i ∈ l, ∃ t, T[i]? = some t ∧ (s, q) ∈ t.2.1) := ⟨_, rfl⟩
  rw [← hPe]
  have HPe := Lib.hid hPe
  clear hPe
  have hnl : nl = l.length := by
    obtain ⟨A', c', e, _⟩ := hl.shape
    exact (Value.slice.inj e).2.1
  have hb1 : Below W.heap.size W (W.alloc (.cells #[.int .i64 s.1, .bool s.2] 44)) := (Below.refl _ _).alloc (Nat.le_refl _) _
  have hm := mkB (W.alloc (.cells #[.int .i64 s.1, .bool s.2] 44)) nT hT
  rw [World.size_alloc] at hm
  obtain ⟨W1, hW1⟩ : ∃ W1, W1 = (W.alloc (.cells #[.int .i64 s.1, .bool s.2] 44)).alloc (.cells (madeCells #[.bool false] nT) 4) := ⟨_, rfl⟩
  rw [← hW1] at hm
  have hbW1 : Below W.heap.size W W1 := by rw [hW1]; exact hb1.alloc hb1.size _
  have hQ1 : Fb W1 W.heap.size 44 #[.int .i64 s.1, .bool s.2] := by rw [hW1]; exact (Fb.new W 44 #[.int .i64 s.1, .bool s.2]).alloc _
  have hR1 : Rc W1 (W.heap.size + 1) nT (fun _ => False) := by
    have := rc_new (W.alloc (.cells #[.int .i64 s.1, .bool s.2] 44)) nT
    rw [World.size_alloc] at this
    rw [hW1]; exact this
  have hsz1 : W1.heap.size = W.heap.size + 2 := by rw [hW1]; simp
  have a0 := (hd.below hb1).cell 0
  have H0 := Lib.hid (show NgA W W1 T (W.heap.size + 1) nT l s l.length (.int .i64 0) W1 from ⟨0, by omega, rfl, hbW1, Below.refl _ _, hR1.congr (fun q => ⟨False.elim, fun ⟨i, hi, _⟩ => by simp at hi⟩)⟩)
  have HMt := Lib.hid (fun (w : World) (hb : Below W.heap.size W w) (i : Nat) (t : St) (ht : T[i]? = some t) => moves_gen s hM (hM.below hb) ht (hw i t ht).1 (by rw [← hnT]; exact hT) (Nat.le_trans (gm_len (hw i t ht).1 (hw i t ht).2) (by rw [← hnT]; exact hT)))
  have HBy := Lib.hid (fun (i : Nat) (t : St) (ht : T[i]? = some t) => And.intro (byS_mem (hw i t ht).1 s) (fun (x : Mo) (hx : x ∈ byS t.2.1 s) => ((hw i t ht).2 x ((byS_mem (hw i t ht).1 s x).1 hx).1).1) |> fun h => And.intro h (by rw [byS_len (hw i t ht).1 s]; have h1 := (mB_spec (hw i t ht).1 s).1; have h2 := gm_len (hw i t ht).1 (hw i t ht).2; omega : (byS t.2.1 s).length ≤ 1000))
  have HLr := Lib.hid (fun (w : World) (hb : Below W.heap.size W w) => (row_below hl hb : InR 0 w (.slice Al nl cl) l))
  have HQ := Lib.hid (fun (w : World) (hb : Below (W.heap.size + 1) W1 w) => ((hb.block W.heap.size (Nat.lt_succ_self _)).trans hQ1 : Fb w W.heap.size 44 #[.int .i64 s.1, .bool s.2]))
  have HLT := Lib.hid hlt
  have HNT := Lib.hid hnT
  have HNL := Lib.hid hnl
  have HLL := Lib.hid hll
  have HTT := Lib.hid hT
  have HS1 := Lib.hid hsz1
  have t0 : (0 : Int) ≤ (nT : Int) := by omega
  have t1 : (nT : Int) ≤ 1000 := by omega
  have t2 : (nl : Int) ≤ 1000 := by omega
  clear hM hw hT hl hll hlt hd hst hnT hnl hb1 hW1 hbW1 hQ1 hR1 hsz1
  go_enter Try.func23, Try.ntmps23
  go_wp2
  go_loopg [23] l.length (fun gk sv wr => NgA W W1 T (W.heap.size + 1) nT l s gk sv wr)
  case atStart => exact H0.out
  case round =>
    obtain ⟨a, ha, rfl, hb, hbx, hrc⟩ := hrel
    have hn := HNL.out
    by_cases hal : a < l.length
    · obtain ⟨i, hi⟩ : ∃ i, l[a]? = some i := ⟨_, List.getElem?_eq_getElem hal⟩
      obtain ⟨A', c', es, hA'⟩ := InR.shape (HLr.out wr hb)
      obtain ⟨gl, hgl, _, _⟩ := hA'.resolve_left (fun e => by rw [e] at hal; simp at hal)
      have hAl : Al = some ⟨gl, 0, none⟩ := (Value.slice.inj es).1.trans hgl
      subst hAl
      have li := InR.at (HLr.out wr hb) hi
      have hiT := HLT.out i (List.mem_of_getElem? hi)
      obtain ⟨t, ht⟩ : ∃ t, T[i]? = some t := ⟨_, List.getElem?_eq_getElem hiT⟩
      have cM := HMt.out wr hb i t ht
      have q0 := Fb.cell (HQ.out wr hbx) 0
      have q1 := Fb.cell (HQ.out wr hbx) 1
      have a0' : (0 : Int) ≤ (a : Int) := by omega
      have a1 : (a : Int) < (nl : Int) := by omega
      have HA := Lib.hid (And.intro ha (And.intro hal (And.intro hi ht)))
      have HBs := Lib.hid (And.intro hb (And.intro hbx hrc))
      obtain ⟨⟨hby1, hby2⟩, hby3⟩ := HBy.out i t ht
      have HB1 := Lib.hid hby1
      have HB2 := Lib.hid hby2
      have HB3 := Lib.hid hby3
      generalize hMe : byS t.2.1 s = M at cM HB1 HB2 HB3
      clear ha hb hbx hrc hn hal hi es hA' hgl hiT ht hby1 hby2 hby3 hMe
      go_wp2_with (go_at_call 41; (with_reducible refine cM.mono ?_); rintro e w5 ⟨v, rfl, hmv, hb5⟩; obtain ⟨Am, cm, ev, _⟩ := hmv W (Below.refl _ _); obtain ⟨nm, hnm⟩ : ∃ nm, nm = M.length := ⟨_, rfl⟩; rw [← hnm] at ev; subst ev; have HMV := Lib.hid hmv; have HNM := Lib.hid hnm; have HB5 := Lib.hid hb5; clear hmv hnm hb5 cM)
      have hsz : W.heap.size + 1 ≤ wr.heap.size := by have := HS1.out; have := HBs.out.2.1.size; omega
      have HI0 := Lib.hid (show NgI W W1 T (W.heap.size + 1) nT l s a M M.length (.int .i64 0) w5 from ⟨0, by omega, rfl, HBs.out.1.trans (HB5.out.mono HBs.out.1.size), HBs.out.2.1.trans (HB5.out.mono hsz), (HBs.out.2.2.below HB5.out).congr (fun q => ⟨.inl, fun h => h.elim id (fun ⟨x, hx, _⟩ => by simp at hx)⟩)⟩)
      have hMl : M.length ≤ 1000 := HB3.out
      have nmI : (nm : Int) ≤ 1000 := by have := HNM.out; omega
      clear hsz li q0 q1
      go_loopg [32] M.length (fun gk sv wr => NgI W W1 T (W.heap.size + 1) nT l s a M gk sv wr)
      case atStart => exact HI0.out
      case round =>
        obtain ⟨b, hbm, rfl, hb, hbx, hrc⟩ := hrel
        have hn := HNM.out
        by_cases hbl : b < M.length
        · obtain ⟨x, hx⟩ : ∃ x, M[b]? = some x := ⟨_, List.getElem?_eq_getElem hbl⟩
          obtain ⟨A', c', es, hat⟩ := HMV.out wr hb
          obtain ⟨g, o, hgA, x0, x1, x2⟩ := hat b x hx
          have hAm : Am = some ⟨g, o, none⟩ := (Value.slice.inj es).1.trans hgA
          subst hAm
          have hxT : x.2 < nT := by rw [HNT.out]; exact HB2.out x (List.mem_of_getElem? hx)
          have hrc2 := hrc.below ((Below.refl wr.heap.size wr).alloc (Nat.le_refl _) (.cells #[.int .i64 x.1.1, .bool x.1.2, .int .i64 (x.2 : Int)] 84))
          obtain ⟨cs, hcs, hcq⟩ := id hrc2
          obtain ⟨bq, hbq, _⟩ := hcq x.2 hxT
          have r0 := (hcs.cell x.2).trans hbq
          have rf := hcs.free x.2
          have hsz : W.heap.size + 1 ≤ wr.heap.size := by have := HS1.out; have := hbx.size; omega
          have HR := Lib.hid (And.intro ((hb.alloc hb.size (.cells #[.int .i64 x.1.1, .bool x.1.2, .int .i64 (x.2 : Int)] 84)).setCell (Nat.le_succ _) (.bool true) (p := ⟨W.heap.size + 1, x.2, none⟩)) (And.intro ((hbx.alloc hsz (.cells #[.int .i64 x.1.1, .bool x.1.2, .int .i64 (x.2 : Int)] 84)).setCell (Nat.le_refl _) (.bool true) (p := ⟨W.heap.size + 1, x.2, none⟩)) (hrc2.set hxT)))
          have b0 : (0 : Int) ≤ (b : Int) := by omega
          have b1 : (b : Int) < (nm : Int) := by omega
          have xt0 : (0 : Int) ≤ (x.2 : Int) := by omega
          have xt1 : (x.2 : Int) < (nT : Int) := by omega
          have HX := Lib.hid (And.intro hbm (And.intro hbl hx))
          clear hbm hbl hx es hat hgA hxT hrc2 hcs hcq hbq hsz hb hbx hrc hn
          go_wp2
          go_roundg (M.length - (b + 1))
          case measure => obtain ⟨h1, h2, _⟩ := HX.out; omega
          case rel =>
            obtain ⟨h1, h2, h3⟩ := HX.out
            refine ⟨b + 1, by omega, by rw [Int.natCast_add]; rfl, HR.out.1, HR.out.2.1, HR.out.2.2.congr (fun q => ?_)⟩
            unfold PnI
            rw [take_snoc h3]
            constructor
            · rintro ((h | ⟨y, hy, e⟩) | rfl)
              · exact .inl h
              · exact .inr ⟨y, List.mem_append_left _ hy, e⟩
              · exact .inr ⟨x, List.mem_append_right _ (List.mem_singleton.2 rfl), rfl⟩
            · rintro (h | ⟨y, hy, e⟩)
              · exact .inl (.inl h)
              · rcases List.mem_append.1 hy with hy | hy
                · exact .inl (.inr ⟨y, hy, e⟩)
                · obtain rfl := List.mem_singleton.1 hy
                  exact .inr e.symm
        · have hbe : b = M.length := by omega
          have b1 : ¬ ((b : Int) < (nm : Int)) := by omega
          have HE := Lib.hid (show NgA W W1 T (W.heap.size + 1) nT l s (l.length - (a + 1)) (.int .i64 ((a + 1 : Nat) : Int)) wr from by
            obtain ⟨h1, h2, h3, h4⟩ := HA.out
            refine ⟨a + 1, by omega, rfl, hb, hbx, hrc.congr (fun q => ?_)⟩
            unfold PnI PnA
            rw [hbe, List.take_length, take_snoc h3]
            constructor
            · rintro (⟨i', hi', t', ht', hx'⟩ | ⟨y, hy, rfl⟩)
              · exact ⟨i', List.mem_append_left _ hi', t', ht', hx'⟩
              · have hm := (HB1.out y).1 hy
                exact ⟨i, List.mem_append_right _ (List.mem_singleton.2 rfl), t, h4, by rw [← hm.2]; exact hm.1⟩
            · rintro ⟨i', hi', t', ht', hx'⟩
              rcases List.mem_append.1 hi' with hi' | hi'
              · exact .inl ⟨i', hi', t', ht', hx'⟩
              · obtain rfl := List.mem_singleton.1 hi'
                rw [h4] at ht'
                injection ht' with ht'
                subst ht'
                exact .inr ⟨(s, q), (HB1.out (s, q)).2 ⟨hx', rfl⟩, rfl⟩)
          clear hbm hbl hb hbx hrc hn hbe
          go_wp2
          go_roundg (l.length - (a + 1))
          case measure => obtain ⟨h1, h2, _⟩ := HA.out; omega
          case rel => exact HE.out
    · have hae : a = l.length := by omega
      have a1 : ¬ ((a : Int) < (nl : Int)) := by omega
      have hP : ∀ q, PnA T l s a q ↔ ∃ i ∈ l, ∃ t, T[i]? = some t ∧ (s, q) ∈ t.2.1 := fun q => by unfold PnA; rw [hae, List.take_length]
      have hrc' := hrc.congr hP
      have hsz : W.heap.size + 1 + 1 ≤ wr.heap.size := by have := HS1.out; have := hbx.size; omega
      have hrc2 : Rc wr (W.heap.size + 1) nT P := by rw [HPe.out]; exact hrc'
      have HO0 := Lib.hid (show NgO W (W.heap.size + 1) nT P nT (.slice none 0 0) (.int .i64 0) wr from ⟨0, none, 0, 0, [], by omega, rfl, rfl, hb, hrc2, World.ownsRow_nil _ _ _ _, List.Pairwise.nil, fun q => by simp⟩)
      have HSZ := Lib.hid hsz
      have HBW := Lib.hid hb
      clear hP hrc hrc' hrc2 hb hbx ha hal hae hn hsz
      go_wp2
      have HBO : Hid (∀ (w : World), Below W.heap.size W w → True) := Lib.hid fun _ _ => trivial
      go_loopg [12, 44] nT (fun gk s12 s44 w => NgO W (W.heap.size + 1) nT P gk s12 s44 w ∧ W.heap.size + 1 + 1 ≤ w.heap.size)
      case atStart => exact ⟨HO0.out, HSZ.out⟩
      case round =>
        obtain ⟨⟨k, A5, m5, c5, lq, hk, rfl, rfl, hb, hrc, hrow, hup, hmem⟩, hsz⟩ := hrel
        by_cases hkn : k < nT
        · obtain ⟨cs, hcs, hcq⟩ := id hrc
          obtain ⟨bq, hbq, hbP⟩ := hcq k hkn
          have r0 := (hcs.cell k).trans hbq
          have k0 : (0 : Int) ≤ (k : Int) := by omega
          have k1 : (k : Int) < (nT : Int) := by omega
          have hlq : lq.length ≤ 1000 := Nat.le_trans (nodup_le k lq (hup.imp (fun h => Nat.ne_of_lt h)) (fun x hx => ((hmem x).1 hx).1)) (by have := HTT.out; omega)
          cases bq with
          | false =>
            have hno : ¬ P k := fun h => by have := hbP.2 h; cases this
            have HR := Lib.hid (show NgO W (W.heap.size + 1) nT P (nT - (k + 1)) (.slice A5 m5 c5) (.int .i64 ((k + 1 : Nat) : Int)) wr from ⟨k + 1, A5, m5, c5, lq, by omega, rfl, rfl, hb, hrc, hrow, hup, fun q => (hmem q).trans ⟨fun ⟨h1, h2⟩ => ⟨by omega, h2⟩, fun ⟨h1, h2⟩ => ⟨by
              rcases Nat.lt_or_ge q k with h | h
              · exact h
              · have : q = k := by omega
                subst this
                exact absurd h2 hno, h2⟩⟩⟩)
            have HSz := Lib.hid hsz
            have HK := Lib.hid hkn
            have HKg := Lib.hid hk
            clear hk hb hrc hrow hup hmem hsz hkn hcs hcq hbq hbP hlq hno
            go_wp2
            go_roundg (nT - (k + 1))
            case measure => have := HK.out; have := HKg.out; omega
            case rel => exact ⟨HR.out, HSz.out⟩
          | true =>
            have hyes : P k := hbP.1 rfl
            obtain ⟨w2, hw2⟩ : ∃ w2, w2 = wr.alloc (.cells #[.int .i64 (k : Int)] 3) := ⟨_, rfl⟩
            have hb2 : Below wr.heap.size wr w2 := by rw [hw2]; exact (Below.refl _ _).alloc (Nat.le_refl _) _
            have hrow2 : InR (W.heap.size + 1 + 1) w2 (.slice A5 m5 c5) lq := row_below hrow hb2
            have hnew : InR (W.heap.size + 1 + 1) w2 (.slice (some ⟨wr.heap.size, 0, none⟩) 1 1) [k] := by
              rw [hw2]
              exact World.ownsRow_lit (base := W.heap.size + 1 + 1) (e := 3) (size := 1) wr #[.int .i64 (k : Int)] 1 (by omega) (by unfold maxLen; omega) rfl
            have HB2 := Lib.hid (hb.trans (hb2.mono hb.size))
            have HSz2 := Lib.hid (Nat.le_trans hsz hb2.size)
            have HRc2 := Lib.hid (hrc.below hb2)
            have HRow := Lib.hid hrow2
            have HNew := Lib.hid hnew
            have HUp := Lib.hid (And.intro hup (And.intro hmem (And.intro hlq hyes)))
            have HK := Lib.hid hkn
            have HKg := Lib.hid hk
            clear hk hb hrc hrow hup hmem hsz hkn hcs hcq hbq hbP hlq hyes hb2 hrow2 hnew
            have HOne := Lib.hid (show [k].length ≤ 1000 by simp)
            subst hw2
            go_wp2_with (at_builtin; refine wpl_app_i rfl _ _ rfl rfl rfl HRow.out HNew.out HSz2.out HUp.out.2.2.1 HOne.out ?_; intro A6 n6 c6 w6 hn6 hr6 hg6 hq6; have HR6 := Lib.hid hr6; have HG6 := Lib.hid hg6; have HN6 := Lib.hid hn6; clear hr6 hg6 hn6 hq6)
            go_roundg (nT - (k + 1))
            case measure => have := HK.out; have := HKg.out; omega
            case rel =>
              obtain ⟨h1, h2, h3, h4⟩ := HUp.out
              have hkk := HK.out
              refine ⟨⟨k + 1, A6, n6, c6, lq ++ [k], by omega, by rw [Int.natCast_add]; rfl, rfl, HB2.out.trans (((Below.refl (W.heap.size + 1 + 1) _).grown HG6.out HSz2.out (fun q hq => (row_lt HRow.out q hq).1)).mono (by omega)), ?_, HR6.out, ?_, fun q => ?_⟩, Nat.le_trans HSz2.out HG6.out.size⟩
              · obtain ⟨cs, hcs, hcq⟩ := HRc2.out
                exact ⟨cs, (grown_neT HRow.out HG6.out hcs (by decide)).trans hcs, hcq⟩
              · rw [List.pairwise_append]
                exact ⟨h1, List.pairwise_singleton _ _, fun a ha b hb => by
                  have h5 := ((h2 a).1 ha).1
                  have h6 : b = k := by simpa using hb
                  omega⟩
              · rw [List.mem_append, h2, List.mem_singleton]
                constructor
                · rintro (⟨h5, h6⟩ | rfl)
                  · exact ⟨by omega, h6⟩
                  · exact ⟨by omega, h4⟩
                · rintro ⟨h5, h6⟩
                  rcases Nat.lt_or_ge q k with h | h
                  · exact .inl ⟨h, h6⟩
                  · exact .inr (by omega)
        · have hke : k = nT := by omega
          have k1 : ¬ ((k : Int) < (nT : Int)) := by omega
          have HE := Lib.hid (show NgQ2 W P nT (.returned (.slice A5 m5 c5)) wr from ⟨A5, m5, c5, lq, rfl, ⟨⟨hrow.1, hrow.2.imp id (fun ⟨g, cap, cur, h1, _, h2⟩ => ⟨g, cap, cur, h1, Nat.zero_le _, h2⟩)⟩, hup, fun q => by rw [hmem, hke]⟩, hb, ⟨hrow.1, hrow.2.imp id (fun ⟨g, cap, cur, h1, h0, h2⟩ => ⟨g, cap, cur, h1, by omega, h2⟩)⟩⟩)
          clear hk hb hrc hrow hup hmem hsz hkn hke
          go_wp2
          go_ret
          exact HE.out
theorem states_gen {B d : Nat} {T : List St} {W : World} (hM : Ma B d T W) (hT : T.length ≤ 1000) : Calls Try.prog 22 #[.pointer (some ⟨d, 0, none⟩)] W fun e w' => e = .returned (.int .i64 (T.length : Int)) ∧ w' = W := by
  obtain ⟨⟨A, c, hd, _⟩, _, _, _⟩ := hM
  obtain ⟨nT, hnT⟩ : ∃ nT, nT = T.length := ⟨_, rfl⟩
  rw [← hnT] at hd hT ⊢
  have y := hd.cell 0
  have t0 : (0 : Int) ≤ (nT : Int) := by omega
  have t1 : (nT : Int) ≤ 1000 := by omega
  clear hnT hd hT
  go_enter Try.func22, Try.ntmps22
  go_wp2
  go_ret
  exact ⟨rfl, rfl⟩
def HsG (W : World) (l : List Nat) (q gk : Nat) (s9 : Value) (wr : World) : Prop := ∃ a : Nat, a + gk = l.length ∧ s9 = .int .i64 (a : Int) ∧ wr = W ∧ q ∉ l.take a
theorem has_gen {B m c q : Nat} {A : Option Addr} {W : World} {l : List Nat} (h : InR B W (.slice A m c) l) (hl : l.length ≤ 1000) : Calls Try.prog 24 #[.slice A m c, .int .i64 (q : Int)] W fun e w' => e = .returned (.bool (decide (q ∈ l))) ∧ w' = W := by
  have hm : m = l.length := by
    obtain ⟨A', c', e, _⟩ := InR.shape h
    exact (Value.slice.inj e).2.1
  have HH := Lib.hid h
  have HL := Lib.hid hl
  have HM := Lib.hid hm
  have m0 : (0 : Int) ≤ (m : Int) := by omega
  have m1 : (m : Int) ≤ 1000 := by omega
  clear h hl hm
  go_enter Try.func24, Try.ntmps24
  go_wp2
  go_loopg [9] l.length (fun gk s9 wr => HsG W l q gk s9 wr)
  case atStart => exact ⟨0, by omega, rfl, rfl, by simp⟩
  case round =>
    obtain ⟨a, ha, rfl, rfl, hno⟩ := hrel
    have hmm := HM.out
    have a0 : (0 : Int) ≤ (a : Int) := by omega
    by_cases hal : a < l.length
    · obtain ⟨x, hx⟩ : ∃ x, l[a]? = some x := ⟨_, List.getElem?_eq_getElem hal⟩
      obtain ⟨A', c', es, hA'⟩ := InR.shape HH.out
      obtain ⟨gl, hgl, _, _⟩ := hA'.resolve_left (fun e => by rw [e] at hal; simp at hal)
      have hAl : A = some ⟨gl, 0, none⟩ := (Value.slice.inj es).1.trans hgl
      subst hAl
      have lx := InR.at HH.out hx
      have a1 : (a : Int) < (m : Int) := by omega
      have HA := Lib.hid (And.intro ha hal)
      by_cases hxq : x = q
      · have HE := Lib.hid (show decide (q ∈ l) = true from decide_eq_true (by rw [← hxq]; exact List.mem_of_getElem? hx))
        have z : ((x : Int) == (q : Int)) = true := by rw [beq_iff_eq]; omega
        have z' : (x == q) = true := by rw [beq_iff_eq]; omega
        clear ha hal hx es hA' hgl hno hmm hxq
        go_wp2
        go_ret
        exact ⟨by rw [HE.out]; rfl, rfl⟩
      · have HN := Lib.hid (show q ∉ l.take (a + 1) from by
          rw [take_snoc hx, List.mem_append, List.mem_singleton]
          rintro (h | h)
          · exact hno h
          · exact hxq h.symm)
        have z : ((x : Int) == (q : Int)) = false := by rw [beq_eq_false_iff_ne]; omega
        have z' : (x == q) = false := by rw [beq_eq_false_iff_ne]; exact hxq
        clear ha hal hx es hA' hgl hno hmm hxq
        go_wp2
        go_roundg (l.length - (a + 1))
        case measure => have := HA.out; omega
        case rel => exact ⟨a + 1, by have := HA.out; omega, by rw [Int.natCast_add]; rfl, rfl, HN.out⟩
    · have hae : a = l.length := by omega
      have HE := Lib.hid (show decide (q ∈ l) = false from decide_eq_false (by rw [hae, List.take_length] at hno; exact hno))
      have a1 : ¬ ((a : Int) < (m : Int)) := by omega
      clear ha hal hno hmm hae
      go_wp2
      go_ret
      exact ⟨by rw [HE.out]; rfl, rfl⟩
end Go.Proofs.Ytghlajfalgdkfaa

/-
  NfaSets: its walk.
-/
namespace Go.Proofs.Ytghlajfalgdkfaa
open Go.RowKit
set_option linter.unusedVariables false
set_option linter.unusedSimpArgs false
set_option maxRecDepth 100000

def CkR (W : World) (m gk : Nat) (s48 : Value) (wr : World) : Prop := ∃ k : Nat, k + gk = m ∧ s48 = .int .i64 (k : Int) ∧ wr = W
/-- The document's own way: all states that the states of a set lead to. -/
def AlS (W : World) (T : List St) (l : List Nat) (s : Sy) (gk : Nat) (s81 s15 : Value) (wr : World) : Prop := ∃ (a : Nat) (A : Option Addr) (m c : Nat) (la : List Nat), a + gk = l.length ∧ s81 = .int .i64 (a : Int) ∧ s15 = .slice A m c ∧ InR W.heap.size wr (.slice A m c) la ∧ la.Nodup ∧ (∀ q, q ∈ la ↔ ∃ i ∈ l.take a, ∃ t, T[i]? = some t ∧ (s, q) ∈ t.2.1) ∧ (∀ q ∈ la, q < T.length) ∧ Below W.heap.size W wr
def AiS (W : World) (T : List St) (la0 l7 : List Nat) (v7 : Value) (gk : Nat) (s94 s15 : Value) (wr : World) : Prop := ∃ (b : Nat) (A : Option Addr) (m c : Nat) (la : List Nat), b + gk = l7.length ∧ s94 = .int .i64 (b : Int) ∧ s15 = .slice A m c ∧ InR W.heap.size wr (.slice A m c) la ∧ la.Nodup ∧ (∀ q, q ∈ la ↔ q ∈ la0 ∨ q ∈ l7.take b) ∧ (∀ q ∈ la, q < T.length) ∧ InR 0 wr v7 l7 ∧ (∀ k, v7.ownBlock = some k → (Value.slice A m c).ownBlock ≠ some k) ∧ Below W.heap.size W wr
set_option pp.deepTerms true in
set_option pp.maxSteps 1000000 in
set_option maxHeartbeats 64000000 in
theorem sets_walk (A : Option Addr) (len cap : Nat) (hl : len ≤ cap) (hm : cap ≤ maxLen) (A1 : Option Addr) (l : List Int) (cap1 : Nat) (hl1 : l.length ≤ cap1) (hm1 : cap1 ≤ maxLen) (ok1 : ∀ x ∈ l, 0 ≤ x ∧ x < 256) (W : World) (hn : NdI W A len) (hBy : Byt W A1 l) : Calls Try.prog 5 #[.slice A len cap, .slice A1 l.length cap1] W (LtQ W) := by
  have HF0 := Lib.hid (fun (w : World) (hb : Below W.heap.size W w) => fix_q (c := cap) (hn.below hb) (Nat.le_trans hl hm))
  have HWd := Lib.hid (fun (w : World) (hb : Below W.heap.size W w) => word_q (hBy.below hb) ok1 hl1 hm1)
  obtain ⟨nl, hnl⟩ : ∃ nl, nl = l.length := ⟨_, rfl⟩
  rw [← hnl] at HWd ⊢
  have HB := Lib.hid (Below.refl W.heap.size W)
  clear hl hm hn hBy ok1 hl1 hm1 hnl
  go_enter Try.func5, Try.ntmps5
  go_upto_region 4 with (first
    | (go_at_call 10; (with_reducible refine (fawake_any _).mono ?_); rintro e w1 ⟨rfl, hb1⟩; have HB := Lib.hid (HB.out.trans (hb1.mono HB.out.size)); clear hb1)
    | (go_at_call 12; (with_reducible refine (HF0.out _ HB.out).mono ?_); rintro e w2 ⟨A2, m2, c2, ns, rfl, hm2, hm8, hq, hF, hb2⟩; have cT := tree_l (c := c2) hm2 hq (by omega); have HFx := Lib.hid (And.intro hm2 (And.intro hm8 hF)); have HB := Lib.hid (HB.out.trans (hb2.mono HB.out.size)); clear hm2 hm8 hq hF hb2)
    | (go_at_call 11; (with_reducible refine cT.mono ?_); rintro e w5 ⟨g, L, kd, nn, As, ls, cs, t, rfl, hL, hR, ht, hp, hb5⟩; have HT5 := Lib.hid (show Wd t ∧ sz t ≤ 300 from ⟨trees_wd _ t (List.mem_of_getElem? ht), trees_sz _ t (List.mem_of_getElem? ht)⟩); have HP := Lib.hid hp; have HB := Lib.hid (HB.out.trans (hb5.mono HB.out.size)); clear hL hR ht hp hb5 cT))
  obtain ⟨w6, hw6⟩ : ∃ w6, w6 = w5.alloc (.cells #[.int .i64 kd, .int .i64 nn, .slice As ls cs] 28) := ⟨_, rfl⟩
  rw [← hw6]
  have hb6 : Below w5.heap.size w5 w6 := by rw [hw6]; exact (Below.refl _ _).alloc (Nat.le_refl _) _
  have hF6 : Fb w6 w5.heap.size 28 #[.int .i64 kd, .int .i64 nn, .slice As ls cs] := by rw [hw6]; exact Fb.new _ _ _
  have HB6 := Lib.hid (HB.out.trans (hb6.mono HB.out.size))
  have q0 := hF6.cell 0
  have q1 := hF6.cell 1
  have q2 := hF6.cell 2
  obtain ⟨gp, hgp⟩ : ∃ gp, gp = w5.heap.size := ⟨_, rfl⟩
  rw [← hgp] at q0 q1 q2 ⊢
  have HP6 := Lib.hid (HP.out.below hb6)
  clear hw6 hb6 hF6 hgp HF0
  by_cases hz : chk t = 0
  · have cC := compile_ok HT5.out.1 hz HP6.out
    go_upto_region 8 with (first
      | (go_at_call 13; (with_reducible refine cC.mono ?_); rintro e w7 ⟨d, rfl, hM, hb7⟩; have HM := Lib.hid hM; have HB7 := Lib.hid (HB6.out.trans (hb7.mono HB6.out.size)); clear hb7 hM cC)
      | (go_at_call 15; (with_reducible refine (HWd.out _ HB7.out).mono ?_); rintro e w10 ⟨Aa, Ab, na, ca, nb, cb, ws, rfl, hws, hSa, hSb, hna, hnb, hw5, hb7⟩; have HW7 := Lib.hid (And.intro hSb.wd (And.intro hw5 hnb)); have HB10 := Lib.hid (HB7.out.trans (hb7.mono HB7.out.size)); have HM := Lib.hid (HM.out.below hb7); clear hws hSa hSb hna hnb hw5 hb7))
    obtain ⟨Bm, T, sy, hMa, hWt, hTl, hT0, hAcc⟩ := HM.out
    have HMa := Lib.hid (fun (w : World) (hb : Below w10.heap.size w10 w) => hMa.below hb)
    have HT := Lib.hid (And.intro hWt (And.intro hTl (And.intro hT0 hAcc)))
    have cB := begin_gen w10 d
    have HTk := Lib.hid (fun (w : World) (hb : Below w10.heap.size w10 w) => takes_gen (HM.out.below hb) (HW7.out.1.below hb) (by have := HW7.out.2.1; omega))
    clear hMa hWt hTl hT0 hAcc q0 q1 q2 HWd HP HP6
    go_upto_region 9 with (go_at_call 21; (with_reducible refine cB.mono ?_); rintro e w11 ⟨rfl, hst, hb⟩; have HST := Lib.hid hst; have HBB := Lib.hid hb; clear hst hb cB)
    have H0 := Lib.hid (show TkR w10 T ws ws.length (.slice (some ⟨w10.heap.size, 0, none⟩) 1 1) (.int .i64 0) w11 from ⟨0, _, _, _, [0], by omega, rfl, rfl, ⟨HST.out, List.pairwise_singleton _ _, fun q => by
      rw [List.take_zero, List.mem_singleton]
      constructor
      · rintro rfl; exact ⟨HT.out.2.2.1, .nil _⟩
      · rintro ⟨_, h⟩; cases h; rfl⟩, HBB.out⟩)
    clear HST HBB
    go_wp2
    go_loopg [11, 12] ws.length (fun gk s11 s12 wr => TkR w10 T ws gk s11 s12 wr)
    case atStart => exact H0.out
    case round =>
      obtain ⟨i, A5, m5, c5, l5, hi, rfl, rfl, hset, hb⟩ := hrel
      have hm : m5 = l5.length := by
        obtain ⟨A', c', e, _⟩ := InR.shape hset.r
        exact (Value.slice.inj e).2.1
      have hl9 : l5.length ≤ 1000 := Nat.le_trans hset.len HT.out.2.1
      have hlt : ∀ q ∈ l5, q < T.length := fun q hq => ((hset.m q).1 hq).1
      have i0 : (0 : Int) ≤ (i : Int) := by omega
      have i1 : (i : Int) ≤ 5 := by have := HW7.out.2.1; omega
      have m0 : (0 : Int) ≤ (m5 : Int) := by omega
      have m1 : (m5 : Int) ≤ 1000 := by omega
      have n0 : (0 : Int) ≤ (nb : Int) := by omega
      have HS := Lib.hid hset
      have HBb := Lib.hid hb
      have HI := Lib.hid hi
      have HLt := Lib.hid hlt
      have HL9 := Lib.hid hl9
      have HMM := Lib.hid hm
      clear hm hl9 hlt hi hset hb H0
      go_wp2
      go_loopg [48] m5 (fun gk s48 w => CkR wr m5 gk s48 w)
      case atStart => exact ⟨0, by omega, rfl, rfl⟩
      case round =>
        obtain ⟨k, hk, rfl, rfl⟩ := hrel
        have k0 : (0 : Int) ≤ (k : Int) := by omega
        have hmm := HMM.out
        by_cases hkm : k < m5
        · obtain ⟨q, hq⟩ : ∃ q, l5[k]? = some q := ⟨_, List.getElem?_eq_getElem (by omega)⟩
          obtain ⟨A', c', es, hA'⟩ := InR.shape HS.out.r
          obtain ⟨gl, hgl, _, _⟩ := hA'.resolve_left (fun e => by rw [e] at hmm; simp at hmm; omega)
          have hAl : A5 = some ⟨gl, 0, none⟩ := (Value.slice.inj es).1.trans hgl
          subst hAl
          have lq := InR.at HS.out.r hq
          obtain ⟨nT, hnT⟩ : ∃ nT, nT = T.length := ⟨_, rfl⟩
          have cS := states_gen (HMa.out wr HBb.out) HT.out.2.1
          rw [← hnT] at cS
          have hqT := HLt.out q (List.mem_of_getElem? hq)
          have q0 : ¬ ((q : Int) < 0) := by omega
          have q0' : decide ((q : Int) < 0) = false := decide_eq_false q0
          have q1 : ¬ ((nT : Int) ≤ (q : Int)) := by omega
          have q1' : decide ((nT : Int) ≤ (q : Int)) = false := decide_eq_false q1
          have q1n : decide (nT ≤ q) = false := decide_eq_false (by omega)
          have k1 : (k : Int) < (m5 : Int) := by omega
          have HK := Lib.hid (And.intro hk hkm)
          cases k with
          | zero =>
            have lq0 : wr.cell? ⟨gl, 0, none⟩ = some (.int .i64 (q : Int)) := lq
            clear hk hkm hq es hA' hgl hmm hnT hqT lq
            go_wp2_with (go_at_call 22; (with_reducible refine cS.mono ?_); rintro e wn ⟨rfl, rfl⟩)
            go_roundg (m5 - (0 + 1))
            case measure => have := HK.out; omega
            case rel => exact ⟨1, by have := HK.out; omega, rfl, rfl⟩
          | succ k =>
            obtain ⟨p, hp⟩ : ∃ p, l5[k]? = some p := ⟨_, List.getElem?_eq_getElem (by have := (List.getElem?_eq_some_iff.1 hq).1; omega)⟩
            have lp := InR.at HS.out.r hp
            have hpq : p < q := by
              obtain ⟨h1, rfl⟩ := List.getElem?_eq_some_iff.1 hp
              obtain ⟨h2, rfl⟩ := List.getElem?_eq_some_iff.1 hq
              exact List.pairwise_iff_getElem.1 HS.out.up k (k + 1) h1 h2 (Nat.lt_succ_self k)
            have p1 : ¬ ((q : Int) ≤ (p : Int)) := by omega
            have p1' : decide ((q : Int) ≤ (p : Int)) = false := decide_eq_false p1
            have p1n : decide (q ≤ p) = false := decide_eq_false (by omega)
            have k2 : (0 : Int) ≤ (k : Int) := by omega
            have k3 : (k : Int) + 1 < (m5 : Int) := by omega
            have k4 : (k : Int) < (m5 : Int) := by omega
            have HKe := Lib.hid (show m5 - (k + 1 + 1) + (k + 1 + 1) = m5 by omega)
            clear hk hkm hq es hA' hgl hmm hnT hqT hp hpq
            go_wp2_with (go_at_call 22; (with_reducible refine cS.mono ?_); rintro e wn ⟨rfl, rfl⟩)
            go_roundg (m5 - (k + 1 + 1))
            case measure => have := HK.out; omega
            case rel => exact ⟨k + 1 + 1, by have := HKe.out; omega, by rw [Int.natCast_add, Int.natCast_add]; rfl, rfl⟩
        · have k1 : ¬ ((k : Int) < (m5 : Int)) := by omega
          clear hk hkm hmm
          by_cases hil : i = ws.length
          · have z : ((i : Int) == (nb : Int)) = true := by rw [beq_iff_eq]; have := HW7.out.2.2; omega
            have z' : (i == nb) = true := by rw [beq_iff_eq]; have := HW7.out.2.2; omega
            have cF := final_gen (HMa.out wr HBb.out) HT.out.2.1 HS.out.r HL9.out HLt.out
            have HE := Lib.hid (fun (r : Bool) (hr : r = true ↔ ∃ i ∈ l5, ∃ t, T[i]? = some t ∧ t.2.2 = true) => (show r = true ↔ lang t ws from by
              rw [hr, ← HT.out.2.2.2 ws]
              have hset := HS.out
              rw [hil] at hset
              constructor
              · rintro ⟨q, hq, t, ht, hf⟩
                have := ((hset.m q).1 hq).2
                rw [List.take_length] at this
                exact ⟨q, this, t, ht, hf⟩
              · rintro ⟨q, hq, t, ht, hf⟩
                exact ⟨q, (hset.m q).2 ⟨(List.getElem?_eq_some_iff.1 ht).1, by rw [List.take_length]; exact hq⟩, t, ht, hf⟩))
            have HFn := Lib.hid (fun (w : World) (hb : Below w10.heap.size w10 w) => (final_gen (B1 := 0) (Al := none) (nl := 0) (cl := 0) (l := []) (HMa.out w hb) HT.out.2.1 (World.ownsRow_nil _ _ _ _) (by simp) (fun i h => by cases h)))
            clear hil
            go_wp2_with (first
              | (go_at_call 25; (with_reducible refine cF.mono ?_); rintro e w13 ⟨r, rfl, hr, hb13⟩; have HB13 := Lib.hid (HBb.out.trans (hb13.mono HBb.out.size)); have HR := Lib.hid (HE.out r hr); clear hr hb13 cF)
              | (go_at_call 17; (with_reducible refine (HTk.out _ HB13.out).mono ?_); rintro e w14 ⟨b, rfl, hb, hbe⟩; have HB14 := Lib.hid (HB13.out.trans (hbe.mono HB13.out.size)); have hrb : b = r := (by rw [Bool.eq_iff_iff, hb, HR.out]); subst hrb; clear hb hbe)
              | (go_at_call 25; (with_reducible refine (HFn.out _ HB14.out).mono ?_); rintro e w15 ⟨r3, rfl, hr, hb15⟩; have HB15 := Lib.hid (HB14.out.trans (hb15.mono HB14.out.size)); have hr3 : r3 = false := (by cases r3 with | false => rfl | true => (obtain ⟨i, h, _⟩ := hr.1 rfl; cases h)); subst hr3; clear hr hb15))
            go_ret
            exact ⟨rfl, HB10.out.trans (HB15.out.mono HB10.out.size)⟩
          · have hilt : i < ws.length := by have := HI.out; omega
            obtain ⟨s, hs⟩ : ∃ s, ws[i]? = some s := ⟨_, List.getElem?_eq_getElem hilt⟩
            obtain ⟨A', c', es, hat⟩ := HW7.out.1.below HBb.out
            obtain ⟨gw, ow, hgA, _, _⟩ := hat i s hs
            have hAw : Ab = some ⟨gw, ow, none⟩ := (Value.slice.inj es).1.trans hgA
            subst hAw
            have HSy := Lib.hid (fun (w : World) (hb : Below w10.heap.size w10 w) => (by
              obtain ⟨A', c', es, hat⟩ := HW7.out.1.below hb
              obtain ⟨g', o', hgA', x0, x1⟩ := hat i s hs
              have e := (Value.slice.inj es).1.trans hgA'
              injection e with e
              injection e with e1 e2 _
              rw [e1, e2]
              exact ⟨x0, x1⟩ : w.cell? ⟨gw, ow + i * 2, none⟩ = some (.int .i64 s.1) ∧ w.cell? ⟨gw, ow + i * 2 + 1, none⟩ = some (.bool s.2)))
            have z : ((i : Int) == (nb : Int)) = false := by rw [beq_eq_false_iff_ne]; have := HW7.out.2.2; omega
            have z' : (i == nb) = false := by rw [beq_eq_false_iff_ne]; have := HW7.out.2.2; omega
            have z2 : (i : Int) < (nb : Int) := by have := HW7.out.2.2; omega
            have HIs := Lib.hid (And.intro hilt hs)
            clear hil hilt hs es hat hgA
            obtain ⟨wo, hwo⟩ : ∃ wo, wo = wr := ⟨_, rfl⟩
            subst hwo
            go_wp2
            go_loopg [81, 15] l5.length (fun gk s81 s15 w => AlS wo T l5 s gk s81 s15 w)
            case atStart => exact ⟨0, none, 0, 0, [], by omega, rfl, rfl, World.ownsRow_nil _ _ _ _, List.nodup_nil, fun q => by simp, fun q h => (by cases h), Below.refl _ _⟩
            case round =>
              obtain ⟨a, A8, m8, c8, la, ha, rfl, rfl, hla, hnd, hmem, hlt', hbw⟩ := hrel
              have hmm := HMM.out
              have hm8 : m8 = la.length := by
                obtain ⟨A', c', e, _⟩ := InR.shape hla
                exact (Value.slice.inj e).2.1
              have a0 : (0 : Int) ≤ (a : Int) := by omega
              by_cases ham : a < m5
              · obtain ⟨p, hp⟩ : ∃ p, l5[a]? = some p := ⟨_, List.getElem?_eq_getElem (by omega)⟩
                obtain ⟨A', c', es, hA'⟩ := InR.shape HS.out.r
                obtain ⟨gl, hgl, _, _⟩ := hA'.resolve_left (fun e => by rw [e] at hmm; simp at hmm; omega)
                have hAl : A5 = some ⟨gl, 0, none⟩ := (Value.slice.inj es).1.trans hgl
                subst hAl
                have lp := InR.at (row_below HS.out.r hbw : InR 0 wr _ l5) hp
                have a1 : (a : Int) < (m5 : Int) := by omega
                have hbx : Below w10.heap.size w10 wr := HBb.out.trans (hbw.mono HBb.out.size)
                obtain ⟨y0, y1⟩ := HSy.out wr hbx
                obtain ⟨w2, hw2⟩ : ∃ w2, w2 = wr.alloc (.cells #[.int .i64 (p : Int)] 3) := ⟨_, rfl⟩
                have hb2 : Below wr.heap.size wr w2 := by rw [hw2]; exact (Below.refl _ _).alloc (Nat.le_refl _) _
                have hbx2 : Below w10.heap.size w10 w2 := hbx.trans (hb2.mono hbx.size)
                have hnew : InR 0 w2 (.slice (some ⟨wr.heap.size, 0, none⟩) 1 1) [p] := by
                  rw [hw2]
                  exact World.ownsRow_lit (base := 0) (e := 3) (size := 1) wr #[.int .i64 (p : Int)] 1 (Nat.zero_le _) (by unfold maxLen; omega) rfl
                have cN := next_new (s := s) (HMa.out w2 hbx2) HT.out.1 HT.out.2.1 hnew (by simp) (fun i hi => by rw [List.mem_singleton.1 hi]; exact HLt.out p (List.mem_of_getElem? hp))
                obtain ⟨y2, y3⟩ := HSy.out w2 hbx2
                have HB2 := Lib.hid (And.intro hbx2 (And.intro hb2 (hbw.trans (hb2.mono hbw.size))))
                have HLa := Lib.hid (And.intro hla (And.intro hnd (And.intro hmem hlt')))
                have HA := Lib.hid (And.intro ha (And.intro ham hp))
                clear hm8 ha ham hp es hA' hgl hbx hb2 hbx2 hnew hla hnd hmem hlt' hbw hmm
                rw [hw2] at cN y2 y3
                have HW2 := Lib.hid hw2
                clear hw2
                go_wp2_with (go_at_call 23; (with_reducible refine cN.mono ?_); rintro e w13 ⟨A7, m7, c7, l7, rfl, hs7, hb7, hr7⟩; rw [← HW2.out] at hb7 hr7; have HS7 := Lib.hid (And.intro hs7 (And.intro hb7 hr7)); have hm7 : m7 = l7.length := (by obtain ⟨A', c', e, _⟩ := InR.shape hs7.r; exact (Value.slice.inj e).2.1); have hl7 : l7.length ≤ 1000 := Nat.le_trans hs7.len HT.out.2.1; have HM7 := Lib.hid (And.intro hm7 hl7); have m70 : (0 : Int) ≤ (m7 : Int) := (by omega); have m71 : (m7 : Int) ≤ 1000 := (by omega); clear hs7 hb7 hr7 cN hm7 hl7)
                have hbe : Below wo.heap.size wo w13 := HB2.out.2.2.trans (HS7.out.2.1.mono HB2.out.2.2.size)
                have HI0 := Lib.hid (show AiS wo T la l7 (.slice A7 m7 c7) l7.length (.int .i64 0) (.slice A8 m8 c8) w13 from ⟨0, A8, m8, c8, la, by omega, rfl, rfl, row_below HLa.out.1 (HB2.out.2.1.trans (HS7.out.2.1.mono HB2.out.2.1.size)), HLa.out.2.1, fun q => by simp, HLa.out.2.2.2, HS7.out.1.r, fun k hk e => by
                  have h1 := (row_lt HS7.out.2.2 k hk).1
                  have h2 := (row_lt HLa.out.1 k e).2
                  have h3 := HB2.out.2.1.size
                  omega, hbe⟩)
                clear hbe y0 y1 y2 y3 lp
                go_loopg [94, 15] l7.length (fun gk s94 s15 w => AiS wo T la l7 (.slice A7 m7 c7) gk s94 s15 w)
                case atStart => exact HI0.out
                case round =>
                  clear HI0
                  obtain ⟨b, A9, m9, c9, lb, hb, rfl, rfl, hlb, hnd, hmem, hlt', hr7, hne, hbw⟩ := hrel
                  have hmm := HM7.out.1
                  have hm9 : m9 = lb.length := by
                    obtain ⟨A', c', e, _⟩ := InR.shape hlb
                    exact (Value.slice.inj e).2.1
                  have b0 : (0 : Int) ≤ (b : Int) := by omega
                  have hlb9 : lb.length ≤ 1000 := Nat.le_trans (nodup_le T.length lb hnd hlt') HT.out.2.1
                  by_cases hbm : b < m7
                  · obtain ⟨q, hq⟩ : ∃ q, l7[b]? = some q := ⟨_, List.getElem?_eq_getElem (by omega)⟩
                    obtain ⟨A', c', es, hA'⟩ := InR.shape hr7
                    obtain ⟨g7, hg7, _, _⟩ := hA'.resolve_left (fun e => by rw [e] at hmm; simp at hmm; omega)
                    have hAl : A7 = some ⟨g7, 0, none⟩ := (Value.slice.inj es).1.trans hg7
                    subst hAl
                    have lq := InR.at hr7 hq
                    have cH := has_gen (q := q) hlb hlb9
                    have b1 : (b : Int) < (m7 : Int) := by omega
                    have hqT : q < T.length := ((HS7.out.1.m q).1 (List.mem_of_getElem? hq)).1
                    have HBi := Lib.hid (And.intro hb hbm)
                    by_cases hin : q ∈ lb
                    · have HE := Lib.hid (show AiS wo T la l7 (.slice (some ⟨g7, 0, none⟩) m7 c7) (l7.length - (b + 1)) (.int .i64 ((b : Int) + 1)) (.slice A9 m9 c9) wr from ⟨b + 1, A9, m9, c9, lb, by omega, by rw [Int.natCast_add]; rfl, rfl, hlb, hnd, fun x => by
                        rw [hmem, take_snoc hq, List.mem_append, List.mem_singleton]
                        constructor
                        · rintro (h | h)
                          · exact .inl h
                          · exact .inr (.inl h)
                        · rintro (h | h | h)
                          · exact .inl h
                          · exact .inr h
                          · rw [h]; exact (hmem q).1 hin, hlt', hr7, hne, hbw⟩)
                      rw [show decide (q ∈ lb) = true from decide_eq_true hin] at cH
                      clear hb hlb hnd hmem hlt' hr7 hne hbw hmm hm9 hlb9 hbm hq es hA' hg7 hqT hin
                      go_wp2_with (go_at_call 24; (with_reducible refine cH.mono ?_); rintro e wn ⟨rfl, rfl⟩)
                      go_roundg (l7.length - (b + 1))
                      case measure => have := HBi.out; have := HM7.out.1; omega
                      case rel => exact HE.out
                    · rw [show decide (q ∈ lb) = false from decide_eq_false hin] at cH
                      have hba : Below wr.heap.size wr (wr.alloc (.cells #[.int .i64 (q : Int)] 3)) := (Below.refl _ _).alloc (Nat.le_refl _) _
                      have HRow := Lib.hid (row_below hlb hba : InR wo.heap.size (wr.alloc (.cells #[.int .i64 (q : Int)] 3)) (.slice A9 m9 c9) lb)
                      have HNew := Lib.hid (show InR wo.heap.size (wr.alloc (.cells #[.int .i64 (q : Int)] 3)) (.slice (some ⟨wr.heap.size, 0, none⟩) 1 1) [q] from World.ownsRow_lit (base := wo.heap.size) (e := 3) (size := 1) wr #[.int .i64 (q : Int)] 1 hbw.size (by unfold maxLen; omega) rfl)
                      have HSz := Lib.hid (Nat.le_trans hbw.size hba.size)
                      have HL1 := Lib.hid hlb9
                      have HL2 := Lib.hid (show [q].length ≤ 1000 by simp)
                      have HFn := Lib.hid (fun (A' : Option Addr) (n' c' : Nat) (w9 : World) (hr : InR wo.heap.size w9 (.slice A' n' c') (lb ++ [q])) (hg : (wr.alloc (.cells #[.int .i64 (q : Int)] 3)).grownBy w9 (Value.slice A9 m9 c9).ownBlock) (ho : ∀ k, Value.ownBlock (.slice A' n' c') = some k → (Value.slice A9 m9 c9).ownBlock = some k ∨ (wr.alloc (.cells #[.int .i64 (q : Int)] 3)).heap.size ≤ k) => (show AiS wo T la l7 (.slice (some ⟨g7, 0, none⟩) m7 c7) (l7.length - (b + 1)) (.int .i64 ((b : Int) + 1)) (.slice A' n' c') w9 from ⟨b + 1, A', n', c', lb ++ [q], by omega, by rw [Int.natCast_add]; rfl, rfl, hr, by
                          rw [List.nodup_append]
                          exact ⟨hnd, by simp, fun x hx y hy e => hin (by rw [List.mem_singleton.1 hy] at e; rw [← e]; exact hx)⟩, fun x => by
                          rw [List.mem_append, hmem, take_snoc hq, List.mem_append, or_assoc], fun x hx => by
                          rcases List.mem_append.1 hx with h | h
                          · exact hlt' x h
                          · rw [List.mem_singleton.1 h]; exact hqT, row_keep (row_below hr7 hba) (fun k hk => hg.block k (Nat.lt_of_lt_of_le (row_lt hr7 k hk).2 hba.size) (fun e => hne k hk e.symm)), fun k hk e => by
                          rcases ho k e with h | h
                          · exact hne k hk h
                          · have := (row_lt hr7 k hk).2
                            have := hba.size
                            omega, (hbw.trans (hba.mono hbw.size)).grown hg (Nat.le_trans hbw.size hba.size) (fun k hk => (row_lt HRow.out k hk).1)⟩))
                      clear hb hlb hnd hmem hlt' hr7 hne hbw hmm hm9 hlb9 hbm hq es hA' hg7 hqT hin hba
                      go_wp2_with (first
                        | (go_at_call 24; (with_reducible refine cH.mono ?_); rintro e wn ⟨rfl, rfl⟩)
                        | (at_builtin; refine wpl_app_i rfl _ _ rfl rfl rfl HRow.out HNew.out HSz.out HL1.out HL2.out ?_; intro A6 n6 c6 w9 hn6 hr6 hg6 hq6; have HE := Lib.hid (HFn.out A6 n6 c6 w9 hr6 hg6 hq6); clear hr6 hg6 hn6 hq6))
                      go_roundg (l7.length - (b + 1))
                      case measure => have := HBi.out; have := HM7.out.1; omega
                      case rel => exact HE.out
                  · have hbe : b = l7.length := by omega
                    have b1 : ¬ ((b : Int) < (m7 : Int)) := by omega
                    have HE := Lib.hid (show AlS wo T l5 s (l5.length - (a + 1)) (.int .i64 ((a : Int) + 1)) (.slice A9 m9 c9) wr from ⟨a + 1, A9, m9, c9, lb, by have := HA.out.1; have := HA.out.2.1; have := HMM.out; omega, by rw [Int.natCast_add]; rfl, rfl, hlb, hnd, fun x => by
                      rw [hmem, hbe, List.take_length, take_snoc HA.out.2.2, HLa.out.2.2.1, HS7.out.1.m]
                      constructor
                      · rintro (⟨j, hj, h⟩ | ⟨_, j, hj, h⟩)
                        · exact ⟨j, List.mem_append_left _ hj, h⟩
                        · exact ⟨j, List.mem_append_right _ hj, h⟩
                      · rintro ⟨j, hj, t', ht', hx'⟩
                        rcases List.mem_append.1 hj with hj | hj
                        · exact .inl ⟨j, hj, t', ht', hx'⟩
                        · exact .inr ⟨((HT.out.1 j t' ht').2 _ hx').1, j, hj, t', ht', hx'⟩, hlt', hbw⟩)
                    clear hb hlb hnd hmem hlt' hr7 hne hbw hmm hm9 hlb9 hbm hbe
                    go_wp2
                    go_roundg (l5.length - (a + 1))
                    case measure => have := HA.out.1; have := HA.out.2.1; have := HMM.out; omega
                    case rel => exact HE.out
              · have hae : a = l5.length := by omega
                have a1 : ¬ ((a : Int) < (m5 : Int)) := by omega
                have hbx : Below w10.heap.size w10 wr := HBb.out.trans (hbw.mono HBb.out.size)
                obtain ⟨y0, y1⟩ := HSy.out wr hbx
                have hS := HS.out.below hbw
                have cN := next_gen (s := s) (HMa.out wr hbx) HT.out.1 HT.out.2.1 hS.r HL9.out HLt.out
                have hlc9 : la.length ≤ 1000 := Nat.le_trans (nodup_le T.length la hnd hlt') HT.out.2.1
                have m81 : (m8 : Int) ≤ 1000 := by omega
                have m80 : (0 : Int) ≤ (m8 : Int) := by omega
                have HLb := Lib.hid (And.intro hla (And.intro hnd (And.intro (show ∀ q, q ∈ la ↔ ∃ i ∈ l5, ∃ t, T[i]? = some t ∧ (s, q) ∈ t.2.1 from fun q => by rw [hmem, hae, List.take_length]) (And.intro hlt' (And.intro hm8 hlc9)))))
                have HBx := Lib.hid hbx
                clear ha hla hnd hmem hlt' hbw hmm hm8 hae hbx hS hlc9 ham
                go_upto_region 30 with (go_at_call 23; (with_reducible refine cN.mono ?_); rintro e w13 ⟨Ae, me, ce, le, rfl, hse, hbe⟩; have HSe := Lib.hid hse; have HBe := Lib.hid hbe; clear hse hbe cN)
                have hme : me = le.length := by
                  obtain ⟨A', c', e, _⟩ := InR.shape HSe.out.r
                  exact (Value.slice.inj e).2.1
                have hmem2 : ∀ q, q ∈ le ↔ q ∈ la := fun q => by
                  rw [HSe.out.m, HLb.out.2.2.1]
                  constructor
                  · exact fun h => h.2
                  · rintro ⟨j, hj, t', ht', hx'⟩
                    exact ⟨((HT.out.1 j t' ht').2 _ hx').1, j, hj, t', ht', hx'⟩
                have hperm : le.length = la.length := ((List.perm_ext_iff_of_nodup (HSe.out.up.imp (fun h => Nat.ne_of_lt h)) HLb.out.2.1).2 hmem2).length_eq
                have hmm8 : me = m8 := by have := HLb.out.2.2.2.2.1; omega
                subst hmm8
                have HMe := Lib.hid (And.intro hme hmem2)
                have HBe2 := Lib.hid (HBx.out.trans (HBe.out.mono HBx.out.size))
                have HLa := Lib.hid (row_below HLb.out.1 HBe.out : InR wo.heap.size w13 (.slice A8 me c8) la)
                have HNx := Lib.hid (show TkR w10 T ws (ws.length - (i + 1)) (.slice Ae me ce) (.int .i64 ((i : Int) + 1)) w13 from by
                  refine ⟨i + 1, Ae, me, ce, le, by have := HIs.out.1; omega, by rw [Int.natCast_add]; rfl, rfl, ⟨HSe.out.r, HSe.out.up, fun q => ?_⟩, HBe2.out⟩
                  rw [HSe.out.m, take_snoc HIs.out.2, Run.snoc]
                  refine and_congr Iff.rfl ?_
                  constructor
                  · rintro ⟨r, hr, t, ht, hx⟩
                    exact ⟨r, ((HS.out.m r).1 hr).2, t, ht, hx⟩
                  · rintro ⟨r, hr, t, ht, hx⟩
                    exact ⟨r, (HS.out.m r).2 ⟨(List.getElem?_eq_some_iff.1 ht).1, hr⟩, t, ht, hx⟩)
                have HHas := Lib.hid (fun (q : Nat) => has_gen (q := q) HLa.out HLb.out.2.2.2.2.2)
                clear hme hmem2 hperm y0 y1
                go_wp2
                go_loopg [122] me (fun gk s122 w => CkR w13 me gk s122 w)
                case atStart => exact ⟨0, by omega, rfl, rfl⟩
                case round =>
                  obtain ⟨k, hk, rfl, rfl⟩ := hrel
                  have hmm := HMe.out.1
                  have k0 : (0 : Int) ≤ (k : Int) := by omega
                  by_cases hkm : k < me
                  · obtain ⟨q, hq⟩ : ∃ q, le[k]? = some q := ⟨_, List.getElem?_eq_getElem (by omega)⟩
                    obtain ⟨A', c', es, hA'⟩ := InR.shape HSe.out.r
                    obtain ⟨ge, hge, _, _⟩ := hA'.resolve_left (fun e => by rw [e] at hmm; simp at hmm; omega)
                    have hAl : Ae = some ⟨ge, 0, none⟩ := (Value.slice.inj es).1.trans hge
                    subst hAl
                    have lq := InR.at HSe.out.r hq
                    have cH := HHas.out q
                    rw [show decide (q ∈ la) = true from decide_eq_true ((HMe.out.2 q).1 (List.mem_of_getElem? hq))] at cH
                    have k1 : (k : Int) < (me : Int) := by omega
                    have HK := Lib.hid (And.intro hk hkm)
                    clear hk hkm hq es hA' hge hmm
                    go_wp2_with (go_at_call 24; (with_reducible refine cH.mono ?_); rintro e wn ⟨rfl, rfl⟩)
                    go_roundg (me - (k + 1))
                    case measure => have := HK.out; omega
                    case rel => exact ⟨k + 1, by have := HK.out; omega, by rw [Int.natCast_add]; rfl, rfl⟩
                  · have k1 : ¬ ((k : Int) < (me : Int)) := by omega
                    clear hk hkm hmm
                    go_wp2
                    go_roundg (ws.length - (i + 1))
                    case measure => have := HI.out; have := HIs.out.1; omega
                    case rel => exact HNx.out
  · have cC := compile_no HT5.out.1 hz HP6.out
    have hz' : (chk t == 0) = false := beq_eq_false_iff_ne.2 hz
    go_wp2_with (go_at_call 13; (with_reducible refine cC.mono ?_); rintro e w7 ⟨rfl, hb7⟩; have HB7 := Lib.hid (HB6.out.trans (hb7.mono HB6.out.size)); clear hb7 cC)
    go_ret
    exact ⟨rfl, HB7.out⟩
end Go.Proofs.Ytghlajfalgdkfaa
