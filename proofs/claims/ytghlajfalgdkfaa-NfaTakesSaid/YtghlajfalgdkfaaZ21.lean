/-
  MERGED (a claim has at most 60 files): NgTr.
-/
import Derived.Test.YtghlajfalgdkfaaZ20
import Derived.Deep.CutRange
import Derived.Deep.QuietTactic
import Derived.BigQuiet
import Derived.Deep.DeepCutAuto
/-
  Tree: the path of a list's first node, and the document's list.
-/
namespace Go.Proofs.Ytghlajfalgdkfaa
open Go.RowKit
set_option linter.unusedVariables false
set_option linter.unusedSimpArgs false
set_option maxRecDepth 100000

def TrQ (W : World) (ns : List Nd) (e : Ending) (w' : World) : Prop := ∃ (g : Nat) (p : Pa) (t : PT), e = .returned (.tuple #[.slice (some ⟨g, 0, none⟩) (tops ns).length (tops ns).length, .agg #[.int .i64 p.kd, .int .i64 p.n, p.s]]) ∧ (Rf w' g (tops ns).length (trees (tops ns)) ∧ RfC w' g (trees (tops ns))) ∧ (trees (tops ns))[0]? = some t ∧ Pth w' t p ∧ Below W.heap.size W w'
def TcR (W : World) (ns : List Nd) (s0 : Value) (wx : World) : Prop := ∃ A' m c', s0 = .slice A' m c' ∧ m = (tops ns).length ∧ Nq wx A' (tops ns) ∧ Below W.heap.size W wx ∧ Fb wx W.heap.size 28 z3
set_option pp.deepTerms true in
set_option pp.maxSteps 1000000 in
set_option maxHeartbeats 32000000 in
theorem tree_any {W : World} {A : Option Addr} {c : Nat} {ns : List Nd} (hn : Nq W A ns) (hl : ns.length ≤ 300) :
    Calls Try.prog 11 #[.slice A ns.length c] W (TrQ W ns) := by
  obtain ⟨m, hm⟩ : ∃ m, m = ns.length := ⟨_, rfl⟩
  rw [← hm] at hl ⊢
  have HN := Lib.hid hn
  have HM := Lib.hid hm
  have m0 : (0 : Int) ≤ (m : Int) := by omega
  have m3 : (m : Int) ≤ 300 := by omega
  clear hn hm hl
  go_enter Try.func11, Try.ntmps11
  go_upto_if 14 with fail
  go_cut [0] from 12 (fun s0 wx => TcR W ns s0 wx)
  case first =>
    by_cases h0 : m = 0
    · subst h0
      have HE := Lib.hid (show tops ns = [⟨0, 0, []⟩] from if_pos (List.length_eq_zero_iff.1 HM.out.symm))
      go_wp2
      go_meet
      have hF := Fb.new (W.alloc (.cells #[.int .i64 0, .int .i64 0, .slice none 0 0] 28)) 48 #[.int .i64 0, .int .i64 0, .slice none 0 0]
      rw [World.size_alloc] at hF
      refine ⟨_, 1, 1, rfl, by rw [HE.out]; rfl, ?_, ((Below.refl _ _).alloc (Nat.le_refl _) _).alloc (by simp) _, (Fb.new _ _ _).alloc _⟩
      rw [HE.out]
      intro j d hj
      have hj0 : j = 0 := by
        have := (List.getElem?_eq_some_iff.1 hj).1
        simp at this; omega
      subst hj0
      simp at hj
      subst hj
      exact ⟨W.heap.size + 1, 0, none, 0, rfl, hF.lt, hF.cell 0, hF.cell 1, hF.cell 2, fun j x h => by simp at h, by simp, fun x h => by cases h⟩
    · have z : ((m : Int) == 0) = false := by rw [beq_eq_false_iff_ne]; omega
      have HE := Lib.hid (show tops ns = ns from if_neg (fun e => h0 (by rw [HM.out, e]; rfl)))
      clear h0
      go_wp2
      go_meet
      exact ⟨A, m, c, rfl, by rw [HE.out]; exact HM.out, by rw [HE.out]; exact HN.out.below ((Below.refl _ _).alloc (Nat.le_refl _) _), (Below.refl _ _).alloc (Nat.le_refl _) _, Fb.new _ _ _⟩
  case rest =>
    obtain ⟨A2, m2, c2, rfl, hm2, hq2, hb2, hf3⟩ := hcut
    obtain ⟨T, hT⟩ : ∃ T, T = trees (tops ns) := ⟨_, rfl⟩
    have hTl : T.length = m2 := by rw [hT, trees_len, hm2]
    have hpos : 0 < m2 := by
      rw [hm2]; unfold tops
      split
      · decide
      · rename_i h; exact List.length_pos_iff.2 h
    have hle : m2 ≤ 300 := by
      rw [hm2]; unfold tops
      split
      · decide
      · rw [← HM.out]; omega
    obtain ⟨g4, hg4⟩ : ∃ g4, g4 = wc.heap.size := ⟨_, rfl⟩
    have k4 := mkR wc m2 (by omega)
    have k5 := mkP (wc.alloc (.cells (madeCells z3 (m2 * 3)) 62)) m2 (by omega)
    have k6 := mkI ((wc.alloc (.cells (madeCells z3 (m2 * 3)) 62)).alloc (.cells (madeCells z3 (m2 * 3)) 28)) m2 (by omega)
    rw [World.size_alloc] at k5
    rw [World.size_alloc, World.size_alloc, show wc.heap.size + 1 + 1 = wc.heap.size + 2 from rfl] at k6
    have hAr := Ar.made wc m2 T hTl
    obtain ⟨w2, hw2⟩ : ∃ w2, w2 = ((wc.alloc (.cells (madeCells z3 (m2 * 3)) 62)).alloc (.cells (madeCells z3 (m2 * 3)) 28)).alloc (.cells (madeCells #[.int .i64 0] m2) 3) := ⟨_, rfl⟩
    rw [← hw2] at k6 hAr
    have hbw : Below wc.heap.size wc w2 := by
      rw [hw2]
      exact (((Below.refl _ _).alloc (Nat.le_refl _) _).alloc (by simp) _).alloc (by simp; omega) _
    have hsz : w2.heap.size = wc.heap.size + 3 := by rw [hw2]; simp
    rw [← hg4] at k4 k5 k6 hAr hsz
    have hpd : m2 = 0 ∧ Value.int .i64 ((m2 : Int) - 1) = .int .i64 (-1) ∨ ∃ i : Nat, m2 = i + 1 ∧ Value.int .i64 ((m2 : Int) - 1) = .int .i64 (i : Int) := .inr ⟨m2 - 1, by omega, by congr 1; omega⟩
    have HI0 := Lib.hid (show ToR wc g4 T m2 m2 (.int .i64 ((m2 : Int) - 1)) w2 from ⟨m2, rfl, Nat.le_refl _, hpd, by rw [hsz]; exact hAr, by rw [hg4]; exact hbw⟩)
    have HQ := Lib.hid (show Nq wc A2 (tops ns) from hq2)
    have HB := Lib.hid (And.intro hb2 (And.intro hf3 hbw))
    have HT := Lib.hid (And.intro hT (And.intro hTl (And.intro hm2 (And.intro hsz hg4))))
    have HW2 := Lib.hid (show W.heap.size < g4 by rw [hg4]; exact hf3.lt)
    have m2a : (0 : Int) < (m2 : Int) := by omega
    have m2b : (m2 : Int) ≤ 300 := by omega
    clear hm2 hq2 hb2 hf3 hT hTl hpos hle hAr hw2 hbw hsz hg4 hpd
    go_wp2
    clear k4 k5 k6
    go_loopg [7] m2 (fun gk s7 wr => ToR wc g4 T m2 gk s7 wr)
    case atStart => exact HI0.out
    case round =>
      obtain ⟨a, ha, hal, hi, hAr, hb⟩ := hrel
      rcases hi with ⟨h0, rfl⟩ | ⟨i, hai, rfl⟩
      · subst h0
        have hL : 0 < m2 := by omega
        obtain ⟨t, ht⟩ : ∃ t, T[0]? = some t := ⟨_, List.getElem?_eq_getElem (by have := HT.out.2.1; omega)⟩
        obtain ⟨p, p0, p1, p2, hPi⟩ := hAr.p 0 t (Nat.le_refl _) ht
        have hbb : Below wc.heap.size wc wr := hb.mono (by have := HT.out.2.2.2.2; omega)
        have hF3 := HB.out.2.1.below hbb
        have y0 : wr.cell? ⟨W.heap.size, 0, none⟩ = some (.int .i64 0) := hF3.cell 0
        have y1 : wr.cell? ⟨W.heap.size, 1, none⟩ = some (.int .i64 0) := hF3.cell 1
        have y2 : wr.cell? ⟨W.heap.size, 2, none⟩ = some (.slice none 0 0) := hF3.cell 2
        have p0' : wr.cell? ⟨g4 + 1, 0, none⟩ = some (.int .i64 p.kd) := by simpa using p0
        have p1' : wr.cell? ⟨g4 + 1, 1, none⟩ = some (.int .i64 p.n) := by simpa using p1
        have p2' : wr.cell? ⟨g4 + 1, 2, none⟩ = some p.s := by simpa using p2
        obtain ⟨As, ls, cs, hps⟩ := (Pi.pth t p hPi).slice
        rw [hps] at p2'
        have HPs := Lib.hid hps
        have f0 := hF3.free 0
        have f1 := hF3.free 1
        have f2 := hF3.free 2
        have HA := Lib.hid hAr
        have HP := Lib.hid (And.intro ht (And.intro hPi (And.intro hbb hF3)))
        have m2n : ¬ ((m2 : Int) ≤ 0) := by omega
        clear hAr hb ht hPi hbb hF3 ha hal p0 p1 p2 hps
        go_wp2
        go_region
        all_goals
          go_wp2
          obtain ⟨W9, hW9⟩ : ∃ W9, W9 = (((wr.setCell ⟨W.heap.size, 0, none⟩ (.int .i64 p.kd)).setCell ⟨W.heap.size, 1, none⟩ (.int .i64 p.n)).setCell ⟨W.heap.size, 2, none⟩ (.slice As ls cs)).drew := ⟨_, rfl⟩
          rw [← hW9]
          have hY : Fb W9 W.heap.size 28 #[.int .i64 p.kd, .int .i64 p.n, .slice As ls cs] := by
            rw [hW9]
            exact ((HP.out.2.2.2.set 0 (.int .i64 p.kd)).set 1 (.int .i64 p.n)).set 2 (.slice As ls cs)
          have r0 : W9.cell? ⟨W.heap.size, 0, none⟩ = some (.int .i64 p.kd) := hY.cell 0
          have r1 : W9.cell? ⟨W.heap.size, 1, none⟩ = some (.int .i64 p.n) := hY.cell 1
          have r2 : W9.cell? ⟨W.heap.size, 2, none⟩ = some (.slice As ls cs) := hY.cell 2
          have hs9 : W9.heap.size = wr.heap.size := by rw [hW9]; simp [World.drew]
          have hup : ∀ g, g4 ≤ g → W9.heap[g]? = wr.heap[g]? := fun g hg => by
            have hne : g ≠ W.heap.size := by have := HW2.out; omega
            rw [hW9]
            exact (heap_setCell_other _ _ _ _ hne).trans ((heap_setCell_other _ _ _ _ hne).trans (heap_setCell_other _ _ _ _ hne))
          have hA9 := HA.out.up (Nat.le_of_eq hs9.symm) hup
          have hb9 : Below W.heap.size W W9 := by
            rw [hW9]
            exact (((((HB.out.1.trans (HP.out.2.2.1.mono HB.out.1.size)).setCell (Nat.le_refl W.heap.size) _).setCell (Nat.le_refl W.heap.size) _).setCell (Nat.le_refl W.heap.size) _).drew)
          refine bodyPost_ret (v := .tuple #[.slice (some ⟨g4, 0, none⟩) m2 m2, .agg #[.int .i64 p.kd, .int .i64 p.n, .slice As ls cs]]) ?_ rfl ?_
          · simp [results, Try.results11, go_sem, r0, r1, r2]
          · have hT1 := HT.out.1
            have hL1 := HT.out.2.2.1
            refine ⟨g4, p, t, by rw [HPs.out, ← hL1], ?_, by rw [← hT1]; exact HP.out.1, Pi.pth t p (HP.out.2.1.on (fun g hg _ => hup g (by omega)) (Nat.le_of_eq hs9.symm)), hb9⟩
            rw [← hT1, ← hL1]
            exact ⟨hA9.rf HT.out.2.1, hA9.rfc⟩
      · subst hai
        obtain ⟨d, hd⟩ : ∃ d, (tops ns)[i]? = some d := ⟨_, List.getElem?_eq_getElem (by have := HT.out.2.2.1; omega)⟩
        obtain ⟨g, o, A', c', hA, hg, x0, x1, x2, hByt, hdl, hdB⟩ := HQ.out i d hd
        subst hA
        have hbb : Below wc.heap.size wc wr := hb.mono (by have := HT.out.2.2.2.2; omega)
        have x0' := cell_below x0 hbb
        have x1' := cell_below x1 hbb
        have x2' := cell_below x2 hbb
        obtain ⟨W1, hW1⟩ : ∃ W1, W1 = wr.alloc (.cells #[.int .i64 d.k, .int .i64 d.n, .slice A' d.ds.length c'] 48) := ⟨_, rfl⟩
        have hb1 : Below wr.heap.size wr W1 := by rw [hW1]; exact (Below.refl _ _).alloc (Nat.le_refl _) _
        have hA1 := hAr.on hb1
        obtain ⟨⟨u0, f0⟩, ⟨u1, f1⟩, ⟨u2, f2⟩, ⟨u3, f3⟩, ⟨u4, f4⟩, ⟨u5, f5⟩, ⟨u6, f6⟩⟩ := hA1.can (i := i) (by omega)
        have e0 := hA1.free4 (i * 3)
        have e1 := hA1.free4 (i * 3 + 1)
        have e2 := hA1.free4 (i * 3 + 2)
        have e3 := hA1.free5 (i * 3)
        have e4 := hA1.free5 (i * 3 + 1)
        have e5 := hA1.free5 (i * 3 + 2)
        have e6 := hA1.free6 i
        have hz := hAr.z.1
        have n4 : ¬ g4 = wr.heap.size := by omega
        have n5 : ¬ g4 + 1 = wr.heap.size := by omega
        have n6 : ¬ g4 + 2 = wr.heap.size := by omega
        have n4' : ¬ wr.heap.size = g4 := by omega
        have n5' : ¬ wr.heap.size = g4 + 1 := by omega
        have n6' : ¬ wr.heap.size = g4 + 2 := by omega
        have hX := Fb.new wr 48 #[.int .i64 d.k, .int .i64 d.n, .slice A' d.ds.length c']
        rw [← hW1] at hX
        have t0 := hX.cell 0
        have t1 := hX.cell 1
        have t2 := hX.cell 2
        rw [hW1] at f0 f1 f2 f3 f4 f5 f6 e0 e1 e2 e3 e4 e5 e6 t0 t1 t2
        have HX := Lib.hid hX
        have HA1 := Lib.hid hA1
        have HB1 := Lib.hid (And.intro hb hb1)
        have HD := Lib.hid (And.intro hd (And.intro hByt (And.intro hdl hdB)))
        have Hha := Lib.hid ha
        have i0 : (0 : Int) ≤ (i : Int) := by omega
        have i1 : (i : Int) < (m2 : Int) := by omega
        have HW1 := Lib.hid hW1
        obtain ⟨S, hS⟩ : ∃ S, S = wr.heap.size + 1 := ⟨_, rfl⟩
        have hA2 : Ar W1 g4 m2 S T (i + 1) := hA1.more (by omega) (by rw [hS, hW1]; simp)
        have hS1 : W1.heap.size = S := by rw [hS, hW1]; simp
        have HA2 := Lib.hid (And.intro hA2 hS1)
        have HSw := Lib.hid hS
        obtain ⟨md, hmd⟩ : ∃ md, md = d.ds.length := ⟨_, rfl⟩
        have HMd := Lib.hid hmd
        have mda : (0 : Int) ≤ (md : Int) := by omega
        have mdb : (md : Int) ≤ 9223372036854775807 := by unfold maxLen at hdl; omega
        rw [← hmd] at x2'
        have hw1 := hW1
        rw [← hmd] at hw1 f0 f1 f2 f3 f4 f5 f6 e0 e1 e2 e3 e4 e5 e6 t0 t1 t2
        have HW1 := Lib.hid hw1
        have i2 : (i : Int) ≤ 300 := by omega
        clear hAr hb hb1 hA1 hA2 hS1 hS hw1 x0 x1 x2 hX hd hByt hdl hdB hW1 ha hal hbb hz hg hmd
        go_wp2
        rw [← HW1.out]
        obtain ⟨W4, hW4⟩ : ∃ W4, W4 = (((((((W1.setCell ⟨g4 + 2, i, none⟩ (.int .i64 1)).setCell ⟨g4, i * 3, none⟩ (.int .i64 d.k)).setCell ⟨g4, i * 3 + 1, none⟩ (.int .i64 d.n)).setCell ⟨g4, i * 3 + 2, none⟩ (.slice none 0 0)).setCell ⟨g4 + 1, i * 3, none⟩ (.int .i64 d.k)).setCell ⟨g4 + 1, i * 3 + 1, none⟩ (.int .i64 d.n)).setCell ⟨g4 + 1, i * 3 + 2, none⟩ (.slice none 0 0)) := ⟨_, rfl⟩
        rw [← hW4]
        have him : i < m2 := by omega
        obtain ⟨h4a, h4c, h4s, h4b⟩ := cu_new HA2.out.1 him d.k d.n W4 hW4
        have H4 := Lib.hid (show Below g4 wc W4 from (HB1.out.1.trans (HB1.out.2.mono (by have := HA1.out.z.1; omega))).trans h4b)
        have H4S := Lib.hid (h4s.trans HA2.out.2)
        have HI4 := Lib.hid (show TiR W4 g4 S m2 i T d.k d.n d.ds md md (.int .i64 0) W4 from ⟨0, _, _, [], [], [], by omega, rfl, PkR.start _ _, h4a, h4c, World.ownsRow_nil _ _ _ _, ⟨rfl, fun j q t h => by simp at h⟩, World.ownsRow_nil _ _ _ _, Pis.mk rfl fun j t p h => by simp at h, Below.refl _ _⟩)
        have HIm := Lib.hid him
        clear f0 f1 f2 f3 f4 f5 f6 e0 e1 e2 e3 e4 e5 e6 t0 t1 t2 h4a h4c h4s h4b hW4 HW1 HX x0' x1' x2' him
        clear n4 n5 n6 n4' n5' n6' HA1 HB1 HA2 HI0 HB
        have HEnd := Lib.hid (fun (w : World) (v4 v5 : Value) (pl : List PT) (ql : List Nat) (pas : List Pa) (hA : Ar w g4 m2 S T (i + 1)) (hc : Cu w g4 i d.k d.n v4 v5 (1 + szs pl)) (h4 : InR S w v4 ql) (hq : ql.length = pl.length ∧ ∀ (j q : Nat) (t : PT), ql[j]? = some q → pl[j]? = some t → T[q]? = some t) (h5 : PpR S w v5 pas) (hp : Pis (g4 + 3) S w pl pas) (hb : Below g4 W4 w) (hpk : pick (T.drop (i + 1)) d.ds 0 1 = pl) => tr_end HD.out.1 HT.out.1 HIm.out hA hc h4 hq h5 hp (H4.out.trans hb) hpk)
        go_loopg [59] md (fun gk s59 w => TiR W4 g4 S m2 i T d.k d.n d.ds md gk s59 w)
        case atStart => exact HI4.out
        case round =>
          obtain ⟨j, v4, v5, pl, ql, pas, hj, rfl, hPk, hA, hc, h4, hq, h5, hp, hb⟩ := hrel
          clear HI4
          by_cases hjm : j < md
          · obtain ⟨x, hx⟩ : ∃ x, d.ds[j]? = some x := ⟨_, List.getElem?_eq_getElem (by have := HMd.out; omega)⟩
            obtain ⟨gx, ox, hAx, hgx, hcell⟩ := HD.out.2.1 j x hx
            subst hAx
            have hcell' := cell_below hcell ((H4.out.trans hb).mono (show wc.heap.size ≤ g4 by have := HT.out.2.2.2.2; omega))
            obtain ⟨xx0, xx1⟩ := HD.out.2.2.2 x (List.mem_of_getElem? hx)
            obtain ⟨q, hqe⟩ : ∃ q : Nat, q = (x % 8).toNat := ⟨_, rfl⟩
            have q7 : (q : Int) ≤ 7 := by omega
            have q0 : (0 : Int) ≤ (q : Int) := by omega
            have e2 : x.tmod 8 = (q : Int) := by rw [Int.tmod_eq_emod_of_nonneg xx0]; omega
            have e3 : IntKind.u8.wrap (q : Int) = (q : Int) := by simp [IntKind.wrap, IntKind.signed, IntKind.bits]; omega
            have e1 : IntKind.i64.wrap (q : Int) = (q : Int) := IntWalk.i64_in _ (by omega)
            obtain ⟨K, hK⟩ : ∃ K, K = i + 1 + q := ⟨_, rfl⟩
            have hKI : (i : Int) + 1 + (q : Int) = (K : Int) := by omega
            have K0 : (0 : Int) ≤ (K : Int) := by omega
            have z1 : (j : Int) < (md : Int) := by omega
            have j0 : (0 : Int) ≤ (j : Int) := by omega
            have hj3 := hPk.j3
            have j3 : (j : Int) ≤ 3 := by omega
            have HTd : (T.drop (i + 1))[(x % 8).toNat]? = T[K]? := by rw [List.getElem?_drop, hK, hqe]
            by_cases hj3' : j = 3
            · have hpk := hPk.stop (.inr (.inl hj3'))
              have HE := Lib.hid (HEnd.out _ _ _ _ _ _ hA hc h4 hq h5 hp hb hpk)
              have z2 : ((j : Int) == 3) = true := by rw [beq_iff_eq]; omega
              clear hx hgx hcell hqe hK HTd hj3 hj3' hjm xx0 xx1
              clear hj hPk hA hc h4 hq h5 hp hb hpk HEnd
              go_wp2
              go_quiet (fail)
              go_wp2
              go_roundg i
              case measure => have := Hha.out; omega
              case rel => exact HE.out.drewN _
            · have z2 : ((j : Int) == 3) = false := by rw [beq_eq_false_iff_ne]; omega
              by_cases hKm : K < m2
              · obtain ⟨t, ht⟩ : ∃ t, T[K]? = some t := ⟨_, List.getElem?_eq_getElem (by have := HT.out.2.1; omega)⟩
                have sK := hA.s K t (by omega) ht
                have sI := hc.s
                obtain ⟨sa, hsa⟩ : ∃ sa, sa = 1 + szs pl := ⟨_, rfl⟩
                obtain ⟨sb, hsb⟩ : ∃ sb, sb = sz t := ⟨_, rfl⟩
                rw [← hsa] at sI
                rw [← hsb] at sK
                have hps := hPk.s
                have sb3 : sb ≤ 300 := by rw [hsb]; exact trees_sz (tops ns) t (by rw [← HT.out.1]; exact List.mem_of_getElem? ht)
                have a0 : (0 : Int) ≤ (sa : Int) := by omega
                have a1 : (sa : Int) ≤ 300 := by omega
                have b0 : (0 : Int) ≤ (sb : Int) := by omega
                have b1 : (sb : Int) ≤ 300 := by omega
                have z3 : (K : Int) < (m2 : Int) := by omega
                have z4 : ¬ ((m2 : Int) ≤ (K : Int)) := by omega
                have z4n : ¬ (m2 ≤ K) := by omega
                have z4' : decide (m2 ≤ K) = false := decide_eq_false z4n
                by_cases hbig : 300 < sa + sb
                · have hpk := hPk.stop (.inr (.inr ⟨x, hx, .inr ⟨t, HTd.trans ht, by omega⟩⟩))
                  have HE := Lib.hid (HEnd.out _ _ _ _ _ _ hA hc h4 hq h5 hp hb hpk)
                  have z5 : (300 : Int) < (sa : Int) + (sb : Int) := by omega
                  have z5n : 300 < sa + sb := hbig
                  have z5' : decide ((300 : Int) < (sa : Int) + (sb : Int)) = true := decide_eq_true z5
                  have z5'' : decide (300 < sa + sb) = true := decide_eq_true z5n
                  clear hx hgx hcell hqe hK HTd hj3 hj3' hjm xx0 xx1 ht hsa hsb hps sb3 hbig hKm
                  clear hj hPk hA hc h4 hq h5 hp hb hpk HEnd
                  go_wp2
                  go_quiet (fail)
                  go_wp2
                  go_roundg i
                  case measure => have := Hha.out; omega
                  case rel => exact HE.out.drewN _
                · have z5 : ¬ ((300 : Int) < (sa : Int) + (sb : Int)) := by omega
                  have z5n : ¬ (300 < sa + sb) := hbig
                  have z5' : decide ((300 : Int) < (sa : Int) + (sb : Int)) = false := decide_eq_false z5
                  have z5'' : decide (300 < sa + sb) = false := decide_eq_false z5n
                  obtain ⟨p, p0, p1, p2, hpp⟩ := hA.p K t (by omega) ht
                  obtain ⟨Ap, lp, cp, hps'⟩ := (Pi.pth t p hpp).slice
                  obtain ⟨A4, c4, hv4, _⟩ := row_shape h4
                  obtain ⟨A5, c5, hv5, _⟩ := row_shape h5
                  subst hv4 hv5
                  have hql : ql.length = j := by rw [hq.1, hPk.l]
                  have hpl : pas.length = j := by rw [← (Pis.of hp).1, hPk.l]
                  rw [hql] at h4 hc
                  rw [hpl] at h5 hc
                  rw [← hsa] at hc
                  have hTg : Tg W4 g4 S m2 i j T d.k d.n sa (.slice A4 j c4) (.slice A5 j c5) ql pl pas wr := ⟨hA, hc, h4, h5, hp, hb⟩
                  have f6 := hA.free6 i
                  have HTg := Lib.hid hTg
                  have HPick := Lib.hid (And.intro hj (And.intro hPk (And.intro hx (And.intro hj3' (And.intro (HTd.trans ht) (And.intro hq (And.intro hql hpl)))))))
                  have HS3 := Lib.hid (And.intro hsa (And.intro hsb (And.intro hps (And.intro sb3 hbig))))
                  have HPp := Lib.hid (And.intro ht hps')
                  have HIK := Lib.hid (show i + 1 ≤ K by omega)
                  have HjM := Lib.hid hjm
                  clear hj hPk hA hc h4 hq h5 hp hb HEnd hx hgx hcell hqe hK HTd hj3 hj3' hjm xx0 xx1 ht hsa hsb hps sb3 hbig hKm p0 p1 p2 hpp hps' hql hpl hTg
                  go_wp2
                  go_quiet (fail)
                  go_wp2
                  go_cut [] (fun wx => Tg W4 g4 S m2 i j T d.k d.n (sa + sb) (.slice A4 j c4) (.slice A5 j c5) ql pl pas wx)
                  case first =>
                    go_region
                    all_goals
                      go_wp2_with fail
                      go_meet
                      have hq9 := (HTg.out.on (w' := wr.drewN (nq + 1)) ⟨rfl, rfl, rfl, Nat.le_refl _, fun _ _ => rfl⟩).size HIm.out (sa + sb)
                      rw [Int.natCast_add] at hq9
                      exact hq9
                  case rest =>
                    obtain ⟨wT, hwT⟩ : ∃ wT, wT = wc := ⟨_, rfl⟩
                    rw [← hwT] at hcut ⊢
                    clear hwT HTg sK sI f6
                    have y2 := hcut.c.a2
                    have hTA := hcut.on ((Below.refl _ _).alloc (Nat.le_refl _) (.cells #[.int .i64 (K : Int)] 3))
                    have HFn := Lib.hid (fun (A9 : Option Addr) (n9 c9 : Nat) (w9 : World) (hr : InR S w9 (.slice A9 n9 c9) (ql ++ [K])) (hg : (wT.alloc (.cells #[.int .i64 (K : Int)] 3)).grownBy w9 (Value.slice A4 j c4).ownBlock) => And.intro ((hTA.grown hg).1.free4 (i * 3 + 2)) (And.intro (hTA.grown hg).2.1.a2 (Tg.refs (j := j) (hTA.grown hg) HIm.out hr)))
                    have HRow := Lib.hid hTA.r
                    have HNew := Lib.hid (show InR S (wT.alloc (.cells #[.int .i64 (K : Int)] 3)) (.slice (some ⟨wT.heap.size, 0, none⟩) 1 1) [K] from World.ownsRow_lit wT #[.int .i64 (K : Int)] 1 hcut.a.z.2 (by unfold maxLen; omega) rfl)
                    have HSz := Lib.hid hTA.a.z.2
                    have HL1 : Hid (ql.length ≤ 1000) := Lib.hid (by have := HPick.out.2.2.2.2.2.2.1; omega)
                    have HL2 : Hid ([K].length ≤ 1000) := Lib.hid (by simp)
                    clear hcut hTA
                    go_wp2_with (at_builtin; refine wpl_app_i rfl _ _ rfl rfl rfl HRow.out HNew.out HSz.out HL1.out HL2.out ?_; intro A9 n9 c9 w9 hn9 hr9 hg9 hq9; have hfn := HFn.out A9 n9 c9 w9 hr9 hg9; have y4 := hfn.1; have y5 := hfn.2.1; have HE := Lib.hid hfn.2.2; have HN9 := Lib.hid hn9; clear hn9 hr9 hg9 hq9 hfn)
                    clear y2 y4 y5 HFn HRow HNew HSz HL1 HL2
                    obtain ⟨w6, hw6⟩ : ∃ w6, w6 = w9.setCell ⟨g4, i * 3 + 2, none⟩ (.slice A9 n9 c9) := ⟨_, rfl⟩
                    rw [← hw6] at HE ⊢
                    clear hw6
                    obtain ⟨pw, p0, p1, p2, hpp⟩ := HE.out.a.p K t HIK.out HPp.out.1
                    obtain ⟨Ap, lp, cp, hps'⟩ := (Pi.pth t pw hpp).slice
                    have HGo := Lib.hid (fun (gA cap : Nat) (w8 : World) (hr8 : PpR S w8 (.slice (some ⟨gA, 0, none⟩) (j + 1) cap) (pas ++ [⟨0, 0, .slice none 0 0⟩])) (hb8 : Below S w6 w8) (hk8 : ∀ v2 q, InR S w6 v2 q → InR S w8 v2 q) => HE.out.second HPick.out.2.2.2.2.2.2.2 hr8 hb8 hk8 hpp p0 p1 p2)
                    rw [hps'] at p2
                    have HPs := Lib.hid hps'
                    have y3 := HE.out.c.p2
                    have f3 := HE.out.a.free5 (i * 3 + 2)
                    have HRo := Lib.hid HE.out.o
                    have HSz := Lib.hid HE.out.a.z.2
                    have HL1 : Hid (pas.length ≤ 1000) := Lib.hid (by have := HPick.out.2.2.2.2.2.2.2; omega)
                    have HLn : Hid (pas.length = j) := Lib.hid HPick.out.2.2.2.2.2.2.2
                    have HFin := Lib.hid (fun (gA cap : Nat) (w8 : World) (hM : Mid W4 g4 S m2 i (j + 1) cap gA T d.k d.n (sa + sb) (.slice A9 n9 c9) (.slice A5 j c5) (ql ++ [K]) pl pas t pw ((pas ++ [(⟨0, 0, .slice none 0 0⟩ : Pa)]).flatMap pac) w8) => ti_go (ds := d.ds) (m := md) HIm.out (by rw [← HS3.out.1, ← HS3.out.2.1]; exact hM) HjM.out HPick.out.2.1 HPick.out.2.2.1 HPick.out.2.2.2.1 HPick.out.2.2.2.2.1 (by have := HS3.out; omega) HPick.out.2.2.2.2.2.1 HPp.out.1)
                    rw [hps'] at HFin
                    have q1 : (wr : World) = wr := rfl
                    have k1 : (j : Int) < (j : Int) + 1 := by omega
                    have hba : Below w6.heap.size w6 (w6.alloc (.cells #[.int .i64 0, .int .i64 0, .slice none 0 0] 28)) := (Below.refl _ _).alloc (Nat.le_refl _) _
                    have p0a := cell_below p0 hba
                    have p1a := cell_below p1 hba
                    have p2a := cell_below p2 hba
                    have y3a := cell_below y3 hba
                    clear hba
                    clear hpp hps' q1
                    go_region_law (first
                      | (refine step_app_p rfl _ _ (by rfl) HLn.out (by rfl) (by rfl) HRo.out (by first | exact (((Below.refl _ _).alloc (Nat.le_refl _) _).drew) | exact ((((Below.refl _ _).alloc (Nat.le_refl _) _).drew).drew) | exact ((((Below.refl _ _).drew).alloc (Nat.le_refl _) _).drew) | exact ((((Below.refl _ _).alloc (Nat.le_refl _) _).drew).drew).drew | exact ((Below.refl _ _).alloc (Nat.le_refl _) _)) ⟨(Fb.new _ _ _).cell 0, (Fb.new _ _ _).cell 1, (Fb.new _ _ _).cell 2⟩ HSz.out HL1.out ?_; intro gA c8 w8 hr8 hb8 hk8; obtain ⟨⟨a0', a1', a2'⟩, ⟨b0', b1', b2'⟩, ⟨d0', d1', d2'⟩, ⟨e0', e1'⟩, ⟨n0', n1'⟩, hM8⟩ := HGo.out gA c8 w8 hr8 hb8 hk8; have HF8 := Lib.hid (HFin.out gA c8 w8 hM8); clear hr8 hb8 hk8 hM8))
                    all_goals
                      go_wp2
                      go_roundg (md - (j + 1))
                      case measure => have := HPick.out.1; have := HjM.out; omega
                      case rel => first | exact HF8.out.1 | exact HF8.out.2
              · have hno : T[K]? = none := List.getElem?_eq_none (by have := HT.out.2.1; omega)
                have hpk := hPk.stop (.inr (.inr ⟨x, hx, .inl (HTd.trans hno)⟩))
                have HE := Lib.hid (HEnd.out _ _ _ _ _ _ hA hc h4 hq h5 hp hb hpk)
                have z4 : (m2 : Int) ≤ (K : Int) := by omega
                have z4n : m2 ≤ K := by omega
                have z4' : decide (m2 ≤ K) = true := decide_eq_true z4n
                have z3 : ¬ (K : Int) < (m2 : Int) := by omega
                clear hx hgx hcell hqe hK HTd hj3 hj3' hjm xx0 xx1 hno hKm
                clear hj hPk hA hc h4 hq h5 hp hb hpk HEnd
                go_wp2
                go_quiet (fail)
                go_wp2
                go_roundg i
                case measure => have := Hha.out; omega
                case rel => exact HE.out.drewN _
          · have hpk := hPk.stop (.inl (by have := HMd.out; omega))
            have HE := Lib.hid (HEnd.out _ _ _ _ _ _ hA hc h4 hq h5 hp hb hpk)
            have z1 : ¬ ((j : Int) < (md : Int)) := by omega
            clear hj hPk hA hc h4 hq h5 hp hb hjm hpk HEnd
            go_wp2
            go_roundg i
            case measure => have := Hha.out; omega
            case rel => exact HE.out
end Go.Proofs.Ytghlajfalgdkfaa
