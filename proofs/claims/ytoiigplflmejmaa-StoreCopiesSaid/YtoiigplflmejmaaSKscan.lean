/-
  THE DOCUMENT's STORE: Scan: how a key is put in its place, and whether it fits.
-/
import Derived.Test.YtoiigplflmejmaaSKplain
import Derived.Test.YtoiigplflmejmaaSLesk
import Derived.Test.YtoiigplflmejmaaSKput
import Derived.Deep.RegionHeldLaw
import Derived.Deep.RegionHeld3
import Derived.IntWalk
namespace Go.Proofs.Ytoiigplflmejmaa
open Go.RowKit
set_option linter.unusedVariables false
set_option linter.unusedSimpArgs false
set_option maxRecDepth 100000

/-- Between two rounds of the fits loop. -/
def FxR (wb : World) (pa pb pc ua ub uc : Int) (g : Nat) (s26 s9 : Value) (wq : World) : Prop :=
  Below wb.heap.size wb wq ∧ ((g = 3 ∧ s26 = .int .i64 0 ∧ s9 = .bool true) ∨ (g = 2 ∧ s26 = .int .i64 1 ∧ s9 = .bool (fit1 pa ua)) ∨ (g = 1 ∧ s26 = .int .i64 2 ∧ s9 = .bool (fit1 pa ua && fit1 pb ub)) ∨ (g = 0 ∧ s26 = .int .i64 3 ∧ s9 = .bool (fit1 pa ua && fit1 pb ub && fit1 pc uc)))
/-- Between two rounds of the search. -/
def SxR (wb : World) (o : Int) (k : Kt) (out : List Kt) (g : Nat) (s11 : Value) (wq : World) : Prop :=
  Below wb.heap.size wb wq ∧ ∃ t : Nat, t + g = out.length ∧ s11 = .int .i64 t ∧ Hid (∀ x ∈ out.take t, ltK o x k = true)
/-- Between two keys. -/
def KsR (W3 : World) (p : Kt) (L : List Kt) (gk : Nat) (s18 s5 : Value) (wr : World) : Prop := ∃ (i : Nat) (vo : Value), i + gk = L.length ∧ s18 = .int .i64 i ∧ s5 = vo ∧ Hid (KtD W3.heap.size wr vo (scanD p (L.take i))) ∧ Below W3.heap.size W3 wr
def KscP (W : World) (p : Kt) (L : List Kt) (e : Ending) (w' : World) : Prop := ∃ v', e = .returned v' ∧ KtD W.heap.size w' v' (scanD p L) ∧ Below W.heap.size W w'
set_option maxHeartbeats 64000000 in
theorem kscan_any {B : Nat} {W : World} {v : Value} {L : List Kt} (hL : KtD B W v L) (hl : L.length ≤ 1000) (room pa pb pc : Int) :
    Calls Try.prog 20 #[.agg #[.int .i64 room, v], .agg #[.int .i64 pa, .int .i64 pb, .int .i64 pc]] W (KscP W ⟨pa, pb, pc⟩ L) := by
  obtain ⟨A, c, rfl⟩ := hL.shape
  have HDL := Lib.hid hL
  have HN := Lib.hid hl
  have cO := fun W => korder_any pa pb pc W
  obtain ⟨o, ho⟩ : ∃ o, o = ordP pa pb pc := ⟨_, rfl⟩
  rw [← ho] at cO
  have HO := Lib.hid ho
  obtain ⟨W2, hW2⟩ : ∃ W2, W2 = (W.alloc (.cells #[.int .i64 room, .slice A L.length c] 30)).alloc (.cells #[.int .i64 pa, .int .i64 pb, .int .i64 pc] 31) := ⟨_, rfl⟩
  have hb2 : Below W.heap.size W W2 := by rw [hW2]; exact ((Below.refl _ _).alloc (Nat.le_refl _) _).alloc (by simp) _
  have hx2 : Fb W2 W.heap.size 30 #[.int .i64 room, .slice A L.length c] := by rw [hW2]; exact (Fb.new _ _ _).alloc _
  have hx3 : Fb W2 (W.heap.size + 1) 31 #[.int .i64 pa, .int .i64 pb, .int .i64 pc] := by
    have := Fb.new (W.alloc (.cells #[.int .i64 room, .slice A L.length c] 30)) 31 #[.int .i64 pa, .int .i64 pb, .int .i64 pc]
    rw [World.size_alloc] at this
    rw [hW2]; exact this
  have HB2 := Lib.hid hb2
  have HX2 := Lib.hid hx2
  have HX3 := Lib.hid hx3
  have HW2 := Lib.hid hW2
  have y1 := hx2.cell 1
  have z0 := hx3.cell 0
  have z1 := hx3.cell 1
  have z2 := hx3.cell 2
  clear hL hl ho hb2 hx2 hx3 hW2
  go_enter Try.func20, Try.ntmps20
  go_wp2_with (go_at_call 29; (with_reducible refine (cO _).mono ?_); rintro e w3 ⟨rfl, hb3⟩; rw [← HW2.out] at hb3; have u1 := (HX2.out.below hb3).cell 1; have HB3 := Lib.hid hb3; clear hb3)
  clear cO y1 z0 z1 z2
  go_loopg [18, 5] L.length (fun gk s18 s5 wr => KsR w3 ⟨pa, pb, pc⟩ L gk s18 s5 wr)
  case atStart => exact ⟨0, _, by omega, rfl, rfl, Lib.hid (ktD_nil _ _), Below.refl _ _⟩
  case round =>
    clear u1
    obtain ⟨i, vo, hig, rfl, rfl, HOUT, hbw⟩ := hrel
    cases gk with
    | zero =>
      have hin : ¬ (i : Int) < (L.length : Int) := by omega
      have HF : Hid (KscP W ⟨pa, pb, pc⟩ L (.returned u5) wr) := Lib.hid (by
        have := HOUT.out
        rw [List.take_of_length_le (by omega)] at this
        have hb := HB2.out.trans (HB3.out.mono HB2.out.size)
        exact ⟨_, rfl, KtD.mono this hb.size, hb.trans (hbw.mono hb.size)⟩)
      clear hig hbw HOUT
      go_wp2
      go_ret
      exact HF.out
    | succ gg =>
      have hin : (i : Int) < (L.length : Int) := by omega
      have hiz : (0 : Int) ≤ (i : Int) := by omega
      obtain ⟨u, hu⟩ : ∃ u, L[i]? = some u := ⟨_, List.getElem?_eq_getElem (by omega)⟩
      obtain ⟨gb, cb, ev, hgb, q0, q1, q2⟩ := ktD_at HDL.out hu
      injection ev with ev1 ev2 ev3
      subst ev1
      clear ev2 ev3
      have hq := (HB2.out.trans (HB3.out.mono HB2.out.size))
      have hq := hq.trans (hbw.mono hq.size)
      have k1 := ((HX2.out.below HB3.out).below hbw).cell 1
      have k6 := (hq.cell (p := ⟨gb, i * 3, none⟩) hgb).trans q0
      have k7 := (hq.cell (p := ⟨gb, i * 3 + 1, none⟩) hgb).trans q1
      have k8 := (hq.cell (p := ⟨gb, i * 3 + 2, none⟩) hgb).trans q2
      have htk : L.take (i + 1) = L.take i ++ [u] := by rw [List.take_add_one, hu]; rfl
      have hsc : scanD ⟨pa, pb, pc⟩ (L.take (i + 1)) = if fitK ⟨pa, pb, pc⟩ u = true then insD o u (scanD ⟨pa, pb, pc⟩ (L.take i)) else scanD ⟨pa, pb, pc⟩ (L.take i) := by
        rw [htk]; unfold scanD; rw [List.foldl_append, HO.out]; rfl
      have HSC := Lib.hid hsc
      have HI := Lib.hid (show i + 1 + gg = L.length from by omega)
      have HI9 := Lib.hid (show i < 1000 from by have := HN.out; omega)
      obtain ⟨ua, ub, uc⟩ := u
      dsimp only at k6 k7 k8
      have HBW := Lib.hid hbw
      clear hu q0 q1 q2 hq htk hsc hig hbw hgb
      obtain ⟨out, hout⟩ : ∃ out, out = scanD ⟨pa, pb, pc⟩ (L.take i) := ⟨_, rfl⟩
      rw [← hout] at HOUT HSC
      have HLO : Hid (out.length ≤ 1000) := Lib.hid (by
        have := scan_len ⟨pa, pb, pc⟩ (L.take i)
        rw [← hout] at this
        have h2 := List.length_filter_le (fitK ⟨pa, pb, pc⟩) (L.take i)
        rw [List.length_take] at h2
        have := HN.out; omega)
      clear hout
      obtain ⟨wb, hwb⟩ : ∃ wb, wb = wr.alloc (.cells #[.int .i64 ua, .int .i64 ub, .int .i64 uc] 31) := ⟨_, rfl⟩
      obtain ⟨gu, hgu⟩ : ∃ g, g = wr.heap.size := ⟨_, rfl⟩
      have hbb : Below wr.heap.size wr wb := by rw [hwb]; exact (Below.refl _ _).alloc (Nat.le_refl _) _
      have hfu : Fb wb gu 31 #[.int .i64 ua, .int .i64 ub, .int .i64 uc] := by rw [hwb, hgu]; exact Fb.new _ _ _
      have hfp := ((HX3.out.below HB3.out).below HBW.out).below hbb
      have HFU := Lib.hid hfu
      have HFP := Lib.hid hfp
      have HBB := Lib.hid hbb
      have HWB := Lib.hid (And.intro hwb hgu)
      clear hfu hfp hbb hwb hgu
      go_wp2
      rw [← HWB.out.1, ← HWB.out.2]
      go_loopg [26, 9] 3 (fun g s26 s9 wq => FxR wb pa pb pc ua ub uc g s26 s9 wq)
      case atStart => exact ⟨Below.refl _ _, .inl ⟨rfl, rfl, rfl⟩⟩
      case round =>
        obtain ⟨hbq, hw⟩ := hrel
        have z0 := (HFP.out.below hbq).cell 0
        have z1 := (HFP.out.below hbq).cell 1
        have z2 := (HFP.out.below hbq).cell 2
        have x0 := (HFU.out.below hbq).cell 0
        have x1 := (HFU.out.below hbq).cell 1
        have x2 := (HFU.out.below hbq).cell 2
        clear k1 k6 k7 k8
        rcases hw with ⟨hg, rfl, rfl⟩ | ⟨hg, rfl, rfl⟩ | ⟨hg, rfl, rfl⟩ | ⟨hg, rfl, rfl⟩
        · subst hg
          by_cases h : pa < 0
          · have F : Hid (fit1 pa ua = true) := Lib.hid (by simp [fit1_lt (k := ua) h])
            have d1 : decide (0 ≤ pa) = false := decide_eq_false (by omega)
            have n1 : ¬ 0 ≤ pa := by omega
            clear h
            go_wp2
            go_region
            all_goals
              go_wp2
              go_roundg 2
              case measure => exact Nat.lt_succ_self _
              case rel => exact ⟨by repeat (first | assumption | refine Below.drew ?_ | refine below_drewP ?_ _), .inr (.inl ⟨rfl, rfl, by rw [F.out]⟩)⟩
          by_cases e : pa = ua
          · have F : Hid (fit1 pa ua = true) := Lib.hid (by simp [e, fit1_eq])
            have d1 : decide (0 ≤ pa) = true := decide_eq_true (by omega)
            have n1 : 0 ≤ pa := by omega
            have e1 : (pa == ua) = true := by rw [beq_iff_eq]; exact e
            have e2 : (pa != ua) = false := by rw [bne, e1]; rfl
            clear e
            clear h
            go_wp2
            go_region
            all_goals
              go_wp2
              go_roundg 2
              case measure => exact Nat.lt_succ_self _
              case rel => exact ⟨by repeat (first | assumption | refine Below.drew ?_ | refine below_drewP ?_ _), .inr (.inl ⟨rfl, rfl, by rw [F.out]⟩)⟩
          · have F : Hid (fit1 pa ua = false) := Lib.hid (by simp [fit1_no h e])
            have d1 : decide (0 ≤ pa) = true := decide_eq_true (by omega)
            have n1 : 0 ≤ pa := by omega
            have e1 : (pa == ua) = false := by rw [beq_eq_false_iff_ne]; exact e
            have e2 : (pa != ua) = true := by rw [bne, e1]; rfl
            clear h
            go_wp2
            go_region
            all_goals
              go_wp2
              go_roundg 2
              case measure => exact Nat.lt_succ_self _
              case rel => exact ⟨by repeat (first | assumption | refine Below.drew ?_ | refine below_drewP ?_ _), .inr (.inl ⟨rfl, rfl, by rw [F.out]⟩)⟩
        · subst hg
          by_cases h : pb < 0
          · have F : Hid ((fit1 pa ua && fit1 pb ub) = fit1 pa ua) := Lib.hid (by simp [fit1_lt (k := ub) h])
            have d1 : decide (0 ≤ pb) = false := decide_eq_false (by omega)
            have n1 : ¬ 0 ≤ pb := by omega
            obtain ⟨f, hf⟩ : ∃ f, f = fit1 pa ua := ⟨_, rfl⟩
            rw [← hf]
            have HF := Lib.hid hf
            clear hf
            clear h
            go_wp2
            go_region
            all_goals
              go_wp2
              go_roundg 1
              case measure => exact Nat.lt_succ_self _
              case rel => exact ⟨by repeat (first | assumption | refine Below.drew ?_ | refine below_drewP ?_ _), .inr (.inr (.inl ⟨rfl, rfl, by rw [F.out, HF.out]⟩))⟩
          by_cases e : pb = ub
          · have F : Hid ((fit1 pa ua && fit1 pb ub) = fit1 pa ua) := Lib.hid (by simp [e, fit1_eq])
            have d1 : decide (0 ≤ pb) = true := decide_eq_true (by omega)
            have n1 : 0 ≤ pb := by omega
            have e1 : (pb == ub) = true := by rw [beq_iff_eq]; exact e
            have e2 : (pb != ub) = false := by rw [bne, e1]; rfl
            clear e
            obtain ⟨f, hf⟩ : ∃ f, f = fit1 pa ua := ⟨_, rfl⟩
            rw [← hf]
            have HF := Lib.hid hf
            clear hf
            clear h
            go_wp2
            go_region
            all_goals
              go_wp2
              go_roundg 1
              case measure => exact Nat.lt_succ_self _
              case rel => exact ⟨by repeat (first | assumption | refine Below.drew ?_ | refine below_drewP ?_ _), .inr (.inr (.inl ⟨rfl, rfl, by rw [F.out, HF.out]⟩))⟩
          · have F : Hid ((fit1 pa ua && fit1 pb ub) = false) := Lib.hid (by simp [fit1_no h e])
            have d1 : decide (0 ≤ pb) = true := decide_eq_true (by omega)
            have n1 : 0 ≤ pb := by omega
            have e1 : (pb == ub) = false := by rw [beq_eq_false_iff_ne]; exact e
            have e2 : (pb != ub) = true := by rw [bne, e1]; rfl
            clear h
            go_wp2
            go_region
            all_goals
              go_wp2
              go_roundg 1
              case measure => exact Nat.lt_succ_self _
              case rel => exact ⟨by repeat (first | assumption | refine Below.drew ?_ | refine below_drewP ?_ _), .inr (.inr (.inl ⟨rfl, rfl, by rw [F.out]⟩))⟩
        · subst hg
          by_cases h : pc < 0
          · have F : Hid ((fit1 pa ua && fit1 pb ub && fit1 pc uc) = (fit1 pa ua && fit1 pb ub)) := Lib.hid (by simp [fit1_lt (k := uc) h])
            have d1 : decide (0 ≤ pc) = false := decide_eq_false (by omega)
            have n1 : ¬ 0 ≤ pc := by omega
            obtain ⟨f, hf⟩ : ∃ f, f = (fit1 pa ua && fit1 pb ub) := ⟨_, rfl⟩
            rw [← hf]
            have HF := Lib.hid hf
            clear hf
            clear h
            go_wp2
            go_region
            all_goals
              go_wp2
              go_roundg 0
              case measure => exact Nat.lt_succ_self _
              case rel => exact ⟨by repeat (first | assumption | refine Below.drew ?_ | refine below_drewP ?_ _), .inr (.inr (.inr ⟨rfl, rfl, by rw [F.out, HF.out]⟩))⟩
          by_cases e : pc = uc
          · have F : Hid ((fit1 pa ua && fit1 pb ub && fit1 pc uc) = (fit1 pa ua && fit1 pb ub)) := Lib.hid (by simp [e, fit1_eq])
            have d1 : decide (0 ≤ pc) = true := decide_eq_true (by omega)
            have n1 : 0 ≤ pc := by omega
            have e1 : (pc == uc) = true := by rw [beq_iff_eq]; exact e
            have e2 : (pc != uc) = false := by rw [bne, e1]; rfl
            clear e
            obtain ⟨f, hf⟩ : ∃ f, f = (fit1 pa ua && fit1 pb ub) := ⟨_, rfl⟩
            rw [← hf]
            have HF := Lib.hid hf
            clear hf
            clear h
            go_wp2
            go_region
            all_goals
              go_wp2
              go_roundg 0
              case measure => exact Nat.lt_succ_self _
              case rel => exact ⟨by repeat (first | assumption | refine Below.drew ?_ | refine below_drewP ?_ _), .inr (.inr (.inr ⟨rfl, rfl, by rw [F.out, HF.out]⟩))⟩
          · have F : Hid ((fit1 pa ua && fit1 pb ub && fit1 pc uc) = false) := Lib.hid (by simp [fit1_no h e])
            have d1 : decide (0 ≤ pc) = true := decide_eq_true (by omega)
            have n1 : 0 ≤ pc := by omega
            have e1 : (pc == uc) = false := by rw [beq_eq_false_iff_ne]; exact e
            have e2 : (pc != uc) = true := by rw [bne, e1]; rfl
            clear h
            go_wp2
            go_region
            all_goals
              go_wp2
              go_roundg 0
              case measure => exact Nat.lt_succ_self _
              case rel => exact ⟨by repeat (first | assumption | refine Below.drew ?_ | refine below_drewP ?_ _), .inr (.inr (.inr ⟨rfl, rfl, by rw [F.out]⟩))⟩
        · subst hg
          clear z0 z1 z2
          cases hf : (fit1 pa ua && fit1 pb ub && fit1 pc uc) with
          | false =>
            have HFF := Lib.hid hf
            clear hf x0 x1 x2
            have HQ := Lib.hid hbq
            clear hbq
            go_wp2
            go_roundg gg
            case measure => exact Nat.lt_succ_self _
            case rel =>
              have hb := HBB.out.trans (HQ.out.mono HBB.out.size)
              refine ⟨i + 1, _, HI.out, by have := HI9.out; first | rfl | (rw [IntWalk.wrap64_in _ ⟨by omega, by omega⟩, Int.natCast_succ]), rfl, Lib.hid ?_, HBW.out.trans (hb.mono HBW.out.size)⟩
              rw [HSC.out, if_neg (by unfold fitK fit3; rw [HFF.out]; decide)]
              exact HOUT.out.below hb
          | true =>
            have HFF := Lib.hid hf
            have HQ := Lib.hid hbq
            clear hf x0 x1 x2 hbq
            obtain ⟨A5, c5, h5, hc5⟩ := row_shape HOUT.out
            subst h5
            have HC5 := Lib.hid hc5
            clear hc5
            have hlo : (0 : Int) ≤ (out.length : Int) := by omega
            go_wp2
            go_loopg [11] out.length (fun g s11 wq => SxR wb o ⟨ua, ub, uc⟩ out g s11 wq)
            case atStart => exact ⟨HQ.out, 0, by omega, rfl, Lib.hid (fun x hx => by simp at hx)⟩
            case round =>
              obtain ⟨hbq, t, htg, rfl, HLT⟩ := hrel
              have hti : (0 : Int) ≤ (t : Int) := by omega
              have htl : (t : Int) ≤ (out.length : Int) := by omega
              cases gk with
              | zero =>
                have hin : ¬ (t : Int) < (out.length : Int) := by omega
                have HIN : Hid (insD o ⟨ua, ub, uc⟩ out = out.take t ++ ⟨ua, ub, uc⟩ :: out.drop t) := Lib.hid (by
                  have e1 : out.take t = out := List.take_of_length_le (by omega)
                  have e2 : out.drop t = [] := List.drop_of_length_le (by omega)
                  rw [insD_at, e1, e2]
                  have h : ∀ x ∈ out, ltK o x ⟨ua, ub, uc⟩ = true := fun x hx => HLT.out x (by rw [e1]; exact hx)
                  rw [tw_all h]
                  have : out.dropWhile (fun x => ltK o x ⟨ua, ub, uc⟩) = [] := by
                    have := List.takeWhile_append_dropWhile (p := fun x => ltK o x ⟨ua, ub, uc⟩) (l := out)
                    rw [tw_all h] at this
                    simpa using this
                  rw [this])
                have K0 : ∀ w, Below wb.heap.size wb w → w.cell? ⟨gu, 0, none⟩ = some (.int .i64 ua) ∧ w.cell? ⟨gu, 1, none⟩ = some (.int .i64 ub) ∧ w.cell? ⟨gu, 2, none⟩ = some (.int .i64 uc) := fun w hb => ⟨(HFU.out.below hb).cell 0, (HFU.out.below hb).cell 1, (HFU.out.below hb).cell 2⟩
                have hdd : decide ((t : Int) < (out.length : Int)) = false := decide_eq_false hin
                have htt : t = out.length := by omega
                have htz : out.take t = out := List.take_of_length_le (by omega)
                have hdz : out.drop t = [] := List.drop_of_length_le (by omega)
                rw [htz, hdz] at HIN
                have hco : (out.length : Int) ≤ (c5 : Int) := by have := HC5.out; omega
                have HBQ := Lib.hid hbq
                have HBASE := Lib.hid (Nat.le_trans HBW.out.size (Nat.le_trans HBB.out.size hbq.size))
                have HROW := Lib.hid ((HOUT.out.below HBB.out).below hbq)
                have hBA : Below wr.heap.size wr wr := Below.refl _ _
                have K0 : ∀ w, Below wr.heap.size wr w → w.cell? ⟨gu, 0, none⟩ = some (.int .i64 ua) ∧ w.cell? ⟨gu, 1, none⟩ = some (.int .i64 ub) ∧ w.cell? ⟨gu, 2, none⟩ = some (.int .i64 uc) := fun w hb => ⟨((HFU.out.below HBQ.out).below hb).cell 0, ((HFU.out.below HBQ.out).below hb).cell 1, ((HFU.out.below HBQ.out).below hb).cell 2⟩
                obtain ⟨g0, g1, g2⟩ := K0 _ hBA
                subst htt
                clear HLT htg htz hdz hbq
                rcases id HROW.out.2 with ⟨hv, h0⟩ | ⟨gx, cx, cur, hv, _⟩
                · injection hv with hv1 hv2 hv3
                  subst hv1
                  have HE0 : Hid (out = []) := Lib.hid (List.length_eq_zero_iff.1 h0)
                  clear h0 hv2 hv3
                  go_wp2
                  go_region
                  all_goals
                    go_wp2_with (first
                      | (at_builtin; refine wpList_app_tail rfl (.tmp 60) (.tmp 63) rfl (B := wr.heap.size) (l := []) (new := []) rfl rfl (emp_hD (heap_alloc_new _ _) (by have := hBA.size; first | exact this | (simp; done) | (simp; omega))) (fun j u hj => by simp at hj) (by simp) (by have := hBA.size; simp; done) ?_; intro v7 w7 hr7 hg7 hf7; have hB7 : Below wr.heap.size wr w7 := Below.grown (by (repeat (first | assumption | exact Below.refl _ _ | refine Below.drew ?_ | refine below_drewP ?_ _ | refine Below.alloc ?_ (by first | exact Nat.le_refl _ | (simp; done) | (simp; omega) | (have := hBA.size; simp; omega) | (have := hB7.size; simp; omega)) _))) hg7 (by have := hBA.size; simp; done) (fun k hk => by have e : some _ = some k := hk; injection e with e; simp at e; omega); obtain ⟨m0, m1, m2⟩ := K0 _ hB7; have HR7 := Lib.hid hr7; clear hr7 hg7 hf7))
                    go_region_law (first
                      | (refine step_app_head rfl (.tmp 68) (.tmp 70) rfl (N := w7.heap.size) (u := .slice (some ⟨w7.heap.size, 0, none⟩) 1 1) (A := none) (l := out) (y := ⟨ua, ub, uc⟩) ?ha ?hb (fun _ => HE0.out) (fun j u hj => by rw [HE0.out] at hj; simp at hj) (one_hD (heap_alloc_new _ _)) (by have := HLO.out; omega) ?_; (case ha => (first | (simp [Act.eval] <;> fail) | (simp [Act.eval, Act.put] <;> fail))); (case hb => (first | (simp [Act.eval] <;> fail) | (simp [Act.eval, Act.put] <;> fail))); intro v8 w8 hr8 hg8; have hB8 : Below wr.heap.size wr w8 := Below.grown (by (repeat (first | assumption | exact Below.refl _ _ | refine Below.drew ?_ | refine below_drewP ?_ _ | refine Below.alloc ?_ (by first | exact Nat.le_refl _ | (simp; done) | (simp; omega) | (have := hBA.size; simp; omega) | (have := hB7.size; simp; omega)) _))) hg8 (by have := hB7.size; simp; omega) (fun k hk => by cases hk); have hB78 : Below w7.heap.size w7 w8 := Below.grown (by (repeat (first | assumption | exact Below.refl _ _ | refine Below.drew ?_ | refine below_drewP ?_ _ | refine Below.alloc ?_ (by first | exact Nat.le_refl _ | (simp; done) | (simp; omega) | (have := hBA.size; simp; omega) | (have := hB7.size; simp; omega)) _))) hg8 (by simp) (fun k hk => by cases hk))
                      | (refine step_app_kd rfl (.tmp 71) (.tmp 72) rfl (v := v8) (u := v7) (N := wr.heap.size) (l := out ++ [⟨ua, ub, uc⟩]) (new := [] ++ []) ?hc ?hd hr8 (row_below HR7.out (by (repeat (first | assumption | exact Below.refl _ _ | refine Below.drew ?_ | refine below_drewP ?_ _ | refine Below.alloc ?_ (by first | exact Nat.le_refl _ | (simp; done) | (simp; omega) | (have := hBA.size; simp; omega) | (have := hB7.size; simp; omega)) _)))) (by have h3 := HLO.out; rw [List.length_append]; simp; omega) hg8.size ?_; (case hc => (first | (simp [Act.eval] <;> fail) | (simp [Act.eval, Act.put] <;> fail))); (case hd => (first | (simp [Act.eval] <;> fail) | (simp [Act.eval, Act.put] <;> fail))); intro v9 w9 hr9 hg9 hf9; have HG9 := Lib.hid (And.intro hg9 hf9); have HR9 := Lib.hid hr9; have HR8 := Lib.hid hr8; have HB8 := Lib.hid hB8; have HG8 := Lib.hid hg8)
                      | fail)
                    all_goals
                      go_wp2
                      go_roundg gg
                      case measure => exact Nat.lt_succ_self _
                      case rel =>
                        have hb9 : Below wr.heap.size wr w9 := Below.grown HB8.out HG9.out.1 HB8.out.size (fun k hk => by have := (World.ownsRow.lt HR8.out k hk).1; have := hB7.size; simp at *; omega)
                        have hb := HBB.out.trans ((HBQ.out.trans (hb9.mono HBQ.out.size)).mono HBB.out.size)
                        refine ⟨i + 1, _, HI.out, by have := HI9.out; first | rfl | (rw [IntWalk.wrap64_in _ ⟨by omega, by omega⟩, Int.natCast_succ]), rfl, Lib.hid ?_, HBW.out.trans (hb.mono HBW.out.size)⟩
                        rw [HSC.out, if_pos (by unfold fitK fit3; exact HFF.out), HIN.out]
                        have h9 := HR9.out
                        rw [List.nil_append, List.append_nil] at h9
                        exact KtD.mono h9 (by have := HBASE.out; have := hB7.size; simp; omega)
                · injection hv with hv1 hv2 hv3
                  subst hv1
                  clear hv2 hv3
                  rcases Nat.lt_or_eq_of_le HC5.out with hcl | hcl
                  · have hn1 : ¬ c5 = out.length := by omega
                    have hn2 : ¬ out.length = c5 := by omega
                    have hn3 : (out.length : Int) < (c5 : Int) := by omega
                    have hn4 : ¬ (c5 : Int) = (out.length : Int) := by omega
                    have hn5 : ¬ (out.length : Int) = (c5 : Int) := by omega
                    have hn6 : ¬ c5 - out.length = 0 := by omega
                    have hn7 : ¬ c5 ≤ out.length := by omega
                    have HHD := Lib.hid (show ∀ w, Below wr.heap.size wr w → TailAt w (some ⟨gx, 0, none⟩) out from fun w hw => by have := head_of HROW.out out.length hw; rwa [List.take_length] at this)
                    go_wp2
                    go_region
                    all_goals
                      go_wp2_with (first
                        | (at_builtin; refine wpList_app_tail rfl (.tmp 60) (.tmp 63) rfl (B := wr.heap.size) (l := []) (new := []) rfl rfl (emp_hD (heap_alloc_new _ _) (by have := hBA.size; first | exact this | (simp; done) | (simp; omega))) (fun j u hj => by simp at hj) (by simp) (by have := hBA.size; simp; done) ?_; intro v7 w7 hr7 hg7 hf7; have hB7 : Below wr.heap.size wr w7 := Below.grown (by (repeat (first | assumption | exact Below.refl _ _ | refine Below.drew ?_ | refine below_drewP ?_ _ | refine Below.alloc ?_ (by first | exact Nat.le_refl _ | (simp; done) | (simp; omega) | (have := hBA.size; simp; omega) | (have := hB7.size; simp; omega)) _))) hg7 (by have := hBA.size; simp; done) (fun k hk => by have e : some _ = some k := hk; injection e with e; simp at e; omega); obtain ⟨m0, m1, m2⟩ := K0 _ hB7; have HR7 := Lib.hid hr7; clear hr7 hg7 hf7))
                      go_region_law (first
                        | (refine step_app_head rfl (.tmp 68) (.tmp 70) rfl (N := w7.heap.size) (u := .slice (some ⟨w7.heap.size, 0, none⟩) 1 1) (A := some ⟨gx, 0, none⟩) (l := out) (y := ⟨ua, ub, uc⟩) ?hap ?hbp (fun e => by cases e) (HHD.out _ (by (repeat (first | assumption | exact Below.refl _ _ | refine Below.drew ?_ | refine below_drewP ?_ _ | refine Below.alloc ?_ (by first | exact Nat.le_refl _ | (simp; done) | (simp; omega) | (have := hBA.size; simp; omega) | (have := hB7.size; simp; omega)) _)))) (one_hD (heap_alloc_new _ _)) (by have := HLO.out; omega) ?_; (case hap => (first | (simp [Act.eval] <;> fail) | (simp [Act.eval, Act.put] <;> fail))); (case hbp => (first | (simp [Act.eval] <;> fail) | (simp [Act.eval, Act.put] <;> fail))); intro v8 w8 hr8 hg8; have hB8 : Below wr.heap.size wr w8 := Below.grown (by (repeat (first | assumption | exact Below.refl _ _ | refine Below.drew ?_ | refine below_drewP ?_ _ | refine Below.alloc ?_ (by first | exact Nat.le_refl _ | (simp; done) | (simp; omega) | (have := hBA.size; simp; omega) | (have := hB7.size; simp; omega)) _))) hg8 (by have := hB7.size; simp; omega) (fun k hk => by cases hk); have hB78 : Below w7.heap.size w7 w8 := Below.grown (by (repeat (first | assumption | exact Below.refl _ _ | refine Below.drew ?_ | refine below_drewP ?_ _ | refine Below.alloc ?_ (by first | exact Nat.le_refl _ | (simp; done) | (simp; omega) | (have := hBA.size; simp; omega) | (have := hB7.size; simp; omega)) _))) hg8 (by simp) (fun k hk => by cases hk))
                        | (refine step_app_kd rfl (.tmp 71) (.tmp 72) rfl (v := v8) (u := v7) (N := wr.heap.size) (l := out ++ [⟨ua, ub, uc⟩]) (new := [] ++ []) ?hcp ?hdp hr8 (row_below HR7.out (by (repeat (first | assumption | exact Below.refl _ _ | refine Below.drew ?_ | refine below_drewP ?_ _ | refine Below.alloc ?_ (by first | exact Nat.le_refl _ | (simp; done) | (simp; omega) | (have := hBA.size; simp; omega) | (have := hB7.size; simp; omega)) _)))) (by have h3 := HLO.out; rw [List.length_append]; simp; omega) hg8.size ?_; (case hcp => (first | (simp [Act.eval] <;> fail) | (simp [Act.eval, Act.put] <;> fail))); (case hdp => (first | (simp [Act.eval] <;> fail) | (simp [Act.eval, Act.put] <;> fail))); intro v9 w9 hr9 hg9 hf9; have HG9 := Lib.hid (And.intro hg9 hf9); have HR9 := Lib.hid hr9; have HR8 := Lib.hid hr8; have HB8 := Lib.hid hB8; have HG8 := Lib.hid hg8)
                        | fail)
                      all_goals
                        go_wp2
                        go_roundg gg
                        case measure => exact Nat.lt_succ_self _
                        case rel =>
                          have hb9 : Below wr.heap.size wr w9 := Below.grown HB8.out HG9.out.1 HB8.out.size (fun k hk => by have := (World.ownsRow.lt HR8.out k hk).1; have := hB7.size; simp at *; omega)
                          have hb := HBB.out.trans ((HBQ.out.trans (hb9.mono HBQ.out.size)).mono HBB.out.size)
                          refine ⟨i + 1, _, HI.out, by have := HI9.out; first | rfl | (rw [IntWalk.wrap64_in _ ⟨by omega, by omega⟩, Int.natCast_succ]), rfl, Lib.hid ?_, HBW.out.trans (hb.mono HBW.out.size)⟩
                          rw [HSC.out, if_pos (by unfold fitK fit3; exact HFF.out), HIN.out]
                          have h9 := HR9.out
                          rw [List.nil_append, List.append_nil] at h9
                          exact KtD.mono h9 (by have := HBASE.out; have := hB7.size; simp; omega)
                  · subst hcl
                    have HHD := Lib.hid (show ∀ w, Below wr.heap.size wr w → TailAt w (some ⟨gx, 0, none⟩) out from fun w hw => by have := head_of HROW.out out.length hw; rwa [List.take_length] at this)
                    go_wp2
                    go_region
                    all_goals
                      go_wp2_with (first
                        | (at_builtin; refine wpList_app_tail rfl (.tmp 60) (.tmp 63) rfl (B := wr.heap.size) (l := []) (new := []) rfl rfl (emp_hD (heap_alloc_new _ _) (by have := hBA.size; first | exact this | (simp; done) | (simp; omega))) (fun j u hj => by simp at hj) (by simp) (by have := hBA.size; simp; done) ?_; intro v7 w7 hr7 hg7 hf7; have hB7 : Below wr.heap.size wr w7 := Below.grown (by (repeat (first | assumption | exact Below.refl _ _ | refine Below.drew ?_ | refine below_drewP ?_ _ | refine Below.alloc ?_ (by first | exact Nat.le_refl _ | (simp; done) | (simp; omega) | (have := hBA.size; simp; omega) | (have := hB7.size; simp; omega)) _))) hg7 (by have := hBA.size; simp; done) (fun k hk => by have e : some _ = some k := hk; injection e with e; simp at e; omega); obtain ⟨m0, m1, m2⟩ := K0 _ hB7; have HR7 := Lib.hid hr7; clear hr7 hg7 hf7))
                      go_region_law (first
                        | (refine step_app_head rfl (.tmp 68) (.tmp 70) rfl (N := w7.heap.size) (u := .slice (some ⟨w7.heap.size, 0, none⟩) 1 1) (A := some ⟨gx, 0, none⟩) (l := out) (y := ⟨ua, ub, uc⟩) ?haq ?hbq (fun e => by cases e) (HHD.out _ (by (repeat (first | assumption | exact Below.refl _ _ | refine Below.drew ?_ | refine below_drewP ?_ _ | refine Below.alloc ?_ (by first | exact Nat.le_refl _ | (simp; done) | (simp; omega) | (have := hBA.size; simp; omega) | (have := hB7.size; simp; omega)) _)))) (one_hD (heap_alloc_new _ _)) (by have := HLO.out; omega) ?_; (case haq => (first | (simp [Act.eval] <;> fail) | (simp [Act.eval, Act.put] <;> fail))); (case hbq => (first | (simp [Act.eval] <;> fail) | (simp [Act.eval, Act.put] <;> fail))); intro v8 w8 hr8 hg8; have hB8 : Below wr.heap.size wr w8 := Below.grown (by (repeat (first | assumption | exact Below.refl _ _ | refine Below.drew ?_ | refine below_drewP ?_ _ | refine Below.alloc ?_ (by first | exact Nat.le_refl _ | (simp; done) | (simp; omega) | (have := hBA.size; simp; omega) | (have := hB7.size; simp; omega)) _))) hg8 (by have := hB7.size; simp; omega) (fun k hk => by cases hk); have hB78 : Below w7.heap.size w7 w8 := Below.grown (by (repeat (first | assumption | exact Below.refl _ _ | refine Below.drew ?_ | refine below_drewP ?_ _ | refine Below.alloc ?_ (by first | exact Nat.le_refl _ | (simp; done) | (simp; omega) | (have := hBA.size; simp; omega) | (have := hB7.size; simp; omega)) _))) hg8 (by simp) (fun k hk => by cases hk))
                        | (refine step_app_kd rfl (.tmp 71) (.tmp 72) rfl (v := v8) (u := v7) (N := wr.heap.size) (l := out ++ [⟨ua, ub, uc⟩]) (new := [] ++ []) ?hcq ?hdq hr8 (row_below HR7.out (by (repeat (first | assumption | exact Below.refl _ _ | refine Below.drew ?_ | refine below_drewP ?_ _ | refine Below.alloc ?_ (by first | exact Nat.le_refl _ | (simp; done) | (simp; omega) | (have := hBA.size; simp; omega) | (have := hB7.size; simp; omega)) _)))) (by have h3 := HLO.out; rw [List.length_append]; simp; omega) hg8.size ?_; (case hcq => (first | (simp [Act.eval] <;> fail) | (simp [Act.eval, Act.put] <;> fail))); (case hdq => (first | (simp [Act.eval] <;> fail) | (simp [Act.eval, Act.put] <;> fail))); intro v9 w9 hr9 hg9 hf9; have HG9 := Lib.hid (And.intro hg9 hf9); have HR9 := Lib.hid hr9; have HR8 := Lib.hid hr8; have HB8 := Lib.hid hB8; have HG8 := Lib.hid hg8)
                        | fail)
                      all_goals
                        go_wp2
                        go_roundg gg
                        case measure => exact Nat.lt_succ_self _
                        case rel =>
                          have hb9 : Below wr.heap.size wr w9 := Below.grown HB8.out HG9.out.1 HB8.out.size (fun k hk => by have := (World.ownsRow.lt HR8.out k hk).1; have := hB7.size; simp at *; omega)
                          have hb := HBB.out.trans ((HBQ.out.trans (hb9.mono HBQ.out.size)).mono HBB.out.size)
                          refine ⟨i + 1, _, HI.out, by have := HI9.out; first | rfl | (rw [IntWalk.wrap64_in _ ⟨by omega, by omega⟩, Int.natCast_succ]), rfl, Lib.hid ?_, HBW.out.trans (hb.mono HBW.out.size)⟩
                          rw [HSC.out, if_pos (by unfold fitK fit3; exact HFF.out), HIN.out]
                          have h9 := HR9.out
                          rw [List.nil_append, List.append_nil] at h9
                          exact KtD.mono h9 (by have := HBASE.out; have := hB7.size; simp; omega)
              | succ g2 =>
                have hin : (t : Int) < (out.length : Int) := by omega
                obtain ⟨x, hx⟩ : ∃ x, out[t]? = some x := ⟨_, List.getElem?_eq_getElem (by omega)⟩
                have HBQ := Lib.hid hbq
                obtain ⟨gx, cx, ev, hgx, q0, q1, q2⟩ := ktD_at ((HOUT.out.below HBB.out).below hbq) hx
                injection ev with ev1 ev2 ev3
                subst ev1
                clear ev2 ev3
                obtain ⟨b, hb⟩ : ∃ b, b = ltK o x ⟨ua, ub, uc⟩ := ⟨_, rfl⟩
                have cLs := fun w => kless_any o x.a x.b x.c ua ub uc w
                have hbl : lsB o x.a x.b x.c ua ub uc = b := by rw [hb]; rfl
                simp only [hbl] at cLs
                have HXB := Lib.hid (And.intro hx hb)
                have HQX := Lib.hid (show ∀ w, Below wr.heap.size wr w → w.cell? ⟨gx, t * 3, none⟩ = some (.int .i64 x.a) ∧ w.cell? ⟨gx, t * 3 + 1, none⟩ = some (.int .i64 x.b) ∧ w.cell? ⟨gx, t * 3 + 2, none⟩ = some (.int .i64 x.c) from fun w hw => ⟨(hw.cell (p := ⟨gx, t * 3, none⟩) hgx).trans q0, (hw.cell (p := ⟨gx, t * 3 + 1, none⟩) hgx).trans q1, (hw.cell (p := ⟨gx, t * 3 + 2, none⟩) hgx).trans q2⟩)
                obtain ⟨xa, xb, xc⟩ := x
                dsimp only at cLs HQX
                have K1 : ∀ w, Below wr.heap.size wr w → w.cell? ⟨gu, 0, none⟩ = some (.int .i64 ua) ∧ w.cell? ⟨gu, 1, none⟩ = some (.int .i64 ub) ∧ w.cell? ⟨gu, 2, none⟩ = some (.int .i64 uc) ∧ w.cell? ⟨gx, t * 3, none⟩ = some (.int .i64 xa) ∧ w.cell? ⟨gx, t * 3 + 1, none⟩ = some (.int .i64 xb) ∧ w.cell? ⟨gx, t * 3 + 2, none⟩ = some (.int .i64 xc) := fun w hw =>
                  have hf := (HFU.out.below HBQ.out).below hw
                  ⟨hf.cell 0, hf.cell 1, hf.cell 2, HQX.out w hw⟩
                have HT1 := Lib.hid (show t + 1 + g2 = out.length from by omega)
                have HTL := Lib.hid (show t < out.length from by omega)
                clear hx hb hbl q0 q1 q2 hbq hgx htg
                cases b with
                | true =>
                  go_wp2
                  go_region_held3 (fun w => w.cell? ⟨gu, 0, none⟩ = some (.int .i64 ua) ∧ w.cell? ⟨gu, 1, none⟩ = some (.int .i64 ub) ∧ w.cell? ⟨gu, 2, none⟩ = some (.int .i64 uc) ∧ w.cell? ⟨gx, t * 3, none⟩ = some (.int .i64 xa) ∧ w.cell? ⟨gx, t * 3 + 1, none⟩ = some (.int .i64 xb) ∧ w.cell? ⟨gx, t * 3 + 2, none⟩ = some (.int .i64 xc))
                    (first | (refine K1 _ ?_; repeat (first | assumption | exact Below.refl _ _ | refine Below.drew ?_)))
                    (first | (go_at_call 30; (with_reducible refine (cLs _).mono ?_); rintro e wa ⟨rfl, hBa⟩; have hBA : Below wr.heap.size wr wa := Below.trans (by repeat (first | assumption | exact Below.refl _ _ | refine Below.drew ?_)) (hBa.mono (by simp))))
                  all_goals
                    go_wp2
                    go_roundg g2
                    case measure => exact Nat.lt_succ_self _
                    case rel =>
                      refine ⟨HBQ.out.trans ((show Below wr.heap.size wr _ from by repeat (first | assumption | exact Below.refl _ _ | refine Below.drew ?_)).mono HBQ.out.size), t + 1, HT1.out, by have := HLO.out; have := HTL.out; first | rfl | (rw [IntWalk.wrap64_in _ ⟨by omega, by omega⟩, Int.natCast_succ]), Lib.hid ?_⟩
                      intro y hy
                      rw [List.take_add_one, HXB.out.1] at hy
                      rcases List.mem_append.1 hy with hy | hy
                      · exact HLT.out y hy
                      · simp at hy; rw [hy]; exact HXB.out.2.symm
                | false =>
                  have hco : (out.length : Int) ≤ (c5 : Int) := by have := HC5.out; omega
                  have htc : (t : Int) ≤ (c5 : Int) := by have := HC5.out; have := HTL.out; omega
                  have htt2 : (t : Int) ≤ (t : Int) := Int.le_refl _
                  have HIN : Hid (insD o ⟨ua, ub, uc⟩ out = out.take t ++ ⟨ua, ub, uc⟩ :: out.drop t) := Lib.hid (insD_put HLT.out HXB.out.1 HXB.out.2.symm)
                  have HROW := Lib.hid ((HOUT.out.below HBB.out).below HBQ.out)
                  have HBASE := Lib.hid (Nat.le_trans HBW.out.size (Nat.le_trans HBB.out.size HBQ.out.size))
                  have HTK := Lib.hid (show (out.take t).length = t from by rw [List.length_take]; have := HTL.out; omega)
                  have HDL2 := Lib.hid (show (out.drop t).length = out.length - t from List.length_drop)
                  have HZA := Lib.hid (show ([] : List Kt).length + (out.drop t).length ≤ 100000 from by have := HLO.out; rw [HDL2.out]; simp; omega)
                  go_wp2
                  go_region_held3 (fun w => w.cell? ⟨gu, 0, none⟩ = some (.int .i64 ua) ∧ w.cell? ⟨gu, 1, none⟩ = some (.int .i64 ub) ∧ w.cell? ⟨gu, 2, none⟩ = some (.int .i64 uc) ∧ w.cell? ⟨gx, t * 3, none⟩ = some (.int .i64 xa) ∧ w.cell? ⟨gx, t * 3 + 1, none⟩ = some (.int .i64 xb) ∧ w.cell? ⟨gx, t * 3 + 2, none⟩ = some (.int .i64 xc))
                    (first | (refine K1 _ ?_; repeat (first | assumption | exact Below.refl _ _ | refine Below.drew ?_)))
                    (first | (go_at_call 30; (with_reducible refine (cLs _).mono ?_); rintro e wa ⟨rfl, hBa⟩; have hBA : Below wr.heap.size wr wa := Below.trans (by repeat (first | assumption | exact Below.refl _ _ | refine Below.drew ?_)) (hBa.mono (by simp))))
                  all_goals
                    go_wp2_with (first
                      | (at_builtin; refine wpList_app_tail rfl (.tmp 60) (.tmp 63) rfl (B := wr.heap.size) (A' := some ⟨gx, t * 3, none⟩) (c' := c5 - t) (l := []) (new := out.drop t) rfl (by rw [HDL2.out]; rfl) (emp_hD (heap_alloc_new _ _) (by have := hBA.size; first | exact this | (simp; done) | (simp; omega))) (tail_of HROW.out t (by (repeat (first | assumption | exact Below.refl _ _ | refine Below.drew ?_ | refine below_drewP ?_ _ | refine Below.alloc ?_ (by first | exact Nat.le_refl _ | (simp; done) | (simp; omega) | (have := hBA.size; simp; omega) | (have := hB7.size; simp; omega)) _)))) HZA.out (by have := hBA.size; simp; omega) ?_; intro v7 w7 hr7 hg7 hf7; have hB7 : Below wr.heap.size wr w7 := Below.grown (by (repeat (first | assumption | exact Below.refl _ _ | refine Below.drew ?_ | refine below_drewP ?_ _ | refine Below.alloc ?_ (by first | exact Nat.le_refl _ | (simp; done) | (simp; omega) | (have := hBA.size; simp; omega) | (have := hB7.size; simp; omega)) _))) hg7 (by have := hBA.size; simp; omega) (fun k hk => by have e : some _ = some k := hk; injection e with e; have := hBA.size; simp at e; omega); obtain ⟨m0, m1, m2, m3, m4, m5⟩ := K1 _ hB7; have HR7 := Lib.hid hr7; clear hr7 hg7 hf7))
                    go_region_law (first
                      | (refine step_app_head rfl (.tmp 68) (.tmp 70) rfl (N := w7.heap.size) (u := .slice (some ⟨w7.heap.size, 0, none⟩) 1 1) (A := some ⟨gx, 0, none⟩) (l := out.take t) (y := ⟨ua, ub, uc⟩) ?ha ?hb (fun e => by cases e) (head_of HROW.out t (by (repeat (first | assumption | exact Below.refl _ _ | refine Below.drew ?_ | refine below_drewP ?_ _ | refine Below.alloc ?_ (by first | exact Nat.le_refl _ | (simp; done) | (simp; omega) | (have := hB7.size; simp; omega)) _)))) (one_hD (heap_alloc_new _ _)) (by rw [HTK.out]; have := HLO.out; have := HTL.out; omega) ?_; (case ha => (rw [HTK.out]; first | (simp [Act.eval] <;> fail) | (simp [Act.eval, Act.put] <;> fail))); (case hb => (first | (simp [Act.eval] <;> fail) | (simp [Act.eval, Act.put] <;> fail))); intro v8 w8 hr8 hg8; have hB8 : Below wr.heap.size wr w8 := Below.grown (by (repeat (first | assumption | exact Below.refl _ _ | refine Below.drew ?_ | refine below_drewP ?_ _ | refine Below.alloc ?_ (by first | exact Nat.le_refl _ | (simp; done) | (simp; omega) | (have := hB7.size; simp; omega)) _))) hg8 (by have := hB7.size; simp; omega) (fun k hk => by cases hk); have hB78 : Below w7.heap.size w7 w8 := Below.grown (by (repeat (first | assumption | exact Below.refl _ _ | refine Below.drew ?_ | refine below_drewP ?_ _ | refine Below.alloc ?_ (by first | exact Nat.le_refl _ | (simp; done) | (simp; omega) | (have := hB7.size; simp; omega)) _))) hg8 (by simp) (fun k hk => by cases hk))
                      | (refine step_app_kd rfl (.tmp 71) (.tmp 72) rfl (v := v8) (u := v7) (N := wr.heap.size) (l := out.take t ++ [⟨ua, ub, uc⟩]) (new := [] ++ out.drop t) ?hc ?hd hr8 (row_below HR7.out (by (repeat (first | assumption | exact Below.refl _ _ | refine Below.drew ?_ | refine below_drewP ?_ _ | refine Below.alloc ?_ (by first | exact Nat.le_refl _ | (simp; done) | (simp; omega) | (have := hB7.size; simp; omega)) _)))) (by have h1 := HTK.out; have h2 := HDL2.out; have h3 := HLO.out; rw [List.length_append, List.nil_append, h1, h2]; simp; omega) hg8.size ?_; (case hc => (first | (simp [Act.eval] <;> fail) | (simp [Act.eval, Act.put] <;> fail))); (case hd => (first | (simp [Act.eval] <;> fail) | (simp [Act.eval, Act.put] <;> fail))); intro v9 w9 hr9 hg9 hf9; have HG9 := Lib.hid (And.intro hg9 hf9); have HR9 := Lib.hid hr9; have HR8 := Lib.hid hr8; have HB8 := Lib.hid hB8; have HG8 := Lib.hid hg8)
                      | fail)
                    all_goals
                      go_wp2
                      go_roundg gg
                      case measure => exact Nat.lt_succ_self _
                      case rel =>
                        have hb9 : Below wr.heap.size wr w9 := Below.grown HB8.out HG9.out.1 HB8.out.size (fun k hk => by have := (World.ownsRow.lt HR8.out k hk).1; have := hB7.size; simp at *; omega)
                        have hb := HBB.out.trans ((HBQ.out.trans (hb9.mono HBQ.out.size)).mono HBB.out.size)
                        refine ⟨i + 1, _, HI.out, by have := HI9.out; first | rfl | (rw [IntWalk.wrap64_in _ ⟨by omega, by omega⟩, Int.natCast_succ]), rfl, Lib.hid ?_, HBW.out.trans (hb.mono HBW.out.size)⟩
                        rw [HSC.out, if_pos (by unfold fitK fit3; exact HFF.out), HIN.out]
                        have h9 := HR9.out
                        rw [List.nil_append, List.append_assoc] at h9
                        exact KtD.mono h9 (by have := HBASE.out; have := hB7.size; simp; omega)
end Go.Proofs.Ytoiigplflmejmaa
