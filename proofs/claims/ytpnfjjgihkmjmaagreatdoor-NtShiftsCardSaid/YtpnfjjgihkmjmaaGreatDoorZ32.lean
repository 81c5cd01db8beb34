/-
  MERGED (a claim has at most 60 files): QIri.
-/
import Derived.Test.YtpnfjjgihkmjmaaGreatDoorZ30
/-
  THE DOCUMENT's 'IRI', wherever it is asked.
-/
namespace Go.Proofs.YtpnfjjgihkmjmaaGreatDoor
open Go.RowKit
set_option linter.unusedVariables false

/-- The loop's relation. -/
def QII (w : World) (sl : List Int) (r : Nat × Option (List Int)) (g : Nat) (s7 s8 : Value) (wr : World) : Prop :=
  ∃ p acc av cv, r = irf sl g p acc ∧ p ≤ sl.length ∧ sl.length - p ≤ g ∧ acc.length + g ≤ 100000 ∧ s8 = .int .i64 (p : Nat) ∧ s7 = .slice av acc.length cv ∧ Ints w.heap.size wr s7 acc ∧ Hid (AllS acc) ∧ Below w.heap.size w wr
def QiPost (w : World) (r : Nat × Option (List Int)) (e : Ending) (w' : World) : Prop := e = .returned (.tuple #[.string (textOf (r.2.getD [])), .int .i64 r.1, .bool r.2.isSome]) ∧ Below w.heap.size w w'
theorem qi_none (w : World) (p : Nat) {w' : World} (hb : Below w.heap.size w w') : QiPost w (p, none) (.returned (.tuple #[.string ⟨#[]⟩, .int .i64 p, .bool false])) w' := ⟨by rw [show ((p, (none : Option (List Int))).2.getD []) = [] from rfl, text_nil]; rfl, hb⟩
set_option maxHeartbeats 8000000 in
set_option maxRecDepth 100000 in
theorem qiri_at (sl : List Int) (hall : AllS sl) (k : Nat) (hx0 : sl[k]? = some 60) (hl : sl.length ≤ 100000) (gc oc cap : Nat) (w : World) (hgc : gc < w.heap.size) (hB0 : ∀ (j : Nat) x, sl[j]? = some x → w.cell? ⟨gc, oc + j, none⟩ = some (.int .i64 x)) :
    Calls Tryz.prog 70 #[.slice (some ⟨gc, oc, none⟩) sl.length cap, .int .i64 k] w (QiPost w (irf sl (sl.length - (k + 1)) (k + 1) [])) := by
  have hk : k < sl.length := (List.getElem?_eq_some_iff.1 hx0).1
  have hlv : Lv w (some ⟨gc, oc, none⟩) sl := fun _ => ⟨gc, oc, rfl, hgc, hB0⟩
  have cS0 : ∀ W, Below w.heap.size w W → Calls Tryz.prog 42 #[.slice (some ⟨gc, oc, none⟩) sl.length cap, .int .i64 k, .int .u8 60] W fun e w' => e = .returned (.bool true) ∧ W = w' := fun W hb => by
    have := stands_any (cap := cap) (hlv.below hb (Nat.le_refl _)) k 60 (by decide) (by decide) hl
    rw [decide_eq_true hx0] at this
    exact this
  have hst : ∀ W, Below w.heap.size w W → ∀ (p : Nat) (c : Int), 0 ≤ c → c ≤ 255 → Calls Tryz.prog 42 #[.slice (some ⟨gc, oc, none⟩) sl.length cap, .int .i64 p, .int .u8 c] W fun e w' => e = .returned (.bool (decide (sl[p]? = some c))) ∧ W = w' := fun W hb p c h0 h1 => stands_any (hlv.below hb (Nat.le_refl _)) p c h0 h1 hl
  have HST := Lib.hid hst
  have HC := Lib.hid hB0
  have HALL := Lib.hid hall
  obtain ⟨i0, hi, hz0, hz1, hz2⟩ := info_parts intInfo
  obtain ⟨r, hr⟩ : ∃ r, r = irf sl (sl.length - (k + 1)) (k + 1) [] := ⟨_, rfl⟩
  have HR := Lib.hid hr
  rw [← hr]
  have hb0 := Below.refl w.heap.size w
  clear hr hB0 hx0 hlv hst hall
  go_enter Tryz.func70, Tryz.ntmps70
  go_wp2_with (go_at_call 42; (with_reducible refine (cS0 _ hb0).mono ?_); rintro e w' ⟨rfl, rfl⟩)
  go_loopg [7, 8] (sl.length - (k + 1)) (fun g s7 s8 wr => QII w sl r g s7 s8 wr)
  case atStart => exact ⟨k + 1, [], none, 0, HR.out, by omega, by omega, by simp; omega, by go_num, rfl, ints_nil _ _, Lib.hid allS_nil, Below.refl _ _⟩
  case round =>
    clear HR cS0 hb0
    obtain ⟨p, acc, av, cv, hq, hpl, hpg, hag, rfl, rfl, hI, HAC, hbw⟩ := hrel
    have hbs := hbw.size
    have cSt := fun (c : Int) (h0 : 0 ≤ c) (h1 : c ≤ 255) => HST.out wr hbw p c h0 h1
    have cS62 := cSt 62 (by decide) (by decide)
    by_cases hpe : p = sl.length
    · have hrr : r = (p, none) := by
        rw [hq]
        cases gk with
        | zero => rfl
        | succ g => unfold irf; rw [hpe, List.getElem?_eq_none (Nat.le_refl _)]
      have HRR := Lib.hid hrr
      have hge : ¬ ((p : Int) < (sl.length : Int)) := by omega
      rw [decide_eq_false (by rw [hpe, List.getElem?_eq_none (Nat.le_refl _)]; intro e; cases e)] at cS62
      clear hq hrr hpe cSt
      go_wp2_with (go_at_call 42; (with_reducible refine cS62.mono ?_); rintro e w' ⟨rfl, rfl⟩)
      go_ret3
      rw [HRR.out]
      exact qi_none w p hbw
    · have hpl2 : p < sl.length := by omega
      have hplz : (p : Int) < (sl.length : Int) := by omega
      have hp0 : (0 : Int) ≤ (p : Int) := by omega
      obtain ⟨g, rfl⟩ : ∃ g, gk = g + 1 := ⟨gk - 1, by omega⟩
      obtain ⟨c, hx⟩ : ∃ c, sl[p]? = some c := ⟨_, List.getElem?_eq_getElem hpl2⟩
      have hcell : wr.cell? ⟨gc, oc + p, none⟩ = some (.int .i64 c) := (hbw.cell (p := ⟨gc, oc + p, none⟩) hgc).trans (HC.out _ _ hx)
      have hcs : sgn c = true := HALL.out c (List.mem_of_getElem? hx)
      rw [hx] at cS62
      unfold irf at hq
      rw [hx] at hq
      dsimp only at hq
      have HX := Lib.hid hx
      clear hx hpe cSt
      by_cases h62 : c = 62
      · rw [if_pos h62] at hq
        subst h62
        rw [decide_eq_true rfl] at cS62
        have cT : ∀ W, Below wr.heap.size wr W → Calls Tryz.prog 73 #[.slice av acc.length cv] W fun e w' => e = .returned (.string (textOf acc)) ∧ Below W.heap.size W w' := fun W hb => text_ints (ints_below hI hb) HAC.out (by omega)
        have HQ := Lib.hid hq
        have hbr := Below.refl wr.heap.size wr
        clear hq hcs
        go_wp2_with (first
          | (go_at_call 42; (with_reducible refine cS62.mono ?_); rintro e w' ⟨rfl, rfl⟩)
          | (go_at_call 73; (with_reducible refine (cT _ hbr).mono ?_); rintro e w2 ⟨rfl, hb2⟩))
        go_ret3
        rw [HQ.out]
        exact ⟨by (try simp only [Option.getD_some, Option.isSome_some]); (first | rfl | go_num), hbw.trans (hb2.mono hbs)⟩
      rw [if_neg h62] at hq
      have g62 : (c != 62) = true := by simpa using h62
      rw [decide_eq_false (by rw [Option.some.injEq]; exact h62)] at cS62
      by_cases hnl : c = 10
      · rw [if_pos hnl] at hq
        subst hnl
        have HQ := Lib.hid hq
        clear hq h62 g62 hcs
        go_wp2_with (go_at_call 42; (with_reducible refine cS62.mono ?_); rintro e w' ⟨rfl, rfl⟩)
        go_ret3
        rw [HQ.out]
        exact qi_none w p hbw
      rw [if_neg hnl] at hq
      have g10 : (c != 10) = true := by simpa using hnl
      have HI := Lib.hid hI
      by_cases h92 : c = 92
      · rw [if_pos h92] at hq
        subst h92
        clear g62 g10 h62 hnl hcs cS62
        have HQ := Lib.hid hq
        clear hq
        have cSu : Calls Tryz.prog 42 #[.slice (some ⟨gc, oc, none⟩) sl.length cap, .int .i64 ((p : Int) + 1), .int .u8 117] wr fun e w' => e = .returned (.bool (decide (sl[p + 1]? = some 117))) ∧ wr = w' := HST.out wr hbw (p + 1) 117 (by decide) (by decide)
        have cSU : Calls Tryz.prog 42 #[.slice (some ⟨gc, oc, none⟩) sl.length cap, .int .i64 ((p : Int) + 1), .int .u8 85] wr fun e w' => e = .returned (.bool (decide (sl[p + 1]? = some 85))) ∧ wr = w' := HST.out wr hbw (p + 1) 85 (by decide) (by decide)
        by_cases hu : sl[p + 1]? = some 117
        · have hp2 : p + 2 ≤ sl.length := by have := (List.getElem?_eq_some_iff.1 hu).1; omega
          have hnU : ¬ sl[p + 1]? = some 85 := fun e => by rw [hu] at e; exact absurd e (by decide)
          rw [decide_eq_true hu] at cSu
          rw [decide_eq_false hnU] at cSU
          have hef : nef sl (p + 1) = rd 4 0 (sl.drop (p + 2)) (p + 2) := by unfold nef; rw [if_pos hu]
          have HE := Lib.hid hef
          clear hef
          go_wp2_with (first
            | (go_at_call 42; (with_reducible refine cSu.mono ?_); rintro e w' ⟨rfl, rfl⟩)
            | (go_at_call 42; (with_reducible refine cSU.mono ?_); rintro e w' ⟨rfl, rfl⟩))
          go_loopg [8, 10, 11] 4 (fun g2 s8 s10 s11 wx => RdI sl wr (rd 4 0 (sl.drop (p + 2)) (p + 2)) p 4 g2 s8 s10 s11 wx)
          case atStart => exact ⟨0, 0, rfl, by go_num, rfl, rfl, by omega, rfl, by decide, by decide, rfl⟩
          case round =>
            obtain ⟨S, i, hi8, rfl, rfl, rfl, hql, hR, hS0, hS1, rfl⟩ := hrel
            have hp16 := pow16 i (by omega)
            obtain ⟨q, hq⟩ : ∃ q, q = p + 2 + i := ⟨_, rfl⟩
            rw [← hq] at hR hql ⊢
            have HQQ := Lib.hid hq
            have HR := Lib.hid hR
            cases gk with
            | zero =>
              have hin : i = 4 := by omega
              subst hin
              have cS : ∀ W, Calls Tryz.prog 77 #[.int .i64 S] W fun e w' => e = .returned (.bool (sgn S)) ∧ W = w' := fun W => refSign_any S W
              clear hS0 hS1 hp16 hR hq
              by_cases hsg : sgn S = true
              · rw [hsg] at cS
                have hfin : ∀ v W, Ints w.heap.size W v (acc ++ [S]) ∧ Below w.heap.size w W → QII w sl r g v (.int .i64 (q : Int)) W := fun v W y => by
                  obtain ⟨a1, c1, hv⟩ := ints_shape2 y.1
                  have hq := HQ.out
                  rw [HE.out, HR.out, rd_zero, if_pos hsg] at hq
                  dsimp only at hq
                  have := HQQ.out
                  exact ⟨q, acc ++ [S], a1, c1, hq, hql, by omega, by simp; omega, rfl, hv, y.1, Lib.hid (fun n hn => by
                      rcases List.mem_append.1 hn with hn | hn
                      · exact HAC.out n hn
                      · simp at hn; subst hn; exact hsg), y.2⟩
                have HF := Lib.hid hfin
                clear hfin hsg
                go_wp2_with (first
                  | (go_at_call 77; (with_reducible refine (cS _).mono ?_); rintro e w' ⟨rfl, rfl⟩)
                  | (at_builtin; refine wpList_append_own _ rfl _ _ 41 rfl w.heap.size 3 i0 (.int .i64 0) 1 8 Tryz.underlying41 hi hz0 hz1 hz2 rfl (by decide) _ _ _ rfl (World.ownsRow.alloc HI.out _) ⟨wr.heap.size, 0, none⟩ 1 1 [.int .i64 S] rfl rfl ?e1 ?e2 ?e3 ?e4 ?e5 ?_))
                try (case e1 =>
                    intro j u hj
                    match j, hj with
                    | 0, hj => simp at hj; subst hj; simp [Addr.add])
                try (case e2 => first | rfl | (intro u hu; simp at hu; subst hu; rfl))
                try (case e3 => unfold maxLen; omega)
                try (case e4 => omega)
                try (case e5 => first | omega | (simp; omega))
                intro v' w3 hown hgrow _
                have HG := Lib.hid (HF.out v' w3 (ints_step HI.out hbw hbs hown hgrow))
                clear hown hgrow
                go_wp2
                go_roundg g
                case measure => omega
                case rel => exact HG.out
              · have hsf : sgn S = false := by simpa using hsg
                rw [hsf] at cS
                have hrr : r = (q - 1, none) := by rw [HQ.out, HE.out, HR.out, rd_zero, if_neg hsg]
                have HRR := Lib.hid hrr
                have hq1 : ((q - 1 : Nat) : Int) = (q : Int) - 1 := by have := HQQ.out; omega
                have HQ1 := Lib.hid hq1
                clear hsg hsf hrr hq1
                go_wp2_with (go_at_call 77; (with_reducible refine (cS _).mono ?_); rintro e w' ⟨rfl, rfl⟩)
                go_ret3
                rw [HRR.out]
                have hN := qi_none w (q - 1) hbw
                rw [HQ1.out] at hN
                exact hN
            | succ g3 =>
              have hin : (i : Int) < 4 := by omega
              by_cases hqe : q = sl.length
              · have hrr : r = (q, none) := by rw [HQ.out, HE.out, HR.out, hqe, List.drop_eq_nil_of_le (Nat.le_refl _), rd_end]
                have HRR := Lib.hid hrr
                have hge : (sl.length : Int) ≤ (q : Int) := by omega
                clear hrr hqe hS0 hS1 hp16 hR hq
                go_wp2
                go_ret3
                rw [HRR.out]
                exact qi_none w q hbw
              · have hqlt : (q : Int) < (sl.length : Int) := by omega
                have hqge : ¬ (sl.length : Int) ≤ (q : Int) := by omega
                have hq0 : (0 : Int) ≤ (q : Int) := by omega
                obtain ⟨d2, hd2⟩ : ∃ d, sl[q]? = some d := ⟨_, List.getElem?_eq_getElem (by omega)⟩
                have hcell9 : wr.cell? ⟨gc, oc + q, none⟩ = some (.int .i64 d2) := (hbw.cell (p := ⟨gc, oc + q, none⟩) hgc).trans (HC.out _ _ hd2)
                have hdrop : sl.drop q = d2 :: sl.drop (q + 1) := by
                  have hj := (List.getElem?_eq_some_iff.1 hd2).1
                  rw [List.drop_eq_getElem_cons hj, (List.getElem?_eq_some_iff.1 hd2).2]
                obtain ⟨D, hD⟩ : ∃ D, D = hexv d2 := ⟨_, rfl⟩
                have hD15 : D ≤ 15 := by rw [hD]; unfold hexv; omega
                have cH : ∀ W, Calls Tryz.prog 93 #[.int .i64 d2] W fun e w' => e = .returned (.int .i64 D) ∧ W = w' := fun W => by rw [hD]; exact refHex_any d2 W
                rw [hdrop, rd_cons, ← hD] at hR
                by_cases hneg : D < 0
                · have hrr : r = (q, none) := by rw [HQ.out, HE.out, hR, if_pos hneg]
                  have HRR := Lib.hid hrr
                  clear hrr hqe hS0 hS1 hp16 hR hq hd2 hdrop hD hD15 HR
                  go_wp2_with (go_at_call 93; (with_reducible refine (cH _).mono ?_); rintro e w' ⟨rfl, rfl⟩)
                  go_ret3
                  rw [HRR.out]
                  exact qi_none w q hbw
                · rw [if_neg hneg] at hR
                  have hpp : (16 : Int) ^ (i + 1) = 16 ^ i * 16 := Int.pow_succ _ _
                  have hfin : RdI sl wr (rd 4 0 (sl.drop (p + 2)) (p + 2)) p 4 g3 (.int .i64 ((q : Int) + 1)) (.int .i64 (S * 16 + D)) (.int .i64 ((i : Int) + 1)) wr :=
                    ⟨S * 16 + D, i + 1, by omega, by rw [show p + 2 + (i + 1) = q + 1 by omega, Int.natCast_succ], rfl, by rw [Int.natCast_succ], by omega, by rw [hR, show p + 2 + (i + 1) = q + 1 by omega], by omega, by omega, rfl⟩
                  have HFF := Lib.hid hfin
                  have hw1 : IntKind.i64.wrap (S * 16) = S * 16 := IntWalk.i64_in _ (by omega)
                  have hw2 : IntKind.i64.wrap (S * 16 + D) = S * 16 + D := IntWalk.i64_in _ (by omega)
                  clear hqe hS0 hS1 hp16 hR hq hd2 hdrop hD hD15 HR hpp hfin
                  go_wp2_with (go_at_call 93; (with_reducible refine (cH _).mono ?_); rintro e w' ⟨rfl, rfl⟩)
                  go_roundg g3
                  case measure => exact Nat.lt_succ_self g3
                  case rel => exact HFF.out
        by_cases hU : sl[p + 1]? = some 85
        · have hp2 : p + 2 ≤ sl.length := by have := (List.getElem?_eq_some_iff.1 hU).1; omega
          rw [decide_eq_false hu] at cSu
          rw [decide_eq_true hU] at cSU
          have hef : nef sl (p + 1) = rd 8 0 (sl.drop (p + 2)) (p + 2) := by unfold nef; rw [if_neg hu, if_pos hU]
          have HE := Lib.hid hef
          clear hef
          go_wp2_with (first
            | (go_at_call 42; (with_reducible refine cSu.mono ?_); rintro e w' ⟨rfl, rfl⟩)
            | (go_at_call 42; (with_reducible refine cSU.mono ?_); rintro e w' ⟨rfl, rfl⟩))
          go_loopg [8, 10, 11] 8 (fun g2 s8 s10 s11 wx => RdI sl wr (rd 8 0 (sl.drop (p + 2)) (p + 2)) p 8 g2 s8 s10 s11 wx)
          case atStart => exact ⟨0, 0, rfl, by go_num, rfl, rfl, by omega, rfl, by decide, by decide, rfl⟩
          case round =>
            obtain ⟨S, i, hi8, rfl, rfl, rfl, hql, hR, hS0, hS1, rfl⟩ := hrel
            have hp16 := pow16 i (by omega)
            obtain ⟨q, hq⟩ : ∃ q, q = p + 2 + i := ⟨_, rfl⟩
            rw [← hq] at hR hql ⊢
            have HQQ := Lib.hid hq
            have HR := Lib.hid hR
            cases gk with
            | zero =>
              have hin : i = 8 := by omega
              subst hin
              have cS : ∀ W, Calls Tryz.prog 77 #[.int .i64 S] W fun e w' => e = .returned (.bool (sgn S)) ∧ W = w' := fun W => refSign_any S W
              clear hS0 hS1 hp16 hR hq
              by_cases hsg : sgn S = true
              · rw [hsg] at cS
                have hfin : ∀ v W, Ints w.heap.size W v (acc ++ [S]) ∧ Below w.heap.size w W → QII w sl r g v (.int .i64 (q : Int)) W := fun v W y => by
                  obtain ⟨a1, c1, hv⟩ := ints_shape2 y.1
                  have hq := HQ.out
                  rw [HE.out, HR.out, rd_zero, if_pos hsg] at hq
                  dsimp only at hq
                  have := HQQ.out
                  exact ⟨q, acc ++ [S], a1, c1, hq, hql, by omega, by simp; omega, rfl, hv, y.1, Lib.hid (fun n hn => by
                      rcases List.mem_append.1 hn with hn | hn
                      · exact HAC.out n hn
                      · simp at hn; subst hn; exact hsg), y.2⟩
                have HF := Lib.hid hfin
                clear hfin hsg
                go_wp2_with (first
                  | (go_at_call 77; (with_reducible refine (cS _).mono ?_); rintro e w' ⟨rfl, rfl⟩)
                  | (at_builtin; refine wpList_append_own _ rfl _ _ 41 rfl w.heap.size 3 i0 (.int .i64 0) 1 8 Tryz.underlying41 hi hz0 hz1 hz2 rfl (by decide) _ _ _ rfl (World.ownsRow.alloc HI.out _) ⟨wr.heap.size, 0, none⟩ 1 1 [.int .i64 S] rfl rfl ?f1 ?f2 ?f3 ?f4 ?f5 ?_))
                try (case f1 =>
                    intro j u hj
                    match j, hj with
                    | 0, hj => simp at hj; subst hj; simp [Addr.add])
                try (case f2 => first | rfl | (intro u hu; simp at hu; subst hu; rfl))
                try (case f3 => unfold maxLen; omega)
                try (case f4 => omega)
                try (case f5 => first | omega | (simp; omega))
                intro v' w3 hown hgrow _
                have HG := Lib.hid (HF.out v' w3 (ints_step HI.out hbw hbs hown hgrow))
                clear hown hgrow
                go_wp2
                go_roundg g
                case measure => omega
                case rel => exact HG.out
              · have hsf : sgn S = false := by simpa using hsg
                rw [hsf] at cS
                have hrr : r = (q - 1, none) := by rw [HQ.out, HE.out, HR.out, rd_zero, if_neg hsg]
                have HRR := Lib.hid hrr
                have hq1 : ((q - 1 : Nat) : Int) = (q : Int) - 1 := by have := HQQ.out; omega
                have HQ1 := Lib.hid hq1
                clear hsg hsf hrr hq1
                go_wp2_with (go_at_call 77; (with_reducible refine (cS _).mono ?_); rintro e w' ⟨rfl, rfl⟩)
                go_ret3
                rw [HRR.out]
                have hN := qi_none w (q - 1) hbw
                rw [HQ1.out] at hN
                exact hN
            | succ g3 =>
              have hin : (i : Int) < 8 := by omega
              by_cases hqe : q = sl.length
              · have hrr : r = (q, none) := by rw [HQ.out, HE.out, HR.out, hqe, List.drop_eq_nil_of_le (Nat.le_refl _), rd_end]
                have HRR := Lib.hid hrr
                have hge : (sl.length : Int) ≤ (q : Int) := by omega
                clear hrr hqe hS0 hS1 hp16 hR hq
                go_wp2
                go_ret3
                rw [HRR.out]
                exact qi_none w q hbw
              · have hqlt : (q : Int) < (sl.length : Int) := by omega
                have hqge : ¬ (sl.length : Int) ≤ (q : Int) := by omega
                have hq0 : (0 : Int) ≤ (q : Int) := by omega
                obtain ⟨d2, hd2⟩ : ∃ d, sl[q]? = some d := ⟨_, List.getElem?_eq_getElem (by omega)⟩
                have hcell9 : wr.cell? ⟨gc, oc + q, none⟩ = some (.int .i64 d2) := (hbw.cell (p := ⟨gc, oc + q, none⟩) hgc).trans (HC.out _ _ hd2)
                have hdrop : sl.drop q = d2 :: sl.drop (q + 1) := by
                  have hj := (List.getElem?_eq_some_iff.1 hd2).1
                  rw [List.drop_eq_getElem_cons hj, (List.getElem?_eq_some_iff.1 hd2).2]
                obtain ⟨D, hD⟩ : ∃ D, D = hexv d2 := ⟨_, rfl⟩
                have hD15 : D ≤ 15 := by rw [hD]; unfold hexv; omega
                have cH : ∀ W, Calls Tryz.prog 93 #[.int .i64 d2] W fun e w' => e = .returned (.int .i64 D) ∧ W = w' := fun W => by rw [hD]; exact refHex_any d2 W
                rw [hdrop, rd_cons, ← hD] at hR
                by_cases hneg : D < 0
                · have hrr : r = (q, none) := by rw [HQ.out, HE.out, hR, if_pos hneg]
                  have HRR := Lib.hid hrr
                  clear hrr hqe hS0 hS1 hp16 hR hq hd2 hdrop hD hD15 HR
                  go_wp2_with (go_at_call 93; (with_reducible refine (cH _).mono ?_); rintro e w' ⟨rfl, rfl⟩)
                  go_ret3
                  rw [HRR.out]
                  exact qi_none w q hbw
                · rw [if_neg hneg] at hR
                  have hpp : (16 : Int) ^ (i + 1) = 16 ^ i * 16 := Int.pow_succ _ _
                  have hfin : RdI sl wr (rd 8 0 (sl.drop (p + 2)) (p + 2)) p 8 g3 (.int .i64 ((q : Int) + 1)) (.int .i64 (S * 16 + D)) (.int .i64 ((i : Int) + 1)) wr :=
                    ⟨S * 16 + D, i + 1, by omega, by rw [show p + 2 + (i + 1) = q + 1 by omega, Int.natCast_succ], rfl, by rw [Int.natCast_succ], by omega, by rw [hR, show p + 2 + (i + 1) = q + 1 by omega], by omega, by omega, rfl⟩
                  have HFF := Lib.hid hfin
                  have hw1 : IntKind.i64.wrap (S * 16) = S * 16 := IntWalk.i64_in _ (by omega)
                  have hw2 : IntKind.i64.wrap (S * 16 + D) = S * 16 + D := IntWalk.i64_in _ (by omega)
                  clear hqe hS0 hS1 hp16 hR hq hd2 hdrop hD hD15 HR hpp hfin
                  go_wp2_with (go_at_call 93; (with_reducible refine (cH _).mono ?_); rintro e w' ⟨rfl, rfl⟩)
                  go_roundg g3
                  case measure => exact Nat.lt_succ_self g3
                  case rel => exact HFF.out
        rw [decide_eq_false hu] at cSu
        rw [decide_eq_false hU] at cSU
        have hef : nef sl (p + 1) = (p + 1, none) := by unfold nef; rw [if_neg hu, if_neg hU]
        have hrr : r = (p + 1, none) := by rw [HQ.out, hef]
        have HRR := Lib.hid hrr
        clear hef hrr hu hU
        go_wp2_with (first
          | (go_at_call 42; (with_reducible refine cSu.mono ?_); rintro e w' ⟨rfl, rfl⟩)
          | (go_at_call 42; (with_reducible refine cSU.mono ?_); rintro e w' ⟨rfl, rfl⟩))
        go_ret3
        rw [HRR.out]
        exact qi_none w (p + 1) hbw
      · rw [if_neg h92] at hq
        have g92 : (c != 92) = true := by simpa using h92
        have hfin : ∀ v W, Ints w.heap.size W v (acc ++ [c]) ∧ Below w.heap.size w W → QII w sl r g v (.int .i64 ((p : Int) + 1)) W := fun v W y => by
          obtain ⟨a1, c1, hv⟩ := ints_shape2 y.1
          exact ⟨p + 1, acc ++ [c], a1, c1, hq, by omega, by omega, by simp; omega, by go_num, hv, y.1, Lib.hid (fun n hn => by
            rcases List.mem_append.1 hn with hn | hn
            · exact HAC.out n hn
            · simp at hn; subst hn; exact hcs), y.2⟩
        have HF := Lib.hid hfin
        clear hq hfin h62 hnl h92 hcs cS62 HX
        go_wp2_with (at_builtin; refine wpList_append_own _ rfl _ _ 41 rfl w.heap.size 3 i0 (.int .i64 0) 1 8 Tryz.underlying41 hi hz0 hz1 hz2 rfl (by decide) _ _ _ rfl (World.ownsRow.alloc HI.out _) ⟨wr.heap.size, 0, none⟩ 1 1 [.int .i64 c] rfl rfl ?a1 ?a2 ?a3 ?a4 ?a5 ?_)
        try (case a1 =>
            intro j u hj
            match j, hj with
            | 0, hj => simp at hj; subst hj; simp [Addr.add])
        try (case a2 => first | rfl | (intro u hu; simp at hu; subst hu; rfl))
        try (case a3 => unfold maxLen; omega)
        try (case a4 => omega)
        try (case a5 => first | omega | (simp; omega))
        intro v' w3 hown hgrow _
        have HG := Lib.hid (HF.out v' w3 (ints_step HI.out hbw hbs hown hgrow))
        clear hown hgrow
        go_wp2
        go_roundg g
        case measure => exact Nat.lt_succ_self g
        case rel => exact HG.out
theorem qiri_any {W : World} {A : Option Addr} {sl : List Int} {cap : Nat} (h : Lv W A sl) (hall : AllS sl) (k : Nat) (hl : sl.length ≤ 100000) :
    Calls Tryz.prog 70 #[.slice A sl.length cap, .int .i64 k] W (QiPost W (irP sl k)) := by
  unfold irP
  by_cases hx : sl[k]? = some 60
  · rw [if_pos hx]
    obtain ⟨g, o, rfl, hlt, hcell⟩ := h (by have := (List.getElem?_eq_some_iff.1 hx).1; omega)
    exact qiri_at sl hall k hx hl g o cap W hlt hcell
  · rw [if_neg hx]
    have cS := stands_any (cap := cap) h k 60 (by decide) (by decide) hl
    rw [decide_eq_false hx] at cS
    clear h hx hall
    go_enter Tryz.func70, Tryz.ntmps70
    go_wp2_with (go_at_call 42; (with_reducible refine cS.mono ?_); rintro e w' ⟨rfl, rfl⟩)
    go_ret3
    exact qi_none W k (Below.refl _ _)
end Go.Proofs.YtpnfjjgihkmjmaaGreatDoor
