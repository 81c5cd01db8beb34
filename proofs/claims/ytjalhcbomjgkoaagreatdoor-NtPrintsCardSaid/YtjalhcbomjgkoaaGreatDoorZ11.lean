/-
  MERGED (a claim has at most 60 files): TRiri, TSl, TSame, VTru, VNum, VParse.
-/
import Derived.Test.YtjalhcbomjgkoaaGreatDoorZ09
import Derived.Deep.QuietTactic
import Derived.BigQuiet
import Derived.Deep.RegionHeld3
import Derived.ChangeKeysEq
import Derived.Test.YtjalhcbomjgkoaaGreatDoorProg
import Derived.WalkKit
import Derived.Below
import Derived.IntWalk
import Derived.Lib.Hide
import Derived.Deep.LoopGhost
import Derived.Lib.ParseIntB
import Derived.Lib.ItoaNum
/-
  THE DOCUMENT's 'iri': whether a text is an IRI's.
-/
namespace Go.Proofs.YtjalhcbomjgkoaaGreatDoor
open Go.RowKit
set_option linter.unusedVariables false

theorem ints_openT {B : Nat} {w : World} {v : Value} {l : List Int} (h : Ints B w v l) : ∃ ao cap, v = .slice ao l.length cap ∧
    (0 < l.length → ∃ g, ao = some ⟨g, 0, none⟩ ∧ g < w.heap.size ∧ ∀ (j : Nat) (x : Int), l[j]? = some x → w.cell? ⟨g, j, none⟩ = some (.int .i64 x)) := by
  rcases id h.2 with ⟨hv, h0⟩ | ⟨g, cap, cur, hv, _⟩
  · exact ⟨none, 0, by rw [hv, h0], fun hp => by omega⟩
  · refine ⟨_, cap, hv, fun _ => ⟨g, rfl, (World.ownsRow.lt h g (by rw [hv]; rfl)).2, ?_⟩⟩
    intro j x hx
    subst hv
    have := World.ownsRow.cells h (g := g) rfl j (.int .i64 x) (by simp [intRow, hx])
    rw [show (⟨g, 0, none⟩ : Addr).add j = ⟨g, j, none⟩ by by_cases h : j = 0 <;> simp [Addr.add, h]] at this
    exact this
/-- Where the first colon is, or -1. -/
def colI (l : List Int) : Int := if 58 ∈ l then (l.idxOf 58 : Int) else -1
theorem colI_snoc (l : List Int) (n : Int) : colI (l ++ [n]) = if n = 58 ∧ colI l < 0 then (l.length : Int) else colI l := by
  unfold colI
  by_cases h : 58 ∈ l
  · have h1 : 58 ∈ l ++ [n] := List.mem_append_left _ h
    rw [if_pos h1, if_pos h, List.idxOf_append, if_pos h, if_neg (by omega)]
  · rw [if_neg h]
    by_cases hn : n = 58
    · subst hn
      have h1 : (58 : Int) ∈ l ++ [58] := by simp
      rw [if_pos h1, List.idxOf_append, if_neg h, if_pos ⟨rfl, by omega⟩]
      simp
    · have h1 : (58 : Int) ∉ l ++ [n] := by simp [h, Ne.symm hn]
      rw [if_neg h1, if_neg (fun e => hn e.1)]
theorem colI_pos (l : List Int) : decide (0 < colI l) = colonB l := by
  unfold colI colonB
  match l with
  | [] => decide
  | n :: l =>
    by_cases hn : n = 58
    · subst hn; simp
    · by_cases h : 58 ∈ l
      · have e : (n :: l).idxOf 58 = l.idxOf 58 + 1 := by rw [List.idxOf_cons, beq_eq_false_iff_ne.2 hn]; rfl
        have m : 58 ∈ n :: l := List.mem_cons_of_mem _ h
        rw [if_pos m, e, decide_eq_true (show (0 : Int) < ((l.idxOf 58 + 1 : Nat) : Int) by omega), decide_eq_true ⟨m, by simp [hn]⟩]
      · have m : ¬ 58 ∈ n :: l := by simp [h, Ne.symm hn]
        rw [if_neg m, decide_eq_false (by omega), decide_eq_false (fun e => m e.1)]
def badN (n k : Int) : Prop := (1 ≤ k → n ≠ 60) ∧ (2 ≤ k → n ≠ 62) ∧ (3 ≤ k → n ≠ 34) ∧ (4 ≤ k → n ≠ 123) ∧ (5 ≤ k → n ≠ 125) ∧ (6 ≤ k → n ≠ 124) ∧ (7 ≤ k → n ≠ 94) ∧ (8 ≤ k → n ≠ 96) ∧ (9 ≤ k → n ≠ 92)
theorem badN_zero (n : Int) : badN n 0 := by unfold badN; refine ⟨?_, ?_, ?_, ?_, ?_, ?_, ?_, ?_, ?_⟩ <;> (intro h; omega)
theorem badN_nine (n : Int) (h : badN n 9) : ¬ (n = 60 ∨ n = 62 ∨ n = 34 ∨ n = 123 ∨ n = 125 ∨ n = 124 ∨ n = 94 ∨ n = 96 ∨ n = 92) := by
  unfold badN at h
  rintro (rfl | rfl | rfl | rfl | rfl | rfl | rfl | rfl | rfl)
  · exact h.1 (by decide) rfl
  · exact h.2.1 (by decide) rfl
  · exact h.2.2.1 (by decide) rfl
  · exact h.2.2.2.1 (by decide) rfl
  · exact h.2.2.2.2.1 (by decide) rfl
  · exact h.2.2.2.2.2.1 (by decide) rfl
  · exact h.2.2.2.2.2.2.1 (by decide) rfl
  · exact h.2.2.2.2.2.2.2.1 (by decide) rfl
  · exact h.2.2.2.2.2.2.2.2 (by decide) rfl
theorem badN_step {n : Int} (j : Nat) (h : badN n j) (hj : j < 9) (hn : n ≠ [60, 62, 34, 123, 125, 124, 94, 96, 92].getD j 0) : badN n (j + 1) := by
  unfold badN at *
  obtain ⟨h1, h2, h3, h4, h5, h6, h7, h8, h9⟩ := h
  obtain rfl | rfl | rfl | rfl | rfl | rfl | rfl | rfl | rfl : j = 0 ∨ j = 1 ∨ j = 2 ∨ j = 3 ∨ j = 4 ∨ j = 5 ∨ j = 6 ∨ j = 7 ∨ j = 8 := by omega
  all_goals
    simp at hn
    refine ⟨?_, ?_, ?_, ?_, ?_, ?_, ?_, ?_, ?_⟩ <;> (intro hk; first | exact hn | (first | exact h1 (by omega) | exact h2 (by omega) | exact h3 (by omega) | exact h4 (by omega) | exact h5 (by omega) | exact h6 (by omega) | exact h7 (by omega) | exact h8 (by omega) | exact h9 (by omega)) | (exfalso; omega))
/-- The world in the loops. -/
def Rw (w : World) (gI : Nat) (sl : List Int) (wr : World) : Prop := Below w.heap.size w wr ∧ ∀ (j : Nat) (x : Int), sl[j]? = some x → wr.cell? ⟨gI, j, none⟩ = some (.int .i64 x)
theorem Rw.drewN {w : World} {gI : Nat} {sl : List Int} {wr : World} (h : Rw w gI sl wr) (n : Nat) : Rw w gI sl (wr.drewN n) := ⟨⟨h.1.os, h.1.tape, h.1.output, h.1.size, h.1.block⟩, h.2⟩
def RiI (w : World) (gI : Nat) (sl : List Int) (g : Nat) (s5 s24 : Value) (wr : World) : Prop :=
  ∃ k : Nat, k + g = sl.length ∧ s24 = .int .i64 k ∧ s5 = .int .i64 (colI (sl.take k)) ∧ (sl.take k).all okS = true ∧ Rw w gI sl wr
def RiJ (w : World) (gI : Nat) (sl : List Int) (n : Int) (g : Nat) (s9 : Value) (wr : World) : Prop :=
  ∃ j : Nat, j + g = 9 ∧ s9 = .int .i64 j ∧ badN n j ∧ Rw w gI sl wr
theorem below_dq {B : Nat} {a w : World} (h : Below B a w) (n : Nat) : Below B a (w.drewN n) := ⟨h.os, h.tape, h.output, h.size, h.block⟩
theorem okS_no {n : Int} (h : (n = 60 ∨ n = 62 ∨ n = 34 ∨ n = 123 ∨ n = 125 ∨ n = 124 ∨ n = 94 ∨ n = 96 ∨ n = 92) ∨ cls n = 0 ∨ cls n = 4) : okS n = false := by
  unfold okS
  rw [decide_eq_false_iff_not]
  rintro ⟨a, b, c⟩
  rcases h with h | h | h
  · exact a h
  · exact b h
  · exact c h
theorem all_no {sl : List Int} {k : Nat} {n : Int} (hn : sl[k]? = some n) (h : okS n = false) : sl.all okS = false := by
  rw [List.all_eq_false]
  exact ⟨n, List.mem_of_getElem? hn, by rw [h]; decide⟩
theorem take_all {sl : List Int} {k : Nat} {n : Int} (hn : sl[k]? = some n) (h : okS n = true) (ha : (sl.take k).all okS = true) : (sl.take (k + 1)).all okS = true := by
  rw [List.take_add_one, hn, List.all_append, ha]
  simp [h]
theorem take_col {sl : List Int} {k : Nat} {n : Int} (hn : sl[k]? = some n) : colI (sl.take (k + 1)) = if n = 58 ∧ colI (sl.take k) < 0 then (k : Int) else colI (sl.take k) := by
  have hk := (List.getElem?_eq_some_iff.1 hn).1
  rw [List.take_add_one, hn]
  have := colI_snoc (sl.take k) n
  rw [List.length_take, Nat.min_eq_left (by omega)] at this
  exact this
theorem riri_no (s : ByteArray) (sl : List Int) (rest : List UInt8) (hp : Parts s.data.toList sl rest) (hs : s.size ≤ 4294967296) (h : rest ≠ [] ∨ 4096 < s.size) (w : World) :
    Calls Tryz.prog 43 #[.string s] w fun e w' => e = .returned (.bool false) ∧ Below w.heap.size w w' := by
  have sA : ∀ W, Calls Tryz.prog 36 #[.string s] W (SignsPost W sl (decide (rest = []))) := fun W => signs_any s sl rest hp hs W
  by_cases hr : rest = []
  · have hz : (4096 : Int) < (s.size : Int) := by
      rcases h with h | h
      · exact absurd hr h
      · omega
    rw [decide_eq_true hr] at sA
    clear h hr hp
    go_enter Tryz.func43, Tryz.ntmps43
    go_wp2_with (go_at_call 36; (with_reducible refine (sA _).mono ?_); rintro e w2 ⟨vI, rfl, hI2, hb2⟩)
    go_ret
    exact ⟨rfl, hb2⟩
  · rw [decide_eq_false hr] at sA
    clear h hr hp
    go_enter Tryz.func43, Tryz.ntmps43
    go_wp2_with (go_at_call 36; (with_reducible refine (sA _).mono ?_); rintro e w2 ⟨vI, rfl, hI2, hb2⟩)
    go_ret
    exact ⟨rfl, hb2⟩
set_option maxHeartbeats 8000000 in
set_option maxRecDepth 100000 in
theorem riri_yes (s : ByteArray) (sl : List Int) (hp : Parts s.data.toList sl []) (hs : s.size ≤ 4096) (w : World) :
    Calls Tryz.prog 43 #[.string s] w fun e w' => e = .returned (.bool (colonB sl && sl.all okS)) ∧ Below w.heap.size w w' := by
  have sA : ∀ W, Calls Tryz.prog 36 #[.string s] W (SignsPost W sl true) := fun W => by
    have := signs_any s sl [] hp (by omega) W
    exact this
  have hz : ¬ (4096 : Int) < (s.size : Int) := by omega
  have hlen : sl.length ≤ 4096 := by have := (encL_len sl).1; have := len_of s _ hp.eq; simp at this; omega
  clear hp hs
  by_cases hl0 : sl = []
  · subst hl0
    go_enter Tryz.func43, Tryz.ntmps43
    go_wp2_with (go_at_call 36; (with_reducible refine (sA _).mono ?_); rintro e w2 ⟨vI, rfl, hI2, hb2⟩; obtain ⟨ao, capI, rfl, _⟩ := ints_openT hI2)
    clear hI2
    go_loopg [5, 24] 0 (fun g s5 s24 wr => g = 0 ∧ s24 = .int .i64 0 ∧ s5 = .int .i64 (-1) ∧ w2 = wr)
    case atStart => exact ⟨rfl, rfl, rfl, rfl⟩
    case round =>
      obtain ⟨rfl, rfl, rfl, rfl⟩ := hrel
      go_wp2
      go_ret
      exact ⟨rfl, hb2⟩
  · have hpos : 0 < sl.length := List.length_pos_iff.2 hl0
    have HR : Hid (decide (0 < colI sl) = colonB sl) := Lib.hid (colI_pos sl)
    clear hl0
    go_enter Tryz.func43, Tryz.ntmps43
    go_wp2_with (go_at_call 36; (with_reducible refine (sA _).mono ?_); rintro e w2 ⟨vI, rfl, hI2, hb2⟩; obtain ⟨ao, capI, rfl, hcI⟩ := ints_openT hI2; obtain ⟨gI, rfl, hgI, hcI⟩ := hcI hpos)
    have hR0 : Rw w gI sl w2 := ⟨hb2, hcI⟩
    clear hI2 hb2 hcI hgI
    go_loopg [5, 24] sl.length (fun g s5 s24 wr => RiI w gI sl g s5 s24 wr)
    case atStart => exact ⟨0, by omega, rfl, rfl, by simp, hR0⟩
    case round =>
      clear hR0
      obtain ⟨k, hkg, rfl, rfl, hall, hRw⟩ := hrel
      cases gk with
      | zero =>
        have hk : k = sl.length := by omega
        subst hk
        rw [List.take_length] at hall
        obtain ⟨z, hzz⟩ : ∃ z, z = colI (sl.take sl.length) := ⟨_, rfl⟩
        have HZ : Hid (decide (0 < z) = (colonB sl && sl.all okS)) := Lib.hid (by rw [hzz, List.take_length, HR.out, hall, Bool.and_true])
        have HB := Lib.hid hRw.1
        rw [← hzz]
        clear hall hRw hkg hzz
        go_wp2
        go_ret
        exact ⟨ret_bool (by rw [← HZ.out]), HB.out⟩
      | succ g =>
        have hk : k < sl.length := by omega
        obtain ⟨n, hn⟩ : ∃ n, sl[k]? = some n := ⟨_, List.getElem?_eq_getElem hk⟩
        have hcx := hRw.2 k n hn
        have cC := refClass_any n
        have k1 : (0 : Int) ≤ (k : Int) := by omega
        have k2 : (k : Int) < (sl.length : Int) := by omega
        have HN := Lib.hid hn
        have HALL := Lib.hid hall
        have HRW := Lib.hid hRw
        obtain ⟨q, hq⟩ : ∃ q, q = cls n := ⟨_, rfl⟩
        rw [← hq] at cC
        obtain ⟨z, hzz⟩ : ∃ z, z = colI (sl.take k) := ⟨_, rfl⟩
        have HZ := Lib.hid hzz
        have HQ := Lib.hid hq
        rw [← hzz]
        clear hn hall hRw hq hzz
        by_cases q04 : q = 0 ∨ q = 4
        · have HF : Hid (sl.all okS = false) := Lib.hid (all_no HN.out (okS_no (by rw [← HQ.out]; exact .inr q04)))
          rcases q04 with rfl | rfl
          all_goals
            go_wp2_with (go_at_call 78; (with_reducible refine (cC _).mono ?_); rintro e w' ⟨rfl, rfl⟩)
            (try rw [Exit.noGoto_ret])
            go_ret
            exact ⟨ret_bool (by rw [HF.out, Bool.and_false]), HRW.out.1⟩
        · have q0 : (q == 0) = false := by rw [beq_eq_false_iff_ne]; omega
          have q4 : (q == 4) = false := by rw [beq_eq_false_iff_ne]; omega
          have HQ4 := Lib.hid q04
          clear q04
          go_wp2_with (go_at_call 78; (with_reducible refine (cC _).mono ?_); rintro e w' ⟨rfl, rfl⟩)
          clear hcx
          go_loopg [9] 9 (fun g s9 wx => RiJ w gI sl n g s9 wx)
          case atStart => exact ⟨0, rfl, rfl, badN_zero n, HRW.out⟩
          case round =>
            obtain ⟨j, hjg, rfl, hb, hRx⟩ := hrel
            have hcx := hRx.2 k n HN.out
            have HRX := Lib.hid hRx
            clear hRx
            obtain rfl | rfl | rfl | rfl | rfl | rfl | rfl | rfl | rfl | rfl : j = 0 ∨ j = 1 ∨ j = 2 ∨ j = 3 ∨ j = 4 ∨ j = 5 ∨ j = 6 ∨ j = 7 ∨ j = 8 ∨ j = 9 := by omega
            · have ej : (((⟨#[60, 62, 34, 123, 125, 124, 94, 96, 92]⟩ : ByteArray)[0]'(by decide)).toNat) = 60 := rfl
              by_cases hx : n = 60
              · have hxb : (n == 60) = true := by rw [beq_iff_eq]; exact hx
                have HF : Hid (sl.all okS = false) := Lib.hid (all_no HN.out (okS_no (by rw [hx]; decide)))
                clear hx hb hjg
                go_wp2
                go_quiet (fail)
                go_wp2
                (try rw [Exit.noGoto_ret])
                go_ret
                exact ⟨ret_bool (by rw [HF.out, Bool.and_false]), below_dq HRX.out.1 _⟩
              · have hxb : (n == 60) = false := by rw [beq_eq_false_iff_ne]; exact hx
                have hm : 8 < gk := by omega
                have HS : Hid (badN n ((0 : Nat) + 1 : Int)) := Lib.hid (badN_step 0 hb (by omega) hx)
                clear hx hb hjg
                go_wp2
                go_quiet (fail)
                go_wp2
                go_roundg 8
                case measure => exact hm
                case rel => exact ⟨1, rfl, rfl, HS.out, HRX.out.drewN _⟩
            · have ej : (((⟨#[60, 62, 34, 123, 125, 124, 94, 96, 92]⟩ : ByteArray)[1]'(by decide)).toNat) = 62 := rfl
              by_cases hx : n = 62
              · have hxb : (n == 62) = true := by rw [beq_iff_eq]; exact hx
                have HF : Hid (sl.all okS = false) := Lib.hid (all_no HN.out (okS_no (by rw [hx]; decide)))
                clear hx hb hjg
                go_wp2
                go_quiet (fail)
                go_wp2
                (try rw [Exit.noGoto_ret])
                go_ret
                exact ⟨ret_bool (by rw [HF.out, Bool.and_false]), below_dq HRX.out.1 _⟩
              · have hxb : (n == 62) = false := by rw [beq_eq_false_iff_ne]; exact hx
                have hm : 7 < gk := by omega
                have HS : Hid (badN n ((1 : Nat) + 1 : Int)) := Lib.hid (badN_step 1 hb (by omega) hx)
                clear hx hb hjg
                go_wp2
                go_quiet (fail)
                go_wp2
                go_roundg 7
                case measure => exact hm
                case rel => exact ⟨2, rfl, rfl, HS.out, HRX.out.drewN _⟩
            · have ej : (((⟨#[60, 62, 34, 123, 125, 124, 94, 96, 92]⟩ : ByteArray)[2]'(by decide)).toNat) = 34 := rfl
              by_cases hx : n = 34
              · have hxb : (n == 34) = true := by rw [beq_iff_eq]; exact hx
                have HF : Hid (sl.all okS = false) := Lib.hid (all_no HN.out (okS_no (by rw [hx]; decide)))
                clear hx hb hjg
                go_wp2
                go_quiet (fail)
                go_wp2
                (try rw [Exit.noGoto_ret])
                go_ret
                exact ⟨ret_bool (by rw [HF.out, Bool.and_false]), below_dq HRX.out.1 _⟩
              · have hxb : (n == 34) = false := by rw [beq_eq_false_iff_ne]; exact hx
                have hm : 6 < gk := by omega
                have HS : Hid (badN n ((2 : Nat) + 1 : Int)) := Lib.hid (badN_step 2 hb (by omega) hx)
                clear hx hb hjg
                go_wp2
                go_quiet (fail)
                go_wp2
                go_roundg 6
                case measure => exact hm
                case rel => exact ⟨3, rfl, rfl, HS.out, HRX.out.drewN _⟩
            · have ej : (((⟨#[60, 62, 34, 123, 125, 124, 94, 96, 92]⟩ : ByteArray)[3]'(by decide)).toNat) = 123 := rfl
              by_cases hx : n = 123
              · have hxb : (n == 123) = true := by rw [beq_iff_eq]; exact hx
                have HF : Hid (sl.all okS = false) := Lib.hid (all_no HN.out (okS_no (by rw [hx]; decide)))
                clear hx hb hjg
                go_wp2
                go_quiet (fail)
                go_wp2
                (try rw [Exit.noGoto_ret])
                go_ret
                exact ⟨ret_bool (by rw [HF.out, Bool.and_false]), below_dq HRX.out.1 _⟩
              · have hxb : (n == 123) = false := by rw [beq_eq_false_iff_ne]; exact hx
                have hm : 5 < gk := by omega
                have HS : Hid (badN n ((3 : Nat) + 1 : Int)) := Lib.hid (badN_step 3 hb (by omega) hx)
                clear hx hb hjg
                go_wp2
                go_quiet (fail)
                go_wp2
                go_roundg 5
                case measure => exact hm
                case rel => exact ⟨4, rfl, rfl, HS.out, HRX.out.drewN _⟩
            · have ej : (((⟨#[60, 62, 34, 123, 125, 124, 94, 96, 92]⟩ : ByteArray)[4]'(by decide)).toNat) = 125 := rfl
              by_cases hx : n = 125
              · have hxb : (n == 125) = true := by rw [beq_iff_eq]; exact hx
                have HF : Hid (sl.all okS = false) := Lib.hid (all_no HN.out (okS_no (by rw [hx]; decide)))
                clear hx hb hjg
                go_wp2
                go_quiet (fail)
                go_wp2
                (try rw [Exit.noGoto_ret])
                go_ret
                exact ⟨ret_bool (by rw [HF.out, Bool.and_false]), below_dq HRX.out.1 _⟩
              · have hxb : (n == 125) = false := by rw [beq_eq_false_iff_ne]; exact hx
                have hm : 4 < gk := by omega
                have HS : Hid (badN n ((4 : Nat) + 1 : Int)) := Lib.hid (badN_step 4 hb (by omega) hx)
                clear hx hb hjg
                go_wp2
                go_quiet (fail)
                go_wp2
                go_roundg 4
                case measure => exact hm
                case rel => exact ⟨5, rfl, rfl, HS.out, HRX.out.drewN _⟩
            · have ej : (((⟨#[60, 62, 34, 123, 125, 124, 94, 96, 92]⟩ : ByteArray)[5]'(by decide)).toNat) = 124 := rfl
              by_cases hx : n = 124
              · have hxb : (n == 124) = true := by rw [beq_iff_eq]; exact hx
                have HF : Hid (sl.all okS = false) := Lib.hid (all_no HN.out (okS_no (by rw [hx]; decide)))
                clear hx hb hjg
                go_wp2
                go_quiet (fail)
                go_wp2
                (try rw [Exit.noGoto_ret])
                go_ret
                exact ⟨ret_bool (by rw [HF.out, Bool.and_false]), below_dq HRX.out.1 _⟩
              · have hxb : (n == 124) = false := by rw [beq_eq_false_iff_ne]; exact hx
                have hm : 3 < gk := by omega
                have HS : Hid (badN n ((5 : Nat) + 1 : Int)) := Lib.hid (badN_step 5 hb (by omega) hx)
                clear hx hb hjg
                go_wp2
                go_quiet (fail)
                go_wp2
                go_roundg 3
                case measure => exact hm
                case rel => exact ⟨6, rfl, rfl, HS.out, HRX.out.drewN _⟩
            · have ej : (((⟨#[60, 62, 34, 123, 125, 124, 94, 96, 92]⟩ : ByteArray)[6]'(by decide)).toNat) = 94 := rfl
              by_cases hx : n = 94
              · have hxb : (n == 94) = true := by rw [beq_iff_eq]; exact hx
                have HF : Hid (sl.all okS = false) := Lib.hid (all_no HN.out (okS_no (by rw [hx]; decide)))
                clear hx hb hjg
                go_wp2
                go_quiet (fail)
                go_wp2
                (try rw [Exit.noGoto_ret])
                go_ret
                exact ⟨ret_bool (by rw [HF.out, Bool.and_false]), below_dq HRX.out.1 _⟩
              · have hxb : (n == 94) = false := by rw [beq_eq_false_iff_ne]; exact hx
                have hm : 2 < gk := by omega
                have HS : Hid (badN n ((6 : Nat) + 1 : Int)) := Lib.hid (badN_step 6 hb (by omega) hx)
                clear hx hb hjg
                go_wp2
                go_quiet (fail)
                go_wp2
                go_roundg 2
                case measure => exact hm
                case rel => exact ⟨7, rfl, rfl, HS.out, HRX.out.drewN _⟩
            · have ej : (((⟨#[60, 62, 34, 123, 125, 124, 94, 96, 92]⟩ : ByteArray)[7]'(by decide)).toNat) = 96 := rfl
              by_cases hx : n = 96
              · have hxb : (n == 96) = true := by rw [beq_iff_eq]; exact hx
                have HF : Hid (sl.all okS = false) := Lib.hid (all_no HN.out (okS_no (by rw [hx]; decide)))
                clear hx hb hjg
                go_wp2
                go_quiet (fail)
                go_wp2
                (try rw [Exit.noGoto_ret])
                go_ret
                exact ⟨ret_bool (by rw [HF.out, Bool.and_false]), below_dq HRX.out.1 _⟩
              · have hxb : (n == 96) = false := by rw [beq_eq_false_iff_ne]; exact hx
                have hm : 1 < gk := by omega
                have HS : Hid (badN n ((7 : Nat) + 1 : Int)) := Lib.hid (badN_step 7 hb (by omega) hx)
                clear hx hb hjg
                go_wp2
                go_quiet (fail)
                go_wp2
                go_roundg 1
                case measure => exact hm
                case rel => exact ⟨8, rfl, rfl, HS.out, HRX.out.drewN _⟩
            · have ej : (((⟨#[60, 62, 34, 123, 125, 124, 94, 96, 92]⟩ : ByteArray)[8]'(by decide)).toNat) = 92 := rfl
              by_cases hx : n = 92
              · have hxb : (n == 92) = true := by rw [beq_iff_eq]; exact hx
                have HF : Hid (sl.all okS = false) := Lib.hid (all_no HN.out (okS_no (by rw [hx]; decide)))
                clear hx hb hjg
                go_wp2
                go_quiet (fail)
                go_wp2
                (try rw [Exit.noGoto_ret])
                go_ret
                exact ⟨ret_bool (by rw [HF.out, Bool.and_false]), below_dq HRX.out.1 _⟩
              · have hxb : (n == 92) = false := by rw [beq_eq_false_iff_ne]; exact hx
                have hm : 0 < gk := by omega
                have HS : Hid (badN n ((8 : Nat) + 1 : Int)) := Lib.hid (badN_step 8 hb (by omega) hx)
                clear hx hb hjg
                go_wp2
                go_quiet (fail)
                go_wp2
                go_roundg 0
                case measure => exact hm
                case rel => exact ⟨9, rfl, rfl, HS.out, HRX.out.drewN _⟩
            · have HS : Hid (okS n = true) := Lib.hid (by
                unfold okS
                rw [decide_eq_true_eq]
                rw [HQ.out] at HQ4
                have := HQ4.out
                exact ⟨badN_nine n hb, fun e => this (.inl e), fun e => this (.inr e)⟩)
              have HA := Lib.hid (take_all HN.out HS.out HALL.out)
              have HC := Lib.hid (take_col HN.out)
              have hcx' := HRX.out.2 k n HN.out
              have HZ2 := HZ.out
              rw [← HZ2] at HC
              clear HZ2 hb hjg
              by_cases h58 : n = 58 ∧ z < 0
              · have g1 : (n == 58) = true := by rw [beq_iff_eq]; exact h58.1
                have g2 : z < 0 := h58.2
                have HE : Hid (colI (sl.take (k + 1)) = (k : Int)) := Lib.hid (by rw [HC.out, if_pos h58])
                clear h58
                go_wp2
                go_roundg g
                case measure => omega
                case rel => exact ⟨k + 1, by omega, by go_num, by rw [HE.out], HA.out, HRX.out⟩
              · have HE : Hid (colI (sl.take (k + 1)) = z) := Lib.hid (by rw [HC.out, if_neg h58])
                by_cases h5 : n = 58
                · have g1 : (n == 58) = true := by rw [beq_iff_eq]; exact h5
                  have g2 : ¬ z < 0 := fun e => h58 ⟨h5, e⟩
                  clear h58 h5
                  go_wp2
                  go_roundg g
                  case measure => omega
                  case rel => exact ⟨k + 1, by omega, by go_num, by rw [HE.out], HA.out, HRX.out⟩
                · have g1 : (n == 58) = false := by rw [beq_eq_false_iff_ne]; exact h5
                  clear h58 h5
                  go_wp2
                  go_roundg g
                  case measure => omega
                  case rel => exact ⟨k + 1, by omega, by go_num, by rw [HE.out], HA.out, HRX.out⟩
end Go.Proofs.YtjalhcbomjgkoaaGreatDoor

/-
  THE ORDER OF TEXTS, three by three.
-/
namespace Go.Proofs.YtjalhcbomjgkoaaGreatDoor
open Go.RowKit
set_option linter.unusedVariables false

/-- The first that is not alike tells the order. -/
def ord3 (a b c a' b' c' : ByteArray) : Int := orT (ordS a a') (orT (ordS b b') (ordS c c'))
theorem orT_no {x y : Int} (h : x ≠ 0) : orT x y = x := if_neg h
theorem orT_yes {x y : Int} (h : x = 0) : orT x y = y := if_pos h
end Go.Proofs.YtjalhcbomjgkoaaGreatDoor

/-
  WHETHER TWO TERMS ARE THE SAME; how they are in the order.
-/
namespace Go.Proofs.YtjalhcbomjgkoaaGreatDoor
open Go.RowKit
set_option linter.unusedVariables false

/-- The world behind the first of two, its fields at hand. -/
def Sx (w : World) (g : Nat) (k : Int) (a b c : ByteArray) (W : World) : Prop := Below w.heap.size w W ∧ Fb W g 92 #[.int .i64 k, .string a, .string b, .string c]
theorem Sx.drew {w : World} {g : Nat} {k : Int} {a b c : ByteArray} {W : World} (h : Sx w g k a b c W) : Sx w g k a b c W.drew := ⟨Below.drew h.1, h.2⟩
theorem Sx.below {w : World} {g : Nat} {k : Int} {a b c : ByteArray} {W W' : World} (h : Sx w g k a b c W) (hb : Below W.heap.size W W') : Sx w g k a b c W' := ⟨h.1.trans (hb.mono h.1.size), h.2.below hb⟩
theorem Sx.all {w : World} {g : Nat} {k : Int} {a b c : ByteArray} {W : World} (h : Sx w g k a b c W) :
    W.cell? ⟨g, 0, none⟩ = some (.int .i64 k) ∧ W.cell? ⟨g, 1, none⟩ = some (.string a) ∧ W.cell? ⟨g, 2, none⟩ = some (.string b) ∧ W.cell? ⟨g, 3, none⟩ = some (.string c) ∧ Sx w g k a b c W :=
  ⟨h.2.cell 0, h.2.cell 1, h.2.cell 2, h.2.cell 3, h⟩
theorem Sx.mk {w w1 : World} (hb : Below w.heap.size w w1) (k : Int) (a b c : ByteArray) : Sx w w1.heap.size k a b c (w1.alloc (.cells #[.int .i64 k, .string a, .string b, .string c] 92)) := ⟨hb.alloc hb.size _, Fb.new _ _ _⟩
/-- The same term? -/
def same4 (k : Int) (a b c : ByteArray) (k' : Int) (a' b' c' : ByteArray) : Bool := (k != 3) && ((k == k') && ((a.toList == a'.toList) && ((b.toList == b'.toList) && (c.toList == c'.toList))))
def sameB (x y : Tm) : Bool := same4 x.kind x.ta x.tb x.tc y.kind y.ta y.tb y.tc
theorem infoStr : ∃ i, Tryz.prog.info? 9 = some i := Option.isSome_iff_exists.1 (by kernel_rfl)
theorem eqArr (a b c a' b' c' : ByteArray) (w : World) : (Op.equalIn 9999 90 (.agg #[.string a, .string b, .string c]) (.agg #[.string a', .string b', .string c'])).run Tryz.prog w =
    .ok ((a.toList == a'.toList) && ((b.toList == b'.toList) && (c.toList == c'.toList))) w := by
  obtain ⟨i, hi⟩ := infoStr
  have hs : Tryz.prog.cellsOf 9 = 1 := by kernel_rfl
  have hu : Tryz.prog.underlying 90 = some (.array 3 9) := by kernel_rfl
  rw [run_equalIn_array (w := w) 9998 _ _ hu hi, hs]
  simp only [show List.range 3 = [0, 1, 2] by decide, Op.eqItems]
  go_simp
  by_cases h1 : a.toList = a'.toList <;> by_cases h2 : b.toList = b'.toList <;> by_cases h3 : c.toList = c'.toList <;> simp [h1, h2, h3]
theorem eql4 (k : Int) (a b c : ByteArray) (k' : Int) (a' b' c' : ByteArray) (w : World) :
    (binOp .eql 92 (F4 k a b c) (F4 k' a' b' c')).run Tryz.prog w = .ok (.bool ((k == k') && ((a.toList == a'.toList) && ((b.toList == b'.toList) && (c.toList == c'.toList))))) w := by
  have hA := eqArr a b c a' b' c'
  go_simp
  by_cases hk : k = k'
  · rw [if_pos hk]
    by_cases h1 : a.toList = a'.toList <;> by_cases h2 : b.toList = b'.toList <;> by_cases h3 : c.toList = c'.toList <;> simp [hk, h1, h2, h3]
  · rw [if_neg hk]
    simp [hk]
/-- The fields of a term. -/
theorem fieldsOf_b (t : Tm) (g : Nat) (k : Int) (a b c : ByteArray) (w W : World) (hS : Sx w g k a b c W) :
    Calls Tryz.prog 45 #[t.val] W fun e w' => e = .returned (F4 t.kind t.ta t.tb t.tc) ∧ Sx w g k a b c w' := (fieldsOf_any t W).mono fun _ _ ⟨p, q⟩ => ⟨p, hS.below q⟩
set_option maxRecDepth 100000 in
set_option maxHeartbeats 4000000 in
theorem same_any (x y : Tm) (w : World) : Calls Tryz.prog 37 #[x.val, y.val] w fun e w' => e = .returned (.bool (sameB x y)) ∧ Below w.heap.size w w' := by
  have cx := fieldsOf_any x
  have cy := fieldsOf_b y
  have hE := eql4
  unfold sameB
  obtain ⟨r, hr⟩ : ∃ r, r = same4 x.kind x.ta x.tb x.tc y.kind y.ta y.tb y.tc := ⟨_, rfl⟩
  rw [← hr]
  unfold same4 at hr
  obtain ⟨k, hk⟩ : ∃ k, k = x.kind := ⟨_, rfl⟩
  obtain ⟨a, ha⟩ : ∃ k, k = x.ta := ⟨_, rfl⟩
  obtain ⟨b, hb⟩ : ∃ k, k = x.tb := ⟨_, rfl⟩
  obtain ⟨c, hc⟩ : ∃ k, k = x.tc := ⟨_, rfl⟩
  obtain ⟨k', hk'⟩ : ∃ k, k = y.kind := ⟨_, rfl⟩
  obtain ⟨a', ha'⟩ : ∃ k, k = y.ta := ⟨_, rfl⟩
  obtain ⟨b', hb'⟩ : ∃ k, k = y.tb := ⟨_, rfl⟩
  obtain ⟨c', hc'⟩ : ∃ k, k = y.tc := ⟨_, rfl⟩
  obtain ⟨vx, hvx⟩ : ∃ k, k = x.val := ⟨_, rfl⟩
  obtain ⟨vy, hvy⟩ : ∃ k, k = y.val := ⟨_, rfl⟩
  rw [← hk, ← ha, ← hb, ← hc, ← hvx] at cx
  rw [← hk', ← ha', ← hb', ← hc', ← hvy] at cy
  rw [← hk, ← ha, ← hb, ← hc, ← hk', ← ha', ← hb', ← hc'] at hr
  rw [← hvx, ← hvy]
  clear hk ha hb hc hk' ha' hb' hc' hvx hvy
  cases h3 : (k != 3)
  · rw [h3, Bool.false_and] at hr
    subst hr
    go_enter Tryz.func37, Tryz.ntmps37
    go_wp2_with (go_at_call 45; (with_reducible refine (cx _).mono ?_); rintro e w1 ⟨rfl, hb1⟩)
    have hB := Lib.hid ((Sx.mk hb1 k a b c).1)
    clear hb1 hE
    go_quiet (fail)
    go_wp2
    go_ret
    exact ⟨rfl, ⟨hB.out.os, hB.out.tape, hB.out.output, hB.out.size, hB.out.block⟩⟩
  · rw [h3, Bool.true_and] at hr
    have HR := Lib.hid hr
    clear hr
    go_enter Tryz.func37, Tryz.ntmps37
    go_wp2_with (go_at_call 45; (with_reducible refine (cx _).mono ?_); rintro e w1 ⟨rfl, hb1⟩)
    have hS := Sx.mk hb1 k a b c
    clear hb1
    first
      | (go_region_held (fun W => W.cell? ⟨w1.heap.size, 0, none⟩ = some (.int .i64 k) ∧ W.cell? ⟨w1.heap.size, 1, none⟩ = some (.string a) ∧ W.cell? ⟨w1.heap.size, 2, none⟩ = some (.string b) ∧ W.cell? ⟨w1.heap.size, 3, none⟩ = some (.string c) ∧ Sx w w1.heap.size k a b c W)
          (first | exact Sx.all (by assumption) | exact Sx.all (Sx.drew (by assumption)))
          (first | (go_at_call 45; (with_reducible refine (cy _ _ _ _ _ _ _ (by first | assumption | exact Sx.drew (by assumption))).mono ?_); rintro e w2 ⟨rfl, hS2⟩)))
      | fail
    have HB := Lib.hid hS2.1
    clear hS2 hS
    go_wp2
    go_ret
    exact ⟨ret_bT HR.out.symm, HB.out⟩
end Go.Proofs.YtjalhcbomjgkoaaGreatDoor

/-
  TRUTHS IN MEMORY; value.Of.
-/
namespace Go.Proofs.YtjalhcbomjgkoaaGreatDoor
open Go.RowKit
set_option linter.unusedVariables false

theorem ret_u8 {a b : Int} (h : a = b) : Ending.returned (.int .u8 a) = .returned (.int .u8 b) := by rw [h]
theorem drop_get {l : List Int} {j : Nat} {x : Int} (h : l[j]? = some x) : l.drop j = x :: l.drop (j + 1) := by
  have hj := (List.getElem?_eq_some_iff.1 h).1
  rw [List.drop_eq_getElem_cons hj, (List.getElem?_eq_some_iff.1 h).2]
theorem of_any (b : Bool) (w : World) : Calls Tryz.prog 47 #[.bool b] w fun e w' => e = .returned (.int .u8 (if b then 1 else 0)) ∧ w = w' := by
  cases b
  all_goals
    go_enter Tryz.func47, Tryz.ntmps47
    go_wp2
    go_ret
    exact ⟨rfl, rfl⟩
end Go.Proofs.YtjalhcbomjgkoaaGreatDoor

/-
  NUMBERS AS DECIMAL DIGITS, the lowest first: plain.
-/
namespace Go.Proofs.YtjalhcbomjgkoaaGreatDoor

/-- The value of digits. -/
def val : List Int → Int
  | [] => 0
  | d :: l => d + 10 * val l
/-- Each is a digit. -/
def Dig (l : List Int) : Prop := ∀ d ∈ l, 0 ≤ d ∧ d ≤ 9
/-- None is below 0. -/
def Non (l : List Int) : Prop := ∀ d ∈ l, 0 ≤ d
/-- The digits of a number, none of them a nought ahead. -/
def digs (n : Nat) : List Int := if n = 0 then [] else ((n % 10 : Nat) : Int) :: digs (n / 10)
termination_by n
decreasing_by omega
theorem digs_zero : digs 0 = [] := by unfold digs; rfl
theorem digs_pos {n : Nat} (h : 0 < n) : digs n = ((n % 10 : Nat) : Int) :: digs (n / 10) := by rw [digs, if_neg (by omega)]
theorem digs_nil {n : Nat} : digs n = [] ↔ n = 0 := by
  constructor
  · intro h
    by_cases hn : n = 0
    · exact hn
    · rw [digs_pos (by omega)] at h; cases h
  · rintro rfl; exact digs_zero

theorem Dig.tail {d : Int} {l : List Int} (h : Dig (d :: l)) : Dig l := fun x hx => h x (List.mem_cons_of_mem _ hx)
theorem Dig.head {d : Int} {l : List Int} (h : Dig (d :: l)) : 0 ≤ d ∧ d ≤ 9 := h d (List.mem_cons_self ..)
theorem Dig.cons {d : Int} {l : List Int} (h0 : 0 ≤ d) (h9 : d ≤ 9) (h : Dig l) : Dig (d :: l) := by
  intro x hx
  rcases List.mem_cons.1 hx with rfl | hx
  · exact ⟨h0, h9⟩
  · exact h x hx
theorem dig_nil : Dig [] := fun _ h => by cases h
theorem Dig.append {a b : List Int} (h : Dig a) (k : Dig b) : Dig (a ++ b) := by
  intro x hx
  rcases List.mem_append.1 hx with hx | hx
  · exact h x hx
  · exact k x hx
theorem Dig.snoc {a : List Int} {d : Int} (h : Dig a) (h0 : 0 ≤ d) (h9 : d ≤ 9) : Dig (a ++ [d]) := h.append (Dig.cons h0 h9 dig_nil)
theorem Dig.drop {a : List Int} (h : Dig a) (k : Nat) : Dig (a.drop k) := fun x hx => h x (List.mem_of_mem_drop hx)
theorem Dig.take {a : List Int} (h : Dig a) (k : Nat) : Dig (a.take k) := fun x hx => h x (List.mem_of_mem_take hx)
theorem Dig.at {a : List Int} (h : Dig a) {j : Nat} {x : Int} (hx : a[j]? = some x) : 0 ≤ x ∧ x ≤ 9 := h x (List.mem_of_getElem? hx)
theorem Dig.non {a : List Int} (h : Dig a) : Non a := fun x hx => (h x hx).1

theorem val_append : ∀ (a b : List Int), val (a ++ b) = val a + 10 ^ a.length * val b
  | [], b => by simp [val]
  | d :: a, b => by
    have := val_append a b
    simp only [List.cons_append, val, this, List.length_cons, Int.pow_succ]
    rw [Int.mul_add, Int.add_assoc]
    congr 2
    rw [← Int.mul_assoc, Int.mul_comm 10]
theorem val_snoc (a : List Int) (d : Int) : val (a ++ [d]) = val a + 10 ^ a.length * d := by rw [val_append]; simp [val]
theorem non_val : ∀ {l : List Int}, Non l → 0 ≤ val l
  | [], _ => by simp [val]
  | d :: l, h => by
    have h1 := non_val (l := l) (fun x hx => h x (List.mem_cons_of_mem _ hx))
    have h2 := h d (List.mem_cons_self ..)
    simp only [val]; omega
theorem pow_pos10 (n : Nat) : (0 : Int) < 10 ^ n := Int.pow_pos (by decide)
theorem dig_val : ∀ {l : List Int}, Dig l → 0 ≤ val l ∧ val l < 10 ^ l.length
  | [], _ => by simp [val]
  | d :: l, h => by
    have h1 := dig_val h.tail
    have h2 := h.head
    simp only [val, List.length_cons, Int.pow_succ]
    omega
theorem drop_step {l : List Int} {j : Nat} {x : Int} (h : l[j]? = some x) : val (l.drop j) = x + 10 * val (l.drop (j + 1)) := by
  have hj := (List.getElem?_eq_some_iff.1 h).1
  rw [List.drop_eq_getElem_cons hj, (List.getElem?_eq_some_iff.1 h).2]; rfl
theorem drop_end {l : List Int} {j : Nat} (h : l.length ≤ j) : val (l.drop j) = 0 := by rw [List.drop_eq_nil_of_le h]; rfl

theorem digs_dig (n : Nat) : Dig (digs n) := by
  induction n using Nat.strongRecOn with
  | _ n ih =>
    by_cases hn : n = 0
    · subst hn; rw [digs_zero]; exact dig_nil
    · rw [digs_pos (by omega)]
      exact Dig.cons (by omega) (by omega) (ih _ (by omega))
theorem digs_val (n : Nat) : val (digs n) = n := by
  induction n using Nat.strongRecOn with
  | _ n ih =>
    by_cases hn : n = 0
    · subst hn; rw [digs_zero]; rfl
    · rw [digs_pos (by omega), val, ih _ (by omega)]; omega
theorem digs_inj {m n : Nat} (h : digs m = digs n) : m = n := by
  have := digs_val m
  rw [h, digs_val] at this
  omega
/-- Digits without a nought ahead are those of their value. -/
theorem digs_of : ∀ {l : List Int}, Dig l → (∀ a, l ≠ a ++ [0]) → l = digs (val l).toNat
  | [], _, _ => by simp [val, digs_zero]
  | d :: l, h, hz => by
    have h1 := dig_val h.tail
    have h2 := h.head
    have hpos : 0 < val (d :: l) := by
      by_cases hl : l = []
      · subst hl
        have : d ≠ 0 := fun e => hz [] (by rw [e]; rfl)
        simp only [val]; omega
      · have ih := digs_of h.tail (fun a e => hz (d :: a) (by rw [e]; rfl))
        have : 0 < val l := by
          rcases Int.lt_or_eq_of_le h1.1 with h | h
          · exact h
          · rw [← h] at ih; simp [digs_zero] at ih; exact absurd ih hl
        simp only [val]; omega
    have ih := digs_of h.tail (fun a e => hz (d :: a) (by rw [e]; rfl))
    rw [digs_pos (by omega)]
    have e1 : (((val (d :: l)).toNat % 10 : Nat) : Int) = d := by simp only [val] at *; omega
    have e2 : (val (d :: l)).toNat / 10 = (val l).toNat := by simp only [val] at *; omega
    rw [e1, e2, ← ih]
theorem digs_top {n : Nat} {a : List Int} (h : digs n = a ++ [0]) : False := by
  induction n using Nat.strongRecOn generalizing a with
  | _ n ih =>
    by_cases hn : n = 0
    · subst hn; rw [digs_zero] at h; exact absurd h (by simp)
    · rw [digs_pos (by omega)] at h
      match a with
      | [] =>
        simp at h
        have := digs_nil.1 h.2
        omega
      | x :: a =>
        simp at h
        exact ih _ (by omega) h.2
theorem digs_len {n k : Nat} (h : n < 10 ^ k) : (digs n).length ≤ k := by
  induction k generalizing n with
  | zero => simp at h; subst h; simp [digs_zero]
  | succ k ih =>
    by_cases hn : n = 0
    · subst hn; simp [digs_zero]
    · rw [digs_pos (by omega), List.length_cons]
      have := ih (n := n / 10) (by rw [Nat.pow_succ] at h; omega)
      omega
theorem digs_low {n : Nat} (h : 0 < n) : (10 : Int) ^ ((digs n).length - 1) ≤ n := by
  induction n using Nat.strongRecOn with
  | _ n ih =>
    rw [digs_pos h]
    by_cases hn : n / 10 = 0
    · rw [hn, digs_zero]; simp; omega
    · have := ih (n / 10) (by omega) (by omega)
      have hl : 0 < (digs (n / 10)).length := by
        rw [digs_pos (by omega)]; simp
      rw [List.length_cons, show (digs (n / 10)).length + 1 - 1 = ((digs (n / 10)).length - 1) + 1 by omega, Int.pow_succ]
      omega

/-- How two are, of the same length, from the highest on. -/
def cmpL : List Int → List Int → Int
  | x :: a, y :: b => if cmpL a b ≠ 0 then cmpL a b else if x < y then -1 else if y < x then 1 else 0
  | _, _ => 0
theorem cmpL_drop : ∀ (k : Nat) (a b : List Int), a.length = b.length → cmpL (a.drop k) (b.drop k) ≠ 0 → cmpL a b = cmpL (a.drop k) (b.drop k)
  | 0, _, _, _, _ => rfl
  | k + 1, [], [], _, h => by simp [cmpL] at h
  | k + 1, x :: a, y :: b, hl, h => by
    simp only [List.drop_succ_cons] at h ⊢
    have := cmpL_drop k a b (by simpa using hl) h
    rw [cmpL, if_pos (by rw [this]; exact h), this]
  | k + 1, [], _ :: _, hl, _ => by simp at hl
  | k + 1, _ :: _, [], hl, _ => by simp at hl
theorem cmpL_step {a b : List Int} {k : Nat} {x y : Int} (hx : a[k]? = some x) (hy : b[k]? = some y) (h : cmpL (a.drop (k + 1)) (b.drop (k + 1)) = 0) :
    cmpL (a.drop k) (b.drop k) = if x < y then -1 else if y < x then 1 else 0 := by
  have hj := (List.getElem?_eq_some_iff.1 hx).1
  have hj2 := (List.getElem?_eq_some_iff.1 hy).1
  rw [List.drop_eq_getElem_cons hj, (List.getElem?_eq_some_iff.1 hx).2, List.drop_eq_getElem_cons hj2, (List.getElem?_eq_some_iff.1 hy).2, cmpL, if_neg (by simp [h])]
theorem cmpL_val : ∀ (a b : List Int), a.length = b.length → Dig a → Dig b → cmpL a b = if val a < val b then -1 else if val b < val a then 1 else 0
  | [], [], _, _, _ => by simp [cmpL]
  | x :: a, y :: b, hl, ha, hb => by
    have ih := cmpL_val a b (by simpa using hl) ha.tail hb.tail
    have h1 := ha.head
    have h2 := hb.head
    have e1 : val (x :: a) = x + 10 * val a := rfl
    have e2 : val (y :: b) = y + 10 * val b := rfl
    unfold cmpL
    by_cases h : val a < val b
    · rw [if_pos h] at ih
      rw [ih, if_pos (by decide), if_pos (by omega)]
    · by_cases k : val b < val a
      · rw [if_neg h, if_pos k] at ih
        rw [ih, if_pos (by decide), if_neg (by omega), if_pos (by omega)]
      · rw [if_neg h, if_neg k] at ih
        rw [ih, if_neg (by decide)]
        by_cases p : x < y
        · rw [if_pos p, if_pos (by omega)]
        · by_cases q : y < x
          · rw [if_neg p, if_pos q, if_neg (by omega), if_pos (by omega)]
          · rw [if_neg p, if_neg q, if_neg (by omega), if_neg (by omega)]
  | [], _ :: _, hl, _, _ => by simp at hl
  | _ :: _, [], hl, _, _ => by simp at hl
/-- How two sizes are. -/
def szL (a b : List Int) : Int := if a.length < b.length then -1 else if b.length < a.length then 1 else cmpL a b
theorem szL_digs (m n : Nat) : szL (digs m) (digs n) = if m < n then -1 else if n < m then 1 else 0 := by
  unfold szL
  have key : ∀ p q : Nat, (digs p).length < (digs q).length → p < q := by
    intro p q h
    have h1 := (dig_val (digs_dig p)).2
    rw [digs_val] at h1
    have hq : 0 < q := by
      rcases Nat.eq_zero_or_pos q with h0 | h0
      · subst h0; rw [digs_zero] at h; simp at h
      · exact h0
    have h2 := digs_low hq
    have h3 : (10 : Int) ^ (digs p).length ≤ 10 ^ ((digs q).length - 1) := by
      have : ((10 ^ (digs p).length : Nat) : Int) ≤ ((10 ^ ((digs q).length - 1) : Nat) : Int) := by
        exact_mod_cast Nat.pow_le_pow_right (by decide) (by omega)
      simpa using this
    omega
  by_cases h : (digs m).length < (digs n).length
  · rw [if_pos h, if_pos (key _ _ h)]
  · by_cases k : (digs n).length < (digs m).length
    · have := key _ _ k
      rw [if_neg h, if_pos k, if_neg (by omega), if_pos this]
    · rw [if_neg h, if_neg k, cmpL_val _ _ (by omega) (digs_dig m) (digs_dig n), digs_val, digs_val]
      split <;> split <;> (try split) <;> (try split) <;> omega
end Go.Proofs.YtjalhcbomjgkoaaGreatDoor

/-
  TEXTS OF INTEGERS, plain: what strconv reads and writes, and what the document does.
-/
namespace Go.Proofs.YtjalhcbomjgkoaaGreatDoor

/-- A decimal digit's byte. -/
def isD (c : UInt8) : Bool := decide (48 ≤ c.toNat ∧ c.toNat ≤ 57)
/-- The number of decimal digits behind acc. -/
def dval (acc : Nat) (l : List UInt8) : Nat := l.foldl (fun a c => a * 10 + (c.toNat - 48)) acc
theorem dval_nil (acc : Nat) : dval acc [] = acc := by unfold dval; rw [List.foldl_nil]
theorem dval_cons (acc : Nat) (c : UInt8) (l : List UInt8) : dval acc (c :: l) = dval (acc * 10 + (c.toNat - 48)) l := by unfold dval; rw [List.foldl_cons]
theorem dval_snoc (acc : Nat) (c : UInt8) (l : List UInt8) : dval acc (l ++ [c]) = dval acc l * 10 + (c.toNat - 48) := by unfold dval; simp
theorem dval_ge : ∀ (l : List UInt8) (acc : Nat), acc ≤ dval acc l
  | [], acc => by rw [dval_nil]; exact Nat.le_refl _
  | c :: l, acc => by rw [dval_cons]; have := dval_ge l (acc * 10 + (c.toNat - 48)); omega
theorem uintM_eq : ∀ (l : List UInt8) (acc : Nat), l.all isD = true → acc ≤ 18446744073709551615 →
    Lib.parseUintM 18446744073709551615 acc l = if dval acc l ≤ 18446744073709551615 then .ok (dval acc l) else .range
  | [], acc, _, ha => by unfold Lib.parseUintM; rw [dval_nil, if_pos ha]
  | c :: l, acc, hl, ha => by
    simp only [List.all_cons, Bool.and_eq_true] at hl
    have hc : 48 ≤ c.toNat ∧ c.toNat ≤ 57 := of_decide_eq_true hl.1
    have hg := dval_ge l (acc * 10 + (c.toNat - 48))
    unfold Lib.parseUintM
    rw [if_pos hc, dval_cons]
    by_cases h1 : 1844674407370955162 ≤ acc
    · rw [if_pos h1, if_neg (by omega)]
    · by_cases h2 : 18446744073709551615 < acc * 10 + (c.toNat - 48)
      · rw [if_neg h1, if_pos h2, if_neg (by omega)]
      · rw [if_neg h1, if_neg h2, uintM_eq l _ hl.2 (by omega)]
/-- What stands behind a sign. -/
def body : List UInt8 → List UInt8
  | [] => []
  | c :: r => if c.toNat = 43 ∨ c.toNat = 45 then r else c :: r
/-- Is it a text of an integer? -/
def isNum (l : List UInt8) : Bool := !(body l).isEmpty && (body l).all isD
/-- Is it below 0? -/
def neg (l : List UInt8) : Bool := decide (l.head?.map (·.toNat) = some 45)
/-- Its number. -/
def numZ (l : List UInt8) : Int := if neg l then -(dval 0 (body l) : Int) else dval 0 (body l)
theorem parse_ok (l : List UInt8) (h : isNum l = true) (h0 : -9223372036854775808 ≤ numZ l) (h1 : numZ l ≤ 9223372036854775807) : Lib.parseIntB 64 l = .ok (numZ l) := by
  unfold isNum at h
  rw [Bool.and_eq_true] at h
  match l with
  | [] => simp [body] at h
  | c :: r =>
    have hne : body (c :: r) ≠ [] := by intro e; rw [e] at h; simp at h
    have hu : Lib.parseUintB 64 (body (c :: r)) = if dval 0 (body (c :: r)) ≤ 18446744073709551615 then .ok (dval 0 (body (c :: r))) else .range := by
      unfold Lib.parseUintB
      rw [if_neg hne]
      exact uintM_eq _ 0 h.2 (by omega)
    have hb : (if c.toNat = 43 ∨ c.toNat = 45 then r else c :: r) = body (c :: r) := rfl
    unfold Lib.parseIntB
    simp only [hb]
    rw [hu]
    unfold numZ neg at *
    simp only [List.head?_cons, Option.map_some, Option.some.injEq] at *
    by_cases hc : c.toNat = 45
    · simp only [hc, decide_true, if_true] at *
      rw [if_pos (by omega)]
      simp only [not_true, false_and, if_false, true_and]
      rw [if_neg (by omega)]
    · simp only [hc, decide_false, if_false, Bool.false_eq_true] at *
      rw [if_pos (by omega)]
      simp only [not_false_eq_true, true_and, false_and, if_false]
      rw [if_neg (by omega)]
theorem parse_range (l : List UInt8) (h : isNum l = true) (h0 : ¬ (-9223372036854775808 ≤ numZ l ∧ numZ l ≤ 9223372036854775807)) : Lib.parseIntB 64 l = .range := by
  unfold isNum at h
  rw [Bool.and_eq_true] at h
  match l with
  | [] => simp [body] at h
  | c :: r =>
    have hne : body (c :: r) ≠ [] := by intro e; rw [e] at h; simp at h
    have hu : Lib.parseUintB 64 (body (c :: r)) = if dval 0 (body (c :: r)) ≤ 18446744073709551615 then .ok (dval 0 (body (c :: r))) else .range := by
      unfold Lib.parseUintB
      rw [if_neg hne]
      exact uintM_eq _ 0 h.2 (by omega)
    have hb : (if c.toNat = 43 ∨ c.toNat = 45 then r else c :: r) = body (c :: r) := rfl
    unfold Lib.parseIntB
    simp only [hb]
    rw [hu]
    unfold numZ neg at *
    simp only [List.head?_cons, Option.map_some, Option.some.injEq] at *
    by_cases hm : dval 0 (body (c :: r)) ≤ 18446744073709551615
    · rw [if_pos hm]
      by_cases hc : c.toNat = 45
      · simp only [hc, decide_true, if_true] at *
        simp only [not_true, false_and, if_false, true_and]
        rw [if_pos (by omega)]
      · simp only [hc, decide_false, if_false, Bool.false_eq_true] at *
        simp only [not_false_eq_true, true_and]
        rw [if_pos (by omega)]
    · rw [if_neg hm]

/-- The decimal digits' bytes of digits, the lowest first. -/
def chars (l : List Int) : List UInt8 := l.reverse.map fun d => UInt8.ofNat (48 + d.toNat)
theorem chars_digs : ∀ n : Nat, 0 < n → Lib.decDigits n = chars (digs n) := by
  intro n
  induction n using Nat.strongRecOn with
  | _ n ih =>
    intro hn
    rw [Lib.decDigits, digs_pos hn]
    by_cases h : n < 10
    · rw [dif_pos h, show n / 10 = 0 by omega, digs_zero]
      simp only [chars, List.reverse_cons, List.reverse_nil, List.nil_append, List.map_cons, List.map_nil, Int.toNat_natCast]
      rw [show n % 10 = n by omega]
    · rw [dif_neg h, ih _ (by omega) (by omega)]
      simp only [chars, List.reverse_cons, List.map_append, List.map_cons, List.map_nil, Int.toNat_natCast]
/-- The text of an integer. -/
def textZ (z : Int) : List UInt8 := if z = 0 then [48] else (if z < 0 then [45] else []) ++ chars (digs z.natAbs)
theorem itoa_text (z : Int) : Lib.itoa z = textZ z := by
  unfold Lib.itoa textZ
  by_cases h0 : z = 0
  · subst h0; rw [if_neg (by decide), if_pos rfl]; show Lib.decDigits 0 = _; rw [Lib.decDigits_one (by decide)]; rfl
  · rw [if_neg h0]
    by_cases h : z < 0
    · rw [if_pos h, if_pos h, chars_digs _ (by omega)]; rfl
    · rw [if_neg h, if_neg h, show z.toNat = z.natAbs by omega, chars_digs _ (by omega)]; rfl
/-- The digits of bytes, the lowest first. -/
def digsOf (l : List UInt8) : List Int := l.reverse.map fun c => ((c.toNat - 48 : Nat) : Int)
theorem digsOf_dig {l : List UInt8} (h : l.all isD = true) : Dig (digsOf l) := by
  intro d hd
  simp only [digsOf, List.mem_map, List.mem_reverse] at hd
  obtain ⟨c, hc, rfl⟩ := hd
  have : 48 ≤ c.toNat ∧ c.toNat ≤ 57 := of_decide_eq_true (List.all_eq_true.1 h c hc)
  omega
theorem digsOf_snoc (l : List UInt8) (c : UInt8) : digsOf (l ++ [c]) = ((c.toNat - 48 : Nat) : Int) :: digsOf l := by simp [digsOf]
theorem digsOf_val (l : List UInt8) : val (digsOf l) = dval 0 l := by
  obtain ⟨n, hn⟩ : ∃ n, n = l.length := ⟨_, rfl⟩
  induction n generalizing l with
  | zero =>
    obtain rfl : l = [] := List.length_eq_zero_iff.1 hn.symm
    rw [dval_nil]; rfl
  | succ n ih =>
    obtain ⟨a, c, rfl⟩ : ∃ a c, l = a ++ [c] := ⟨l.dropLast, l.getLast (by intro e; rw [e] at hn; simp at hn), (List.dropLast_concat_getLast _).symm⟩
    rw [digsOf_snoc, dval_snoc, val, ih a (by simp at hn; omega)]; omega
theorem chars_all {l : List Int} (h : Dig l) : (chars l).all isD = true := by
  rw [List.all_eq_true]
  intro c hc
  simp only [chars, List.mem_map, List.mem_reverse] at hc
  obtain ⟨d, hd, rfl⟩ := hc
  have := h d hd
  unfold isD
  rw [decide_eq_true_eq]
  have : (UInt8.ofNat (48 + d.toNat)).toNat = 48 + d.toNat := by simp; omega
  omega
theorem chars_back {l : List Int} (h : Dig l) : digsOf (chars l) = l := by
  unfold digsOf chars
  simp only [List.map_reverse, List.reverse_reverse, List.map_map]
  conv => rhs; rw [← List.map_id l]
  apply List.map_congr_left
  intro d hd
  have := h d hd
  have e : (UInt8.ofNat (48 + d.toNat)).toNat = 48 + d.toNat := by simp; omega
  simp only [Function.comp, e, id]
  omega
theorem chars_dval {l : List Int} (h : Dig l) : (dval 0 (chars l) : Int) = val l := by rw [← digsOf_val, chars_back h]
/-- Noughts ahead change nothing. -/
theorem dval_zeros (k : Nat) (l : List UInt8) : dval 0 (List.replicate k 48 ++ l) = dval 0 l := by
  induction k with
  | zero => rfl
  | succ k ih => rw [List.replicate_succ, List.cons_append, dval_cons]; exact ih
end Go.Proofs.YtjalhcbomjgkoaaGreatDoor
