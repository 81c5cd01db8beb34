/-
  THE DOCUMENT's 'iri': whether a text is an IRI's.
-/
import Derived.Test.YtaoelnfflkkeeaaGreatDoorTGood
import Derived.Deep.QuietTactic
import Derived.BigQuiet
namespace Go.Proofs.YtaoelnfflkkeeaaGreatDoor
open Go.RowKit
set_option linter.unusedVariables false

theorem ints_openT {B : Nat} {w : World} {v : Value} {l : List Int} (h : Ints B w v l) : ∃ ao cap, v = .slice ao l.length cap ∧
    (0 < l.length → ∃ g, ao = some ⟨g, 0, none⟩ ∧ g < w.heap.size ∧ ∀ (j : Nat) (x : Int), l[j]? = some x → w.cell? ⟨g, j, none⟩ = some (.int .i64 x)) := by
  rcases id h.2 with ⟨hv, h0⟩ | ⟨g, cap, cur, hv, _⟩
  · exact ⟨none, 0, by rw [hv, h0], fun hp => by omega⟩
  · refine ⟨_, cap, hv, fun _ => ⟨g, rfl, (World.ownsRow.lt h g (by rw [hv]; rfl)).2, ?_⟩⟩
    intro j x hx
    subst hv
    have := World.ownsRow.cells h (g := g) rfl j (.int .i64 x) (by simp [intRow, hx])
    rw [show (⟨g, 0, none⟩ : Addr).add j = ⟨g, j, none⟩ by by_cases h : j = 0 <;> simp [Addr.add, h]] at this
    exact this
/-- Where the first colon is, or -1. -/
def colI (l : List Int) : Int := if 58 ∈ l then (l.idxOf 58 : Int) else -1
theorem colI_snoc (l : List Int) (n : Int) : colI (l ++ [n]) = if n = 58 ∧ colI l < 0 then (l.length : Int) else colI l := by
  unfold colI
  by_cases h : 58 ∈ l
  · have h1 : 58 ∈ l ++ [n] := List.mem_append_left _ h
    rw [if_pos h1, if_pos h, List.idxOf_append, if_pos h, if_neg (by omega)]
  · rw [if_neg h]
    by_cases hn : n = 58
    · subst hn
      have h1 : (58 : Int) ∈ l ++ [58] := by simp
      rw [if_pos h1, List.idxOf_append, if_neg h, if_pos ⟨rfl, by omega⟩]
      simp
    · have h1 : (58 : Int) ∉ l ++ [n] := by simp [h, Ne.symm hn]
      rw [if_neg h1, if_neg (fun e => hn e.1)]
theorem colI_pos (l : List Int) : decide (0 < colI l) = colonB l := by
  unfold colI colonB
  match l with
  | [] => decide
  | n :: l =>
    by_cases hn : n = 58
    · subst hn; simp
    · by_cases h : 58 ∈ l
      · have e : (n :: l).idxOf 58 = l.idxOf 58 + 1 := by rw [List.idxOf_cons, beq_eq_false_iff_ne.2 hn]; rfl
        have m : 58 ∈ n :: l := List.mem_cons_of_mem _ h
        rw [if_pos m, e, decide_eq_true (show (0 : Int) < ((l.idxOf 58 + 1 : Nat) : Int) by omega), decide_eq_true ⟨m, by simp [hn]⟩]
      · have m : ¬ 58 ∈ n :: l := by simp [h, Ne.symm hn]
        rw [if_neg m, decide_eq_false (by omega), decide_eq_false (fun e => m e.1)]
def badN (n k : Int) : Prop := (1 ≤ k → n ≠ 60) ∧ (2 ≤ k → n ≠ 62) ∧ (3 ≤ k → n ≠ 34) ∧ (4 ≤ k → n ≠ 123) ∧ (5 ≤ k → n ≠ 125) ∧ (6 ≤ k → n ≠ 124) ∧ (7 ≤ k → n ≠ 94) ∧ (8 ≤ k → n ≠ 96) ∧ (9 ≤ k → n ≠ 92)
theorem badN_zero (n : Int) : badN n 0 := by unfold badN; refine ⟨?_, ?_, ?_, ?_, ?_, ?_, ?_, ?_, ?_⟩ <;> (intro h; omega)
theorem badN_nine (n : Int) (h : badN n 9) : ¬ (n = 60 ∨ n = 62 ∨ n = 34 ∨ n = 123 ∨ n = 125 ∨ n = 124 ∨ n = 94 ∨ n = 96 ∨ n = 92) := by
  unfold badN at h
  rintro (rfl | rfl | rfl | rfl | rfl | rfl | rfl | rfl | rfl)
  · exact h.1 (by decide) rfl
  · exact h.2.1 (by decide) rfl
  · exact h.2.2.1 (by decide) rfl
  · exact h.2.2.2.1 (by decide) rfl
  · exact h.2.2.2.2.1 (by decide) rfl
  · exact h.2.2.2.2.2.1 (by decide) rfl
  · exact h.2.2.2.2.2.2.1 (by decide) rfl
  · exact h.2.2.2.2.2.2.2.1 (by decide) rfl
  · exact h.2.2.2.2.2.2.2.2 (by decide) rfl
theorem badN_step {n : Int} (j : Nat) (h : badN n j) (hj : j < 9) (hn : n ≠ [60, 62, 34, 123, 125, 124, 94, 96, 92].getD j 0) : badN n (j + 1) := by
  unfold badN at *
  obtain ⟨h1, h2, h3, h4, h5, h6, h7, h8, h9⟩ := h
  obtain rfl | rfl | rfl | rfl | rfl | rfl | rfl | rfl | rfl : j = 0 ∨ j = 1 ∨ j = 2 ∨ j = 3 ∨ j = 4 ∨ j = 5 ∨ j = 6 ∨ j = 7 ∨ j = 8 := by omega
  all_goals
    simp at hn
    refine ⟨?_, ?_, ?_, ?_, ?_, ?_, ?_, ?_, ?_⟩ <;> (intro hk; first | exact hn | (first | exact h1 (by omega) | exact h2 (by omega) | exact h3 (by omega) | exact h4 (by omega) | exact h5 (by omega) | exact h6 (by omega) | exact h7 (by omega) | exact h8 (by omega) | exact h9 (by omega)) | (exfalso; omega))
/-- The world in the loops. -/
def Rw (w : World) (gI : Nat) (sl : List Int) (wr : World) : Prop := Below w.heap.size w wr ∧ ∀ (j : Nat) (x : Int), sl[j]? = some x → wr.cell? ⟨gI, j, none⟩ = some (.int .i64 x)
theorem Rw.drewN {w : World} {gI : Nat} {sl : List Int} {wr : World} (h : Rw w gI sl wr) (n : Nat) : Rw w gI sl (wr.drewN n) := ⟨⟨h.1.os, h.1.tape, h.1.output, h.1.size, h.1.block⟩, h.2⟩
def RiI (w : World) (gI : Nat) (sl : List Int) (g : Nat) (s5 s24 : Value) (wr : World) : Prop :=
  ∃ k : Nat, k + g = sl.length ∧ s24 = .int .i64 k ∧ s5 = .int .i64 (colI (sl.take k)) ∧ (sl.take k).all okS = true ∧ Rw w gI sl wr
def RiJ (w : World) (gI : Nat) (sl : List Int) (n : Int) (g : Nat) (s9 : Value) (wr : World) : Prop :=
  ∃ j : Nat, j + g = 9 ∧ s9 = .int .i64 j ∧ badN n j ∧ Rw w gI sl wr
theorem below_dq {B : Nat} {a w : World} (h : Below B a w) (n : Nat) : Below B a (w.drewN n) := ⟨h.os, h.tape, h.output, h.size, h.block⟩
theorem okS_no {n : Int} (h : (n = 60 ∨ n = 62 ∨ n = 34 ∨ n = 123 ∨ n = 125 ∨ n = 124 ∨ n = 94 ∨ n = 96 ∨ n = 92) ∨ cls n = 0 ∨ cls n = 4) : okS n = false := by
  unfold okS
  rw [decide_eq_false_iff_not]
  rintro ⟨a, b, c⟩
  rcases h with h | h | h
  · exact a h
  · exact b h
  · exact c h
theorem all_no {sl : List Int} {k : Nat} {n : Int} (hn : sl[k]? = some n) (h : okS n = false) : sl.all okS = false := by
  rw [List.all_eq_false]
  exact ⟨n, List.mem_of_getElem? hn, by rw [h]; decide⟩
theorem take_all {sl : List Int} {k : Nat} {n : Int} (hn : sl[k]? = some n) (h : okS n = true) (ha : (sl.take k).all okS = true) : (sl.take (k + 1)).all okS = true := by
  rw [List.take_add_one, hn, List.all_append, ha]
  simp [h]
theorem take_col {sl : List Int} {k : Nat} {n : Int} (hn : sl[k]? = some n) : colI (sl.take (k + 1)) = if n = 58 ∧ colI (sl.take k) < 0 then (k : Int) else colI (sl.take k) := by
  have hk := (List.getElem?_eq_some_iff.1 hn).1
  rw [List.take_add_one, hn]
  have := colI_snoc (sl.take k) n
  rw [List.length_take, Nat.min_eq_left (by omega)] at this
  exact this
theorem riri_no (s : ByteArray) (sl : List Int) (rest : List UInt8) (hp : Parts s.data.toList sl rest) (hs : s.size ≤ 4294967296) (h : rest ≠ [] ∨ 4096 < s.size) (w : World) :
    Calls Tryz.prog 26 #[.string s] w fun e w' => e = .returned (.bool false) ∧ Below w.heap.size w w' := by
  have sA : ∀ W, Calls Tryz.prog 27 #[.string s] W (SignsPost W sl (decide (rest = []))) := fun W => signs_any s sl rest hp hs W
  by_cases hr : rest = []
  · have hz : (4096 : Int) < (s.size : Int) := by
      rcases h with h | h
      · exact absurd hr h
      · omega
    rw [decide_eq_true hr] at sA
    clear h hr hp
    go_enter Tryz.func26, Tryz.ntmps26
    go_wp2_with (go_at_call 27; (with_reducible refine (sA _).mono ?_); rintro e w2 ⟨vI, rfl, hI2, hb2⟩)
    go_ret
    exact ⟨rfl, hb2⟩
  · rw [decide_eq_false hr] at sA
    clear h hr hp
    go_enter Tryz.func26, Tryz.ntmps26
    go_wp2_with (go_at_call 27; (with_reducible refine (sA _).mono ?_); rintro e w2 ⟨vI, rfl, hI2, hb2⟩)
    go_ret
    exact ⟨rfl, hb2⟩
set_option maxHeartbeats 8000000 in
set_option maxRecDepth 100000 in
theorem riri_yes (s : ByteArray) (sl : List Int) (hp : Parts s.data.toList sl []) (hs : s.size ≤ 4096) (w : World) :
    Calls Tryz.prog 26 #[.string s] w fun e w' => e = .returned (.bool (colonB sl && sl.all okS)) ∧ Below w.heap.size w w' := by
  have sA : ∀ W, Calls Tryz.prog 27 #[.string s] W (SignsPost W sl true) := fun W => by
    have := signs_any s sl [] hp (by omega) W
    exact this
  have hz : ¬ (4096 : Int) < (s.size : Int) := by omega
  have hlen : sl.length ≤ 4096 := by have := (encL_len sl).1; have := len_of s _ hp.eq; simp at this; omega
  clear hp hs
  by_cases hl0 : sl = []
  · subst hl0
    go_enter Tryz.func26, Tryz.ntmps26
    go_wp2_with (go_at_call 27; (with_reducible refine (sA _).mono ?_); rintro e w2 ⟨vI, rfl, hI2, hb2⟩; obtain ⟨ao, capI, rfl, _⟩ := ints_openT hI2)
    clear hI2
    go_loopg [5, 24] 0 (fun g s5 s24 wr => g = 0 ∧ s24 = .int .i64 0 ∧ s5 = .int .i64 (-1) ∧ w2 = wr)
    case atStart => exact ⟨rfl, rfl, rfl, rfl⟩
    case round =>
      obtain ⟨rfl, rfl, rfl, rfl⟩ := hrel
      go_wp2
      go_ret
      exact ⟨rfl, hb2⟩
  · have hpos : 0 < sl.length := List.length_pos_iff.2 hl0
    have HR : Hid (decide (0 < colI sl) = colonB sl) := Lib.hid (colI_pos sl)
    clear hl0
    go_enter Tryz.func26, Tryz.ntmps26
    go_wp2_with (go_at_call 27; (with_reducible refine (sA _).mono ?_); rintro e w2 ⟨vI, rfl, hI2, hb2⟩; obtain ⟨ao, capI, rfl, hcI⟩ := ints_openT hI2; obtain ⟨gI, rfl, hgI, hcI⟩ := hcI hpos)
    have hR0 : Rw w gI sl w2 := ⟨hb2, hcI⟩
    clear hI2 hb2 hcI hgI
    go_loopg [5, 24] sl.length (fun g s5 s24 wr => RiI w gI sl g s5 s24 wr)
    case atStart => exact ⟨0, by omega, rfl, rfl, by simp, hR0⟩
    case round =>
      clear hR0
      obtain ⟨k, hkg, rfl, rfl, hall, hRw⟩ := hrel
      cases gk with
      | zero =>
        have hk : k = sl.length := by omega
        subst hk
        rw [List.take_length] at hall
        obtain ⟨z, hzz⟩ : ∃ z, z = colI (sl.take sl.length) := ⟨_, rfl⟩
        have HZ : Hid (decide (0 < z) = (colonB sl && sl.all okS)) := Lib.hid (by rw [hzz, List.take_length, HR.out, hall, Bool.and_true])
        have HB := Lib.hid hRw.1
        rw [← hzz]
        clear hall hRw hkg hzz
        go_wp2
        go_ret
        exact ⟨ret_bool (by rw [← HZ.out]), HB.out⟩
      | succ g =>
        have hk : k < sl.length := by omega
        obtain ⟨n, hn⟩ : ∃ n, sl[k]? = some n := ⟨_, List.getElem?_eq_getElem hk⟩
        have hcx := hRw.2 k n hn
        have cC := refClass_any n
        have k1 : (0 : Int) ≤ (k : Int) := by omega
        have k2 : (k : Int) < (sl.length : Int) := by omega
        have HN := Lib.hid hn
        have HALL := Lib.hid hall
        have HRW := Lib.hid hRw
        obtain ⟨q, hq⟩ : ∃ q, q = cls n := ⟨_, rfl⟩
        rw [← hq] at cC
        obtain ⟨z, hzz⟩ : ∃ z, z = colI (sl.take k) := ⟨_, rfl⟩
        have HZ := Lib.hid hzz
        have HQ := Lib.hid hq
        rw [← hzz]
        clear hn hall hRw hq hzz
        by_cases q04 : q = 0 ∨ q = 4
        · have HF : Hid (sl.all okS = false) := Lib.hid (all_no HN.out (okS_no (by rw [← HQ.out]; exact .inr q04)))
          rcases q04 with rfl | rfl
          all_goals
            go_wp2_with (go_at_call 43; (with_reducible refine (cC _).mono ?_); rintro e w' ⟨rfl, rfl⟩)
            (try rw [Exit.noGoto_ret])
            go_ret
            exact ⟨ret_bool (by rw [HF.out, Bool.and_false]), HRW.out.1⟩
        · have q0 : (q == 0) = false := by rw [beq_eq_false_iff_ne]; omega
          have q4 : (q == 4) = false := by rw [beq_eq_false_iff_ne]; omega
          have HQ4 := Lib.hid q04
          clear q04
          go_wp2_with (go_at_call 43; (with_reducible refine (cC _).mono ?_); rintro e w' ⟨rfl, rfl⟩)
          clear hcx
          go_loopg [9] 9 (fun g s9 wx => RiJ w gI sl n g s9 wx)
          case atStart => exact ⟨0, rfl, rfl, badN_zero n, HRW.out⟩
          case round =>
            obtain ⟨j, hjg, rfl, hb, hRx⟩ := hrel
            have hcx := hRx.2 k n HN.out
            have HRX := Lib.hid hRx
            clear hRx
            obtain rfl | rfl | rfl | rfl | rfl | rfl | rfl | rfl | rfl | rfl : j = 0 ∨ j = 1 ∨ j = 2 ∨ j = 3 ∨ j = 4 ∨ j = 5 ∨ j = 6 ∨ j = 7 ∨ j = 8 ∨ j = 9 := by omega
            · have ej : (((⟨#[60, 62, 34, 123, 125, 124, 94, 96, 92]⟩ : ByteArray)[0]'(by decide)).toNat) = 60 := rfl
              by_cases hx : n = 60
              · have hxb : (n == 60) = true := by rw [beq_iff_eq]; exact hx
                have HF : Hid (sl.all okS = false) := Lib.hid (all_no HN.out (okS_no (by rw [hx]; decide)))
                clear hx hb hjg
                go_wp2
                go_quiet (fail)
                go_wp2
                (try rw [Exit.noGoto_ret])
                go_ret
                exact ⟨ret_bool (by rw [HF.out, Bool.and_false]), below_dq HRX.out.1 _⟩
              · have hxb : (n == 60) = false := by rw [beq_eq_false_iff_ne]; exact hx
                have hm : 8 < gk := by omega
                have HS : Hid (badN n ((0 : Nat) + 1 : Int)) := Lib.hid (badN_step 0 hb (by omega) hx)
                clear hx hb hjg
                go_wp2
                go_quiet (fail)
                go_wp2
                go_roundg 8
                case measure => exact hm
                case rel => exact ⟨1, rfl, rfl, HS.out, HRX.out.drewN _⟩
            · have ej : (((⟨#[60, 62, 34, 123, 125, 124, 94, 96, 92]⟩ : ByteArray)[1]'(by decide)).toNat) = 62 := rfl
              by_cases hx : n = 62
              · have hxb : (n == 62) = true := by rw [beq_iff_eq]; exact hx
                have HF : Hid (sl.all okS = false) := Lib.hid (all_no HN.out (okS_no (by rw [hx]; decide)))
                clear hx hb hjg
                go_wp2
                go_quiet (fail)
                go_wp2
                (try rw [Exit.noGoto_ret])
                go_ret
                exact ⟨ret_bool (by rw [HF.out, Bool.and_false]), below_dq HRX.out.1 _⟩
              · have hxb : (n == 62) = false := by rw [beq_eq_false_iff_ne]; exact hx
                have hm : 7 < gk := by omega
                have HS : Hid (badN n ((1 : Nat) + 1 : Int)) := Lib.hid (badN_step 1 hb (by omega) hx)
                clear hx hb hjg
                go_wp2
                go_quiet (fail)
                go_wp2
                go_roundg 7
                case measure => exact hm
                case rel => exact ⟨2, rfl, rfl, HS.out, HRX.out.drewN _⟩
            · have ej : (((⟨#[60, 62, 34, 123, 125, 124, 94, 96, 92]⟩ : ByteArray)[2]'(by decide)).toNat) = 34 := rfl
              by_cases hx : n = 34
              · have hxb : (n == 34) = true := by rw [beq_iff_eq]; exact hx
                have HF : Hid (sl.all okS = false) := Lib.hid (all_no HN.out (okS_no (by rw [hx]; decide)))
                clear hx hb hjg
                go_wp2
                go_quiet (fail)
                go_wp2
                (try rw [Exit.noGoto_ret])
                go_ret
                exact ⟨ret_bool (by rw [HF.out, Bool.and_false]), below_dq HRX.out.1 _⟩
              · have hxb : (n == 34) = false := by rw [beq_eq_false_iff_ne]; exact hx
                have hm : 6 < gk := by omega
                have HS : Hid (badN n ((2 : Nat) + 1 : Int)) := Lib.hid (badN_step 2 hb (by omega) hx)
                clear hx hb hjg
                go_wp2
                go_quiet (fail)
                go_wp2
                go_roundg 6
                case measure => exact hm
                case rel => exact ⟨3, rfl, rfl, HS.out, HRX.out.drewN _⟩
            · have ej : (((⟨#[60, 62, 34, 123, 125, 124, 94, 96, 92]⟩ : ByteArray)[3]'(by decide)).toNat) = 123 := rfl
              by_cases hx : n = 123
              · have hxb : (n == 123) = true := by rw [beq_iff_eq]; exact hx
                have HF : Hid (sl.all okS = false) := Lib.hid (all_no HN.out (okS_no (by rw [hx]; decide)))
                clear hx hb hjg
                go_wp2
                go_quiet (fail)
                go_wp2
                (try rw [Exit.noGoto_ret])
                go_ret
                exact ⟨ret_bool (by rw [HF.out, Bool.and_false]), below_dq HRX.out.1 _⟩
              · have hxb : (n == 123) = false := by rw [beq_eq_false_iff_ne]; exact hx
                have hm : 5 < gk := by omega
                have HS : Hid (badN n ((3 : Nat) + 1 : Int)) := Lib.hid (badN_step 3 hb (by omega) hx)
                clear hx hb hjg
                go_wp2
                go_quiet (fail)
                go_wp2
                go_roundg 5
                case measure => exact hm
                case rel => exact ⟨4, rfl, rfl, HS.out, HRX.out.drewN _⟩
            · have ej : (((⟨#[60, 62, 34, 123, 125, 124, 94, 96, 92]⟩ : ByteArray)[4]'(by decide)).toNat) = 125 := rfl
              by_cases hx : n = 125
              · have hxb : (n == 125) = true := by rw [beq_iff_eq]; exact hx
                have HF : Hid (sl.all okS = false) := Lib.hid (all_no HN.out (okS_no (by rw [hx]; decide)))
                clear hx hb hjg
                go_wp2
                go_quiet (fail)
                go_wp2
                (try rw [Exit.noGoto_ret])
                go_ret
                exact ⟨ret_bool (by rw [HF.out, Bool.and_false]), below_dq HRX.out.1 _⟩
              · have hxb : (n == 125) = false := by rw [beq_eq_false_iff_ne]; exact hx
                have hm : 4 < gk := by omega
                have HS : Hid (badN n ((4 : Nat) + 1 : Int)) := Lib.hid (badN_step 4 hb (by omega) hx)
                clear hx hb hjg
                go_wp2
                go_quiet (fail)
                go_wp2
                go_roundg 4
                case measure => exact hm
                case rel => exact ⟨5, rfl, rfl, HS.out, HRX.out.drewN _⟩
            · have ej : (((⟨#[60, 62, 34, 123, 125, 124, 94, 96, 92]⟩ : ByteArray)[5]'(by decide)).toNat) = 124 := rfl
              by_cases hx : n = 124
              · have hxb : (n == 124) = true := by rw [beq_iff_eq]; exact hx
                have HF : Hid (sl.all okS = false) := Lib.hid (all_no HN.out (okS_no (by rw [hx]; decide)))
                clear hx hb hjg
                go_wp2
                go_quiet (fail)
                go_wp2
                (try rw [Exit.noGoto_ret])
                go_ret
                exact ⟨ret_bool (by rw [HF.out, Bool.and_false]), below_dq HRX.out.1 _⟩
              · have hxb : (n == 124) = false := by rw [beq_eq_false_iff_ne]; exact hx
                have hm : 3 < gk := by omega
                have HS : Hid (badN n ((5 : Nat) + 1 : Int)) := Lib.hid (badN_step 5 hb (by omega) hx)
                clear hx hb hjg
                go_wp2
                go_quiet (fail)
                go_wp2
                go_roundg 3
                case measure => exact hm
                case rel => exact ⟨6, rfl, rfl, HS.out, HRX.out.drewN _⟩
            · have ej : (((⟨#[60, 62, 34, 123, 125, 124, 94, 96, 92]⟩ : ByteArray)[6]'(by decide)).toNat) = 94 := rfl
              by_cases hx : n = 94
              · have hxb : (n == 94) = true := by rw [beq_iff_eq]; exact hx
                have HF : Hid (sl.all okS = false) := Lib.hid (all_no HN.out (okS_no (by rw [hx]; decide)))
                clear hx hb hjg
                go_wp2
                go_quiet (fail)
                go_wp2
                (try rw [Exit.noGoto_ret])
                go_ret
                exact ⟨ret_bool (by rw [HF.out, Bool.and_false]), below_dq HRX.out.1 _⟩
              · have hxb : (n == 94) = false := by rw [beq_eq_false_iff_ne]; exact hx
                have hm : 2 < gk := by omega
                have HS : Hid (badN n ((6 : Nat) + 1 : Int)) := Lib.hid (badN_step 6 hb (by omega) hx)
                clear hx hb hjg
                go_wp2
                go_quiet (fail)
                go_wp2
                go_roundg 2
                case measure => exact hm
                case rel => exact ⟨7, rfl, rfl, HS.out, HRX.out.drewN _⟩
            · have ej : (((⟨#[60, 62, 34, 123, 125, 124, 94, 96, 92]⟩ : ByteArray)[7]'(by decide)).toNat) = 96 := rfl
              by_cases hx : n = 96
              · have hxb : (n == 96) = true := by rw [beq_iff_eq]; exact hx
                have HF : Hid (sl.all okS = false) := Lib.hid (all_no HN.out (okS_no (by rw [hx]; decide)))
                clear hx hb hjg
                go_wp2
                go_quiet (fail)
                go_wp2
                (try rw [Exit.noGoto_ret])
                go_ret
                exact ⟨ret_bool (by rw [HF.out, Bool.and_false]), below_dq HRX.out.1 _⟩
              · have hxb : (n == 96) = false := by rw [beq_eq_false_iff_ne]; exact hx
                have hm : 1 < gk := by omega
                have HS : Hid (badN n ((7 : Nat) + 1 : Int)) := Lib.hid (badN_step 7 hb (by omega) hx)
                clear hx hb hjg
                go_wp2
                go_quiet (fail)
                go_wp2
                go_roundg 1
                case measure => exact hm
                case rel => exact ⟨8, rfl, rfl, HS.out, HRX.out.drewN _⟩
            · have ej : (((⟨#[60, 62, 34, 123, 125, 124, 94, 96, 92]⟩ : ByteArray)[8]'(by decide)).toNat) = 92 := rfl
              by_cases hx : n = 92
              · have hxb : (n == 92) = true := by rw [beq_iff_eq]; exact hx
                have HF : Hid (sl.all okS = false) := Lib.hid (all_no HN.out (okS_no (by rw [hx]; decide)))
                clear hx hb hjg
                go_wp2
                go_quiet (fail)
                go_wp2
                (try rw [Exit.noGoto_ret])
                go_ret
                exact ⟨ret_bool (by rw [HF.out, Bool.and_false]), below_dq HRX.out.1 _⟩
              · have hxb : (n == 92) = false := by rw [beq_eq_false_iff_ne]; exact hx
                have hm : 0 < gk := by omega
                have HS : Hid (badN n ((8 : Nat) + 1 : Int)) := Lib.hid (badN_step 8 hb (by omega) hx)
                clear hx hb hjg
                go_wp2
                go_quiet (fail)
                go_wp2
                go_roundg 0
                case measure => exact hm
                case rel => exact ⟨9, rfl, rfl, HS.out, HRX.out.drewN _⟩
            · have HS : Hid (okS n = true) := Lib.hid (by
                unfold okS
                rw [decide_eq_true_eq]
                rw [HQ.out] at HQ4
                have := HQ4.out
                exact ⟨badN_nine n hb, fun e => this (.inl e), fun e => this (.inr e)⟩)
              have HA := Lib.hid (take_all HN.out HS.out HALL.out)
              have HC := Lib.hid (take_col HN.out)
              have hcx' := HRX.out.2 k n HN.out
              have HZ2 := HZ.out
              rw [← HZ2] at HC
              clear HZ2 hb hjg
              by_cases h58 : n = 58 ∧ z < 0
              · have g1 : (n == 58) = true := by rw [beq_iff_eq]; exact h58.1
                have g2 : z < 0 := h58.2
                have HE : Hid (colI (sl.take (k + 1)) = (k : Int)) := Lib.hid (by rw [HC.out, if_pos h58])
                clear h58
                go_wp2
                go_roundg g
                case measure => omega
                case rel => exact ⟨k + 1, by omega, by go_num, by rw [HE.out], HA.out, HRX.out⟩
              · have HE : Hid (colI (sl.take (k + 1)) = z) := Lib.hid (by rw [HC.out, if_neg h58])
                by_cases h5 : n = 58
                · have g1 : (n == 58) = true := by rw [beq_iff_eq]; exact h5
                  have g2 : ¬ z < 0 := fun e => h58 ⟨h5, e⟩
                  clear h58 h5
                  go_wp2
                  go_roundg g
                  case measure => omega
                  case rel => exact ⟨k + 1, by omega, by go_num, by rw [HE.out], HA.out, HRX.out⟩
                · have g1 : (n == 58) = false := by rw [beq_eq_false_iff_ne]; exact h5
                  clear h58 h5
                  go_wp2
                  go_roundg g
                  case measure => omega
                  case rel => exact ⟨k + 1, by omega, by go_num, by rw [HE.out], HA.out, HRX.out⟩
end Go.Proofs.YtaoelnfflkkeeaaGreatDoor
