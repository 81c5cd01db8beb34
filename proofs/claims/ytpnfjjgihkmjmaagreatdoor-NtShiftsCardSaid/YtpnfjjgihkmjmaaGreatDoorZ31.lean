/-
  MERGED (a claim has at most 60 files): QOver, QPl.
-/
import Derived.Test.YtpnfjjgihkmjmaaGreatDoorZ30
import Derived.Test.YtpnfjjgihkmjmaaGreatDoorZ12
import Derived.Test.YtpnfjjgihkmjmaaGreatDoorZ20
/-
  THE DOCUMENT's gap and over.
-/
namespace Go.Proofs.YtpnfjjgihkmjmaaGreatDoor
open Go.RowKit
set_option linter.unusedVariables false
set_option linter.unusedSimpArgs false

set_option maxRecDepth 100000 in
set_option maxHeartbeats 4000000 in
theorem qgap_any {W : World} {A : Option Addr} {sl : List Int} {cap : Nat} (h : Lv W A sl) (k : Nat) (hk : k ≤ sl.length) (hl : sl.length ≤ 100000) :
    Calls Tryz.prog 41 #[.slice A sl.length cap, .int .i64 k] W fun e w' => e = .returned (.int .i64 (gapP sl k)) ∧ W = w' := by
  obtain ⟨r, hr⟩ : ∃ r, r = gapP sl k := ⟨_, rfl⟩
  rw [← hr]
  have HR := Lib.hid hr
  have HV := Lib.hid h
  have HL := Lib.hid hl
  have HK := Lib.hid hk
  clear hr h hl hk
  go_enter Tryz.func41, Tryz.ntmps41
  go_wp2
  go_loopg [1] (sl.length - k) (fun g s1 wr => ∃ p : Nat, p ≤ sl.length ∧ sl.length - p ≤ g ∧ s1 = .int .i64 p ∧ Hid (r = gapP sl p) ∧ W = wr)
  case atStart => exact ⟨k, HK.out, Nat.le_refl _, rfl, HR, rfl⟩
  case round =>
    obtain ⟨p, hp, hpg, rfl, hR, rfl⟩ := hrel
    have c32 := stands_any (cap := cap) HV.out p 32 (by decide) (by decide) HL.out
    have c9 := stands_any (cap := cap) HV.out p 9 (by decide) (by decide) HL.out
    by_cases h32 : sl[p]? = some 32
    · rw [decide_eq_true h32] at c32
      have hlt := (List.getElem?_eq_some_iff.1 h32).1
      obtain ⟨g, rfl⟩ : ∃ g, gk = g + 1 := ⟨gk - 1, by omega⟩
      have HS : Hid (r = gapP sl (p + 1)) := Lib.hid (by rw [hR.out]; exact while_step gpc sl p 32 h32 (by decide))
      have HP := Lib.hid (show p + 1 ≤ sl.length ∧ sl.length - (p + 1) ≤ g ∧ p < 100000 from ⟨by omega, by omega, by have := HL.out; omega⟩)
      clear h32 hlt c9 hpg hp hR
      go_wp2_with (go_at_call 42; (with_reducible refine c32.mono ?_); rintro e w5 ⟨rfl, rfl⟩)
      go_roundg g
      case measure => exact Nat.lt_succ_self g
      case rel => exact ⟨p + 1, HP.out.1, HP.out.2.1, by have := HP.out.2.2; first | rfl | (rw [IntWalk.wrap64_in _ ⟨by omega, by omega⟩, Int.natCast_succ]), HS, rfl⟩
    · rw [decide_eq_false h32] at c32
      by_cases h9 : sl[p]? = some 9
      · rw [decide_eq_true h9] at c9
        have hlt := (List.getElem?_eq_some_iff.1 h9).1
        obtain ⟨g, rfl⟩ : ∃ g, gk = g + 1 := ⟨gk - 1, by omega⟩
        have HS : Hid (r = gapP sl (p + 1)) := Lib.hid (by rw [hR.out]; exact while_step gpc sl p 9 h9 (by decide))
        have HP := Lib.hid (show p + 1 ≤ sl.length ∧ sl.length - (p + 1) ≤ g ∧ p < 100000 from ⟨by omega, by omega, by have := HL.out; omega⟩)
        clear h32 h9 hlt hpg hp hR
        go_wp2_with (first
          | (go_at_call 42; (with_reducible refine c32.mono ?_); rintro e w5 ⟨rfl, rfl⟩)
          | (go_at_call 42; (with_reducible refine c9.mono ?_); rintro e w6 ⟨rfl, rfl⟩))
        go_roundg g
        case measure => exact Nat.lt_succ_self g
        case rel => exact ⟨p + 1, HP.out.1, HP.out.2.1, by have := HP.out.2.2; first | rfl | (rw [IntWalk.wrap64_in _ ⟨by omega, by omega⟩, Int.natCast_succ]), HS, rfl⟩
      · rw [decide_eq_false h9] at c9
        have HE : Hid (r = p) := Lib.hid (by
          rw [hR.out]
          exact while_stop gpc sl p fun c hc => by
            unfold gpc
            rw [Bool.or_eq_false_iff, beq_eq_false_iff_ne, beq_eq_false_iff_ne]
            exact ⟨fun e => h32 (by rw [hc, e]), fun e => h9 (by rw [hc, e])⟩)
        clear h32 h9 hpg hp hR
        go_wp2_with (first
          | (go_at_call 42; (with_reducible refine c32.mono ?_); rintro e w5 ⟨rfl, rfl⟩)
          | (go_at_call 42; (with_reducible refine c9.mono ?_); rintro e w6 ⟨rfl, rfl⟩))
        go_ret
        exact ⟨by rw [HE.out]; rfl, rfl⟩
def OvPost (W : World) (r : Nat × Bool) (e : Ending) (w' : World) : Prop := e = .returned (.tuple #[.int .i64 r.1, .bool r.2]) ∧ W = w'
theorem ov_end {W : World} {r : Nat × Bool} {p : Nat} {b : Bool} {n : Int} {c : Bool} (h : r = (p, b)) (hp : n = (p : Int) ∧ c = b) : OvPost W r (.returned (.tuple #[.int .i64 n, .bool c])) W := by
  subst h
  exact ⟨by rw [hp.1, hp.2], rfl⟩
set_option maxRecDepth 100000 in
set_option maxHeartbeats 16000000 in
theorem qover_any {W : World} {A : Option Addr} {sl : List Int} {cap : Nat} (h : Lv W A sl) (k : Nat) (hk : k ≤ sl.length) (hl : sl.length ≤ 100000) :
    Calls Tryz.prog 39 #[.slice A sl.length cap, .int .i64 k] W (OvPost W (overP sl k)) := by
  have cG := qgap_any (cap := cap) h k hk hl
  have hq := gapP_le sl k hk
  obtain ⟨r, hr⟩ : ∃ r, r = overP sl k := ⟨_, rfl⟩
  rw [← hr]
  unfold overP at hr
  obtain ⟨q, hqq⟩ : ∃ q, q = gapP sl k := ⟨_, rfl⟩
  rw [← hqq] at cG hq hr
  have cS := stands_any (cap := cap) h q 35 (by decide) (by decide) hl
  have HV := Lib.hid h
  have HL := Lib.hid hl
  by_cases h35 : sl[q]? = some 35
  · have hn : noteP sl q = noteF sl q := by unfold noteP; rw [if_pos h35]
    rw [hn] at hr
    rw [decide_eq_true h35] at cS
    have HR := Lib.hid hr
    have HQ := Lib.hid hq.1
    clear hr hn h35 hqq hq h hl hk
    go_enter Tryz.func39, Tryz.ntmps39
    go_wp2_with (first
      | (go_at_call 41; (with_reducible refine cG.mono ?_); rintro e w1 ⟨rfl, rfl⟩)
      | (go_at_call 42; (with_reducible refine cS.mono ?_); rintro e w2 ⟨rfl, rfl⟩))
    clear cG cS
    go_loopg [6] (sl.length - q) (fun g s6 wr => ∃ p : Nat, p ≤ sl.length ∧ sl.length - p ≤ g ∧ s6 = .int .i64 p ∧ Hid (r = overE sl (noteF sl p)) ∧ W = wr)
    case atStart => exact ⟨q, HQ.out, Nat.le_refl _, rfl, HR, rfl⟩
    case round =>
      obtain ⟨i, hp, hpg, rfl, hR, rfl⟩ := hrel
      by_cases hil : i < sl.length
      · obtain ⟨x, hx⟩ : ∃ x, sl[i]? = some x := ⟨_, List.getElem?_eq_getElem hil⟩
        obtain ⟨gl, ol, rfl, hgl, hcl⟩ := HV.out (by omega)
        have hcx := hcl i x hx
        have hin : (i : Int) < (sl.length : Int) := by omega
        have hi0 : (0 : Int) ≤ (i : Int) := by omega
        by_cases h10 : x = 10
        · subst h10
          have hst : noteF sl i = i := while_stop notN sl i fun c hc => by rw [hx] at hc; cases hc; rfl
          rw [hst] at hR
          clear hpg hst hil hcl
          have hin2 := hin
          have cS13 := stands_any (cap := cap) HV.out i 13 (by decide) (by decide) HL.out
          have cS10 := stands_any (cap := cap) HV.out i 10 (by decide) (by decide) HL.out
          have hi5 : i ≤ 100000 := by have := HL.out; omega
          have hw1 : wrap64 ((i : Int) + 1) = (i : Int) + 1 := IntWalk.wrap64_in _ ⟨by omega, by omega⟩
          have hw2 : wrap64 ((i : Int) + 2) = (i : Int) + 2 := IntWalk.wrap64_in _ ⟨by omega, by omega⟩
          have h10 := hx
          have hlt := (List.getElem?_eq_some_iff.1 h10).1
          have h13 : ¬ sl[i]? = some 13 := by rw [h10]; decide
          rw [decide_eq_false h13] at cS13
          have hE : overE sl i = (i + 1, true) := by
            unfold overE
            rw [if_neg (by omega), if_pos h10]
          rw [decide_eq_true h10] at cS10
          have HE := Lib.hid (hR.out.trans hE)
          clear h13 hlt h10 hE hR hi5 hx
          go_wp2_with (first
            | (go_at_call 42; (with_reducible refine cS13.mono ?_); rintro e w5 ⟨rfl, rfl⟩)
            | (go_at_call 42; (with_reducible refine cS10.mono ?_); rintro e w7 ⟨rfl, rfl⟩))
          go_ret2
          exact ov_end HE.out ⟨by first | rfl | omega, by first | rfl | (simp; done) | (simp; omega)⟩
        · have hb : (x != 10) = true := by simpa using h10
          obtain ⟨g, rfl⟩ : ∃ g, gk = g + 1 := ⟨gk - 1, by omega⟩
          have HS : Hid (r = overE sl (noteF sl (i + 1))) := Lib.hid (by
            rw [hR.out]
            exact congrArg _ (while_step notN sl i x hx (by unfold notN; simpa using h10)))
          have HP := Lib.hid (show i + 1 ≤ sl.length ∧ sl.length - (i + 1) ≤ g ∧ i < 100000 from ⟨by omega, by omega, by have := HL.out; omega⟩)
          clear h10 hpg hp hR hil hx hcl hgl
          go_wp2
          go_roundg g
          case measure => exact Nat.lt_succ_self g
          case rel => exact ⟨i + 1, HP.out.1, HP.out.2.1, by have := HP.out.2.2; first | rfl | (rw [IntWalk.wrap64_in _ ⟨by omega, by omega⟩, Int.natCast_succ]), HS, rfl⟩
      · have hin : ¬ (i : Int) < (sl.length : Int) := by omega
        have hst : noteF sl i = i := while_stop notN sl i fun c hc => by rw [List.getElem?_eq_none (by omega)] at hc; cases hc
        rw [hst] at hR
        clear hpg hst
        have cS13 := stands_any (cap := cap) HV.out i 13 (by decide) (by decide) HL.out
        have cS10 := stands_any (cap := cap) HV.out i 10 (by decide) (by decide) HL.out
        have hi5 : i ≤ 100000 := by have := HL.out; omega
        have hw1 : wrap64 ((i : Int) + 1) = (i : Int) + 1 := IntWalk.wrap64_in _ ⟨by omega, by omega⟩
        have hw2 : wrap64 ((i : Int) + 2) = (i : Int) + 2 := IntWalk.wrap64_in _ ⟨by omega, by omega⟩
        have hl : i = sl.length := by omega
        have h13 : ¬ sl[i]? = some 13 := by rw [List.getElem?_eq_none (by omega)]; simp
        have h10 : ¬ sl[i]? = some 10 := by rw [List.getElem?_eq_none (by omega)]; simp
        rw [decide_eq_false h13] at cS13
        rw [decide_eq_false h10] at cS10
        have hE : overE sl i = (i, true) := by
          unfold overE
          rw [if_pos hl]
        have hlI : (sl.length : Int) ≤ (i : Int) := by omega
        have HE := Lib.hid (hR.out.trans hE)
        clear h13 hl h10 hE hR hi5
        go_wp2_with (first
          | (go_at_call 42; (with_reducible refine cS13.mono ?_); rintro e w5 ⟨rfl, rfl⟩)
          | (go_at_call 42; (with_reducible refine cS10.mono ?_); rintro e w7 ⟨rfl, rfl⟩))
        go_ret2
        exact ov_end HE.out ⟨by first | rfl | omega, by first | rfl | (simp; done) | (simp; omega)⟩
  · have hn : noteP sl q = q := by unfold noteP; rw [if_neg h35]
    rw [hn] at hr
    rw [decide_eq_false h35] at cS
    have hR := Lib.hid hr
    obtain ⟨i, hi⟩ : ∃ i, i = q := ⟨_, rfl⟩
    rw [← hi] at hR cS cG hq
    have hp := hq.1
    clear hr hn h35 hqq hq h hl hk hi
    go_enter Tryz.func39, Tryz.ntmps39
    go_wp2_with (first
      | (go_at_call 41; (with_reducible refine cG.mono ?_); rintro e w1 ⟨rfl, rfl⟩)
      | (go_at_call 42; (with_reducible refine cS.mono ?_); rintro e w2 ⟨rfl, rfl⟩))
    clear cG cS
    have cS13 := stands_any (cap := cap) HV.out i 13 (by decide) (by decide) HL.out
    have cS10 := stands_any (cap := cap) HV.out i 10 (by decide) (by decide) HL.out
    have hi5 : i ≤ 100000 := by have := HL.out; omega
    have hw1 : wrap64 ((i : Int) + 1) = (i : Int) + 1 := IntWalk.wrap64_in _ ⟨by omega, by omega⟩
    have hw2 : wrap64 ((i : Int) + 2) = (i : Int) + 2 := IntWalk.wrap64_in _ ⟨by omega, by omega⟩
    by_cases h13 : sl[i]? = some 13
    · have cN10 := stands_any (cap := cap) HV.out (i + 1) 10 (by decide) (by decide) HL.out
      rw [Int.natCast_succ] at cN10
      have hlt := (List.getElem?_eq_some_iff.1 h13).1
      rw [decide_eq_true h13] at cS13
      by_cases hn : sl[i + 1]? = some 10
      · have hE : overE sl i = (i + 2, true) := by
          unfold overE
          rw [if_neg (by omega), if_neg (by rw [h13]; decide), if_pos ⟨h13, hn⟩]
        rw [decide_eq_true hn] at cN10
        have HE := Lib.hid (hR.out.trans hE)
        clear h13 hlt hn hE cS10 hR hi5
        go_wp2_with (first
          | (go_at_call 42; (with_reducible refine cS13.mono ?_); rintro e w5 ⟨rfl, rfl⟩)
          | (go_at_call 42; (with_reducible refine cN10.mono ?_); rintro e w6 ⟨rfl, rfl⟩))
        go_ret2
        exact ov_end HE.out ⟨by first | rfl | omega, by first | rfl | (simp; done) | (simp; omega)⟩
      · have hE : overE sl i = (i, false) := by
          unfold overE
          rw [if_neg (by omega), if_neg (by rw [h13]; decide), if_neg (fun e => hn e.2)]
        have hs10 : ¬ sl[i]? = some 10 := by rw [h13]; decide
        rw [decide_eq_false hn] at cN10
        rw [decide_eq_false hs10] at cS10
        have hlI : ¬ (sl.length : Int) ≤ (i : Int) := by omega
        have HE := Lib.hid (hR.out.trans hE)
        clear h13 hlt hn hE hs10 hR hi5
        go_wp2_with (first
          | (go_at_call 42; (with_reducible refine cS13.mono ?_); rintro e w5 ⟨rfl, rfl⟩)
          | (go_at_call 42; (with_reducible refine cN10.mono ?_); rintro e w6 ⟨rfl, rfl⟩)
          | (go_at_call 42; (with_reducible refine cS10.mono ?_); rintro e w7 ⟨rfl, rfl⟩))
        go_ret2
        exact ov_end HE.out ⟨by first | rfl | omega, by first | rfl | (simp; done) | (simp; omega)⟩
    by_cases h10 : sl[i]? = some 10
    · clear h13
      have hlt := (List.getElem?_eq_some_iff.1 h10).1
      have h13 : ¬ sl[i]? = some 13 := by rw [h10]; decide
      rw [decide_eq_false h13] at cS13
      have hE : overE sl i = (i + 1, true) := by
        unfold overE
        rw [if_neg (by omega), if_pos h10]
      rw [decide_eq_true h10] at cS10
      have HE := Lib.hid (hR.out.trans hE)
      clear h13 hlt h10 hE hR hi5
      go_wp2_with (first
        | (go_at_call 42; (with_reducible refine cS13.mono ?_); rintro e w5 ⟨rfl, rfl⟩)
        | (go_at_call 42; (with_reducible refine cS10.mono ?_); rintro e w7 ⟨rfl, rfl⟩))
      go_ret2
      exact ov_end HE.out ⟨by first | rfl | omega, by first | rfl | (simp; done) | (simp; omega)⟩
    by_cases hl : i = sl.length
    · clear h13 h10
      have h13 : ¬ sl[i]? = some 13 := by rw [List.getElem?_eq_none (by omega)]; simp
      have h10 : ¬ sl[i]? = some 10 := by rw [List.getElem?_eq_none (by omega)]; simp
      rw [decide_eq_false h13] at cS13
      rw [decide_eq_false h10] at cS10
      have hE : overE sl i = (i, true) := by
        unfold overE
        rw [if_pos hl]
      have hlI : (sl.length : Int) ≤ (i : Int) := by omega
      have HE := Lib.hid (hR.out.trans hE)
      clear h13 hl h10 hE hR hi5
      go_wp2_with (first
        | (go_at_call 42; (with_reducible refine cS13.mono ?_); rintro e w5 ⟨rfl, rfl⟩)
        | (go_at_call 42; (with_reducible refine cS10.mono ?_); rintro e w7 ⟨rfl, rfl⟩))
      go_ret2
      exact ov_end HE.out ⟨by first | rfl | omega, by first | rfl | (simp; done) | (simp; omega)⟩
    rw [decide_eq_false h13] at cS13
    rw [decide_eq_false h10] at cS10
    have hE : overE sl i = (i, false) := by
      unfold overE
      rw [if_neg hl, if_neg h10, if_neg (fun e => h13 e.1)]
    have hlI : ¬ (sl.length : Int) ≤ (i : Int) := by omega
    have HE := Lib.hid (hR.out.trans hE)
    clear h13 hl h10 hE hR hi5
    go_wp2_with (first
      | (go_at_call 42; (with_reducible refine cS13.mono ?_); rintro e w5 ⟨rfl, rfl⟩)
      | (go_at_call 42; (with_reducible refine cS10.mono ?_); rintro e w7 ⟨rfl, rfl⟩))
    go_ret2
    exact ov_end HE.out ⟨by first | rfl | omega, by first | rfl | (simp; done) | (simp; omega)⟩
end Go.Proofs.YtpnfjjgihkmjmaaGreatDoor

/-
  PLAIN LEAN, NO RUN: gaps end where they end; what is no line's end stands behind the gap.
-/
namespace Go.Proofs.YtpnfjjgihkmjmaaGreatDoor
set_option linter.unusedVariables false

theorem while_at (f : Int → Bool) (sl : List Int) : ∀ (n k : Nat), sl.length - k ≤ n → ∀ c, sl[k + ((sl.drop k).takeWhile f).length]? = some c → f c = false
  | n, k, h, c, hc => by
    cases hx : sl[k]? with
    | none =>
      rw [while_stop f sl k (fun d hd => by rw [hx] at hd; cases hd), hx] at hc
      cases hc
    | some d =>
      have hk := (List.getElem?_eq_some_iff.1 hx).1
      cases hf : f d with
      | false =>
        rw [while_stop f sl k (fun e he => by rw [hx] at he; cases he; exact hf), hx] at hc
        cases hc
        exact hf
      | true =>
        rw [while_step f sl k d hx hf] at hc
        match n, h with
        | 0, h => omega
        | n + 1, h => exact while_at f sl n (k + 1) (by omega) c hc
theorem gap_idem (sl : List Int) (k : Nat) : gapP sl (gapP sl k) = gapP sl k :=
  while_stop gpc sl _ fun c hc => while_at gpc sl _ k (Nat.le_refl _) c hc
theorem over_false {sl : List Int} {k : Nat} (hk : k ≤ sl.length) (h : (overP sl k).2 = false) : (overP sl k).1 = gapP sl k := by
  have hq := gapP_le sl k hk
  unfold overP at h ⊢
  obtain ⟨q, hqq⟩ : ∃ q, q = gapP sl k := ⟨_, rfl⟩
  rw [← hqq] at h hq ⊢
  have key : ∀ i, (overE sl i).2 = false → (overE sl i).1 = i ∧ i ≠ sl.length ∧ sl[i]? ≠ some 10 := fun i hi => by
    unfold overE at hi ⊢
    split
    · rename_i e; rw [if_pos e] at hi; cases hi
    rename_i e
    rw [if_neg e] at hi
    split
    · rename_i e2; rw [if_pos e2] at hi; cases hi
    rename_i e2
    rw [if_neg e2] at hi
    split
    · rename_i e3; rw [if_pos e3] at hi; cases hi
    · exact ⟨rfl, e, e2⟩
  obtain ⟨h1, h2, h3⟩ := key _ h
  rw [h1]
  unfold noteP at h2 h3 ⊢
  by_cases hx : sl[q]? = some 35
  · rw [if_pos hx] at h2 h3 ⊢
    exfalso
    have hle := while_le notN sl q hq.1
    unfold noteF at h2 h3
    cases hy : sl[q + ((sl.drop q).takeWhile notN).length]? with
    | none =>
      have := List.getElem?_eq_none_iff.1 hy
      omega
    | some c =>
      have := while_at notN sl _ q (Nat.le_refl _) c hy
      unfold notN at this
      have hc : c = 10 := by simpa using this
      rw [hc] at hy
      exact h3 hy
  · rw [if_neg hx]
theorem readP_ok {sl : List Int} {k : Nat} {t : Tm} (h : (readP sl k).1 = some t) : (readP sl k).2.2 = 0 ∧ goodT t = true := by
  unfold readP at h ⊢
  cases hf : (formP sl k).2 with
  | none => rw [hf] at h; cases h
  | some u =>
    rw [hf] at h
    dsimp only at h ⊢
    by_cases hg : goodT u = true
    · rw [if_pos hg] at h ⊢
      obtain rfl : u = t := by simpa using h
      exact ⟨rfl, hg⟩
    · rw [if_neg hg] at h; cases h
end Go.Proofs.YtpnfjjgihkmjmaaGreatDoor
