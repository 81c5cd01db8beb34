/-
  THE INTEGER AND THE TRUTH OF A TERM; what comes with an error is no truth.
-/
import Derived.Test.YtaoelnfflkkeeaaGreatDoorTSame
import Derived.Test.YtaoelnfflkkeeaaGreatDoorVTru
import Derived.Test.YtaoelnfflkkeeaaGreatDoorVStr
namespace Go.Proofs.YtaoelnfflkkeeaaGreatDoor
open Go.RowKit
set_option linter.unusedVariables false

/-- Truths' numbers. -/
def tru (yes : Bool) (code : Int) : Int := if code = 0 then (if yes then 1 else 0) else 2
theorem truthOf_any (yes : Bool) (code : Int) (w : World) : Calls Tryz.prog 30 #[.bool yes, .int .i64 code] w fun e w' => e = .returned (.int .u8 (tru yes code)) ∧ w = w' := by
  have cO := of_any yes
  obtain ⟨x, hx⟩ : ∃ x : Int, x = if yes then 1 else 0 := ⟨_, rfl⟩
  rw [← hx] at cO
  by_cases hc : code = 0
  · have hb : (code != 0) = false := by simpa using hc
    have H : Hid (tru yes code = x) := Lib.hid (by unfold tru; rw [if_pos hc, hx])
    clear hc hx
    go_enter Tryz.func30, Tryz.ntmps30
    go_wp2_with (go_at_call 31; (with_reducible refine (cO _).mono ?_); rintro e w' ⟨rfl, rfl⟩)
    go_ret
    exact ⟨ret_u8 H.out.symm, rfl⟩
  · have hb : (code != 0) = true := by simpa using hc
    have H : Hid (tru yes code = 2) := Lib.hid (by unfold tru; rw [if_neg hc])
    clear hc hx cO
    go_enter Tryz.func30, Tryz.ntmps30
    go_wp2
    go_ret
    exact ⟨ret_u8 H.out.symm, rfl⟩
/-- What value.Parse says of a text. -/
def prs (s : ByteArray) : Int × Int := if isNum s.data.toList = true then (if -9223372036854775808 ≤ numZ s.data.toList ∧ numZ s.data.toList ≤ 9223372036854775807 then (numZ s.data.toList, 0) else (0, 9)) else (0, 1)
theorem parse_any (s : ByteArray) (hs : s.size ≤ 1000000) (w : World) (hv : LV w) : Calls Tryz.prog 23 #[.string s] w fun e w' => e = .returned (twoP (prs s).1 (prs s).2) ∧ Below w.heap.size w w' := by
  unfold prs
  cases h : isNum s.data.toList
  · rw [if_neg (by decide)]
    exact vparse_form s hs h w
  · rw [if_pos rfl]
    by_cases hr : -9223372036854775808 ≤ numZ s.data.toList ∧ numZ s.data.toList ≤ 9223372036854775807
    · rw [if_pos hr]
      exact vparse_ok s hs h hr.1 hr.2 w
    · rw [if_neg hr]
      exact vparse_over s hs h hr w hv
/-- What AsInt says of a text of type XInt. -/
def asT (s : ByteArray) : Int × Int := if (prs s).2 = 1 then (0, 3) else prs s
def asI (t : Tm) : Int × Int := if t.isLit = true then (if (t.tb.toList == lI) = true then asT t.la else (0, 10)) else (0, 10)
theorem ret_twT {z z' c c' : Int} (h : z = z') (k : c = c') : Ending.returned (twoP z c) = .returned (twoP z' c') := by rw [h, k]
set_option maxRecDepth 100000 in
set_option maxHeartbeats 4000000 in
theorem asInt_any (t : Tm) (hs : t.la.size ≤ 1000000) (w : World) (hv : LV w) : Calls Tryz.prog 8 #[t.val] w fun e w' => e = .returned (twoP (asI t).1 (asI t).2) ∧ Below w.heap.size w w' := by
  have cA := asLit_any t w
  have cP := parse_any t.la hs
  obtain ⟨r, hr⟩ : ∃ r, r = asI t := ⟨_, rfl⟩
  rw [← hr]
  unfold asI at hr
  obtain ⟨a, ha⟩ : ∃ k, k = t.la := ⟨_, rfl⟩
  obtain ⟨b, hb⟩ : ∃ k, k = t.tb := ⟨_, rfl⟩
  obtain ⟨c, hc⟩ : ∃ k, k = t.tc := ⟨_, rfl⟩
  obtain ⟨ok, hok⟩ : ∃ k, k = t.isLit := ⟨_, rfl⟩
  obtain ⟨v, hvv⟩ : ∃ k, k = t.val := ⟨_, rfl⟩
  rw [← ha, ← hb, ← hc, ← hok, ← hvv] at cA
  rw [← ha] at cP
  rw [← ha, ← hb, ← hok] at hr
  rw [← hvv]
  clear ha hb hc hok hvv hs
  have hLV := Lib.hid hv
  cases ok
  · rw [if_neg (by decide)] at hr
    subst hr
    clear cP hv
    go_enter Tryz.func8, Tryz.ntmps8
    go_wp2_with (go_at_call 22; (with_reducible refine cA.mono ?_); rintro e w1 ⟨rfl, hb1⟩)
    go_ret2
    exact ⟨rfl, hb1.alloc hb1.size _⟩
  · rw [if_pos rfl] at hr
    cases hI : (b.toList == lI)
    · rw [hI, if_neg (by decide)] at hr
      subst hr
      clear cP hv
      go_enter Tryz.func8, Tryz.ntmps8
      go_wp2_with (go_at_call 22; (with_reducible refine cA.mono ?_); rintro e w1 ⟨rfl, hb1⟩)
      go_ret2
      exact ⟨rfl, hb1.alloc hb1.size _⟩
    · rw [hI, if_pos rfl] at hr
      unfold asT at hr
      obtain ⟨z, hz⟩ : ∃ z, z = (prs a).1 := ⟨_, rfl⟩
      obtain ⟨code, hcode⟩ : ∃ z, z = (prs a).2 := ⟨_, rfl⟩
      rw [← hz, ← hcode] at cP
      have hp : prs a = (z, code) := by rw [hz, hcode]
      rw [hp] at hr
      clear hz hcode hp hv
      by_cases h1 : code = 1
      · have h1b : (code == 1) = true := by simpa using h1
        have HR : Hid (r = (0, 3)) := Lib.hid (by rw [hr, if_pos h1])
        clear hr h1
        go_enter Tryz.func8, Tryz.ntmps8
        go_wp2_with (first
          | (go_at_call 22; (with_reducible refine cA.mono ?_); rintro e w1 ⟨rfl, hb1⟩; have hb2 := hb1.alloc hb1.size (.cells #[.string a, .string b, .string c] 53))
          | (go_at_call 23; (with_reducible refine (cP _ (hLV.out.below hb2)).mono ?_); rintro e w3 ⟨rfl, hb3⟩))
        go_ret2
        exact ⟨ret_twT (by rw [HR.out]) (by rw [HR.out]), hb2.trans (hb3.mono hb2.size)⟩
      · have h1b : (code == 1) = false := by simpa using h1
        have HR : Hid (r = (z, code)) := Lib.hid (by rw [hr, if_neg h1])
        clear hr h1
        go_enter Tryz.func8, Tryz.ntmps8
        go_wp2_with (first
          | (go_at_call 22; (with_reducible refine cA.mono ?_); rintro e w1 ⟨rfl, hb1⟩; have hb2 := hb1.alloc hb1.size (.cells #[.string a, .string b, .string c] 53))
          | (go_at_call 23; (with_reducible refine (cP _ (hLV.out.below hb2)).mono ?_); rintro e w3 ⟨rfl, hb3⟩))
        go_ret2
        exact ⟨ret_twT (by rw [HR.out]) (by rw [HR.out]), hb2.trans (hb3.mono hb2.size)⟩
/-- What AsBool says. -/
abbrev oT (x : Bool) (code : Int) : Value := .tuple #[.bool x, .int .i64 code]
abbrev wTrue : List UInt8 := [116, 114, 117, 101]
abbrev wFalse : List UInt8 := [102, 97, 108, 115, 101]
abbrev wOne : List UInt8 := [49]
abbrev wNought : List UInt8 := [48]
def bT (s : ByteArray) : Bool × Int := if (s.toList == wTrue) = true then (true, 0) else if (s.toList == wOne) = true then (true, 0) else if (s.toList == wFalse) = true then (false, 0) else if (s.toList == wNought) = true then (false, 0) else (false, 3)
def asB (t : Tm) : Bool × Int := if t.isLit = true then (if (t.tb.toList == lB) = true then bT t.la else (false, 10)) else (false, 10)
theorem ret_obT {z z' : Bool} {c c' : Int} (h : z = z') (k : c = c') : Ending.returned (oT z c) = .returned (oT z' c') := by rw [h, k]
set_option maxRecDepth 100000 in
set_option maxHeartbeats 4000000 in
theorem asBool_any (t : Tm) (w : World) : Calls Tryz.prog 9 #[t.val] w fun e w' => e = .returned (oT (asB t).1 (asB t).2) ∧ Below w.heap.size w w' := by
  have cA := asLit_any t w
  obtain ⟨r, hr⟩ : ∃ r, r = asB t := ⟨_, rfl⟩
  rw [← hr]
  unfold asB at hr
  obtain ⟨a, ha⟩ : ∃ k, k = t.la := ⟨_, rfl⟩
  obtain ⟨b, hb⟩ : ∃ k, k = t.tb := ⟨_, rfl⟩
  obtain ⟨c, hc⟩ : ∃ k, k = t.tc := ⟨_, rfl⟩
  obtain ⟨ok, hok⟩ : ∃ k, k = t.isLit := ⟨_, rfl⟩
  obtain ⟨v, hvv⟩ : ∃ k, k = t.val := ⟨_, rfl⟩
  rw [← ha, ← hb, ← hc, ← hok, ← hvv] at cA
  rw [← ha, ← hb, ← hok] at hr
  rw [← hvv]
  clear ha hb hc hok hvv
  cases ok
  · rw [if_neg (by decide)] at hr
    subst hr
    go_enter Tryz.func9, Tryz.ntmps9
    go_wp2_with (go_at_call 22; (with_reducible refine cA.mono ?_); rintro e w1 ⟨rfl, hb1⟩)
    go_ret2
    exact ⟨rfl, hb1.alloc hb1.size _⟩
  · rw [if_pos rfl] at hr
    cases hB : (b.toList == lB)
    · rw [hB, if_neg (by decide)] at hr
      subst hr
      go_enter Tryz.func9, Tryz.ntmps9
      go_wp2_with (go_at_call 22; (with_reducible refine cA.mono ?_); rintro e w1 ⟨rfl, hb1⟩)
      go_ret2
      exact ⟨rfl, hb1.alloc hb1.size _⟩
    · rw [hB, if_pos rfl] at hr
      unfold bT at hr
      cases h1 : (a.toList == wTrue) <;> cases h2 : (a.toList == wOne) <;> cases h3 : (a.toList == wFalse) <;> cases h4 : (a.toList == wNought)
      all_goals
        rw [h1, h2, h3, h4] at hr
        simp only [if_true, Bool.false_eq_true, if_false] at hr
        have HR := Lib.hid hr
        clear hr
        go_enter Tryz.func9, Tryz.ntmps9
        go_wp2_with (go_at_call 22; (with_reducible refine cA.mono ?_); rintro e w1 ⟨rfl, hb1⟩)
        go_ret2
        exact ⟨ret_obT (by rw [HR.out]) (by rw [HR.out]), hb1.alloc hb1.size _⟩
end Go.Proofs.YtaoelnfflkkeeaaGreatDoor
