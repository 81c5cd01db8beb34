/-
  MERGED (a claim has at most 60 files): VStr, TAsk, TEqA.
-/
import Derived.Test.YtpnfjjgihkmjmaaGreatDoorZ15
import Derived.Test.YtpnfjjgihkmjmaaGreatDoorZ02
import Derived.Lib.SmallJoins
import Derived.Lib.ItoaLen
import Derived.Lib.AppendIntMem
import Derived.Test.YtpnfjjgihkmjmaaGreatDoorZ14
/-
  'Parse' and 'Text': the program's, by the library's contracts.
-/
namespace Go.Proofs.YtpnfjjgihkmjmaaGreatDoor
open Go.RowKit
set_option linter.unusedVariables false

abbrev twoP (z : Int) (code : Int) : Value := .tuple #[.int .i64 z, .int .i64 code]
theorem var_below {P : Program} {w w' : World} {n : String} {cs : Array Value} (hb : Below w.heap.size w w') (hv : w.var? P n = some cs) : w'.var? P n = some cs := by
  unfold World.var? at hv ⊢
  cases hg : P.globalNamed n with
  | none => rw [hg] at hv; cases hv
  | some g =>
    rw [hg] at hv
    simp only [Option.bind_some] at hv ⊢
    cases hc : w.heap[g]? with
    | none => rw [hc] at hv; cases hv
    | some o =>
      have hlt := (Array.getElem?_eq_some_iff.1 hc).1
      rw [hb.block g hlt]
      exact hv
/-- What the library's variables hold. -/
def LV (w : World) : Prop := Lib.TabIs Tryz.prog w "internal/strconv.uint64pow10" .u64 Lib.pow10Tab ∧ ∃ tp p, w.var? Tryz.prog "strconv.ErrRange" = some #[.iface tp p]
theorem LV.below {w w' : World} (h : LV w) (hb : Below w.heap.size w w') : LV w' := by
  obtain ⟨h1, tp, p, h2⟩ := h
  exact ⟨var_below hb h1, tp, p, var_below hb h2⟩
theorem fit64 {z : Int} (h : -9223372036854775808 ≤ z ∧ z ≤ 9223372036854775807) : (Lit.int .i64 z).wf = true := by
  have h1 : IntKind.i64.min = -9223372036854775808 := rfl
  have h2 : IntKind.i64.max = 9223372036854775807 := rfl
  simp only [Lit.wf, Bool.and_eq_true, decide_eq_true_eq]
  omega
theorem vparse_form (s : ByteArray) (hs : s.size ≤ 1000000) (h : isNum s.data.toList = false) (w : World) : Calls Tryz.prog 53 #[.string s] w fun e w' => e = .returned (twoP 0 1) ∧ Below w.heap.size w w' := by
  have c1 := isnumber_any s hs w
  rw [h] at c1
  clear h hs
  go_enter Tryz.func53, Tryz.ntmps53
  go_wp2_with (go_at_call 82; (with_reducible refine c1.mono ?_); rintro e w1 ⟨rfl, hb1⟩)
  go_ret2
  exact ⟨rfl, hb1⟩
theorem vparse_ok (s : ByteArray) (hs : s.size ≤ 1000000) (h : isNum s.data.toList = true) (h0 : -9223372036854775808 ≤ numZ s.data.toList) (h1 : numZ s.data.toList ≤ 9223372036854775807) (w : World) :
    Calls Tryz.prog 53 #[.string s] w fun e w' => e = .returned (twoP (numZ s.data.toList) 0) ∧ Below w.heap.size w w' := by
  have c1 := isnumber_any s hs w
  rw [h] at c1
  have c2 : ∀ W, Calls Tryz.prog 83 #[.string s, .int .i64 10, .int .i64 64] W fun e w' => e = .returned (.tuple #[.int .i64 (numZ s.data.toList), .nilIface]) ∧ Below W.heap.size W w' := fun W =>
    (Tryz.strconv_ParseInt_10_at64_ok s (by omega) _ (parse_ok _ h h0 h1) W).mono fun e w' ⟨a, b⟩ => ⟨a, by
      rcases b with rfl | ⟨t, rfl⟩
      · exact Below.refl _ _
      · exact Joins.below_bytesWorld _ _ _ _ (Nat.le_refl _)⟩
  obtain ⟨z, hz⟩ : ∃ z, z = numZ s.data.toList := ⟨_, rfl⟩
  rw [← hz] at c2 ⊢
  clear h h0 h1 hz hs
  go_enter Tryz.func53, Tryz.ntmps53
  go_wp2_with (first
    | (go_at_call 82; (with_reducible refine c1.mono ?_); rintro e w1 ⟨rfl, hb1⟩)
    | (go_at_call 83; (with_reducible refine (c2 _).mono ?_); rintro e w2 ⟨rfl, hb2⟩))
  go_ret2
  exact ⟨rfl, hb1.trans (hb2.mono hb1.size)⟩
theorem vparse_over (s : ByteArray) (hs : s.size ≤ 1000000) (h : isNum s.data.toList = true) (h0 : ¬ (-9223372036854775808 ≤ numZ s.data.toList ∧ numZ s.data.toList ≤ 9223372036854775807)) (w : World) (hv : LV w) :
    Calls Tryz.prog 53 #[.string s] w fun e w' => e = .returned (twoP 0 9) ∧ Below w.heap.size w w' := by
  have c1 := isnumber_any s hs w
  rw [h] at c1
  have c2 : ∀ W, LV W → Calls Tryz.prog 83 #[.string s, .int .i64 10, .int .i64 64] W fun e w' => ∃ N, e = .returned (.tuple #[.int .i64 (Lib.intSat 64 s.data.toList), .iface 168 (.pointer (some ⟨N, 0, none⟩))]) ∧ Below W.heap.size W w' := fun W ⟨_, tp, p, hvar⟩ =>
    (Tryz.strconv_ParseInt_10_at64_range_var s (by omega) (parse_range _ h h0) tp p W hvar).mono fun e w' ⟨N, a, _, _, b⟩ => ⟨N, a, b⟩
  obtain ⟨z, hz⟩ : ∃ z, z = Lib.intSat 64 s.data.toList := ⟨_, rfl⟩
  rw [← hz] at c2
  clear h h0 hz hs
  go_enter Tryz.func53, Tryz.ntmps53
  go_wp2_with (first
    | (go_at_call 82; (with_reducible refine c1.mono ?_); rintro e w1 ⟨rfl, hb1⟩)
    | (go_at_call 83; (with_reducible refine (c2 _ (hv.below hb1)).mono ?_); rintro e w2 ⟨N, rfl, hb2⟩))
  go_ret2
  exact ⟨rfl, hb1.trans (hb2.mono hb1.size)⟩
end Go.Proofs.YtpnfjjgihkmjmaaGreatDoor

/-
  THE INTEGER AND THE TRUTH OF A TERM; what comes with an error is no truth.
-/
namespace Go.Proofs.YtpnfjjgihkmjmaaGreatDoor
open Go.RowKit
set_option linter.unusedVariables false

/-- Truths' numbers. -/
def tru (yes : Bool) (code : Int) : Int := if code = 0 then (if yes then 1 else 0) else 2
theorem truthOf_any (yes : Bool) (code : Int) (w : World) : Calls Tryz.prog 59 #[.bool yes, .int .i64 code] w fun e w' => e = .returned (.int .u8 (tru yes code)) ∧ w = w' := by
  have cO := of_any yes
  obtain ⟨x, hx⟩ : ∃ x : Int, x = if yes then 1 else 0 := ⟨_, rfl⟩
  rw [← hx] at cO
  by_cases hc : code = 0
  · have hb : (code != 0) = false := by simpa using hc
    have H : Hid (tru yes code = x) := Lib.hid (by unfold tru; rw [if_pos hc, hx])
    clear hc hx
    go_enter Tryz.func59, Tryz.ntmps59
    go_wp2_with (go_at_call 60; (with_reducible refine (cO _).mono ?_); rintro e w' ⟨rfl, rfl⟩)
    go_ret
    exact ⟨ret_u8 H.out.symm, rfl⟩
  · have hb : (code != 0) = true := by simpa using hc
    have H : Hid (tru yes code = 2) := Lib.hid (by unfold tru; rw [if_neg hc])
    clear hc hx cO
    go_enter Tryz.func59, Tryz.ntmps59
    go_wp2
    go_ret
    exact ⟨ret_u8 H.out.symm, rfl⟩
/-- What value.Parse says of a text. -/
def prs (s : ByteArray) : Int × Int := if isNum s.data.toList = true then (if -9223372036854775808 ≤ numZ s.data.toList ∧ numZ s.data.toList ≤ 9223372036854775807 then (numZ s.data.toList, 0) else (0, 9)) else (0, 1)
theorem parse_any (s : ByteArray) (hs : s.size ≤ 1000000) (w : World) (hv : LV w) : Calls Tryz.prog 53 #[.string s] w fun e w' => e = .returned (twoP (prs s).1 (prs s).2) ∧ Below w.heap.size w w' := by
  unfold prs
  cases h : isNum s.data.toList
  · rw [if_neg (by decide)]
    exact vparse_form s hs h w
  · rw [if_pos rfl]
    by_cases hr : -9223372036854775808 ≤ numZ s.data.toList ∧ numZ s.data.toList ≤ 9223372036854775807
    · rw [if_pos hr]
      exact vparse_ok s hs h hr.1 hr.2 w
    · rw [if_neg hr]
      exact vparse_over s hs h hr w hv
/-- What AsInt says of a text of type XInt. -/
def asT (s : ByteArray) : Int × Int := if (prs s).2 = 1 then (0, 3) else prs s
def asI (t : Tm) : Int × Int := if t.isLit = true then (if (t.tb.toList == lI) = true then asT t.la else (0, 10)) else (0, 10)
abbrev A3 (a b c : ByteArray) (ok : Bool) : Value := L3 a b c ok
theorem ret_twT {z z' c c' : Int} (h : z = z') (k : c = c') : Ending.returned (twoP z c) = .returned (twoP z' c') := by rw [h, k]
set_option maxRecDepth 100000 in
set_option maxHeartbeats 4000000 in
theorem asInt_any (t : Tm) (hs : t.la.size ≤ 1000000) (w : World) (hv : LV w) : Calls Tryz.prog 19 #[t.val] w fun e w' => e = .returned (twoP (asI t).1 (asI t).2) ∧ Below w.heap.size w w' := by
  have cA := asLit_any t w
  have cP := parse_any t.la hs
  obtain ⟨r, hr⟩ : ∃ r, r = asI t := ⟨_, rfl⟩
  rw [← hr]
  unfold asI at hr
  obtain ⟨a, ha⟩ : ∃ k, k = t.la := ⟨_, rfl⟩
  obtain ⟨b, hb⟩ : ∃ k, k = t.tb := ⟨_, rfl⟩
  obtain ⟨c, hc⟩ : ∃ k, k = t.tc := ⟨_, rfl⟩
  obtain ⟨ok, hok⟩ : ∃ k, k = t.isLit := ⟨_, rfl⟩
  obtain ⟨v, hvv⟩ : ∃ k, k = t.val := ⟨_, rfl⟩
  rw [← ha, ← hb, ← hc, ← hok, ← hvv] at cA
  rw [← ha] at cP
  rw [← ha, ← hb, ← hok] at hr
  rw [← hvv]
  clear ha hb hc hok hvv hs
  have hLV := Lib.hid hv
  cases ok
  · rw [if_neg (by decide)] at hr
    subst hr
    clear cP hv
    go_enter Tryz.func19, Tryz.ntmps19
    go_wp2_with (go_at_call 52; (with_reducible refine cA.mono ?_); rintro e w1 ⟨rfl, hb1⟩)
    go_ret2
    exact ⟨rfl, hb1.alloc hb1.size _⟩
  · rw [if_pos rfl] at hr
    cases hI : (b.toList == lI)
    · rw [hI, if_neg (by decide)] at hr
      subst hr
      clear cP hv
      go_enter Tryz.func19, Tryz.ntmps19
      go_wp2_with (go_at_call 52; (with_reducible refine cA.mono ?_); rintro e w1 ⟨rfl, hb1⟩)
      go_ret2
      exact ⟨rfl, hb1.alloc hb1.size _⟩
    · rw [hI, if_pos rfl] at hr
      unfold asT at hr
      obtain ⟨z, hz⟩ : ∃ z, z = (prs a).1 := ⟨_, rfl⟩
      obtain ⟨code, hcode⟩ : ∃ z, z = (prs a).2 := ⟨_, rfl⟩
      rw [← hz, ← hcode] at cP
      have hp : prs a = (z, code) := by rw [hz, hcode]
      rw [hp] at hr
      clear hz hcode hp hv
      by_cases h1 : code = 1
      · have h1b : (code == 1) = true := by simpa using h1
        have HR : Hid (r = (0, 3)) := Lib.hid (by rw [hr, if_pos h1])
        clear hr h1
        go_enter Tryz.func19, Tryz.ntmps19
        go_wp2_with (first
          | (go_at_call 52; (with_reducible refine cA.mono ?_); rintro e w1 ⟨rfl, hb1⟩; have hb2 := hb1.alloc hb1.size (.cells #[.string a, .string b, .string c] 74))
          | (go_at_call 53; (with_reducible refine (cP _ (hLV.out.below hb2)).mono ?_); rintro e w3 ⟨rfl, hb3⟩))
        go_ret2
        exact ⟨ret_twT (by rw [HR.out]) (by rw [HR.out]), hb2.trans (hb3.mono hb2.size)⟩
      · have h1b : (code == 1) = false := by simpa using h1
        have HR : Hid (r = (z, code)) := Lib.hid (by rw [hr, if_neg h1])
        clear hr h1
        go_enter Tryz.func19, Tryz.ntmps19
        go_wp2_with (first
          | (go_at_call 52; (with_reducible refine cA.mono ?_); rintro e w1 ⟨rfl, hb1⟩; have hb2 := hb1.alloc hb1.size (.cells #[.string a, .string b, .string c] 74))
          | (go_at_call 53; (with_reducible refine (cP _ (hLV.out.below hb2)).mono ?_); rintro e w3 ⟨rfl, hb3⟩))
        go_ret2
        exact ⟨ret_twT (by rw [HR.out]) (by rw [HR.out]), hb2.trans (hb3.mono hb2.size)⟩
/-- What AsBool says. -/
abbrev oT (x : Bool) (code : Int) : Value := .tuple #[.bool x, .int .i64 code]
abbrev wTrue : List UInt8 := [116, 114, 117, 101]
abbrev wFalse : List UInt8 := [102, 97, 108, 115, 101]
abbrev wOne : List UInt8 := [49]
abbrev wNought : List UInt8 := [48]
def bT (s : ByteArray) : Bool × Int := if (s.toList == wTrue) = true then (true, 0) else if (s.toList == wOne) = true then (true, 0) else if (s.toList == wFalse) = true then (false, 0) else if (s.toList == wNought) = true then (false, 0) else (false, 3)
def asB (t : Tm) : Bool × Int := if t.isLit = true then (if (t.tb.toList == lB) = true then bT t.la else (false, 10)) else (false, 10)
theorem ret_obT {z z' : Bool} {c c' : Int} (h : z = z') (k : c = c') : Ending.returned (oT z c) = .returned (oT z' c') := by rw [h, k]
set_option maxRecDepth 100000 in
set_option maxHeartbeats 4000000 in
theorem asBool_any (t : Tm) (w : World) : Calls Tryz.prog 20 #[t.val] w fun e w' => e = .returned (oT (asB t).1 (asB t).2) ∧ Below w.heap.size w w' := by
  have cA := asLit_any t w
  obtain ⟨r, hr⟩ : ∃ r, r = asB t := ⟨_, rfl⟩
  rw [← hr]
  unfold asB at hr
  obtain ⟨a, ha⟩ : ∃ k, k = t.la := ⟨_, rfl⟩
  obtain ⟨b, hb⟩ : ∃ k, k = t.tb := ⟨_, rfl⟩
  obtain ⟨c, hc⟩ : ∃ k, k = t.tc := ⟨_, rfl⟩
  obtain ⟨ok, hok⟩ : ∃ k, k = t.isLit := ⟨_, rfl⟩
  obtain ⟨v, hvv⟩ : ∃ k, k = t.val := ⟨_, rfl⟩
  rw [← ha, ← hb, ← hc, ← hok, ← hvv] at cA
  rw [← ha, ← hb, ← hok] at hr
  rw [← hvv]
  clear ha hb hc hok hvv
  cases ok
  · rw [if_neg (by decide)] at hr
    subst hr
    go_enter Tryz.func20, Tryz.ntmps20
    go_wp2_with (go_at_call 52; (with_reducible refine cA.mono ?_); rintro e w1 ⟨rfl, hb1⟩)
    go_ret2
    exact ⟨rfl, hb1.alloc hb1.size _⟩
  · rw [if_pos rfl] at hr
    cases hB : (b.toList == lB)
    · rw [hB, if_neg (by decide)] at hr
      subst hr
      go_enter Tryz.func20, Tryz.ntmps20
      go_wp2_with (go_at_call 52; (with_reducible refine cA.mono ?_); rintro e w1 ⟨rfl, hb1⟩)
      go_ret2
      exact ⟨rfl, hb1.alloc hb1.size _⟩
    · rw [hB, if_pos rfl] at hr
      unfold bT at hr
      cases h1 : (a.toList == wTrue) <;> cases h2 : (a.toList == wOne) <;> cases h3 : (a.toList == wFalse) <;> cases h4 : (a.toList == wNought)
      all_goals
        rw [h1, h2, h3, h4] at hr
        simp only [if_true, Bool.false_eq_true, if_false] at hr
        have HR := Lib.hid hr
        clear hr
        go_enter Tryz.func20, Tryz.ntmps20
        go_wp2_with (go_at_call 52; (with_reducible refine cA.mono ?_); rintro e w1 ⟨rfl, hb1⟩)
        go_ret2
        exact ⟨ret_obT (by rw [HR.out]) (by rw [HR.out]), hb1.alloc hb1.size _⟩
end Go.Proofs.YtpnfjjgihkmjmaaGreatDoor

/-
  WHETHER TWO TERMS ARE OF ONE VALUE; a term as a truth.
-/
namespace Go.Proofs.YtpnfjjgihkmjmaaGreatDoor
open Go.RowKit
set_option linter.unusedVariables false

abbrev fI : Value := .func (.func 19) #[] #[]
abbrev fB : Value := .func (.func 20) #[] #[]
def eqI (x y : Tm) : Int := tru ((asI x).1 == (asI y).1) (orT (asI x).2 (asI y).2)
def eqB (x y : Tm) : Int := tru ((asB x).1 == (asB y).1) (orT (asB x).2 (asB y).2)
set_option maxHeartbeats 2000000 in
theorem eqI_any (x y : Tm) (hx : x.la.size ≤ 1000000) (hy : y.la.size ≤ 1000000) (w : World) (hv : LV w) : Calls Tryz.prog 79 #[fI, x.val, y.val] w fun e w' => e = .returned (.int .u8 (eqI x y)) ∧ Below w.heap.size w w' := by
  have cx : ∀ W, LV W → Calls Tryz.prog 19 #[x.val] W fun e w' => e = .returned (twoP (asI x).1 (asI x).2) ∧ Below W.heap.size W w' := fun W h => asInt_any x hx W h
  have cy : ∀ W, LV W → Calls Tryz.prog 19 #[y.val] W fun e w' => e = .returned (twoP (asI y).1 (asI y).2) ∧ Below W.heap.size W w' := fun W h => asInt_any y hy W h
  unfold eqI
  obtain ⟨z, hz⟩ : ∃ k, k = (asI x).1 := ⟨_, rfl⟩
  obtain ⟨u, hu⟩ : ∃ k, k = (asI x).2 := ⟨_, rfl⟩
  obtain ⟨z', hz'⟩ : ∃ k, k = (asI y).1 := ⟨_, rfl⟩
  obtain ⟨u', hu'⟩ : ∃ k, k = (asI y).2 := ⟨_, rfl⟩
  obtain ⟨vx, hvx⟩ : ∃ k, k = x.val := ⟨_, rfl⟩
  obtain ⟨vy, hvy⟩ : ∃ k, k = y.val := ⟨_, rfl⟩
  rw [← hz, ← hu, ← hvx] at cx
  rw [← hz', ← hu', ← hvy] at cy
  rw [← hz, ← hu, ← hz', ← hu', ← hvx, ← hvy]
  have cO := orErr_any u u'
  have cT := truthOf_any (z == z') (orT u u')
  obtain ⟨r, hr⟩ : ∃ k, k = tru (z == z') (orT u u') := ⟨_, rfl⟩
  obtain ⟨o, ho⟩ : ∃ k, k = orT u u' := ⟨_, rfl⟩
  rw [← hr] at cT
  rw [← hr]
  rw [← ho] at cO cT
  have hLV := Lib.hid hv
  clear hz hu hz' hu' hvx hvy hr ho hv
  go_enter Tryz.func79, Tryz.ntmps79
  go_wp2_with (first
    | (go_at_call 19; (with_reducible refine (cx _ hLV.out).mono ?_); rintro e w1 ⟨rfl, hb1⟩)
    | (go_at_call 19; (with_reducible refine (cy _ (hLV.out.below hb1)).mono ?_); rintro e w2 ⟨rfl, hb2⟩)
    | (go_at_call 97; (with_reducible refine (cO _ _ _ (by simp [go_sem]) (by simp [go_sem])).mono ?_); rintro e w' ⟨rfl, rfl⟩)
    | (go_at_call 59; (with_reducible refine (cT _).mono ?_); rintro e w' ⟨rfl, rfl⟩))
  go_ret
  exact ⟨rfl, (hb1.trans (hb2.mono hb1.size)).alloc (Nat.le_trans hb1.size hb2.size) _⟩
set_option maxHeartbeats 2000000 in
theorem eqB_any (x y : Tm) (w : World) (hv : LV w) : Calls Tryz.prog 80 #[fB, x.val, y.val] w fun e w' => e = .returned (.int .u8 (eqB x y)) ∧ Below w.heap.size w w' := by
  have cx : ∀ W, LV W → Calls Tryz.prog 20 #[x.val] W fun e w' => e = .returned (oT (asB x).1 (asB x).2) ∧ Below W.heap.size W w' := fun W h => asBool_any x W
  have cy : ∀ W, LV W → Calls Tryz.prog 20 #[y.val] W fun e w' => e = .returned (oT (asB y).1 (asB y).2) ∧ Below W.heap.size W w' := fun W h => asBool_any y W
  unfold eqB
  obtain ⟨z, hz⟩ : ∃ k, k = (asB x).1 := ⟨_, rfl⟩
  obtain ⟨u, hu⟩ : ∃ k, k = (asB x).2 := ⟨_, rfl⟩
  obtain ⟨z', hz'⟩ : ∃ k, k = (asB y).1 := ⟨_, rfl⟩
  obtain ⟨u', hu'⟩ : ∃ k, k = (asB y).2 := ⟨_, rfl⟩
  obtain ⟨vx, hvx⟩ : ∃ k, k = x.val := ⟨_, rfl⟩
  obtain ⟨vy, hvy⟩ : ∃ k, k = y.val := ⟨_, rfl⟩
  rw [← hz, ← hu, ← hvx] at cx
  rw [← hz', ← hu', ← hvy] at cy
  rw [← hz, ← hu, ← hz', ← hu', ← hvx, ← hvy]
  have cO := orErr_any u u'
  have cT := truthOf_any (z == z') (orT u u')
  obtain ⟨r, hr⟩ : ∃ k, k = tru (z == z') (orT u u') := ⟨_, rfl⟩
  obtain ⟨o, ho⟩ : ∃ k, k = orT u u' := ⟨_, rfl⟩
  rw [← hr] at cT
  rw [← hr]
  rw [← ho] at cO cT
  have hLV := Lib.hid hv
  clear hz hu hz' hu' hvx hvy hr ho hv
  go_enter Tryz.func80, Tryz.ntmps80
  go_wp2_with (first
    | (go_at_call 20; (with_reducible refine (cx _ hLV.out).mono ?_); rintro e w1 ⟨rfl, hb1⟩)
    | (go_at_call 20; (with_reducible refine (cy _ (hLV.out.below hb1)).mono ?_); rintro e w2 ⟨rfl, hb2⟩)
    | (go_at_call 97; (with_reducible refine (cO _ _ _ (by simp [go_sem]) (by simp [go_sem])).mono ?_); rintro e w' ⟨rfl, rfl⟩)
    | (go_at_call 59; (with_reducible refine (cT _).mono ?_); rintro e w' ⟨rfl, rfl⟩))
  go_ret
  exact ⟨rfl, (hb1.trans (hb2.mono hb1.size)).alloc (Nat.le_trans hb1.size hb2.size) _⟩
def eqv (x y : Tm) : Int :=
  if sameB x y = true then 1
  else if (x.isLit && y.isLit) = true then
    (if ((x.tb.toList == lI) && (y.tb.toList == lI)) = true then eqI x y
    else if ((x.tb.toList == lB) && (y.tb.toList == lB)) = true then eqB x y
    else if (known x.tb && known y.tb) = true then 0 else 2)
  else 0
theorem equal_same (x y : Tm) (h : sameB x y = true) (w : World) : Calls Tryz.prog 51 #[x.val, y.val] w fun e w' => e = .returned (.int .u8 1) ∧ Below w.heap.size w w' := by
  have cS := same_any x y w
  rw [h] at cS
  clear h
  obtain ⟨vx, hvx⟩ : ∃ k, k = x.val := ⟨_, rfl⟩
  obtain ⟨vy, hvy⟩ : ∃ k, k = y.val := ⟨_, rfl⟩
  rw [← hvx, ← hvy] at cS ⊢
  clear hvx hvy
  go_enter Tryz.func51, Tryz.ntmps51
  go_wp2_with (go_at_call 32; (with_reducible refine cS.mono ?_); rintro e w1 ⟨rfl, hb1⟩)
  go_ret
  exact ⟨rfl, hb1⟩
set_option maxHeartbeats 2000000 in
theorem equal_nolit (x y : Tm) (h : sameB x y = false) (hl : (x.isLit && y.isLit) = false) (w : World) : Calls Tryz.prog 51 #[x.val, y.val] w fun e w' => e = .returned (.int .u8 0) ∧ Below w.heap.size w w' := by
  have cS := same_any x y w
  rw [h] at cS
  have cx : ∀ W, Calls Tryz.prog 52 #[x.val] W _ := asLit_any x
  have cy : ∀ W, Calls Tryz.prog 52 #[y.val] W _ := asLit_any y
  obtain ⟨vx, hvx⟩ : ∃ k, k = x.val := ⟨_, rfl⟩
  obtain ⟨vy, hvy⟩ : ∃ k, k = y.val := ⟨_, rfl⟩
  obtain ⟨a, ha⟩ : ∃ k, k = x.la := ⟨_, rfl⟩
  obtain ⟨b, hb⟩ : ∃ k, k = x.tb := ⟨_, rfl⟩
  obtain ⟨c, hc⟩ : ∃ k, k = x.tc := ⟨_, rfl⟩
  obtain ⟨a', ha'⟩ : ∃ k, k = y.la := ⟨_, rfl⟩
  obtain ⟨b', hb'⟩ : ∃ k, k = y.tb := ⟨_, rfl⟩
  obtain ⟨c', hc'⟩ : ∃ k, k = y.tc := ⟨_, rfl⟩
  obtain ⟨ok, hok⟩ : ∃ k, k = x.isLit := ⟨_, rfl⟩
  obtain ⟨ok', hok'⟩ : ∃ k, k = y.isLit := ⟨_, rfl⟩
  rw [← hvx, ← hvy] at cS
  rw [← hvx, ← ha, ← hb, ← hc, ← hok] at cx
  rw [← hvy, ← ha', ← hb', ← hc', ← hok'] at cy
  rw [← hok, ← hok'] at hl
  rw [← hvx, ← hvy]
  clear hvx hvy ha hb hc ha' hb' hc' hok hok' h
  cases ok
  · clear hl
    go_enter Tryz.func51, Tryz.ntmps51
    go_wp2_with (first
      | (go_at_call 32; (with_reducible refine cS.mono ?_); rintro e w1 ⟨rfl, hb1⟩)
      | (go_at_call 52; (with_reducible refine (cx _).mono ?_); rintro e w2 ⟨rfl, hb2⟩; have hb3 := (hb1.trans (hb2.mono hb1.size)).alloc (Nat.le_trans hb1.size hb2.size) (.cells #[.string a, .string b, .string c] 74))
      | (go_at_call 52; (with_reducible refine (cy _).mono ?_); rintro e w4 ⟨rfl, hb4⟩; have hb5 := (hb3.trans (hb4.mono hb3.size)).alloc (Nat.le_trans hb3.size hb4.size) (.cells #[.string a', .string b', .string c'] 74)))
    go_ret
    exact ⟨rfl, by assumption⟩
  · obtain rfl : ok' = false := by simpa using hl
    clear hl
    go_enter Tryz.func51, Tryz.ntmps51
    go_wp2_with (first
      | (go_at_call 32; (with_reducible refine cS.mono ?_); rintro e w1 ⟨rfl, hb1⟩)
      | (go_at_call 52; (with_reducible refine (cx _).mono ?_); rintro e w2 ⟨rfl, hb2⟩; have hb3 := (hb1.trans (hb2.mono hb1.size)).alloc (Nat.le_trans hb1.size hb2.size) (.cells #[.string a, .string b, .string c] 74))
      | (go_at_call 52; (with_reducible refine (cy _).mono ?_); rintro e w4 ⟨rfl, hb4⟩; have hb5 := (hb3.trans (hb4.mono hb3.size)).alloc (Nat.le_trans hb3.size hb4.size) (.cells #[.string a', .string b', .string c'] 74)))
    go_ret
    exact ⟨rfl, by assumption⟩
end Go.Proofs.YtpnfjjgihkmjmaaGreatDoor
