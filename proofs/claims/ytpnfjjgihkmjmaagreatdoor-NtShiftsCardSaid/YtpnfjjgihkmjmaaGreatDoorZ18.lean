/-
  MERGED (a claim has at most 60 files): TTxt, TMake, TTerm, TEqualB, TRirA.
-/
import Derived.Test.YtpnfjjgihkmjmaaGreatDoorZ15
import Derived.Test.YtpnfjjgihkmjmaaGreatDoorZ17
import Derived.Deep.RegionHeld3
import Derived.Test.YtpnfjjgihkmjmaaGreatDoorZ14
/-
  THE TEXT OF AN INTEGER IS ONE OF IT, plain.
-/
namespace Go.Proofs.YtpnfjjgihkmjmaaGreatDoor

theorem chars_lenT (l : List Int) : (chars l).length = l.length := by simp [chars]
theorem body_consT (c : UInt8) (r : List UInt8) : body (c :: r) = if c.toNat = 43 ∨ c.toNat = 45 then r else c :: r := rfl
theorem neg_consT (c : UInt8) (r : List UInt8) : neg (c :: r) = decide (c.toNat = 45) := by unfold neg; simp
theorem textZ_negT {n : Int} (h : n < 0) : textZ n = 45 :: chars (digs n.natAbs) := by
  unfold textZ
  rw [if_neg (by omega), if_pos h]; rfl
/-- Of no sign: digits only, and their number is it. -/
theorem textZ_posT {n : Int} (h : 0 ≤ n) : (textZ n).all isD = true ∧ textZ n ≠ [] ∧ (dval 0 (textZ n) : Int) = n := by
  by_cases h0 : n = 0
  · subst h0; exact ⟨by decide, by decide, by decide⟩
  · have e : textZ n = chars (digs n.natAbs) := by
      unfold textZ
      rw [if_neg h0, if_neg (by omega)]; rfl
    have hd := digs_dig n.natAbs
    refine ⟨by rw [e]; exact chars_all hd, ?_, by rw [e, chars_dval hd, digs_val]; omega⟩
    rw [e]
    intro hc
    have := congrArg List.length hc
    rw [chars_lenT] at this
    have := digs_nil.1 (List.length_eq_zero_iff.1 this)
    omega
theorem zeros_allT (k : Nat) : (List.replicate k (48 : UInt8)).all isD = true := by
  rw [List.all_eq_true]
  intro c hc
  rw [List.eq_of_mem_replicate hc]; decide
theorem minus_numT {n : Int} (h : n < 0) (k : Nat) : isNum (45 :: (List.replicate k 48 ++ chars (digs n.natAbs))) = true ∧ numZ (45 :: (List.replicate k 48 ++ chars (digs n.natAbs))) = n := by
  have hd := digs_dig n.natAbs
  have e : body (45 :: (List.replicate k 48 ++ chars (digs n.natAbs))) = List.replicate k 48 ++ chars (digs n.natAbs) := rfl
  constructor
  · unfold isNum
    rw [e, List.all_append, zeros_allT, chars_all hd]
    have : (List.replicate k 48 ++ chars (digs n.natAbs)).isEmpty = false := by
      rw [List.isEmpty_eq_false_iff]
      intro hc
      have := congrArg List.length (List.append_eq_nil_iff.1 hc).2
      rw [chars_lenT] at this
      have := digs_nil.1 (List.length_eq_zero_iff.1 this)
      omega
    rw [this]; rfl
  · unfold numZ
    rw [if_pos (by unfold neg; simp), e, dval_zeros, chars_dval hd, digs_val]; omega
theorem body_digitT {l : List UInt8} (h : l.all isD = true) (hne : l ≠ []) : body l = l ∧ neg l = false := by
  cases l with
  | nil => exact absurd rfl hne
  | cons c r =>
    have hc : isD c = true := by rw [List.all_cons, Bool.and_eq_true] at h; exact h.1
    have hd : 48 ≤ c.toNat ∧ c.toNat ≤ 57 := of_decide_eq_true hc
    refine ⟨by rw [body_consT, if_neg (by omega)], by rw [neg_consT, decide_eq_false (by omega)]⟩
theorem textZ_numT (n : Int) : isNum (textZ n) = true ∧ numZ (textZ n) = n := by
  by_cases h : n < 0
  · have := minus_numT h 0
    rw [List.replicate_zero, List.nil_append] at this
    rw [textZ_negT h]
    exact this
  · obtain ⟨a, b, c⟩ := textZ_posT (show 0 ≤ n by omega)
    obtain ⟨d, e⟩ := body_digitT a b
    constructor
    · unfold isNum
      rw [d, a]
      have : (textZ n).isEmpty = false := by rw [List.isEmpty_eq_false_iff]; exact b
      rw [this]; rfl
    · unfold numZ
      rw [if_neg (by rw [e]; decide), d, c]
theorem textZ_inj {a b : Int} (h : textZ a = textZ b) : a = b := by
  have := (textZ_numT a).2
  rw [h, (textZ_numT b).2] at this
  exact this.symm
end Go.Proofs.YtpnfjjgihkmjmaaGreatDoor

/-
  LITERALS THAT ARE MADE: Plain, Int, Bool.
-/
namespace Go.Proofs.YtpnfjjgihkmjmaaGreatDoor
open Go.RowKit
set_option linter.unusedVariables false

theorem plain_any (s : ByteArray) (w : World) : Calls Tryz.prog 33 #[.string s] w fun e w' => e = .returned (.agg #[.string s, .string XS, .string mt]) ∧ Below w.heap.size w w' := by
  go_enter Tryz.func33, Tryz.ntmps33
  go_wp2
  exact bodyPost_ret (v := .agg #[.string s, .string XS, .string mt]) (by simp [results, Tryz.results33, go_sem]) rfl ⟨rfl, (Below.refl _ _).alloc (Nat.le_refl _) _⟩
theorem awake_b {w W : World} (hv : LV w) (hb : Below w.heap.size w W) : Calls Tryz.prog 15 #[] W fun e w' => e = .returned (.bool true) ∧ Below w.heap.size w w' :=
  (awake_ok W (hv.below hb)).mono fun e w' ⟨a, b⟩ => ⟨a, hb.trans (b.mono hb.size)⟩
theorem Fb.free {w : World} {g : Nat} {t : TypeId} {cs : Array Value} (h : Fb w g t cs) (i : Nat) : w.frozen? ⟨g, i, none⟩ = false := by
  unfold Fb at h
  simp [World.frozen?, h]
end Go.Proofs.YtpnfjjgihkmjmaaGreatDoor

/-
  THE LAW'S TERMS: short, plain, Real.
-/
namespace Go.Proofs.YtpnfjjgihkmjmaaGreatDoor
open Go.RowKit
set_option linter.unusedVariables false

/-- Is a term short? -/
def shortB (a b c : ByteArray) : Bool := decide (a.size ≤ 5000) && (decide (b.size ≤ 300) && decide (c.size ≤ 100))
set_option maxHeartbeats 2000000 in
theorem short_any (k : Int) (a b c : ByteArray) (w : World) : Calls Tryz.prog 16 #[F4 k a b c] w fun e w' => e = .returned (.bool (shortB a b c)) ∧ Below w.heap.size w w' := by
  obtain ⟨r, hr⟩ : ∃ r, r = shortB a b c := ⟨_, rfl⟩
  rw [← hr]
  unfold shortB at hr
  by_cases h1 : a.size ≤ 5000
  · have k1 : (a.size : Int) ≤ 5000 := by omega
    rw [decide_eq_true h1, Bool.true_and] at hr
    by_cases h2 : b.size ≤ 300
    · have k2 : (b.size : Int) ≤ 300 := by omega
      rw [decide_eq_true h2, Bool.true_and] at hr
      by_cases h3 : c.size ≤ 100
      · have k3 : (c.size : Int) ≤ 100 := by omega
        rw [decide_eq_true h3] at hr
        subst hr
        clear h1 h2 h3
        go_enter Tryz.func16, Tryz.ntmps16
        go_wp2
        go_ret
        exact ⟨rfl, (Below.refl _ _).alloc (Nat.le_refl _) _⟩
      · have k3 : ¬ (c.size : Int) ≤ 100 := by omega
        rw [decide_eq_false h3] at hr
        subst hr
        clear h1 h2 h3
        go_enter Tryz.func16, Tryz.ntmps16
        go_wp2
        go_ret
        exact ⟨rfl, (Below.refl _ _).alloc (Nat.le_refl _) _⟩
    · have k2 : ¬ (b.size : Int) ≤ 300 := by omega
      rw [decide_eq_false h2, Bool.false_and] at hr
      subst hr
      clear h1 h2
      go_enter Tryz.func16, Tryz.ntmps16
      go_wp2
      go_ret
      exact ⟨rfl, (Below.refl _ _).alloc (Nat.le_refl _) _⟩
  · have k1 : ¬ (a.size : Int) ≤ 5000 := by omega
    rw [decide_eq_false h1, Bool.false_and] at hr
    subst hr
    clear h1
    go_enter Tryz.func16, Tryz.ntmps16
    go_wp2
    go_ret
    exact ⟨rfl, (Below.refl _ _).alloc (Nat.le_refl _) _⟩
/-- The term that the law makes of one. -/
def tmOf (k : Int) (a b c : ByteArray) : Tm := if k % 4 = 0 then .blank a else if k % 4 = 1 then .iri a else if k % 4 = 2 then .lit a b c else .odd 0
abbrev T4 (t : Tm) : Value := F4 t.kind t.ta t.tb t.tc
set_option maxHeartbeats 2000000 in
theorem plainT_any (k : Int) (hk : -9223372036854775808 ≤ k ∧ k ≤ 9223372036854775807) (a b c : ByteArray) (w : World) : Calls Tryz.prog 17 #[F4 k a b c] w fun e w' => e = .returned (T4 (tmOf k a b c)) ∧ Below w.heap.size w w' := by
  obtain ⟨r, hr⟩ : ∃ r, r = k % 4 := ⟨_, rfl⟩
  have h4 : r = 0 ∨ r = 1 ∨ r = 2 ∨ r = 3 := by omega
  have hw : wrap64 ((IntKind.u64.wrap k).tmod 4) = r := by
    rw [show IntKind.u64.wrap k = k % 18446744073709551616 from rfl, Int.tmod_eq_emod_of_nonneg (by omega)]
    have : k % 18446744073709551616 % 4 = r := by omega
    rw [this]
    exact IntWalk.wrap64_in r ⟨by omega, by omega⟩
  unfold tmOf
  rw [← hr]
  clear hr hk
  rcases h4 with rfl | rfl | rfl | rfl
  · rw [if_pos rfl]
    simp only [T4, Tm.kind, Tm.ta, Tm.tb, Tm.tc]
    go_enter Tryz.func17, Tryz.ntmps17
    go_wp2
    exact bodyPost_ret (v := F4 0 a mt mt) (by simp [results, Tryz.results17, go_sem]) rfl ⟨rfl, ((Below.refl _ _).alloc (Nat.le_refl _) _).alloc (by simp) _⟩
  · rw [if_neg (by decide), if_pos rfl]
    simp only [T4, Tm.kind, Tm.ta, Tm.tb, Tm.tc]
    go_enter Tryz.func17, Tryz.ntmps17
    go_wp2
    exact bodyPost_ret (v := F4 1 a mt mt) (by simp [results, Tryz.results17, go_sem]) rfl ⟨rfl, ((Below.refl _ _).alloc (Nat.le_refl _) _).alloc (by simp) _⟩
  · rw [if_neg (by decide), if_neg (by decide), if_pos rfl]
    simp only [T4, Tm.kind, Tm.ta, Tm.tb, Tm.tc]
    go_enter Tryz.func17, Tryz.ntmps17
    go_wp2
    exact bodyPost_ret (v := F4 2 a b c) (by simp [results, Tryz.results17, go_sem]) rfl ⟨rfl, ((Below.refl _ _).alloc (Nat.le_refl _) _).alloc (by simp) _⟩
  · rw [if_neg (by decide), if_neg (by decide), if_neg (by decide)]
    simp only [T4, Tm.kind, Tm.ta, Tm.tb, Tm.tc]
    go_enter Tryz.func17, Tryz.ntmps17
    go_wp2
    exact bodyPost_ret (v := F4 3 mt mt mt) (by simp [results, Tryz.results17, go_sem]) rfl ⟨rfl, ((Below.refl _ _).alloc (Nat.le_refl _) _).alloc (by simp) _⟩
set_option maxHeartbeats 2000000 in
theorem real_any (t : Tm) (ht : t = tmOf 0 t.ta t.tb t.tc ∨ t = tmOf 1 t.ta t.tb t.tc ∨ t = tmOf 2 t.ta t.tb t.tc ∨ t = .odd 0) (w : World) : Calls Tryz.prog 18 #[T4 t] w fun e w' => e = .returned t.val ∧ Below w.heap.size w w' := by
  match t, ht with
  | .blank s, _ =>
    simp only [T4, Tm.kind, Tm.ta, Tm.tb, Tm.tc, Tm.val]
    go_enter Tryz.func18, Tryz.ntmps18
    go_wp2
    go_ret
    exact ⟨rfl, (Below.refl _ _).alloc (Nat.le_refl _) _⟩
  | .iri s, _ =>
    simp only [T4, Tm.kind, Tm.ta, Tm.tb, Tm.tc, Tm.val]
    go_enter Tryz.func18, Tryz.ntmps18
    go_wp2
    go_ret
    exact ⟨rfl, (Below.refl _ _).alloc (Nat.le_refl _) _⟩
  | .lit a b c, _ =>
    simp only [T4, Tm.kind, Tm.ta, Tm.tb, Tm.tc, Tm.val]
    go_enter Tryz.func18, Tryz.ntmps18
    go_wp2
    go_ret
    exact ⟨rfl, (Below.refl _ _).alloc (Nat.le_refl _) _⟩
  | .odd n, h =>
    obtain rfl : n = 0 := by
      rcases h with h | h | h | h
      · simp [tmOf] at h
      · simp [tmOf] at h
      · simp [tmOf] at h
      · simpa using h
    simp only [T4, Tm.kind, Tm.ta, Tm.tb, Tm.tc, Tm.val]
    go_enter Tryz.func18, Tryz.ntmps18
    go_wp2
    go_ret
    exact ⟨rfl, (Below.refl _ _).alloc (Nat.le_refl _) _⟩
  | .none, h =>
    exfalso
    rcases h with h | h | h | h <;> simp [tmOf] at h
theorem realT_any (k : Int) (a b c : ByteArray) (w : World) : Calls Tryz.prog 18 #[T4 (tmOf k a b c)] w fun e w' => e = .returned (tmOf k a b c).val ∧ Below w.heap.size w w' := by
  apply real_any
  unfold tmOf
  have h4 : k % 4 = 0 ∨ k % 4 = 1 ∨ k % 4 = 2 ∨ k % 4 = 3 := by omega
  rcases h4 with h | h | h | h <;> simp [h, Tm.ta, Tm.tb, Tm.tc]
theorem tmOf_la (k : Int) (a b c : ByteArray) : (tmOf k a b c).la = a ∨ (tmOf k a b c).la = mt := by
  unfold tmOf
  have h4 : k % 4 = 0 ∨ k % 4 = 1 ∨ k % 4 = 2 ∨ k % 4 = 3 := by omega
  rcases h4 with h | h | h | h <;> simp [h, Tm.la, Tm.isLit, Tm.ta]
theorem tmOf_size (k : Int) (a b c : ByteArray) (h : a.size ≤ 5000) : (tmOf k a b c).la.size ≤ 1000000 := by
  rcases tmOf_la k a b c with e | e
  · rw [e]; omega
  · rw [e]; decide
end Go.Proofs.YtpnfjjgihkmjmaaGreatDoor

/-
  TermEquals: its words; being of one value is handed on; terms that are long.
-/
namespace Go.Proofs.YtpnfjjgihkmjmaaGreatDoor
open Go.RowKit
set_option linter.unusedVariables false

theorem bytes_ext {a b : ByteArray} (h : (a.toList == b.toList) = true) : a = b := by
  rw [beq_iff_eq, ByteArray.toList_eq, ByteArray.toList_eq] at h
  exact ByteArray.ext (Array.ext' h)
theorem same_eq {x y : Tm} (h : sameB x y = true) : x = y := by
  unfold sameB same4 at h
  simp only [Bool.and_eq_true] at h
  obtain ⟨h0, h1, h2, h3, h4⟩ := h
  have e2 := bytes_ext h2
  have e3 := bytes_ext h3
  have e4 := bytes_ext h4
  cases x <;> cases y <;> simp_all [Tm.kind, Tm.ta, Tm.tb, Tm.tc]
def oneI (x y : Tm) : Prop := (x.tb.toList == lI) = true ∧ (y.tb.toList == lI) = true ∧ (asI x).2 = 0 ∧ (asI y).2 = 0 ∧ (asI x).1 = (asI y).1
def oneB (x y : Tm) : Prop := (x.tb.toList == lB) = true ∧ (y.tb.toList == lB) = true ∧ (asB x).2 = 0 ∧ (asB y).2 = 0 ∧ (asB x).1 = (asB y).1
theorem orT_zero {u v : Int} : orT u v = 0 ↔ u = 0 ∧ v = 0 := by
  unfold orT
  by_cases h : u = 0
  · rw [if_pos h]; simp [h]
  · rw [if_neg h]; simp [h]
theorem tru_one {b : Bool} {c : Int} : tru b c = 1 ↔ b = true ∧ c = 0 := by
  unfold tru
  by_cases h : c = 0
  · rw [if_pos h]; cases b <;> simp [h]
  · rw [if_neg h]; simp [h]
theorem eqI_one {x y : Tm} : eqI x y = 1 ↔ (asI x).2 = 0 ∧ (asI y).2 = 0 ∧ (asI x).1 = (asI y).1 := by
  unfold eqI
  rw [tru_one, orT_zero, beq_iff_eq]
  constructor
  · rintro ⟨a, b, c⟩; exact ⟨b, c, a⟩
  · rintro ⟨a, b, c⟩; exact ⟨c, a, b⟩
theorem eqB_one {x y : Tm} : eqB x y = 1 ↔ (asB x).2 = 0 ∧ (asB y).2 = 0 ∧ (asB x).1 = (asB y).1 := by
  unfold eqB
  rw [tru_one, orT_zero, beq_iff_eq]
  constructor
  · rintro ⟨a, b, c⟩; exact ⟨b, c, a⟩
  · rintro ⟨a, b, c⟩; exact ⟨c, a, b⟩
theorem not_both {l : List UInt8} (h : (l == lI) = true) (k : (l == lB) = true) : False := by
  rw [beq_iff_eq] at h k
  rw [h] at k
  exact absurd k (by decide)
theorem eqv_one {x y : Tm} (h : eqv x y = 1) : sameB x y = true ∨ (x.isLit = true ∧ y.isLit = true ∧ (oneI x y ∨ oneB x y)) := by
  unfold eqv at h
  cases hs : sameB x y
  · rw [hs, if_neg (by decide)] at h
    right
    cases hl : (x.isLit && y.isLit)
    · rw [hl, if_neg (by decide)] at h; omega
    · rw [hl, if_pos rfl] at h
      rw [Bool.and_eq_true] at hl
      refine ⟨hl.1, hl.2, ?_⟩
      cases h1 : ((x.tb.toList == lI) && (y.tb.toList == lI))
      · rw [h1, if_neg (by decide)] at h
        cases h2 : ((x.tb.toList == lB) && (y.tb.toList == lB))
        · rw [h2, if_neg (by decide)] at h
          cases h3 : (known x.tb && known y.tb) <;> rw [h3] at h <;> simp at h
        · rw [h2, if_pos rfl] at h
          rw [Bool.and_eq_true] at h2
          exact .inr ⟨h2.1, h2.2, eqB_one.1 h⟩
      · rw [h1, if_pos rfl] at h
        rw [Bool.and_eq_true] at h1
        exact .inl ⟨h1.1, h1.2, eqI_one.1 h⟩
  · exact .inl rfl
theorem eqv_of {x y : Tm} (h : x.isLit = true ∧ y.isLit = true ∧ (oneI x y ∨ oneB x y)) : eqv x y = 1 := by
  obtain ⟨a, b, h⟩ := h
  unfold eqv
  rw [a, b]
  cases hs : sameB x y
  · rw [if_neg (by decide), Bool.and_self, if_pos rfl]
    rcases h with ⟨p, q, r⟩ | ⟨p, q, r⟩
    · rw [p, q, Bool.and_self, if_pos rfl]
      exact eqI_one.2 r
    · have n1 : (x.tb.toList == lI) = false := by
        cases e : (x.tb.toList == lI)
        · rfl
        · exact (not_both e p).elim
      rw [n1, Bool.false_and, if_neg (by decide), p, q, Bool.and_self, if_pos rfl]
      exact eqB_one.2 r
  · rw [if_pos rfl]
theorem eqv_trans {x y z : Tm} (h : eqv x y = 1) (k : eqv y z = 1) : eqv x z = 1 := by
  rcases eqv_one h with h | ⟨h1, h2, h3⟩
  · rw [same_eq h]; exact k
  · rcases eqv_one k with k | ⟨k1, k2, k3⟩
    · rw [← same_eq k]; exact eqv_of ⟨h1, h2, h3⟩
    · refine eqv_of ⟨h1, k2, ?_⟩
      rcases h3 with ⟨a, b, c, d, e⟩ | ⟨a, b, c, d, e⟩ <;> rcases k3 with ⟨a', b', c', d', e'⟩ | ⟨a', b', c', d', e'⟩
      · exact .inl ⟨a, b', c, d', e.trans e'⟩
      · exact (not_both b a').elim
      · exact (not_both a' b).elim
      · exact .inr ⟨a, b', c, d', e.trans e'⟩
/-- Three terms' boxes. -/
abbrev R4 (k : Int) (a b c : ByteArray) : Array Value := #[.int .i64 k, .string a, .string b, .string c]
def Tx3 (w : World) (u v x : Array Value) (W : World) : Prop := Below w.heap.size w W ∧ Fb W w.heap.size 36 u ∧ Fb W (w.heap.size + 1) 36 v ∧ Fb W (w.heap.size + 1 + 1) 36 x
theorem Tx3.drew {w : World} {u v x : Array Value} {W : World} (h : Tx3 w u v x W) : Tx3 w u v x W.drew := ⟨Below.drew h.1, h.2⟩
theorem Tx3.below {w : World} {u v x : Array Value} {W W' : World} (h : Tx3 w u v x W) (hb : Below W.heap.size W W') : Tx3 w u v x W' := ⟨h.1.trans (hb.mono h.1.size), h.2.1.below hb, h.2.2.1.below hb, h.2.2.2.below hb⟩
theorem Tx3.mk (w : World) (u v x : Array Value) : Tx3 w u v x (((w.alloc (.cells u 36)).alloc (.cells v 36)).alloc (.cells x 36)) :=
  ⟨(((Below.refl _ _).alloc (Nat.le_refl _) _).alloc (by simp) _).alloc (by simp; omega) _, ((Fb.new _ _ _).alloc _).alloc _, by simpa using (Fb.new (w.alloc (.cells u 36)) 36 v).alloc (.cells x 36), by simpa using Fb.new ((w.alloc (.cells u 36)).alloc (.cells v 36)) 36 x⟩
def Cells4 (W : World) (g : Nat) (k : Int) (a b c : ByteArray) : Prop := W.cell? ⟨g, 0, none⟩ = some (.int .i64 k) ∧ W.cell? ⟨g, 1, none⟩ = some (.string a) ∧ W.cell? ⟨g, 2, none⟩ = some (.string b) ∧ W.cell? ⟨g, 3, none⟩ = some (.string c)
theorem Fb.four {W : World} {g : Nat} {k : Int} {a b c : ByteArray} (h : Fb W g 36 (R4 k a b c)) : Cells4 W g k a b c := ⟨h.cell 0, h.cell 1, h.cell 2, h.cell 3⟩
theorem Tx3.all {w : World} {k k' k'' : Int} {a b c a' b' c' a'' b'' c'' : ByteArray} {W : World} (h : Tx3 w (R4 k a b c) (R4 k' a' b' c') (R4 k'' a'' b'' c'') W) :
    W.cell? ⟨w.heap.size, 0, none⟩ = some (.int .i64 k) ∧ W.cell? ⟨w.heap.size, 1, none⟩ = some (.string a) ∧ W.cell? ⟨w.heap.size, 2, none⟩ = some (.string b) ∧ W.cell? ⟨w.heap.size, 3, none⟩ = some (.string c) ∧
    W.cell? ⟨w.heap.size + 1, 0, none⟩ = some (.int .i64 k') ∧ W.cell? ⟨w.heap.size + 1, 1, none⟩ = some (.string a') ∧ W.cell? ⟨w.heap.size + 1, 2, none⟩ = some (.string b') ∧ W.cell? ⟨w.heap.size + 1, 3, none⟩ = some (.string c') ∧
    W.cell? ⟨w.heap.size + 1 + 1, 0, none⟩ = some (.int .i64 k'') ∧ W.cell? ⟨w.heap.size + 1 + 1, 1, none⟩ = some (.string a'') ∧ W.cell? ⟨w.heap.size + 1 + 1, 2, none⟩ = some (.string b'') ∧ W.cell? ⟨w.heap.size + 1 + 1, 3, none⟩ = some (.string c'') ∧ Tx3 w (R4 k a b c) (R4 k' a' b' c') (R4 k'' a'' b'' c'') W :=
  ⟨h.2.1.cell 0, h.2.1.cell 1, h.2.1.cell 2, h.2.1.cell 3, h.2.2.1.cell 0, h.2.2.1.cell 1, h.2.2.1.cell 2, h.2.2.1.cell 3, h.2.2.2.cell 0, h.2.2.2.cell 1, h.2.2.2.cell 2, h.2.2.2.cell 3, h⟩
theorem tx_of {w : World} {u v x : Array Value} {W : World} {f : Nat} {args : Array Value} {y : Value} (h : Tx3 w u v x W) (c : Calls Tryz.prog f args W fun e w' => e = .returned y ∧ Below W.heap.size W w') :
    Calls Tryz.prog f args W fun e w' => e = .returned y ∧ Tx3 w u v x w' := c.mono fun _ _ ⟨a, b⟩ => ⟨a, h.below b⟩
end Go.Proofs.YtpnfjjgihkmjmaaGreatDoor

/-
  THE DOCUMENT's 'iri', whatever the text; its 'Good' of a literal without a language.
-/
namespace Go.Proofs.YtpnfjjgihkmjmaaGreatDoor
open Go.RowKit
set_option linter.unusedVariables false

set_option maxHeartbeats 4000000 in
set_option maxRecDepth 100000 in
theorem riri_any (s : ByteArray) (sl : List Int) (rest : List UInt8) (hp : Parts s.data.toList sl rest) (hs : s.size ≤ 4294967296) (w : World) :
    Calls Tryz.prog 56 #[.string s] w fun e w' => e = .returned (.bool (iriB s.size sl rest)) ∧ Below w.heap.size w w' := by
  by_cases h1 : rest = []
  · by_cases h2 : s.size ≤ 4096
    · subst h1
      have := riri_yes s sl hp h2 w
      unfold iriB
      rw [decide_eq_true h2]
      exact this
    · rw [iriB_no (.inr (.inl (by omega)))]
      exact riri_no s sl rest hp hs (.inr (by omega)) w
  · rw [iriB_no (.inl h1)]
    exact riri_no s sl rest hp hs (.inl h1) w
set_option maxHeartbeats 4000000 in
set_option maxRecDepth 100000 in
theorem rgood_lit (a b : ByteArray) (sl tl : List Int) (rest rest' : List UInt8) (hp : Parts a.data.toList sl rest) (hq : Parts b.data.toList tl rest') (hs : a.size ≤ 4294967296) (hs' : b.size ≤ 4294967296) (w : World) :
    Calls Tryz.prog 24 #[F4 2 a b mt] w fun e w' => e = .returned (.bool (litB a.size (decide (rest = [])) (b.toList == lL) (iriB b.size tl rest'))) ∧ Below w.heap.size w w' := by
  have cG : ∀ W, Calls Tryz.prog 14 #[.string a] W (SignsPost W sl (decide (rest = []))) := fun W => signs_any a sl rest hp hs W
  have cI := riri_any b tl rest' hq hs'
  obtain ⟨ok, hok⟩ : ∃ k, k = decide (rest = []) := ⟨_, rfl⟩
  obtain ⟨i, hi⟩ : ∃ k, k = iriB b.size tl rest' := ⟨_, rfl⟩
  rw [← hok] at cG
  rw [← hi] at cI
  rw [← hok, ← hi]
  obtain ⟨r, hr⟩ : ∃ k, k = litB a.size ok (b.toList == lL) i := ⟨_, rfl⟩
  rw [← hr]
  unfold litB at hr
  clear hok hi hp hq hs hs'
  cases ok
  · have HR : Hid (r = false) := Lib.hid (by rw [hr]; simp)
    clear hr cI
    go_enter Tryz.func24, Tryz.ntmps24
    go_wp2_with (go_at_call 14; (with_reducible refine (cG _).mono ?_); rintro e w2 ⟨vI, rfl, hI2, hb2⟩; have hc := (Fb.new w 36 #[.int .i64 2, .string a, .string b, .string mt]).below hb2; have c1 := hc.cell 1; have c2 := hc.cell 2; have c3 := hc.cell 3; simp at c1 c2 c3; clear hI2)
    go_ret
    exact ⟨ret_bool HR.out.symm, ((Below.refl _ _).alloc (Nat.le_refl _) _).trans (hb2.mono (by simp))⟩
  · rw [Bool.true_and] at hr
    by_cases h1 : 4096 < a.size
    · have hz : (4096 : Int) < (a.size : Int) := by omega
      have HR : Hid (r = false) := Lib.hid (by rw [hr, decide_eq_false (show ¬ a.size ≤ 4096 by omega)]; rfl)
      clear hr h1 cI
      go_enter Tryz.func24, Tryz.ntmps24
      go_wp2_with (go_at_call 14; (with_reducible refine (cG _).mono ?_); rintro e w2 ⟨vI, rfl, hI2, hb2⟩; have hc := (Fb.new w 36 #[.int .i64 2, .string a, .string b, .string mt]).below hb2; have c1 := hc.cell 1; have c2 := hc.cell 2; have c3 := hc.cell 3; simp at c1 c2 c3; clear hI2)
      go_ret
      exact ⟨ret_bool HR.out.symm, ((Below.refl _ _).alloc (Nat.le_refl _) _).trans (hb2.mono (by simp))⟩
    · have hz : ¬ (4096 : Int) < (a.size : Int) := by omega
      rw [decide_eq_true (show a.size ≤ 4096 by omega), Bool.true_and] at hr
      clear h1
      cases i
      · have HR : Hid (r = false) := Lib.hid (by rw [hr]; simp)
        clear hr
        go_enter Tryz.func24, Tryz.ntmps24
        go_wp2_with (first
          | (go_at_call 14; (with_reducible refine (cG _).mono ?_); rintro e w2 ⟨vI, rfl, hI2, hb2⟩; have hc := (Fb.new w 36 #[.int .i64 2, .string a, .string b, .string mt]).below hb2; have c1 := hc.cell 1; have c2 := hc.cell 2; have c3 := hc.cell 3; simp at c1 c2 c3; clear hI2)
          | (go_at_call 56; (with_reducible refine (cI _).mono ?_); rintro e w3 ⟨rfl, hb3⟩; have hc3 := hc.below hb3; have d1 := hc3.cell 1; have d2 := hc3.cell 2; have d3 := hc3.cell 3; simp at d1 d2 d3))
        go_ret
        exact ⟨ret_bool HR.out.symm, (((Below.refl _ _).alloc (Nat.le_refl _) _).trans (hb2.mono (by simp))).trans (hb3.mono (by have := hb2.size; simp at this; omega))⟩
      · rw [Bool.and_true] at hr
        cases hx : (b.toList == lL)
        all_goals
          rw [hx] at hr
          have HR := Lib.hid hr
          clear hr
          go_enter Tryz.func24, Tryz.ntmps24
          go_wp2_with (first
            | (go_at_call 14; (with_reducible refine (cG _).mono ?_); rintro e w2 ⟨vI, rfl, hI2, hb2⟩; have hc := (Fb.new w 36 #[.int .i64 2, .string a, .string b, .string mt]).below hb2; have c1 := hc.cell 1; have c2 := hc.cell 2; have c3 := hc.cell 3; simp at c1 c2 c3; clear hI2)
            | (go_at_call 56; (with_reducible refine (cI _).mono ?_); rintro e w3 ⟨rfl, hb3⟩; have hc3 := hc.below hb3; have d1 := hc3.cell 1; have d2 := hc3.cell 2; have d3 := hc3.cell 3; simp at d1 d2 d3))
          go_ret
          exact ⟨ret_bool HR.out.symm, (((Below.refl _ _).alloc (Nat.le_refl _) _).trans (hb2.mono (by simp))).trans (hb3.mono (by have := hb2.size; simp at this; omega))⟩
end Go.Proofs.YtpnfjjgihkmjmaaGreatDoor
