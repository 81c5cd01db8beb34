/-
  MERGED (a claim has at most 60 files): TEff, TAwake, TTxt, TMake.
-/
import Derived.Test.YtjalhcbomjgkoaaDoorZ21
import Derived.Test.YtjalhcbomjgkoaaDoorZ12
import Derived.Test.YtjalhcbomjgkoaaDoorZ18
import Derived.Deep.RegionHeld3
/-
  (Effective is not in this seat.)
-/

/-
  GOOD, ASKED FOR A LITERAL; the law's 'awake'.
-/
namespace Go.Proofs.YtjalhcbomjgkoaaDoor
open Go.RowKit
set_option linter.unusedVariables false

theorem methLit (v : Value) (w : World) : (method 342 92 v "Good").run Tryd.prog w = .ok (166, v) w := by kernel_rfl
set_option maxRecDepth 100000 in
set_option maxHeartbeats 1000000 in
theorem goodLit_t (a b : ByteArray) (r : Bool) (w : World) (cL : ∀ W, Calls Tryd.prog 166 #[.agg #[.string a, .string b, .string mt]] W fun e w' => e = .returned (.bool r) ∧ Below W.heap.size W w') :
    Calls Tryd.prog 49 #[(Tm.lit a b mt).val] w fun e w' => e = .returned (.bool r) ∧ Below w.heap.size w w' := by
  have cK : ∀ W, Calls Tryd.prog 80 #[(Tm.lit a b mt).val] W _ := kind_any (.lit a b mt)
  simp only [Tm.val, Tm.kind] at cK ⊢
  have hM := methLit
  go_enter Tryd.func49, Tryd.ntmps49
  go_wp2_with (first
    | (go_at_call 80; (with_reducible refine (cK _).mono ?_); rintro e w1 ⟨rfl, hb1⟩)
    | (go_at_call 166; (with_reducible refine (cL _).mono ?_); rintro e w2 ⟨rfl, hb2⟩))
  go_ret
  exact ⟨rfl, hb1.trans (hb2.mono hb1.size)⟩
abbrev one : ByteArray := ⟨#[49]⟩
abbrev oneN : ByteArray := ⟨#[48, 49]⟩
/-- Signs of ASCII, and their bytes. -/
def ascii (l : List Int) : Bool := l.all fun n => decide (0 ≤ n ∧ n ≤ 127)
theorem ascii_enc : ∀ (l : List Int), ascii l = true → encL l = l.map (fun n => n.toNat.toUInt8) ∧ AllS l
  | [], _ => ⟨rfl, allS_nil⟩
  | n :: l, h => by
    unfold ascii at h
    rw [List.all_cons, Bool.and_eq_true, decide_eq_true_eq] at h
    obtain ⟨e, a⟩ := ascii_enc l h.2
    refine ⟨?_, fun m hm => ?_⟩
    · rw [encL_cons, e]
      unfold Lib.encodeRune
      rw [Lib.encodeRuneZ_one h.1.1 h.1.2]
      rfl
    · rcases List.mem_cons.1 hm with rfl | hm
      · exact (sgn_iff _).2 ⟨h.1.1, by omega, by omega⟩
      · exact a m hm
theorem ascii_parts (s : ByteArray) (l : List Int) (h : ascii l = true) (he : s.data.toList = l.map (fun n => n.toNat.toUInt8)) : Parts s.data.toList l [] := by
  obtain ⟨e, a⟩ := ascii_enc l h
  exact ⟨by rw [he, e, List.append_nil], a, .inl rfl⟩
def sigs (l : List UInt8) : List Int := l.map fun c => (c.toNat : Int)
theorem one_parts : Parts one.data.toList [49] [] := ascii_parts _ _ rfl rfl
theorem int_parts : Parts XI.data.toList (sigs lI) [] := ascii_parts _ _ (by decide) (by decide)
theorem lits_good : litB one.size (decide (([] : List UInt8) = [])) (XI.toList == lL) (iriB XI.size (sigs lI) []) = true := by
  rw [ByteArray.toList_eq]
  decide
theorem same_ones : sameB (.lit one XI mt) (.lit oneN XI mt) = false := by
  unfold sameB same4
  simp only [Tm.kind, Tm.ta, Tm.tb, Tm.tc, ByteArray.toList_eq]
  decide
theorem eqv_ones : eqv (.lit one XI mt) (.lit oneN XI mt) = 1 := by
  unfold eqv eqI asI asT prs numZ
  rw [same_ones]
  simp only [Tm.isLit, Tm.la, Tm.ta, Tm.tb, ByteArray.toList_eq]
  decide
set_option maxRecDepth 100000 in
set_option maxHeartbeats 2000000 in
theorem awake_ok (w : World) (hv : LV w) : Calls Tryd.prog 23 #[] w fun e w' => e = .returned (.bool true) ∧ Below w.heap.size w w' := by
  have cS : ∀ W, Calls Tryd.prog 29 #[(Tm.lit one XI mt).val, (Tm.lit oneN XI mt).val] W _ := same_any (.lit one XI mt) (.lit oneN XI mt)
  have cE : ∀ W, LV W → Calls Tryd.prog 30 #[(Tm.lit one XI mt).val, (Tm.lit oneN XI mt).val] W _ := fun W h => equal_any (.lit one XI mt) (.lit oneN XI mt) (by decide) (by decide) W h
  have cG : ∀ W, Calls Tryd.prog 49 #[(Tm.lit one XI mt).val] W _ := fun W => goodLit_t one XI true W fun W => by
    have := litGood_any one XI _ _ _ _ one_parts int_parts (by decide) (by decide) W
    rw [lits_good] at this
    exact this
  rw [same_ones] at cS
  rw [eqv_ones] at cE
  simp only [Tm.val] at cS cE cG
  go_enter Tryd.func23, Tryd.ntmps23
  have hLV := Lib.hid hv
  clear hv
  go_wp2_with (first
    | (go_at_call 29; (with_reducible refine (cS _).mono ?_); rintro e w1 ⟨rfl, hb1⟩; have hx := (Fb.new w 92 #[.string one, .string XI, .string mt]).alloc (.cells #[.string oneN, .string XI, .string mt] 92); have hy := Fb.new (w.alloc (.cells #[.string one, .string XI, .string mt] 92)) 92 #[.string oneN, .string XI, .string mt]; have x1 := hx.below hb1; have y1 := hy.below hb1; have p0 := x1.cell 0; have p1 := x1.cell 1; have p2 := x1.cell 2; have q0 := y1.cell 0; have q1 := y1.cell 1; have q2 := y1.cell 2; simp at p0 p1 p2 q0 q1 q2; have hz1 := hb1.size; have hb0 := (((Below.refl w.heap.size w).alloc (Nat.le_refl _) (.cells #[.string one, .string XI, .string mt] 92)).alloc (by simp) (.cells #[.string oneN, .string XI, .string mt] 92)).trans (hb1.mono (by simp; omega)))
    | (go_at_call 30; (with_reducible refine (cE _ (hLV.out.below hb0)).mono ?_); rintro e w2 ⟨rfl, hb2⟩; have x2 := x1.below hb2; have r0 := x2.cell 0; have r1 := x2.cell 1; have r2 := x2.cell 2; simp at r0 r1 r2; have hz2 := hb2.size)
    | (go_at_call 49; (with_reducible refine (cG _).mono ?_); rintro e w3 ⟨rfl, hb3⟩))
  go_ret
  exact ⟨rfl, (hb0.trans (hb2.mono hb0.size)).trans (hb3.mono (Nat.le_trans hb0.size hb2.size))⟩
end Go.Proofs.YtjalhcbomjgkoaaDoor

/-
  THE TEXT OF AN INTEGER IS ONE OF IT, plain.
-/
namespace Go.Proofs.YtjalhcbomjgkoaaDoor

theorem chars_lenT (l : List Int) : (chars l).length = l.length := by simp [chars]
theorem body_consT (c : UInt8) (r : List UInt8) : body (c :: r) = if c.toNat = 43 ∨ c.toNat = 45 then r else c :: r := rfl
theorem neg_consT (c : UInt8) (r : List UInt8) : neg (c :: r) = decide (c.toNat = 45) := by unfold neg; simp
theorem textZ_negT {n : Int} (h : n < 0) : textZ n = 45 :: chars (digs n.natAbs) := by
  unfold textZ
  rw [if_neg (by omega), if_pos h]; rfl
/-- Of no sign: digits only, and their number is it. -/
theorem textZ_posT {n : Int} (h : 0 ≤ n) : (textZ n).all isD = true ∧ textZ n ≠ [] ∧ (dval 0 (textZ n) : Int) = n := by
  by_cases h0 : n = 0
  · subst h0; exact ⟨by decide, by decide, by decide⟩
  · have e : textZ n = chars (digs n.natAbs) := by
      unfold textZ
      rw [if_neg h0, if_neg (by omega)]; rfl
    have hd := digs_dig n.natAbs
    refine ⟨by rw [e]; exact chars_all hd, ?_, by rw [e, chars_dval hd, digs_val]; omega⟩
    rw [e]
    intro hc
    have := congrArg List.length hc
    rw [chars_lenT] at this
    have := digs_nil.1 (List.length_eq_zero_iff.1 this)
    omega
theorem zeros_allT (k : Nat) : (List.replicate k (48 : UInt8)).all isD = true := by
  rw [List.all_eq_true]
  intro c hc
  rw [List.eq_of_mem_replicate hc]; decide
theorem minus_numT {n : Int} (h : n < 0) (k : Nat) : isNum (45 :: (List.replicate k 48 ++ chars (digs n.natAbs))) = true ∧ numZ (45 :: (List.replicate k 48 ++ chars (digs n.natAbs))) = n := by
  have hd := digs_dig n.natAbs
  have e : body (45 :: (List.replicate k 48 ++ chars (digs n.natAbs))) = List.replicate k 48 ++ chars (digs n.natAbs) := rfl
  constructor
  · unfold isNum
    rw [e, List.all_append, zeros_allT, chars_all hd]
    have : (List.replicate k 48 ++ chars (digs n.natAbs)).isEmpty = false := by
      rw [List.isEmpty_eq_false_iff]
      intro hc
      have := congrArg List.length (List.append_eq_nil_iff.1 hc).2
      rw [chars_lenT] at this
      have := digs_nil.1 (List.length_eq_zero_iff.1 this)
      omega
    rw [this]; rfl
  · unfold numZ
    rw [if_pos (by unfold neg; simp), e, dval_zeros, chars_dval hd, digs_val]; omega
theorem body_digitT {l : List UInt8} (h : l.all isD = true) (hne : l ≠ []) : body l = l ∧ neg l = false := by
  cases l with
  | nil => exact absurd rfl hne
  | cons c r =>
    have hc : isD c = true := by rw [List.all_cons, Bool.and_eq_true] at h; exact h.1
    have hd : 48 ≤ c.toNat ∧ c.toNat ≤ 57 := of_decide_eq_true hc
    refine ⟨by rw [body_consT, if_neg (by omega)], by rw [neg_consT, decide_eq_false (by omega)]⟩
theorem textZ_numT (n : Int) : isNum (textZ n) = true ∧ numZ (textZ n) = n := by
  by_cases h : n < 0
  · have := minus_numT h 0
    rw [List.replicate_zero, List.nil_append] at this
    rw [textZ_negT h]
    exact this
  · obtain ⟨a, b, c⟩ := textZ_posT (show 0 ≤ n by omega)
    obtain ⟨d, e⟩ := body_digitT a b
    constructor
    · unfold isNum
      rw [d, a]
      have : (textZ n).isEmpty = false := by rw [List.isEmpty_eq_false_iff]; exact b
      rw [this]; rfl
    · unfold numZ
      rw [if_neg (by rw [e]; decide), d, c]
theorem textZ_inj {a b : Int} (h : textZ a = textZ b) : a = b := by
  have := (textZ_numT a).2
  rw [h, (textZ_numT b).2] at this
  exact this.symm
end Go.Proofs.YtjalhcbomjgkoaaDoor

/-
  LITERALS THAT ARE MADE: Plain, Int, Bool.
-/
namespace Go.Proofs.YtjalhcbomjgkoaaDoor
open Go.RowKit
set_option linter.unusedVariables false

theorem plain_any (s : ByteArray) (w : World) : Calls Tryd.prog 65 #[.string s] w fun e w' => e = .returned (.agg #[.string s, .string XS, .string mt]) ∧ Below w.heap.size w w' := by
  go_enter Tryd.func65, Tryd.ntmps65
  go_wp2
  exact bodyPost_ret (v := .agg #[.string s, .string XS, .string mt]) (by simp [results, Tryd.results65, go_sem]) rfl ⟨rfl, (Below.refl _ _).alloc (Nat.le_refl _) _⟩
theorem awake_b {w W : World} (hv : LV w) (hb : Below w.heap.size w W) : Calls Tryd.prog 23 #[] W fun e w' => e = .returned (.bool true) ∧ Below w.heap.size w w' :=
  (awake_ok W (hv.below hb)).mono fun e w' ⟨a, b⟩ => ⟨a, hb.trans (b.mono hb.size)⟩
theorem Fb.free {w : World} {g : Nat} {t : TypeId} {cs : Array Value} (h : Fb w g t cs) (i : Nat) : w.frozen? ⟨g, i, none⟩ = false := by
  unfold Fb at h
  simp [World.frozen?, h]
end Go.Proofs.YtjalhcbomjgkoaaDoor
