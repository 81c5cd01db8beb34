/-
  MERGED (a claim has at most 60 files): TEqB, TEff, TAwake.
-/
import Derived.Test.YtpnfjjgihkmjmaaGreatDoorZ16
import Derived.Test.YtpnfjjgihkmjmaaGreatDoorZ13
/-
  WHETHER TWO LITERALS ARE OF ONE VALUE; a term as a truth.
-/
namespace Go.Proofs.YtpnfjjgihkmjmaaGreatDoor
open Go.RowKit
set_option linter.unusedVariables false

/-- A box of three, behind a call that makes memory. -/
theorem box3 {w2 w4 : World} {a b c : ByteArray} {t : TypeId} (hb : Below (w2.alloc (.cells #[.string a, .string b, .string c] t)).heap.size (w2.alloc (.cells #[.string a, .string b, .string c] t)) w4) :
    w4.cell? ⟨w2.heap.size, 0, none⟩ = some (.string a) ∧ w4.cell? ⟨w2.heap.size, 1, none⟩ = some (.string b) ∧ w4.cell? ⟨w2.heap.size, 2, none⟩ = some (.string c) := by
  have h : Fb w4 w2.heap.size t #[.string a, .string b, .string c] := (Fb.new w2 t _).below hb
  exact ⟨h.cell 0, h.cell 1, h.cell 2⟩
set_option maxRecDepth 100000 in
set_option maxHeartbeats 8000000 in
theorem equal_lits (a b c a' b' c' : ByteArray) (h : sameB (.lit a b c) (.lit a' b' c') = false) (hs : a.size ≤ 1000000) (hs' : a'.size ≤ 1000000) (w : World) (hv : LV w) :
    Calls Tryz.prog 51 #[(Tm.lit a b c).val, (Tm.lit a' b' c').val] w fun e w' => e = .returned (.int .u8 (eqv (.lit a b c) (.lit a' b' c'))) ∧ Below w.heap.size w w' := by
  have cS := same_any (.lit a b c) (.lit a' b' c') w
  rw [h] at cS
  have cx : ∀ W, Calls Tryz.prog 52 #[(Tm.lit a b c).val] W _ := asLit_any (.lit a b c)
  have cy : ∀ W, Calls Tryz.prog 52 #[(Tm.lit a' b' c').val] W _ := asLit_any (.lit a' b' c')
  have cI := eqI_any (.lit a b c) (.lit a' b' c') hs hs'
  have cB := eqB_any (.lit a b c) (.lit a' b' c')
  have hr : eqv (.lit a b c) (.lit a' b' c') = (if ((b.toList == lI) && (b'.toList == lI)) = true then eqI (.lit a b c) (.lit a' b' c') else if ((b.toList == lB) && (b'.toList == lB)) = true then eqB (.lit a b c) (.lit a' b' c') else if (known b && known b') = true then 0 else 2) := by
    unfold eqv
    rw [h, if_neg (by decide), if_pos (show ((Tm.lit a b c).isLit && (Tm.lit a' b' c').isLit) = true from rfl)]
    rfl
  have ck := known_any b
  have ck' := known_any b'
  obtain ⟨r, hrr⟩ : ∃ k, k = eqv (.lit a b c) (.lit a' b' c') := ⟨_, rfl⟩
  obtain ⟨i, hi⟩ : ∃ k, k = eqI (.lit a b c) (.lit a' b' c') := ⟨_, rfl⟩
  obtain ⟨o, ho⟩ : ∃ k, k = eqB (.lit a b c) (.lit a' b' c') := ⟨_, rfl⟩
  obtain ⟨n, hn⟩ : ∃ k, k = known b := ⟨_, rfl⟩
  obtain ⟨n', hn'⟩ : ∃ k, k = known b' := ⟨_, rfl⟩
  rw [← hrr, ← hi, ← ho, ← hn, ← hn'] at hr
  rw [← hi] at cI
  rw [← ho] at cB
  rw [← hn] at ck
  rw [← hn'] at ck'
  rw [← hrr]
  have hLV := Lib.hid hv
  clear hrr hi ho hn hn' h hs hs' hv
  simp only [Tm.val, Tm.la, Tm.isLit, Tm.ta, Tm.tb, Tm.tc, if_true] at cS cx cy cI cB ⊢
  have ways : ((b.toList == lI) = true ∧ (b'.toList == lI) = true ∧ r = i) ∨ (((b.toList == lI) = false ∨ ((b.toList == lI) = true ∧ (b'.toList == lI) = false)) ∧
      (((b.toList == lB) = true ∧ (b'.toList == lB) = true ∧ r = o) ∨ (((b.toList == lB) = false ∨ ((b.toList == lB) = true ∧ (b'.toList == lB) = false)) ∧ ((n = false ∧ r = 2) ∨ (n = true ∧ n' = false ∧ r = 2) ∨ (n = true ∧ n' = true ∧ r = 0))))) := by
    cases h1 : (b.toList == lI) <;> cases h2 : (b'.toList == lI) <;> cases h3 : (b.toList == lB) <;> cases h4 : (b'.toList == lB) <;> cases n <;> cases n' <;> rw [h1, h2, h3, h4] at hr <;> simp at hr <;> simp [hr]
  clear hr
  rcases ways with ⟨h1, h2, hr⟩ | ⟨h1 | ⟨h1, h2⟩, ⟨h3, h4, hr⟩ | ⟨h3 | ⟨h3, h4⟩, ⟨rfl, hr⟩ | ⟨rfl, rfl, hr⟩ | ⟨rfl, rfl, hr⟩⟩⟩
  all_goals
    have HR := Lib.hid hr
    clear hr
    go_enter Tryz.func51, Tryz.ntmps51
    go_wp2_with (first
      | (go_at_call 32; (with_reducible refine cS.mono ?_); rintro e w1 ⟨rfl, hb1⟩)
      | (go_at_call 52; (with_reducible refine (cx _).mono ?_); rintro e w2 ⟨rfl, hb2⟩; have hb3 := (hb1.trans (hb2.mono hb1.size)).alloc (Nat.le_trans hb1.size hb2.size) (.cells #[.string a, .string b, .string c] 74))
      | (go_at_call 52; (with_reducible refine (cy _).mono ?_); rintro e w4 ⟨rfl, hb4⟩; have hb5 := (hb3.trans (hb4.mono hb3.size)).alloc (Nat.le_trans hb3.size hb4.size) (.cells #[.string a', .string b', .string c'] 74); obtain ⟨q1, q2, q3⟩ := box3 hb4; have hz : w2.heap.size < w4.heap.size := by (have := hb4.size; simp at this; omega))
      | (go_at_call 79; (with_reducible refine (cI _ (hLV.out.below hb5)).mono ?_); rintro e w6 ⟨rfl, hb6⟩; have hb7 := hb5.trans (hb6.mono hb5.size))
      | (go_at_call 80; (with_reducible refine (cB _ (hLV.out.below hb5)).mono ?_); rintro e w6 ⟨rfl, hb6⟩; have hb7 := hb5.trans (hb6.mono hb5.size))
      | (go_at_call 81; (with_reducible refine (ck _).mono ?_); rintro e w' ⟨rfl, rfl⟩)
      | (go_at_call 81; (with_reducible refine (ck' _).mono ?_); rintro e w' ⟨rfl, rfl⟩))
    go_ret
    exact ⟨ret_u8 HR.out.symm, by assumption⟩
theorem equal_any (x y : Tm) (hx : x.la.size ≤ 1000000) (hy : y.la.size ≤ 1000000) (w : World) (hv : LV w) : Calls Tryz.prog 51 #[x.val, y.val] w fun e w' => e = .returned (.int .u8 (eqv x y)) ∧ Below w.heap.size w w' := by
  cases h : sameB x y
  · cases hl : (x.isLit && y.isLit)
    · have := equal_nolit x y h hl w
      unfold eqv
      rw [h, hl, if_neg (by decide), if_neg (by decide)]
      exact this
    · rw [Bool.and_eq_true] at hl
      match x, y, hl with
      | .lit a b c, .lit a' b' c', _ => exact equal_lits a b c a' b' c' h hx hy w hv
  · have := equal_same x y h w
    unfold eqv
    rw [h, if_pos rfl]
    exact this
end Go.Proofs.YtpnfjjgihkmjmaaGreatDoor

/-
  (Effective is not in this seat.)
-/

/-
  GOOD, ASKED FOR A LITERAL; the law's 'awake'.
-/
namespace Go.Proofs.YtpnfjjgihkmjmaaGreatDoor
open Go.RowKit
set_option linter.unusedVariables false

theorem methLit (v : Value) (w : World) : (method 339 74 v "Good").run Tryz.prog w = .ok (171, v) w := by kernel_rfl
set_option maxRecDepth 100000 in
set_option maxHeartbeats 1000000 in
theorem goodLit_t (a b : ByteArray) (r : Bool) (w : World) (cL : ∀ W, Calls Tryz.prog 171 #[.agg #[.string a, .string b, .string mt]] W fun e w' => e = .returned (.bool r) ∧ Below W.heap.size W w') :
    Calls Tryz.prog 23 #[(Tm.lit a b mt).val] w fun e w' => e = .returned (.bool r) ∧ Below w.heap.size w w' := by
  have cK : ∀ W, Calls Tryz.prog 25 #[(Tm.lit a b mt).val] W _ := kind_any (.lit a b mt)
  simp only [Tm.val, Tm.kind] at cK ⊢
  have hM := methLit
  go_enter Tryz.func23, Tryz.ntmps23
  go_wp2_with (first
    | (go_at_call 25; (with_reducible refine (cK _).mono ?_); rintro e w1 ⟨rfl, hb1⟩)
    | (go_at_call 171; (with_reducible refine (cL _).mono ?_); rintro e w2 ⟨rfl, hb2⟩))
  go_ret
  exact ⟨rfl, hb1.trans (hb2.mono hb1.size)⟩
abbrev one : ByteArray := ⟨#[49]⟩
abbrev oneN : ByteArray := ⟨#[48, 49]⟩
/-- Signs of ASCII, and their bytes. -/
def ascii (l : List Int) : Bool := l.all fun n => decide (0 ≤ n ∧ n ≤ 127)
theorem ascii_enc : ∀ (l : List Int), ascii l = true → encL l = l.map (fun n => n.toNat.toUInt8) ∧ AllS l
  | [], _ => ⟨rfl, allS_nil⟩
  | n :: l, h => by
    unfold ascii at h
    rw [List.all_cons, Bool.and_eq_true, decide_eq_true_eq] at h
    obtain ⟨e, a⟩ := ascii_enc l h.2
    refine ⟨?_, fun m hm => ?_⟩
    · rw [encL_cons, e]
      unfold Lib.encodeRune
      rw [Lib.encodeRuneZ_one h.1.1 h.1.2]
      rfl
    · rcases List.mem_cons.1 hm with rfl | hm
      · exact (sgn_iff _).2 ⟨h.1.1, by omega, by omega⟩
      · exact a m hm
theorem ascii_parts (s : ByteArray) (l : List Int) (h : ascii l = true) (he : s.data.toList = l.map (fun n => n.toNat.toUInt8)) : Parts s.data.toList l [] := by
  obtain ⟨e, a⟩ := ascii_enc l h
  exact ⟨by rw [he, e, List.append_nil], a, .inl rfl⟩
def sigs (l : List UInt8) : List Int := l.map fun c => (c.toNat : Int)
theorem one_parts : Parts one.data.toList [49] [] := ascii_parts _ _ rfl rfl
theorem int_parts : Parts XI.data.toList (sigs lI) [] := ascii_parts _ _ (by decide) (by decide)
theorem lits_good : litB one.size (decide (([] : List UInt8) = [])) (XI.toList == lL) (iriB XI.size (sigs lI) []) = true := by
  rw [ByteArray.toList_eq]
  decide
theorem same_ones : sameB (.lit one XI mt) (.lit oneN XI mt) = false := by
  unfold sameB same4
  simp only [Tm.kind, Tm.ta, Tm.tb, Tm.tc, ByteArray.toList_eq]
  decide
theorem eqv_ones : eqv (.lit one XI mt) (.lit oneN XI mt) = 1 := by
  unfold eqv eqI asI asT prs numZ
  rw [same_ones]
  simp only [Tm.isLit, Tm.la, Tm.ta, Tm.tb, ByteArray.toList_eq]
  decide
set_option maxRecDepth 100000 in
set_option maxHeartbeats 2000000 in
theorem awake_ok (w : World) (hv : LV w) : Calls Tryz.prog 15 #[] w fun e w' => e = .returned (.bool true) ∧ Below w.heap.size w w' := by
  have cS : ∀ W, Calls Tryz.prog 32 #[(Tm.lit one XI mt).val, (Tm.lit oneN XI mt).val] W _ := same_any (.lit one XI mt) (.lit oneN XI mt)
  have cE : ∀ W, LV W → Calls Tryz.prog 51 #[(Tm.lit one XI mt).val, (Tm.lit oneN XI mt).val] W _ := fun W h => equal_any (.lit one XI mt) (.lit oneN XI mt) (by decide) (by decide) W h
  have cG : ∀ W, Calls Tryz.prog 23 #[(Tm.lit one XI mt).val] W _ := fun W => goodLit_t one XI true W fun W => by
    have := litGood_any one XI _ _ _ _ one_parts int_parts (by decide) (by decide) W
    rw [lits_good] at this
    exact this
  rw [same_ones] at cS
  rw [eqv_ones] at cE
  simp only [Tm.val] at cS cE cG
  go_enter Tryz.func15, Tryz.ntmps15
  have hLV := Lib.hid hv
  clear hv
  go_wp2_with (first
    | (go_at_call 32; (with_reducible refine (cS _).mono ?_); rintro e w1 ⟨rfl, hb1⟩; have hx := (Fb.new w 74 #[.string one, .string XI, .string mt]).alloc (.cells #[.string oneN, .string XI, .string mt] 74); have hy := Fb.new (w.alloc (.cells #[.string one, .string XI, .string mt] 74)) 74 #[.string oneN, .string XI, .string mt]; have x1 := hx.below hb1; have y1 := hy.below hb1; have p0 := x1.cell 0; have p1 := x1.cell 1; have p2 := x1.cell 2; have q0 := y1.cell 0; have q1 := y1.cell 1; have q2 := y1.cell 2; simp at p0 p1 p2 q0 q1 q2; have hz1 := hb1.size; have hb0 := (((Below.refl w.heap.size w).alloc (Nat.le_refl _) (.cells #[.string one, .string XI, .string mt] 74)).alloc (by simp) (.cells #[.string oneN, .string XI, .string mt] 74)).trans (hb1.mono (by simp; omega)))
    | (go_at_call 51; (with_reducible refine (cE _ (hLV.out.below hb0)).mono ?_); rintro e w2 ⟨rfl, hb2⟩; have x2 := x1.below hb2; have r0 := x2.cell 0; have r1 := x2.cell 1; have r2 := x2.cell 2; simp at r0 r1 r2; have hz2 := hb2.size)
    | (go_at_call 23; (with_reducible refine (cG _).mono ?_); rintro e w3 ⟨rfl, hb3⟩))
  go_ret
  exact ⟨rfl, (hb0.trans (hb2.mono hb0.size)).trans (hb3.mono (Nat.le_trans hb0.size hb2.size))⟩
end Go.Proofs.YtpnfjjgihkmjmaaGreatDoor
