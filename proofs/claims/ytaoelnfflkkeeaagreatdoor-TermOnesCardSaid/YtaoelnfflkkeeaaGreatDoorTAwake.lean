/-
  GOOD, ASKED FOR A LITERAL; the law's 'awake'.
-/
import Derived.Test.YtaoelnfflkkeeaaGreatDoorTEff
import Derived.Test.YtaoelnfflkkeeaaGreatDoorTGood
namespace Go.Proofs.YtaoelnfflkkeeaaGreatDoor
open Go.RowKit
set_option linter.unusedVariables false

theorem methLit (v : Value) (w : World) : (method 257 53 v "Good").run Tryz.prog w = .ok (104, v) w := by kernel_rfl
set_option maxRecDepth 100000 in
set_option maxHeartbeats 1000000 in
theorem goodLit_t (a b : ByteArray) (r : Bool) (w : World) (cL : ∀ W, Calls Tryz.prog 104 #[.agg #[.string a, .string b, .string mt]] W fun e w' => e = .returned (.bool r) ∧ Below W.heap.size W w') :
    Calls Tryz.prog 12 #[(Tm.lit a b mt).val] w fun e w' => e = .returned (.bool r) ∧ Below w.heap.size w w' := by
  have cK : ∀ W, Calls Tryz.prog 14 #[(Tm.lit a b mt).val] W _ := kind_any (.lit a b mt)
  simp only [Tm.val, Tm.kind] at cK ⊢
  have hM := methLit
  go_enter Tryz.func12, Tryz.ntmps12
  go_wp2_with (first
    | (go_at_call 14; (with_reducible refine (cK _).mono ?_); rintro e w1 ⟨rfl, hb1⟩)
    | (go_at_call 104; (with_reducible refine (cL _).mono ?_); rintro e w2 ⟨rfl, hb2⟩))
  go_ret
  exact ⟨rfl, hb1.trans (hb2.mono hb1.size)⟩
abbrev one : ByteArray := ⟨#[49]⟩
abbrev oneN : ByteArray := ⟨#[48, 49]⟩
/-- Signs of ASCII, and their bytes. -/
def ascii (l : List Int) : Bool := l.all fun n => decide (0 ≤ n ∧ n ≤ 127)
theorem ascii_enc : ∀ (l : List Int), ascii l = true → encL l = l.map (fun n => n.toNat.toUInt8) ∧ AllS l
  | [], _ => ⟨rfl, allS_nil⟩
  | n :: l, h => by
    unfold ascii at h
    rw [List.all_cons, Bool.and_eq_true, decide_eq_true_eq] at h
    obtain ⟨e, a⟩ := ascii_enc l h.2
    refine ⟨?_, fun m hm => ?_⟩
    · rw [encL_cons, e]
      unfold Lib.encodeRune
      rw [Lib.encodeRuneZ_one h.1.1 h.1.2]
      rfl
    · rcases List.mem_cons.1 hm with rfl | hm
      · exact (sgn_iff _).2 ⟨h.1.1, by omega, by omega⟩
      · exact a m hm
theorem ascii_parts (s : ByteArray) (l : List Int) (h : ascii l = true) (he : s.data.toList = l.map (fun n => n.toNat.toUInt8)) : Parts s.data.toList l [] := by
  obtain ⟨e, a⟩ := ascii_enc l h
  exact ⟨by rw [he, e, List.append_nil], a, .inl rfl⟩
def sigs (l : List UInt8) : List Int := l.map fun c => (c.toNat : Int)
theorem one_parts : Parts one.data.toList [49] [] := ascii_parts _ _ rfl rfl
theorem int_parts : Parts XI.data.toList (sigs lI) [] := ascii_parts _ _ (by decide) (by decide)
theorem lits_good : litB one.size (decide (([] : List UInt8) = [])) (XI.toList == lL) (iriB XI.size (sigs lI) []) = true := by
  rw [ByteArray.toList_eq]
  decide
theorem same_ones : sameB (.lit one XI mt) (.lit oneN XI mt) = false := by
  unfold sameB same4
  simp only [Tm.kind, Tm.ta, Tm.tb, Tm.tc, ByteArray.toList_eq]
  decide
theorem eqv_ones : eqv (.lit one XI mt) (.lit oneN XI mt) = 1 := by
  unfold eqv eqI asI asT prs numZ
  rw [same_ones]
  simp only [Tm.isLit, Tm.la, Tm.ta, Tm.tb, ByteArray.toList_eq]
  decide
set_option maxRecDepth 100000 in
set_option maxHeartbeats 2000000 in
theorem awake_ok (w : World) (hv : LV w) : Calls Tryz.prog 4 #[] w fun e w' => e = .returned (.bool true) ∧ Below w.heap.size w w' := by
  have cS : ∀ W, Calls Tryz.prog 20 #[(Tm.lit one XI mt).val, (Tm.lit oneN XI mt).val] W _ := same_any (.lit one XI mt) (.lit oneN XI mt)
  have cE : ∀ W, LV W → Calls Tryz.prog 21 #[(Tm.lit one XI mt).val, (Tm.lit oneN XI mt).val] W _ := fun W h => equal_any (.lit one XI mt) (.lit oneN XI mt) (by decide) (by decide) W h
  have cG : ∀ W, Calls Tryz.prog 12 #[(Tm.lit one XI mt).val] W _ := fun W => goodLit_t one XI true W fun W => by
    have := litGood_any one XI _ _ _ _ one_parts int_parts (by decide) (by decide) W
    rw [lits_good] at this
    exact this
  rw [same_ones] at cS
  rw [eqv_ones] at cE
  simp only [Tm.val] at cS cE cG
  go_enter Tryz.func4, Tryz.ntmps4
  have hLV := Lib.hid hv
  clear hv
  go_wp2_with (first
    | (go_at_call 20; (with_reducible refine (cS _).mono ?_); rintro e w1 ⟨rfl, hb1⟩; have hx := (Fb.new w 53 #[.string one, .string XI, .string mt]).alloc (.cells #[.string oneN, .string XI, .string mt] 53); have hy := Fb.new (w.alloc (.cells #[.string one, .string XI, .string mt] 53)) 53 #[.string oneN, .string XI, .string mt]; have x1 := hx.below hb1; have y1 := hy.below hb1; have p0 := x1.cell 0; have p1 := x1.cell 1; have p2 := x1.cell 2; have q0 := y1.cell 0; have q1 := y1.cell 1; have q2 := y1.cell 2; simp at p0 p1 p2 q0 q1 q2; have hz1 := hb1.size; have hb0 := (((Below.refl w.heap.size w).alloc (Nat.le_refl _) (.cells #[.string one, .string XI, .string mt] 53)).alloc (by simp) (.cells #[.string oneN, .string XI, .string mt] 53)).trans (hb1.mono (by simp; omega)))
    | (go_at_call 21; (with_reducible refine (cE _ (hLV.out.below hb0)).mono ?_); rintro e w2 ⟨rfl, hb2⟩; have x2 := x1.below hb2; have r0 := x2.cell 0; have r1 := x2.cell 1; have r2 := x2.cell 2; simp at r0 r1 r2; have hz2 := hb2.size)
    | (go_at_call 12; (with_reducible refine (cG _).mono ?_); rintro e w3 ⟨rfl, hb3⟩))
  go_ret
  exact ⟨rfl, (hb0.trans (hb2.mono hb0.size)).trans (hb3.mono (Nat.le_trans hb0.size hb2.size))⟩
end Go.Proofs.YtaoelnfflkkeeaaGreatDoor
