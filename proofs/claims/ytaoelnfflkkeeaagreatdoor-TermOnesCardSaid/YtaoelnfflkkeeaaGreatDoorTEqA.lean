/-
  WHETHER TWO TERMS ARE OF ONE VALUE; a term as a truth.
-/
import Derived.Test.YtaoelnfflkkeeaaGreatDoorTAsk
namespace Go.Proofs.YtaoelnfflkkeeaaGreatDoor
open Go.RowKit
set_option linter.unusedVariables false

abbrev fI : Value := .func (.func 8) #[] #[]
abbrev fB : Value := .func (.func 9) #[] #[]
def eqI (x y : Tm) : Int := tru ((asI x).1 == (asI y).1) (orT (asI x).2 (asI y).2)
def eqB (x y : Tm) : Int := tru ((asB x).1 == (asB y).1) (orT (asB x).2 (asB y).2)
set_option maxHeartbeats 2000000 in
theorem eqI_any (x y : Tm) (hx : x.la.size ≤ 1000000) (hy : y.la.size ≤ 1000000) (w : World) (hv : LV w) : Calls Tryz.prog 34 #[fI, x.val, y.val] w fun e w' => e = .returned (.int .u8 (eqI x y)) ∧ Below w.heap.size w w' := by
  have cx : ∀ W, LV W → Calls Tryz.prog 8 #[x.val] W fun e w' => e = .returned (twoP (asI x).1 (asI x).2) ∧ Below W.heap.size W w' := fun W h => asInt_any x hx W h
  have cy : ∀ W, LV W → Calls Tryz.prog 8 #[y.val] W fun e w' => e = .returned (twoP (asI y).1 (asI y).2) ∧ Below W.heap.size W w' := fun W h => asInt_any y hy W h
  unfold eqI
  obtain ⟨z, hz⟩ : ∃ k, k = (asI x).1 := ⟨_, rfl⟩
  obtain ⟨u, hu⟩ : ∃ k, k = (asI x).2 := ⟨_, rfl⟩
  obtain ⟨z', hz'⟩ : ∃ k, k = (asI y).1 := ⟨_, rfl⟩
  obtain ⟨u', hu'⟩ : ∃ k, k = (asI y).2 := ⟨_, rfl⟩
  obtain ⟨vx, hvx⟩ : ∃ k, k = x.val := ⟨_, rfl⟩
  obtain ⟨vy, hvy⟩ : ∃ k, k = y.val := ⟨_, rfl⟩
  rw [← hz, ← hu, ← hvx] at cx
  rw [← hz', ← hu', ← hvy] at cy
  rw [← hz, ← hu, ← hz', ← hu', ← hvx, ← hvy]
  have cO := orErr_any u u'
  have cT := truthOf_any (z == z') (orT u u')
  obtain ⟨r, hr⟩ : ∃ k, k = tru (z == z') (orT u u') := ⟨_, rfl⟩
  obtain ⟨o, ho⟩ : ∃ k, k = orT u u' := ⟨_, rfl⟩
  rw [← hr] at cT
  rw [← hr]
  rw [← ho] at cO cT
  have hLV := Lib.hid hv
  clear hz hu hz' hu' hvx hvy hr ho hv
  go_enter Tryz.func34, Tryz.ntmps34
  go_wp2_with (first
    | (go_at_call 8; (with_reducible refine (cx _ hLV.out).mono ?_); rintro e w1 ⟨rfl, hb1⟩)
    | (go_at_call 8; (with_reducible refine (cy _ (hLV.out.below hb1)).mono ?_); rintro e w2 ⟨rfl, hb2⟩)
    | (go_at_call 45; (with_reducible refine (cO _ _ _ (by simp [go_sem]) (by simp [go_sem])).mono ?_); rintro e w' ⟨rfl, rfl⟩)
    | (go_at_call 30; (with_reducible refine (cT _).mono ?_); rintro e w' ⟨rfl, rfl⟩))
  go_ret
  exact ⟨rfl, (hb1.trans (hb2.mono hb1.size)).alloc (Nat.le_trans hb1.size hb2.size) _⟩
set_option maxHeartbeats 2000000 in
theorem eqB_any (x y : Tm) (w : World) (hv : LV w) : Calls Tryz.prog 35 #[fB, x.val, y.val] w fun e w' => e = .returned (.int .u8 (eqB x y)) ∧ Below w.heap.size w w' := by
  have cx : ∀ W, LV W → Calls Tryz.prog 9 #[x.val] W fun e w' => e = .returned (oT (asB x).1 (asB x).2) ∧ Below W.heap.size W w' := fun W h => asBool_any x W
  have cy : ∀ W, LV W → Calls Tryz.prog 9 #[y.val] W fun e w' => e = .returned (oT (asB y).1 (asB y).2) ∧ Below W.heap.size W w' := fun W h => asBool_any y W
  unfold eqB
  obtain ⟨z, hz⟩ : ∃ k, k = (asB x).1 := ⟨_, rfl⟩
  obtain ⟨u, hu⟩ : ∃ k, k = (asB x).2 := ⟨_, rfl⟩
  obtain ⟨z', hz'⟩ : ∃ k, k = (asB y).1 := ⟨_, rfl⟩
  obtain ⟨u', hu'⟩ : ∃ k, k = (asB y).2 := ⟨_, rfl⟩
  obtain ⟨vx, hvx⟩ : ∃ k, k = x.val := ⟨_, rfl⟩
  obtain ⟨vy, hvy⟩ : ∃ k, k = y.val := ⟨_, rfl⟩
  rw [← hz, ← hu, ← hvx] at cx
  rw [← hz', ← hu', ← hvy] at cy
  rw [← hz, ← hu, ← hz', ← hu', ← hvx, ← hvy]
  have cO := orErr_any u u'
  have cT := truthOf_any (z == z') (orT u u')
  obtain ⟨r, hr⟩ : ∃ k, k = tru (z == z') (orT u u') := ⟨_, rfl⟩
  obtain ⟨o, ho⟩ : ∃ k, k = orT u u' := ⟨_, rfl⟩
  rw [← hr] at cT
  rw [← hr]
  rw [← ho] at cO cT
  have hLV := Lib.hid hv
  clear hz hu hz' hu' hvx hvy hr ho hv
  go_enter Tryz.func35, Tryz.ntmps35
  go_wp2_with (first
    | (go_at_call 9; (with_reducible refine (cx _ hLV.out).mono ?_); rintro e w1 ⟨rfl, hb1⟩)
    | (go_at_call 9; (with_reducible refine (cy _ (hLV.out.below hb1)).mono ?_); rintro e w2 ⟨rfl, hb2⟩)
    | (go_at_call 45; (with_reducible refine (cO _ _ _ (by simp [go_sem]) (by simp [go_sem])).mono ?_); rintro e w' ⟨rfl, rfl⟩)
    | (go_at_call 30; (with_reducible refine (cT _).mono ?_); rintro e w' ⟨rfl, rfl⟩))
  go_ret
  exact ⟨rfl, (hb1.trans (hb2.mono hb1.size)).alloc (Nat.le_trans hb1.size hb2.size) _⟩
def eqv (x y : Tm) : Int :=
  if sameB x y = true then 1
  else if (x.isLit && y.isLit) = true then
    (if ((x.tb.toList == lI) && (y.tb.toList == lI)) = true then eqI x y
    else if ((x.tb.toList == lB) && (y.tb.toList == lB)) = true then eqB x y
    else if (known x.tb && known y.tb) = true then 0 else 2)
  else 0
theorem equal_same (x y : Tm) (h : sameB x y = true) (w : World) : Calls Tryz.prog 21 #[x.val, y.val] w fun e w' => e = .returned (.int .u8 1) ∧ Below w.heap.size w w' := by
  have cS := same_any x y w
  rw [h] at cS
  clear h
  obtain ⟨vx, hvx⟩ : ∃ k, k = x.val := ⟨_, rfl⟩
  obtain ⟨vy, hvy⟩ : ∃ k, k = y.val := ⟨_, rfl⟩
  rw [← hvx, ← hvy] at cS ⊢
  clear hvx hvy
  go_enter Tryz.func21, Tryz.ntmps21
  go_wp2_with (go_at_call 20; (with_reducible refine cS.mono ?_); rintro e w1 ⟨rfl, hb1⟩)
  go_ret
  exact ⟨rfl, hb1⟩
set_option maxHeartbeats 2000000 in
theorem equal_nolit (x y : Tm) (h : sameB x y = false) (hl : (x.isLit && y.isLit) = false) (w : World) : Calls Tryz.prog 21 #[x.val, y.val] w fun e w' => e = .returned (.int .u8 0) ∧ Below w.heap.size w w' := by
  have cS := same_any x y w
  rw [h] at cS
  have cx : ∀ W, Calls Tryz.prog 22 #[x.val] W _ := asLit_any x
  have cy : ∀ W, Calls Tryz.prog 22 #[y.val] W _ := asLit_any y
  obtain ⟨vx, hvx⟩ : ∃ k, k = x.val := ⟨_, rfl⟩
  obtain ⟨vy, hvy⟩ : ∃ k, k = y.val := ⟨_, rfl⟩
  obtain ⟨a, ha⟩ : ∃ k, k = x.la := ⟨_, rfl⟩
  obtain ⟨b, hb⟩ : ∃ k, k = x.tb := ⟨_, rfl⟩
  obtain ⟨c, hc⟩ : ∃ k, k = x.tc := ⟨_, rfl⟩
  obtain ⟨a', ha'⟩ : ∃ k, k = y.la := ⟨_, rfl⟩
  obtain ⟨b', hb'⟩ : ∃ k, k = y.tb := ⟨_, rfl⟩
  obtain ⟨c', hc'⟩ : ∃ k, k = y.tc := ⟨_, rfl⟩
  obtain ⟨ok, hok⟩ : ∃ k, k = x.isLit := ⟨_, rfl⟩
  obtain ⟨ok', hok'⟩ : ∃ k, k = y.isLit := ⟨_, rfl⟩
  rw [← hvx, ← hvy] at cS
  rw [← hvx, ← ha, ← hb, ← hc, ← hok] at cx
  rw [← hvy, ← ha', ← hb', ← hc', ← hok'] at cy
  rw [← hok, ← hok'] at hl
  rw [← hvx, ← hvy]
  clear hvx hvy ha hb hc ha' hb' hc' hok hok' h
  cases ok
  · clear hl
    go_enter Tryz.func21, Tryz.ntmps21
    go_wp2_with (first
      | (go_at_call 20; (with_reducible refine cS.mono ?_); rintro e w1 ⟨rfl, hb1⟩)
      | (go_at_call 22; (with_reducible refine (cx _).mono ?_); rintro e w2 ⟨rfl, hb2⟩; have hb3 := (hb1.trans (hb2.mono hb1.size)).alloc (Nat.le_trans hb1.size hb2.size) (.cells #[.string a, .string b, .string c] 53))
      | (go_at_call 22; (with_reducible refine (cy _).mono ?_); rintro e w4 ⟨rfl, hb4⟩; have hb5 := (hb3.trans (hb4.mono hb3.size)).alloc (Nat.le_trans hb3.size hb4.size) (.cells #[.string a', .string b', .string c'] 53)))
    go_ret
    exact ⟨rfl, by assumption⟩
  · obtain rfl : ok' = false := by simpa using hl
    clear hl
    go_enter Tryz.func21, Tryz.ntmps21
    go_wp2_with (first
      | (go_at_call 20; (with_reducible refine cS.mono ?_); rintro e w1 ⟨rfl, hb1⟩)
      | (go_at_call 22; (with_reducible refine (cx _).mono ?_); rintro e w2 ⟨rfl, hb2⟩; have hb3 := (hb1.trans (hb2.mono hb1.size)).alloc (Nat.le_trans hb1.size hb2.size) (.cells #[.string a, .string b, .string c] 53))
      | (go_at_call 22; (with_reducible refine (cy _).mono ?_); rintro e w4 ⟨rfl, hb4⟩; have hb5 := (hb3.trans (hb4.mono hb3.size)).alloc (Nat.le_trans hb3.size hb4.size) (.cells #[.string a', .string b', .string c'] 53)))
    go_ret
    exact ⟨rfl, by assumption⟩
end Go.Proofs.YtaoelnfflkkeeaaGreatDoor
