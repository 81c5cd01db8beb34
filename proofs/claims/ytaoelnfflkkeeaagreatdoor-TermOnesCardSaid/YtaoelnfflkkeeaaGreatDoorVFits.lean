/-
  THE DOCUMENT's 'Same' and 'Fits'.
-/
import Derived.Test.YtaoelnfflkkeeaaGreatDoorVOf
namespace Go.Proofs.YtaoelnfflkkeeaaGreatDoor
open Go.RowKit
set_option linter.unusedVariables false

theorem same_big (x y : Int) (hx : (digs x.natAbs).length ≤ 100000) (hy : (digs y.natAbs).length ≤ 100000) (u v : Value) (w : World) (hu : BigV w u x) (hv : BigV w v y) :
    Calls Tryz.prog 17 #[u, v] w fun e w' => e = .returned (.bool (decide (x = y))) ∧ Below w.heap.size w w' := by
  obtain ⟨A, ca, rfl, _, hA⟩ := hu
  obtain ⟨B, cb, rfl, _, hB⟩ := hv
  have hb0 : Below w.heap.size w ((w.alloc (.cells #[.bool (decide (x < 0)), .slice A (digs x.natAbs).length ca] 37)).alloc (.cells #[.bool (decide (y < 0)), .slice B (digs y.natAbs).length cb] 37)) := ((Below.refl _ _).alloc (Nat.le_refl _) _).alloc (by simp) _
  have cS := sizes_any (digs x.natAbs) (digs y.natAbs) (by omega) (by omega) A B ca cb _ (hA.below hb0) (hB.below hb0)
  have hsz := szL_digs x.natAbs y.natAbs
  obtain ⟨dx, hdx⟩ : ∃ l, l = digs x.natAbs := ⟨_, rfl⟩
  obtain ⟨dy, hdy⟩ : ∃ l, l = digs y.natAbs := ⟨_, rfl⟩
  obtain ⟨na, hna⟩ : ∃ b, b = decide (x < 0) := ⟨_, rfl⟩
  obtain ⟨nb, hnb⟩ : ∃ b, b = decide (y < 0) := ⟨_, rfl⟩
  obtain ⟨R, hR⟩ : ∃ b, b = decide (x = y) := ⟨_, rfl⟩
  rw [← hdx, ← hdy] at hsz
  rw [← hdx, ← hdy, ← hna, ← hnb] at cS hb0
  rw [← hdx, ← hdy, ← hna, ← hnb, ← hR]
  obtain ⟨r, hr⟩ : ∃ r, r = szL dx dy := ⟨_, rfl⟩
  rw [← hr] at cS hsz
  have hB0 := Lib.hid hb0
  by_cases hs : na = nb
  · have hrr : (r == 0) = R := by
      rw [hR, Bool.eq_iff_iff, beq_iff_eq, decide_eq_true_eq, hsz]
      rw [hna, hnb, decide_eq_decide] at hs
      constructor
      · intro h
        by_cases h1 : x.natAbs < y.natAbs
        · rw [if_pos h1] at h; omega
        · by_cases h2 : y.natAbs < x.natAbs
          · rw [if_neg h1, if_pos h2] at h; omega
          · omega
      · rintro rfl
        rw [if_neg (by omega), if_neg (by omega)]
    have hss : (na == nb) = true := by simpa using hs
    subst hs
    have HR := Lib.hid hrr
    clear hsz hr hR hna hnb hdx hdy hx hy hA hB hb0 hrr hss
    go_enter Tryz.func17, Tryz.ntmps17
    go_wp2_with (go_at_call 32; (with_reducible refine cS.mono ?_); rintro e w4 ⟨rfl, n4, rfl⟩)
    go_ret
    exact ⟨ret_b (by rw [← HR.out]), below_dr hB0.out _⟩
  · have hss : (na == nb) = false := by simpa using hs
    have hRf : R = false := by
      rw [hR, decide_eq_false_iff_not]
      rintro rfl
      exact hs (by rw [hna, hnb])
    subst hRf
    clear hsz hr hR hna hnb hdx hdy hx hy hA hB hb0 hs cS
    go_enter Tryz.func17, Tryz.ntmps17
    go_wp2
    go_ret
    exact ⟨rfl, hB0.out⟩
def F64 (x : Int) : Prop := -9223372036854775808 ≤ x ∧ x ≤ 9223372036854775807
instance (x : Int) : Decidable (F64 x) := by unfold F64; infer_instance
/-- Of's answer, laid open. -/
def OfP (w : World) (nb : Bool) (d : List Int) (e : Ending) (w' : World) : Prop := ∃ (A : Option Addr) (c : Nat), e = .returned (.agg #[.bool nb, .slice A d.length c]) ∧ DAt w' A d ∧ Below w.heap.size w w'
theorem of_open {n : Int} {w : World} (h : Calls Tryz.prog 18 #[.int .i64 n] w (BgPost w n)) : Calls Tryz.prog 18 #[.int .i64 n] w (OfP w (decide (n < 0)) (digs n.natAbs)) :=
  h.mono fun e w' ⟨v, he, ⟨A, c, hv, _, h2⟩, hb⟩ => ⟨A, c, by rw [he, hv], h2, hb⟩
theorem DAt.blk {w : World} {A : Option Addr} {l : List Int} (h : DAt w A l) (o : Obj) : DAt (w.alloc o) A l := h.below ((Below.refl _ _).alloc (Nat.le_refl _) o)
theorem DAt.out {w' : World} {A : Option Addr} {l : List Int} (h : DAt w' A l) {g : Nat} {a : Bool} {v : Option Addr} {n c : Nat} (hg : Bk w' g 37 #[.bool a, .slice v n c]) (i : Nat) (x : Value) : DAt (w'.setCell ⟨g, i, none⟩ x) A l := by
  intro j y hy
  obtain ⟨gA, o, e, hlt, hc⟩ := h j y hy
  have hne : gA ≠ g := by
    rintro rfl
    rw [hg.cell] at hc
    match o + j, hc with
    | 0, hc => simp at hc
    | 1, hc => simp at hc
    | k + 2, hc => simp at hc
  refine ⟨gA, o, e, by simpa [World.setCell] using hlt, ?_⟩
  exact (World.cell?_of_block (Below.heap_setCell w' ⟨g, i, none⟩ x gA hne)).trans hc
set_option maxHeartbeats 4000000 in
theorem fits_big (x : Int) (hx : (digs x.natAbs).length ≤ 100000) (u : Value) (w : World) (hu : BigV w u x) :
    Calls Tryz.prog 40 #[u] w fun e w' => e = .returned (.bool (decide (F64 x))) ∧ Below w.heap.size w w' := by
  obtain ⟨A, ca, rfl, _, hA⟩ := hu
  have cL := fun W => of_open (of_big (-9223372036854775808) (by omega) W)
  have cH := fun W => of_open (of_big 9223372036854775807 (by omega) W)
  have hL := szL_digs x.natAbs 9223372036854775808
  have hH := szL_digs x.natAbs 9223372036854775807
  have lL : (digs 9223372036854775808).length ≤ 20 := digs_len (by decide)
  have lH : (digs 9223372036854775807).length ≤ 20 := digs_len (by decide)
  have e1 : ((-9223372036854775808 : Int)).natAbs = 9223372036854775808 := by decide
  have e2 : ((9223372036854775807 : Int)).natAbs = 9223372036854775807 := by decide
  have e3 : decide ((-9223372036854775808 : Int) < 0) = true := by decide
  have e4 : decide ((9223372036854775807 : Int) < 0) = false := by decide
  rw [e1, e3] at cL
  rw [e2, e4] at cH
  clear e1 e2 e3 e4
  obtain ⟨dl, hdl⟩ : ∃ l, l = digs 9223372036854775808 := ⟨_, rfl⟩
  obtain ⟨dh, hdh⟩ : ∃ l, l = digs 9223372036854775807 := ⟨_, rfl⟩
  obtain ⟨dx, hdx⟩ : ∃ l, l = digs x.natAbs := ⟨_, rfl⟩
  rw [← hdl] at cL hL lL
  rw [← hdh] at cH hH lH
  rw [← hdx] at hL hH hx hA ⊢
  have hR1 : x < 0 → decide (F64 x) = decide (szL dx dl ≤ 0) := by
    intro h0
    rw [decide_eq_decide, hL]
    unfold F64
    by_cases h1 : x.natAbs < 9223372036854775808
    · rw [if_pos h1]; omega
    · by_cases h2 : 9223372036854775808 < x.natAbs
      · rw [if_neg h1, if_pos h2]; omega
      · rw [if_neg h1, if_neg h2]; omega
  have hR2 : ¬ x < 0 → decide (F64 x) = decide (szL dx dh ≤ 0) := by
    intro h0
    rw [decide_eq_decide, hH]
    unfold F64
    by_cases h1 : x.natAbs < 9223372036854775807
    · rw [if_pos h1]; omega
    · by_cases h2 : 9223372036854775807 < x.natAbs
      · rw [if_neg h1, if_pos h2]; omega
      · rw [if_neg h1, if_neg h2]; omega
  have cS : ∀ (d : List Int) (B : Option Addr) (c : Nat) (W : World), d.length ≤ 20 → DAt W A dx → DAt W B d → Calls Tryz.prog 32 #[.slice A dx.length ca, .slice B d.length c] W (SzPost W (szL dx d)) := fun d B c W hd hA hB => sizes_any dx d (by omega) (by omega) A B ca c W hA hB
  have HA := Lib.hid hA
  by_cases h0 : x < 0
  · rw [hR1 h0]
    have g0 : decide (x < 0) = true := by simpa using h0
    rw [g0]
    obtain ⟨r, hr⟩ : ∃ r, r = szL dx dl := ⟨_, rfl⟩
    rw [← hr]
    have HRR := Lib.hid hr
    clear hL hH hdl hdh hdx hR1 hR2 h0 g0 hx hA hr
    go_enter Tryz.func40, Tryz.ntmps40
    go_wp2_with (first
      | (go_at_call 18; (with_reducible refine (cL _).mono ?_); rintro e w1 ⟨A1, c1, rfl, h11, h12⟩; have k1 := (Bk.new w 37 #[.bool true, .slice A dx.length ca]).below h12 (by simp))
      | (go_at_call 18; (with_reducible refine (cH _).mono ?_); rintro e w2 ⟨A2, c2, rfl, h21, h22⟩; have k2 := k1.below h22 k1.lt; have q0 := k2.cell 0; have q1 := k2.cell 1; simp at q0 q1; have hz := k2.lt; have hb2 : Below w.heap.size w w2 := ((Below.refl _ _).alloc (Nat.le_refl _) _).trans ((h12.mono (by simp)).trans (h22.mono (by have := h12.size; simp at this; omega))); have z1 := HA.out.below hb2; have z2 := h11.below h22)
      | (go_at_call 32; (with_reducible refine (cS dl A1 c1 _ lL (z1.blk _ |>.blk _) (z2.blk _ |>.blk _)).mono ?_); rintro e w4 ⟨rfl, n4, rfl⟩))
    go_ret
    exact ⟨ret_b (by rw [← HRR.out]), below_dr ((hb2.alloc hb2.size _).alloc (by have := hb2.size; simp; omega) _) _⟩
  · rw [hR2 h0]
    have g0 : decide (x < 0) = false := by simpa using h0
    rw [g0]
    obtain ⟨r, hr⟩ : ∃ r, r = szL dx dh := ⟨_, rfl⟩
    rw [← hr]
    have HRR := Lib.hid hr
    clear hL hH hdl hdh hdx hR1 hR2 h0 g0 hx hA hr
    go_enter Tryz.func40, Tryz.ntmps40
    go_wp2_with (first
      | (go_at_call 18; (with_reducible refine (cL _).mono ?_); rintro e w1 ⟨A1, c1, rfl, h11, h12⟩; have k1 := (Bk.new w 37 #[.bool false, .slice A dx.length ca]).below h12 (by simp))
      | (go_at_call 18; (with_reducible refine (cH _).mono ?_); rintro e w2 ⟨A2, c2, rfl, h21, h22⟩; have k2 := k1.below h22 k1.lt; have q0 := k2.cell 0; have q1 := k2.cell 1; simp at q0 q1; have hz := k2.lt; have hb2 : Below w.heap.size w w2 := ((Below.refl _ _).alloc (Nat.le_refl _) _).trans ((h12.mono (by simp)).trans (h22.mono (by have := h12.size; simp at this; omega))); have z1 := HA.out.below hb2; have z2 := h11.below h22)
      | (go_at_call 32; (with_reducible refine (cS dh A2 c2 _ lH (z1.blk _ |>.blk _) (h21.blk _ |>.blk _)).mono ?_); rintro e w4 ⟨rfl, n4, rfl⟩))
    go_ret
    exact ⟨ret_b (by rw [← HRR.out]), below_dr ((hb2.alloc hb2.size _).alloc (by have := hb2.size; simp; omega) _) _⟩
end Go.Proofs.YtaoelnfflkkeeaaGreatDoor
