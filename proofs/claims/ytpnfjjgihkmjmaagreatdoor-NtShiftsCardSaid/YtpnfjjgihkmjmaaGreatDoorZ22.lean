/-
  MERGED (a claim has at most 60 files): NRef, NText, NPl.
-/
import Derived.Test.YtpnfjjgihkmjmaaGreatDoorZ12
import Derived.Laws.StructEq
import Derived.Test.YtpnfjjgihkmjmaaGreatDoorZ19
import Derived.Test.YtpnfjjgihkmjmaaGreatDoorZ04
import Derived.Laws.Concat
import Derived.Test.YtpnfjjgihkmjmaaGreatDoorZ20
import Derived.ProofKit
/-
  A TERM AS THE DOCUMENT's (becklaw03.Ref).
-/
namespace Go.Proofs.YtpnfjjgihkmjmaaGreatDoor
open Go.RowKit
set_option linter.unusedVariables false
set_option linter.unusedSimpArgs false

set_option maxRecDepth 100000 in
theorem lref_any (t : Tm) (w : World) : Calls Tryz.prog 43 #[t.val] w fun e w' => e = .returned (F4 t.kind t.ta t.tb t.tc) ∧ Below w.heap.size w w' := by
  cases t with
  | blank s =>
    simp only [Tm.val, Tm.kind, Tm.ta, Tm.tb, Tm.tc]
    have hBB := asBB
    go_enter Tryz.func43, Tryz.ntmps43
    go_wp2
    exact bodyPost_ret (v := F4 0 s mt mt) (by simp [results, Tryz.results43, go_sem]) rfl ⟨rfl, ((Below.refl _ _).alloc (Nat.le_refl _) _).alloc (by simp) _⟩
  | iri s =>
    simp only [Tm.val, Tm.kind, Tm.ta, Tm.tb, Tm.tc]
    have hIB := asIB
    have hII := asII
    go_enter Tryz.func43, Tryz.ntmps43
    go_wp2
    exact bodyPost_ret (v := F4 1 s mt mt) (by simp [results, Tryz.results43, go_sem]) rfl ⟨rfl, ((Below.refl _ _).alloc (Nat.le_refl _) _).alloc (by simp) _⟩
  | lit a b c =>
    simp only [Tm.val, Tm.kind, Tm.ta, Tm.tb, Tm.tc]
    have hLB := asLB
    have hLI := asLI
    have hLL := asLL
    go_enter Tryz.func43, Tryz.ntmps43
    go_wp2
    exact bodyPost_ret (v := F4 2 a b c) (by simp [results, Tryz.results43, go_sem]) rfl ⟨rfl, ((Below.refl _ _).alloc (Nat.le_refl _) _).alloc (by simp) _⟩
  | odd n =>
    simp only [Tm.val, Tm.kind, Tm.ta, Tm.tb, Tm.tc]
    have hOB := asOB
    have hOI := asOI
    have hOL := asOL
    go_enter Tryz.func43, Tryz.ntmps43
    go_wp2
    exact bodyPost_ret (v := F4 3 mt mt mt) (by simp [results, Tryz.results43, go_sem]) rfl ⟨rfl, (Below.refl _ _).alloc (Nat.le_refl _) _⟩
  | none =>
    simp only [Tm.val, Tm.kind, Tm.ta, Tm.tb, Tm.tc]
    have hNB := asNB
    have hNI := asNI
    have hNL := asNL
    go_enter Tryz.func43, Tryz.ntmps43
    go_wp2
    exact bodyPost_ret (v := F4 3 mt mt mt) (by simp [results, Tryz.results43, go_sem]) rfl ⟨rfl, (Below.refl _ _).alloc (Nat.le_refl _) _⟩
theorem eqlT4 (k : Int) (a b c : ByteArray) (k' : Int) (a' b' c' : ByteArray) (w : World) :
    (binOp .eql 36 (F4 k a b c) (F4 k' a' b' c')).run Tryz.prog w = .ok (.bool ((k == k') && ((a.toList == a'.toList) && ((b.toList == b'.toList) && (c.toList == c'.toList))))) w := by
  go_simp
  by_cases hk : k = k'
  · by_cases h1 : a.toList = a'.toList <;> by_cases h2 : b.toList = b'.toList <;> by_cases h3 : c.toList = c'.toList <;> simp [hk, h1, h2, h3]
  · simp [hk]
end Go.Proofs.YtpnfjjgihkmjmaaGreatDoor

/-
  A TERM's TEXT (package nt).
-/
namespace Go.Proofs.YtpnfjjgihkmjmaaGreatDoor
open Go.RowKit
set_option linter.unusedVariables false
set_option linter.unusedSimpArgs false

theorem bx {a b : ByteArray} (h : a.data.toList = b.data.toList) : a = b := by
  obtain ⟨⟨l⟩⟩ := a
  obtain ⟨⟨m⟩⟩ := b
  have : l = m := h
  subst this
  rfl
theorem textOf_app (a b : List Int) : textOf (a ++ b) = textOf a ++ textOf b := by
  apply bx
  rw [textOf_list, encL_append, ByteArray.data_append, Array.toList_append, textOf_list, textOf_list]
theorem add_any (a b : ByteArray) (h : a.size + b.size ≤ 100000000) (W : World) : (Op.stringOp .add a b).run Tryz.prog W = .ok (.string (a ++ b)) W := run_string_add_sum W a b (by omega)
theorem text_cons (c : Int) (l : List Int) : textOf (c :: l) = textOf [c] ++ textOf l := textOf_app [c] l
theorem escS_six (n : Int) : (escS n).length ≤ 6 := by unfold escS; split <;> (try split) <;> simp
theorem body_six : ∀ l : List Int, (bodyS l).length ≤ 6 * l.length
  | [] => by simp [bodyS]
  | n :: l => by rw [bodyS_cons, List.length_append, List.length_cons]; have := escS_six n; have := body_six l; omega
theorem sg_small (s : ByteArray) : (sgP s).1.length ≤ s.size := by
  have h1 := (sgP_parts s).size
  have h2 := encL_len (sgP s).1
  omega
theorem tail_small (b c : ByteArray) (hb : b.size ≤ 1000000) (hc : c.size ≤ 1000000) : (textOf (tailS b c)).size ≤ 50000000 := by
  have h1 := text_size (tailS b c)
  have hb' := sg_small b
  have hc' := sg_small c
  have h2 : (tailS b c).length ≤ 1000004 := by
    unfold tailS
    split
    · split
      · simp
      · simp; omega
    · simp; omega
  omega
set_option maxRecDepth 100000 in
set_option maxHeartbeats 2000000 in
/-- Behind a literal's quoted text. -/
theorem tailOf_any (a b c : ByteArray) (hb : b.size ≤ 1000000) (hc : c.size ≤ 1000000) (eb : c.size = 0 → b ≠ XS → (sgP b).2 = []) (ec : c.size ≠ 0 → (sgP c).2 = []) (w : World) :
    Calls Tryz.prog 105 #[.agg #[.string a, .string b, .string c]] w fun e w' => e = .returned (.string (textOf (tailS b c))) ∧ Below w.heap.size w w' := by
  obtain ⟨z, hz⟩ : ∃ z, z = textOf (tailS b c) := ⟨_, rfl⟩
  rw [← hz]
  unfold tailS at hz
  by_cases h0 : c.size = 0
  · rw [if_pos h0] at hz
    have hcm := mt_of h0
    subst hcm
    by_cases hx : b = XS
    · rw [if_pos hx] at hz
      subst hx
      have HZ := Lib.hid hz
      clear hz eb ec hb hc h0
      go_enter Tryz.func105, Tryz.ntmps105
      go_wp2
      go_ret
      exact ⟨by rw [HZ.out]; rfl, (Below.refl _ _).alloc (Nat.le_refl _) _⟩
    · rw [if_neg hx] at hz
      have e := sg_text (eb h0 hx)
      have hz2 : z = (⟨#[94, 94, 60]⟩ ++ b) ++ ⟨#[62]⟩ := by
        have e3 : textOf (94 :: 94 :: 60 :: ((sgP b).1 ++ [62])) = (textOf [94, 94, 60] ++ textOf (sgP b).1) ++ textOf [62] := by rw [← textOf_app, ← textOf_app]; rfl
        rw [hz, e3, e]; rfl
      have hn : (b.toList == lS) = false := by
        rw [beq_eq_false_iff_ne]
        intro e
        apply hx
        rw [ByteArray.toList_eq] at e
        obtain ⟨⟨l⟩⟩ := b
        have : l = lS := e
        subst this
        rfl
      obtain ⟨y, hy⟩ : ∃ y : ByteArray, y = ⟨#[94, 94, 60]⟩ ++ b := ⟨_, rfl⟩
      have hys : y.size = 3 + b.size := by rw [hy, ByteArray.size_append]; rfl
      have a1 : ∀ W, (Op.stringOp .add ⟨#[94, 94, 60]⟩ b).run Tryz.prog W = .ok (.string y) W := fun W => by rw [hy]; exact add_any _ _ (by show 3 + b.size ≤ _; omega) W
      have a2 : ∀ W, (Op.stringOp .add y ⟨#[62]⟩).run Tryz.prog W = .ok (.string z) W := fun W => by rw [hz2, ← hy]; exact add_any _ _ (by show y.size + 1 ≤ _; omega) W
      clear hz hz2 eb ec hb hc h0 e hy hys
      go_enter Tryz.func105, Tryz.ntmps105
      go_wp2
      go_ret
      exact ⟨rfl, (Below.refl _ _).alloc (Nat.le_refl _) _⟩
  · rw [if_neg h0] at hz
    have e := sg_text (ec h0)
    have hz2 : z = ⟨#[64]⟩ ++ c := by rw [hz, text_cons, e]; rfl
    have a1 : ∀ W, (Op.stringOp .add ⟨#[64]⟩ c).run Tryz.prog W = .ok (.string z) W := fun W => by rw [hz2]; exact add_any _ _ (by show 1 + c.size ≤ _; omega) W
    have hn : (c.toList == []) = false := by
      rw [beq_eq_false_iff_ne]
      intro e
      apply h0
      rw [ByteArray.toList_eq] at e
      obtain ⟨⟨l⟩⟩ := c
      have : l = [] := e
      subst this
      rfl
    have hn2 : ¬ c = mt := fun e => h0 (by rw [e]; rfl)
    clear hz hz2 eb ec hb hc e
    go_enter Tryz.func105, Tryz.ntmps105
    go_wp2
    go_ret
    exact ⟨rfl, (Below.refl _ _).alloc (Nat.le_refl _) _⟩
/-- The literal's box. -/
def Lx (w : World) (g : Nat) (a b c : ByteArray) (W : World) : Prop := Below w.heap.size w W ∧ Fb W g 74 #[.string a, .string b, .string c]
theorem Lx.drew {w : World} {g : Nat} {a b c : ByteArray} {W : World} (h : Lx w g a b c W) : Lx w g a b c W.drew := ⟨Below.drew h.1, h.2⟩
theorem Lx.all {w : World} {g : Nat} {a b c : ByteArray} {W : World} (h : Lx w g a b c W) : W.cell? ⟨g, 0, none⟩ = some (.string a) ∧ W.cell? ⟨g, 1, none⟩ = some (.string b) ∧ W.cell? ⟨g, 2, none⟩ = some (.string c) ∧ Lx w g a b c W := ⟨h.2.cell 0, h.2.cell 1, h.2.cell 2, h⟩
theorem lx_of {w : World} {g : Nat} {a b c : ByteArray} {W : World} {f : Nat} {args : Array Value} {y : Value} (h : Lx w g a b c W) (k : Calls Tryz.prog f args W fun e w' => e = .returned y ∧ Below W.heap.size W w') :
    Calls Tryz.prog f args W fun e w' => e = .returned y ∧ Lx w g a b c w' := k.mono fun _ _ ⟨x, z⟩ => ⟨x, h.1.trans (z.mono h.1.size), h.2.below z⟩
set_option maxRecDepth 100000 in
set_option maxHeartbeats 4000000 in
theorem textOf_any (t : Tm) (hg : goodT t = true) (hf : t.few) (w : World) (ty : TypeId) (fr : Nat × Nat) (htab : w.heap[0]? = some (.cells escCells ty fr)) :
    Calls Tryz.prog 96 #[t.val] w fun e w' => e = .returned (.string (textOf (tS t))) ∧ Below w.heap.size w w' := by
  obtain ⟨z, hz⟩ : ∃ z, z = textOf (tS t) := ⟨_, rfl⟩
  rw [← hz]
  cases t with
  | iri s =>
    have e := sg_text (iri_signs (s := s) hg).1
    have hs : s.size ≤ 1000000 := by have := hf.1; simp only [Tm.ta] at this; omega
    have hz2 : z = (⟨#[60]⟩ ++ s) ++ ⟨#[62]⟩ := by
      rw [hz]; unfold tS; rw [text_cons, textOf_app, e, ← ByteArray.append_assoc]; rfl
    obtain ⟨y, hy⟩ : ∃ y : ByteArray, y = ⟨#[60]⟩ ++ s := ⟨_, rfl⟩
    have hys : y.size = 1 + s.size := by rw [hy, ByteArray.size_append]; rfl
    have a1 : ∀ W, (Op.stringOp .add ⟨#[60]⟩ s).run Tryz.prog W = .ok (.string y) W := fun W => by rw [hy]; exact add_any _ _ (by show 1 + s.size ≤ _; omega) W
    have a2 : ∀ W, (Op.stringOp .add y ⟨#[62]⟩).run Tryz.prog W = .ok (.string z) W := fun W => by rw [hz2, ← hy]; exact add_any _ _ (by show y.size + 1 ≤ _; omega) W
    have hII := asII
    simp only [Tm.val]
    clear hz hz2 hg hf hs e hy hys htab
    go_enter Tryz.func96, Tryz.ntmps96
    go_wp2
    go_ret
    exact ⟨rfl, (Below.refl _ _).alloc (Nat.le_refl _) _⟩
  | blank s =>
    have e := sg_text (label_signs (s := s) hg).1
    have hs : s.size ≤ 1000000 := by have := hf.1; simp only [Tm.ta] at this; omega
    have hz2 : z = ⟨#[95, 58]⟩ ++ s := by
      rw [hz]; unfold tS
      have e3 : textOf (95 :: 58 :: (sgP s).1) = textOf [95, 58] ++ textOf (sgP s).1 := by rw [← textOf_app]; rfl
      rw [e3, e]; rfl
    have a1 : ∀ W, (Op.stringOp .add ⟨#[95, 58]⟩ s).run Tryz.prog W = .ok (.string z) W := fun W => by rw [hz2]; exact add_any _ _ (by show 2 + s.size ≤ _; omega) W
    have hBI := asBI
    have hBB := asBB
    simp only [Tm.val]
    clear hz hz2 hg hf hs e htab
    go_enter Tryz.func96, Tryz.ntmps96
    go_wp2
    go_ret
    exact ⟨rfl, (Below.refl _ _).alloc (Nat.le_refl _) _⟩
  | lit a b c =>
    have hg' : litG a b c = true := hg
    unfold litG at hg'
    rw [Bool.and_eq_true] at hg'
    have ea : (sgP a).2 = [] := by
      have := hg'.1
      unfold textG at this
      rw [Bool.and_eq_true, decide_eq_true_eq, decide_eq_true_eq] at this
      exact this.2
    have ha : a.size ≤ 1000000 := by have := hf.1; simp only [Tm.ta] at this; omega
    have hb : b.size ≤ 1000000 := by have := hf.2.1; simp only [Tm.tb] at this; omega
    have hc : c.size ≤ 1000000 := by have := hf.2.2; simp only [Tm.tc] at this; omega
    have cT := tailOf_any a b c hb hc (fun h0 hx => by have := hg'.2; rw [if_pos h0, Bool.and_eq_true] at this; exact (iri_signs this.2).1) (fun h0 => by have := hg'.2; rw [if_neg h0, Bool.and_eq_true] at this; exact (lang_signs this.2).1)
    have hpa := sgP_parts a
    rw [ea] at hpa
    have hde : a.data.toList = encL (sgP a).1 := by rw [hpa.eq, List.append_nil]
    obtain ⟨x, hx⟩ : ∃ x, x = textOf (quoS (sgP a).1) := ⟨_, rfl⟩
    have hq2 : (⟨(quoteL (sgP a).1).toArray⟩ : ByteArray) = x := by rw [hx]; apply bx; rw [textOf_list, quoS_bytes]
    obtain ⟨y, hy⟩ : ∃ y, y = textOf (tailS b c) := ⟨_, rfl⟩
    rw [← hy] at cT
    have hz2 : z = x ++ y := by rw [hz, hx, hy]; unfold tS; exact textOf_app _ _
    have hlen : (sgP a).1.length ≤ 1000000 := by have := hpa.size; have := encL_len (sgP a).1; omega
    have hxs : x.size ≤ 50000000 := by
      have h1 := text_size (quoS (sgP a).1)
      have h2 := body_six (sgP a).1
      rw [quoS_len] at h1
      rw [hx]; omega
    have hys : y.size ≤ 50000000 := by
      rw [hy]; exact tail_small b c hb hc
    have a1 : ∀ W, (Op.stringOp .add x y).run Tryz.prog W = .ok (.string z) W := fun W => by rw [hz2]; exact add_any _ _ (by omega) W
    have cQ : ∀ {g W}, Lx w g a b c W → Calls Tryz.prog 104 #[.string a] W fun e w' => e = .returned (.string x) ∧ Lx w g a b c w' := fun {g W} h => by
      have := quote_any a (sgP a).1 W hde hpa.all (by omega) ty fr (tab_below htab h.1 (Array.getElem?_eq_some_iff.1 htab).1)
      rw [hq2] at this
      exact lx_of h this
    have cL : ∀ {g W}, Lx w g a b c W → Calls Tryz.prog 105 #[.agg #[.string a, .string b, .string c]] W fun e w' => e = .returned (.string y) ∧ Lx w g a b c w' := fun {g W} h => lx_of h (cT W)
    have hLI := asLI
    have hLB := asLB
    have hLL := asLL
    simp only [Tm.val]
    clear hz hz2 hg hg' hf ha hb hc ea hpa hde hx hq2 hy hlen hxs hys htab cT
    go_enter Tryz.func96, Tryz.ntmps96
    go_wp2
    have hL : Lx w w.heap.size a b c (w.alloc (.cells #[.string a, .string b, .string c] 74)) := ⟨(Below.refl _ _).alloc (Nat.le_refl _) _, Fb.new _ _ _⟩
    generalize (w.alloc (.cells #[.string a, .string b, .string c] 74)) = w4 at hL ⊢
    have HLX := hL
    clear hL
    obtain ⟨g, hg⟩ : ∃ g, g = w.heap.size := ⟨_, rfl⟩
    rw [← hg] at HLX ⊢
    have HGG := Lib.hid hg
    clear hg
    go_region_held3 (fun W => W.cell? ⟨g, 0, none⟩ = some (.string a) ∧ W.cell? ⟨g, 1, none⟩ = some (.string b) ∧ W.cell? ⟨g, 2, none⟩ = some (.string c) ∧ Lx w g a b c W)
      (first | exact Lx.all (by assumption) | exact Lx.all (Lx.drew (by assumption)))
      (first
        | (go_at_call 104; (with_reducible refine (cQ (by first | assumption | exact Lx.drew (by assumption))).mono ?_); rintro e w8 ⟨rfl, hL8⟩)
        | (go_at_call 105; (with_reducible refine (cL (by first | assumption | exact Lx.drew (by assumption))).mono ?_); rintro e w9 ⟨rfl, hL9⟩))
    all_goals
      go_wp2
      go_ret
      exact ⟨rfl, by first | exact hL9.1 | exact hL8.1⟩
  | odd n => cases hg
  | none => cases hg
theorem ntext_any (t : Tm) (hg : goodT t = true) (hf : t.few) (w : World) (ty : TypeId) (fr : Nat × Nat) (htab : w.heap[0]? = some (.cells escCells ty fr)) :
    Calls Tryz.prog 75 #[t.val] w fun e w' => e = .returned (.string (textOf (tS t))) ∧ Below w.heap.size w w' := by
  have cT := textOf_any t hg hf w ty fr htab
  obtain ⟨z, hz⟩ : ∃ z, z = textOf (tS t) := ⟨_, rfl⟩
  rw [← hz] at cT ⊢
  obtain ⟨v, hv⟩ : ∃ v, v = t.val := ⟨_, rfl⟩
  rw [← hv] at cT ⊢
  clear htab hz hv hg hf
  go_enter Tryz.func75, Tryz.ntmps75
  go_wp2_with (go_at_call 96; (with_reducible refine cT.mono ?_); rintro e w8 ⟨rfl, hb⟩)
  go_ret
  exact ⟨rfl, hb⟩
end Go.Proofs.YtpnfjjgihkmjmaaGreatDoor

/-
  WHAT THE LAWS MAKE OF A TERM OF THE DOCUMENT's (becklaw04.Plain); a box; a scanner and a box.
-/
namespace Go.Proofs.YtpnfjjgihkmjmaaGreatDoor
open Go.RowKit
set_option linter.unusedVariables false
set_option linter.unusedSimpArgs false

/-- The term that the law makes of one. -/
def pl3 (k : Int) (a b c : ByteArray) : Tm := if k % 18446744073709551616 % 3 = 0 then .blank a else if k % 18446744073709551616 % 3 = 1 then .iri a else .lit a b c
set_option maxHeartbeats 2000000 in
theorem plain3_any (k : Int) (hk : -9223372036854775808 ≤ k ∧ k ≤ 9223372036854775807) (a b c : ByteArray) (w : World) : Calls Tryz.prog 48 #[F4 k a b c] w fun e w' => e = .returned (T4 (pl3 k a b c)) ∧ Below w.heap.size w w' := by
  obtain ⟨r, hr⟩ : ∃ r, r = k % 18446744073709551616 % 3 := ⟨_, rfl⟩
  have h3 : r = 0 ∨ r = 1 ∨ r = 2 := by omega
  have hw : wrap64 ((IntKind.u64.wrap k).tmod 3) = r := by
    rw [show IntKind.u64.wrap k = k % 18446744073709551616 from rfl, Int.tmod_eq_emod_of_nonneg (by omega), ← hr]
    exact IntWalk.wrap64_in r ⟨by omega, by omega⟩
  unfold pl3
  rw [← hr]
  clear hr hk
  rcases h3 with rfl | rfl | rfl
  · rw [if_pos rfl]
    simp only [T4, Tm.kind, Tm.ta, Tm.tb, Tm.tc]
    go_enter Tryz.func48, Tryz.ntmps48
    go_wp2
    exact bodyPost_ret (v := F4 0 a mt mt) (by simp [results, Tryz.results48, go_sem]) rfl ⟨rfl, ((Below.refl _ _).alloc (Nat.le_refl _) _).alloc (by simp) _⟩
  · rw [if_neg (by decide), if_pos rfl]
    simp only [T4, Tm.kind, Tm.ta, Tm.tb, Tm.tc]
    go_enter Tryz.func48, Tryz.ntmps48
    go_wp2
    exact bodyPost_ret (v := F4 1 a mt mt) (by simp [results, Tryz.results48, go_sem]) rfl ⟨rfl, ((Below.refl _ _).alloc (Nat.le_refl _) _).alloc (by simp) _⟩
  · rw [if_neg (by decide), if_neg (by decide)]
    simp only [T4, Tm.kind, Tm.ta, Tm.tb, Tm.tc]
    go_enter Tryz.func48, Tryz.ntmps48
    go_wp2
    exact bodyPost_ret (v := F4 2 a b c) (by simp [results, Tryz.results48, go_sem]) rfl ⟨rfl, ((Below.refl _ _).alloc (Nat.le_refl _) _).alloc (by simp) _⟩
theorem pl3_small (k : Int) (a b c : ByteArray) : (pl3 k a b c).ta.size ≤ a.size ∧ (pl3 k a b c).tb.size ≤ b.size ∧ (pl3 k a b c).tc.size ≤ c.size := by
  unfold pl3
  split
  · exact ⟨Nat.le_refl _, Nat.zero_le _, Nat.zero_le _⟩
  split
  · exact ⟨Nat.le_refl _, Nat.zero_le _, Nat.zero_le _⟩
  · exact ⟨Nat.le_refl _, Nat.le_refl _, Nat.le_refl _⟩
theorem pl3_real (k : Int) (a b c : ByteArray) (w : World) : Calls Tryz.prog 18 #[T4 (pl3 k a b c)] w fun e w' => e = .returned (pl3 k a b c).val ∧ Below w.heap.size w w' := by
  apply real_any
  unfold pl3
  split
  · exact .inl rfl
  split
  · exact .inr (.inl rfl)
  · exact .inr (.inr (.inl rfl))
theorem pl3_val (k : Int) (a b c : ByteArray) : ∃ ty x, (pl3 k a b c).val = .iface ty x := by
  unfold pl3
  split
  · exact ⟨_, _, rfl⟩
  split
  · exact ⟨_, _, rfl⟩
  · exact ⟨_, _, rfl⟩
theorem tS_len (t : Tm) : (tS t).length ≤ 6 * t.ta.size + t.tb.size + t.tc.size + 8 := by
  cases t with
  | iri s => have := sg_small s; unfold tS; simp [Tm.ta, Tm.tb, Tm.tc]; omega
  | blank s => have := sg_small s; unfold tS; simp [Tm.ta, Tm.tb, Tm.tc]; omega
  | lit a b c =>
    have h1 := sg_small a
    have h2 := sg_small b
    have h3 := sg_small c
    have h4 := body_six (sgP a).1
    have h5 := quoS_len (sgP a).1
    unfold tS tailS
    simp only [Tm.ta, Tm.tb, Tm.tc, List.length_append]
    split
    · split
      · simp; omega
      · simp; omega
    · simp; omega
  | odd n => unfold tS; simp
  | none => unfold tS; simp
/-- A box, wherever. -/
def Ny (w : World) (g : Nat) (cs : Array Value) (W : World) : Prop := Below w.heap.size w W ∧ Fb W g 36 cs
section
variable {w : World} {g : Nat} {cs : Array Value}
theorem Ny.below {W W' : World} (h : Ny w g cs W) (hb : Below W.heap.size W W') : Ny w g cs W' := ⟨h.1.trans (hb.mono h.1.size), h.2.below hb⟩
theorem Ny.mk {W : World} (hb : Below w.heap.size w W) (cs : Array Value) : Ny w W.heap.size cs (W.alloc (.cells cs 36)) := ⟨hb.alloc hb.size _, Fb.new _ _ _⟩
theorem Ny.cells {x0 x1 x2 x3 : Value} {W : World} (h : Ny w g #[x0, x1, x2, x3] W) : W.cell? ⟨g, 0, none⟩ = some x0 ∧ W.cell? ⟨g, 1, none⟩ = some x1 ∧ W.cell? ⟨g, 2, none⟩ = some x2 ∧ W.cell? ⟨g, 3, none⟩ = some x3 := ⟨h.2.cell 0, h.2.cell 1, h.2.cell 2, h.2.cell 3⟩
theorem ny_of {W : World} {f : Nat} {args : Array Value} {y : Value} (h : Ny w g cs W) (k : Calls Tryz.prog f args W fun e w' => e = .returned y ∧ Below W.heap.size W w') :
    Calls Tryz.prog f args W fun e w' => e = .returned y ∧ Ny w g cs w' := k.mono fun _ _ ⟨x, z⟩ => ⟨x, h.below z⟩
end
/-- The scanner, and the box. -/
def Nz (w : World) (b : Nat) (v : Value) (sl : List Int) (k g : Nat) (cs : Array Value) (W : World) : Prop := Sc w.heap.size W b v sl k ∧ Ny w g cs W ∧ g ≠ b
section
variable {w : World} {b : Nat} {v : Value} {sl : List Int} {k g : Nat} {cs : Array Value}
theorem Nz.of {W W' : World} (h : Ny w g cs W) (hs : Sc W.heap.size W' b v sl k) (hb : Below W.heap.size W W') : Nz w b v sl k g cs W' := ⟨hs.mono h.1.size, h.below hb, fun e => by have := h.2.lt; have := hs.ge; omega⟩
theorem Nz.below {W W' : World} (h : Nz w b v sl k g cs W) (hb : Below W.heap.size W W') : Nz w b v sl k g cs W' := ⟨h.1.below hb, h.2.1.below hb, h.2.2⟩
theorem Nz.drew {W : World} (h : Nz w b v sl k g cs W) : Nz w b v sl k g cs W.drew := ⟨(show Same W W.drew from ⟨rfl, rfl, rfl, rfl⟩).sc h.1, ⟨Below.drew h.2.1.1, h.2.1.2⟩, h.2.2⟩
theorem Nz.moves {k' : Nat} {W W' : World} (h : Nz w b v sl k g cs W) (m : Moves w.heap.size W b v sl k' W') : Nz w b v sl k' g cs W' :=
  ⟨m.1, ⟨h.2.1.1.grown m.2 h.2.1.1.size (fun j hj => by cases hj; exact h.1.ge), (m.2.block _ h.2.1.2.lt (fun e => h.2.2 (Option.some.inj e))).trans h.2.1.2⟩, h.2.2⟩
theorem Nz.all {x0 x1 x2 x3 : Value} {W : World} (h : Nz w b v sl k g #[x0, x1, x2, x3] W) : W.cell? ⟨g, 0, none⟩ = some x0 ∧ W.cell? ⟨g, 1, none⟩ = some x1 ∧ W.cell? ⟨g, 2, none⟩ = some x2 ∧ W.cell? ⟨g, 3, none⟩ = some x3 ∧ Nz w b v sl k g #[x0, x1, x2, x3] W :=
  ⟨h.2.1.2.cell 0, h.2.1.2.cell 1, h.2.1.2.cell 2, h.2.1.2.cell 3, h⟩
theorem nz_of {W : World} {f : Nat} {args : Array Value} {y : Value} (h : Nz w b v sl k g cs W) (c : Calls Tryz.prog f args W fun e w' => e = .returned y ∧ Below W.heap.size W w') :
    Calls Tryz.prog f args W fun e w' => e = .returned y ∧ Nz w b v sl k g cs w' := c.mono fun _ _ ⟨x, z⟩ => ⟨x, h.below z⟩
theorem nz_place {W : World} (h : Nz w b v sl k g cs W) : Calls Tryz.prog 38 #[.pointer (some ⟨b, 0, none⟩)] W fun e w' => e = .returned (.int .i64 k) ∧ Nz w b v sl k g cs w' :=
  (place_any h.1).mono fun _ _ ⟨x, y⟩ => ⟨x, y.sc h.1, ⟨y.below h.2.1.1, by have := h.2.1.2; unfold Fb at this ⊢; rw [y.heap]; exact this⟩, h.2.2⟩
end
end Go.Proofs.YtpnfjjgihkmjmaaGreatDoor
