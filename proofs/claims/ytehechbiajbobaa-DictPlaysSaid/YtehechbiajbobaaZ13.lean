/-
  MERGED (a claim has at most 60 files): NBack, NRef, NText.
-/
import Derived.Test.YtehechbiajbobaaZ12
import Derived.Test.YtehechbiajbobaaZ11
import Derived.Test.YtehechbiajbobaaZ08
import Derived.Test.YtehechbiajbobaaZ07
import Derived.Test.YtehechbiajbobaaZ00
import Derived.Laws.StructEq
import Derived.Laws.Concat
/-
  PLAIN LEAN, NO RUN: a good term's text, sign by sign; read again it is the term.
-/
namespace Go.Proofs.Ytehechbiajbobaa
set_option linter.unusedVariables false
set_option linter.unusedSimpArgs false

theorem bodyS_cons (n : Int) (l : List Int) : bodyS (n :: l) = escS n ++ bodyS l := by unfold bodyS; rw [List.flatMap_cons]
theorem quoS_len (l : List Int) : (quoS l).length = (bodyS l).length + 2 := by unfold quoS; simp
/-! ### What good terms' texts are of -/
theorem sg_text {s : ByteArray} (h : (sgP s).2 = []) : textOf (sgP s).1 = s := by
  have := sgP_parts s
  rw [h] at this
  exact this.text.symm
theorem iri_signs {s : ByteArray} (h : iriG s = true) : (sgP s).2 = [] ∧ ∀ n ∈ (sgP s).1, n ≠ 62 ∧ n ≠ 10 ∧ n ≠ 92 := by
  unfold iriG iriB at h
  rw [Bool.and_eq_true, Bool.and_eq_true, Bool.and_eq_true, decide_eq_true_eq, decide_eq_true_eq, List.all_eq_true] at h
  refine ⟨h.1, fun n hn => ?_⟩
  have := h.2.2.2 n hn
  unfold okS at this
  rw [decide_eq_true_eq] at this
  refine ⟨by omega, fun e => this.2.1 ?_, by omega⟩
  rw [e]; decide
theorem lab_signs : ∀ (l : List Int) (i : Nat), labSG i l = true → ∀ n ∈ l, wms msB n = true
  | [], _, _, n, hn => by cases hn
  | m :: l, i, h, n, hn => by
    unfold labSG at h
    rw [Bool.and_eq_true] at h
    rcases List.mem_cons.1 hn with rfl | hn
    · have := h.1
      unfold labS at this
      unfold wms
      simp only [Bool.or_eq_true, Bool.and_eq_true, beq_iff_eq] at this ⊢
      rcases this with a | a | ⟨_, a⟩
      · exact .inl a
      · exact .inr (.inl a)
      · exact .inr (.inr (by simp; omega))
    · exact lab_signs l (i + 1) h.2 n hn
theorem label_signs {s : ByteArray} (h : labelG s = true) : (sgP s).2 = [] ∧ ∀ n ∈ (sgP s).1, wms msB n = true := by
  rw [← blankB_label (sgP_parts s)] at h
  unfold blankB at h
  rw [Bool.and_eq_true, Bool.and_eq_true, decide_eq_true_eq] at h
  exact ⟨h.1, lab_signs _ 0 h.2.1⟩
theorem mach_bytes : ∀ (l : List UInt8) (p g : Nat), mach p g l = true → ∀ c ∈ l, c = 45 ∨ letU c = true ∨ digU c = true
  | [], _, _, _, c, hc => by cases hc
  | d :: l, p, g, h, c, hc => by
    unfold mach at h
    by_cases h45 : d = 45
    · rw [if_pos h45] at h
      by_cases hg : g = 0
      · rw [if_pos hg] at h; cases h
      · rw [if_neg hg] at h
        rcases List.mem_cons.1 hc with rfl | hc
        · exact .inl h45
        · exact mach_bytes l _ _ h c hc
    · rw [if_neg h45] at h
      by_cases ho : okc p d = true
      · rw [if_pos ho] at h
        by_cases hg : 8 < g + 1
        · rw [if_pos hg] at h; cases h
        · rw [if_neg hg] at h
          rcases List.mem_cons.1 hc with rfl | hc
          · unfold okc at ho
            rw [Bool.or_eq_true, Bool.and_eq_true] at ho
            rcases ho with a | a
            · exact .inr (.inl a)
            · exact .inr (.inr a.2)
          · exact mach_bytes l _ _ h c hc
      · rw [if_neg ho] at h; cases h
theorem lang_signs {s : ByteArray} (h : langB s = true) : (sgP s).2 = [] ∧ ∀ n ∈ (sgP s).1, wms msL n = true := by
  unfold langB at h
  rw [Bool.and_eq_true] at h
  have hb := mach_bytes _ _ _ h.2
  have hc : ∀ c ∈ s.data.toList, c.toNat < 128 ∧ wms msL (c.toNat : Int) = true := fun c hc => by
    rcases hb c hc with rfl | a | a
    · exact ⟨by decide, by decide⟩
    · unfold letU at a
      rw [decide_eq_true_eq] at a
      refine ⟨by omega, ?_⟩
      have e : cls (c.toNat : Int) = 1 := by unfold cls; omega
      unfold wms
      rw [e]; rfl
    · unfold digU at a
      rw [decide_eq_true_eq] at a
      refine ⟨by omega, ?_⟩
      have e : cls (c.toNat : Int) = 2 := by unfold cls; omega
      unfold wms
      rw [e]; rfl
  have hp : Parts s.data.toList (sigs s.data.toList) [] := by
    refine ascii_parts s _ ?_ ?_
    · unfold ascii sigs
      rw [List.all_eq_true]
      intro n hn
      obtain ⟨c, hc1, rfl⟩ := List.mem_map.1 hn
      have := (hc c hc1).1
      simp; omega
    · unfold sigs
      rw [List.map_map]
      conv => lhs; rw [← List.map_id s.data.toList]
      exact List.map_congr_left fun c _ => by simp
  obtain ⟨e1, e2⟩ := sgP_one hp
  refine ⟨e2, fun n hn => ?_⟩
  rw [e1] at hn
  obtain ⟨c, hc1, rfl⟩ := List.mem_map.1 hn
  exact (hc c hc1).2
/-- The signs of a term's text. -/
noncomputable def tailS (b c : ByteArray) : List Int := if c.size = 0 then (if b = XS then [] else 94 :: 94 :: 60 :: ((sgP b).1 ++ [62])) else 64 :: (sgP c).1
noncomputable def tS : Tm → List Int
  | .iri s => 60 :: ((sgP s).1 ++ [62])
  | .blank s => 95 :: 58 :: (sgP s).1
  | .lit a b c => quoS (sgP a).1 ++ tailS b c
  | _ => []
end Go.Proofs.Ytehechbiajbobaa

/-
  A TERM AS THE DOCUMENT's (becklaw03.Ref).
-/
namespace Go.Proofs.Ytehechbiajbobaa
open Go.RowKit
set_option linter.unusedVariables false
set_option linter.unusedSimpArgs false

set_option maxRecDepth 100000 in
theorem lref_any (t : Tm) (w : World) : Calls Try.prog 14 #[t.val] w fun e w' => e = .returned (F4 t.kind t.ta t.tb t.tc) ∧ Below w.heap.size w w' := by
  cases t with
  | blank s =>
    simp only [Tm.val, Tm.kind, Tm.ta, Tm.tb, Tm.tc]
    have hBB := asBB
    go_enter Try.func14, Try.ntmps14
    go_wp2
    exact bodyPost_ret (v := F4 0 s mt mt) (by simp [results, Try.results14, go_sem]) rfl ⟨rfl, ((Below.refl _ _).alloc (Nat.le_refl _) _).alloc (by simp) _⟩
  | iri s =>
    simp only [Tm.val, Tm.kind, Tm.ta, Tm.tb, Tm.tc]
    have hIB := asIB
    have hII := asII
    go_enter Try.func14, Try.ntmps14
    go_wp2
    exact bodyPost_ret (v := F4 1 s mt mt) (by simp [results, Try.results14, go_sem]) rfl ⟨rfl, ((Below.refl _ _).alloc (Nat.le_refl _) _).alloc (by simp) _⟩
  | lit a b c =>
    simp only [Tm.val, Tm.kind, Tm.ta, Tm.tb, Tm.tc]
    have hLB := asLB
    have hLI := asLI
    have hLL := asLL
    go_enter Try.func14, Try.ntmps14
    go_wp2
    exact bodyPost_ret (v := F4 2 a b c) (by simp [results, Try.results14, go_sem]) rfl ⟨rfl, ((Below.refl _ _).alloc (Nat.le_refl _) _).alloc (by simp) _⟩
  | odd n =>
    simp only [Tm.val, Tm.kind, Tm.ta, Tm.tb, Tm.tc]
    have hOB := asOB
    have hOI := asOI
    have hOL := asOL
    go_enter Try.func14, Try.ntmps14
    go_wp2
    exact bodyPost_ret (v := F4 3 mt mt mt) (by simp [results, Try.results14, go_sem]) rfl ⟨rfl, (Below.refl _ _).alloc (Nat.le_refl _) _⟩
  | none =>
    simp only [Tm.val, Tm.kind, Tm.ta, Tm.tb, Tm.tc]
    have hNB := asNB
    have hNI := asNI
    have hNL := asNL
    go_enter Try.func14, Try.ntmps14
    go_wp2
    exact bodyPost_ret (v := F4 3 mt mt mt) (by simp [results, Try.results14, go_sem]) rfl ⟨rfl, (Below.refl _ _).alloc (Nat.le_refl _) _⟩
theorem eqlT4 (k : Int) (a b c : ByteArray) (k' : Int) (a' b' c' : ByteArray) (w : World) :
    (binOp .eql 32 (F4 k a b c) (F4 k' a' b' c')).run Try.prog w = .ok (.bool ((k == k') && ((a.toList == a'.toList) && ((b.toList == b'.toList) && (c.toList == c'.toList))))) w := by
  go_simp
  by_cases hk : k = k'
  · by_cases h1 : a.toList = a'.toList <;> by_cases h2 : b.toList = b'.toList <;> by_cases h3 : c.toList = c'.toList <;> simp [hk, h1, h2, h3]
  · simp [hk]
end Go.Proofs.Ytehechbiajbobaa

/-
  A TERM's TEXT (package nt).
-/
namespace Go.Proofs.Ytehechbiajbobaa
open Go.RowKit
set_option linter.unusedVariables false
set_option linter.unusedSimpArgs false

theorem bx {a b : ByteArray} (h : a.data.toList = b.data.toList) : a = b := by
  obtain ⟨⟨l⟩⟩ := a
  obtain ⟨⟨m⟩⟩ := b
  have : l = m := h
  subst this
  rfl
theorem textOf_app (a b : List Int) : textOf (a ++ b) = textOf a ++ textOf b := by
  apply bx
  rw [textOf_list, encL_append, ByteArray.data_append, Array.toList_append, textOf_list, textOf_list]
theorem text_cons (c : Int) (l : List Int) : textOf (c :: l) = textOf [c] ++ textOf l := textOf_app [c] l
theorem escS_six (n : Int) : (escS n).length ≤ 6 := by unfold escS; split <;> (try split) <;> simp
theorem body_six : ∀ l : List Int, (bodyS l).length ≤ 6 * l.length
  | [] => by simp [bodyS]
  | n :: l => by rw [bodyS_cons, List.length_append, List.length_cons]; have := escS_six n; have := body_six l; omega
theorem sg_small (s : ByteArray) : (sgP s).1.length ≤ s.size := by
  have h1 := (sgP_parts s).size
  have h2 := encL_len (sgP s).1
  omega
end Go.Proofs.Ytehechbiajbobaa
