/-
  THE HEAP: Push, Pop.
-/
import Derived.Test.YtagidmghmbfnpaaIHq
namespace Go.Proofs.Ytagidmghmbfnpaa
open Go.RowKit
set_option linter.unusedVariables false
set_option linter.unusedSimpArgs false
set_option maxRecDepth 100000

theorem bswap_any {W : World} {B d g n c : Nat} {s : Bs} {l : List It} (h : Bc B d s (.slice (some ⟨g, 0, none⟩) n c) l W) (hn : n ≤ 100000) (hl : l.length = n) (i j : Nat) (hi : i < n) (hj : j < n) :
    Calls Try.prog 48 #[.slice (some ⟨g, 0, none⟩) n c, .int .i64 i, .int .i64 j] W fun e w' => e = .returned (.tuple #[]) ∧ Bc B d s (.slice (some ⟨g, 0, none⟩) n c) (swI l i j) w' ∧ Tn d (.slice (some ⟨g, 0, none⟩) n c) (.slice (some ⟨g, 0, none⟩) n c) W w' := by
  refine (iwswap_any h.row hn hl i j hi hj).mono ?_
  rintro e w' ⟨h1, q, rfl⟩
  exact ⟨h1, h.swap (by omega) (by omega) q, Sif_swap h (Tn.refl _) (by omega) (by omega) q⟩
def HPushPost (B d : Nat) (s : Bs) (v : Value) (l : List It) (W : World) (x : It) (e : Ending) (w' : World) : Prop := e = .returned (.tuple #[]) ∧ ∃ v' l', Bc B d s v' l' w' ∧ Tn d v v' W w' ∧ l'.Perm (l ++ [x]) ∧ Hp l' l'.length
set_option maxHeartbeats 4000000 in
theorem hpush_any {W : World} {B d : Nat} {s : Bs} {v : Value} {l : List It} (h : Bc B d s v l W) (hB : B ≤ W.heap.size) (hl : l.length ≤ 5000) (hp : Hp l l.length) (x : It) :
    Calls Try.prog 20 #[wi d, .iface 63 (itv x)] W (HPushPost B d s v l W x) := by
  have cP := iwpush_any h hB (by omega) x
  have na1 := na_push ⟨d, 6, none⟩
  have na2 := na_len ⟨d, 6, none⟩
  have me1 := me_push ⟨d, 6, none⟩
  have cL := fun (A : Option Addr) (n c : Nat) (hn : n ≤ 100000) (w : World) => iwlen_any A n c hn w
  obtain ⟨n, hn⟩ : ∃ n, n = l.length + 1 := ⟨_, rfl⟩
  obtain ⟨m, hm⟩ : ∃ m, m = l.length := ⟨_, rfl⟩
  have hln : (l ++ [x]).length = n := by simp [hn]
  have r1 : (n : Int) - 1 = (m : Int) := by omega
  have b1 : (m : Int) ≤ 100000 := by omega
  have b0 : (0 : Int) ≤ (m : Int) := by omega
  have cU : ∀ {v1 : Value} {w1 : World}, Bc B d s v1 (l ++ [x]) w1 → Calls Try.prog 27 #[wi d, .int .i64 m] w1 (UpPost B d s v1 (l ++ [x]) w1) := fun {v1 w1} hb => by
    refine hup_any hb (by rw [hln]; omega) m (by rw [hln]; omega) ?_
    rw [hln, hn, hm]
    exact UpI.start hp x rfl
  have HLN := Lib.hid (And.intro hln (show n ≤ 100000 by omega))
  obtain ⟨ix, hix⟩ : ∃ ix, ix = itv x := ⟨_, rfl⟩
  rw [← hix] at cP ⊢
  clear h hB hl hp hn hm hln hix
  go_enter Try.func20, Try.ntmps20
  go_wp2_with (first
    | (go_at_call 50; (with_reducible refine cP.mono ?_); rintro e w1 ⟨v1, rfl, hB1, hT1⟩; obtain ⟨A1, c1, hv1⟩ := hB1.row.shape; rw [HLN.out.1] at hv1; subst hv1; have me2 := me_len hB1.c6)
    | (go_at_call 46; (with_reducible refine (cL _ _ _ HLN.out.2 _).mono ?_); rintro e w2 ⟨rfl, rfl⟩)
    | (go_at_call 27; (with_reducible refine (cU hB1).mono ?_); rintro e w3 ⟨rfl, l3, hS3, hH3⟩))
  go_end0
  exact ⟨rfl, _, l3, hS3.bc, hT1.trans hS3.tn, hS3.pm, hH3⟩
def HPopPost (B d : Nat) (s : Bs) (v : Value) (l : List It) (W : World) (e : Ending) (w' : World) : Prop := e = .returned (.iface 63 (itv (itAt l 0))) ∧ ∃ v' l', Bc B d s v' l' w' ∧ Tn d v v' W w' ∧ v'.ownBlock = v.ownBlock ∧ (itAt l 0 :: l').Perm l ∧ Hp l' l'.length
set_option maxHeartbeats 4000000 in
theorem hpop_any {W : World} {B d : Nat} {s : Bs} {v : Value} {l : List It} (h : Bc B d s v l W) (hl : l.length ≤ 5000) (h0 : 0 < l.length) (hp : Hp l l.length) :
    Calls Try.prog 28 #[wi d] W (HPopPost B d s v l W) := by
  obtain ⟨g, c, rfl, _, _, _⟩ := h.row.full h0
  obtain ⟨n, hn⟩ : ∃ n, n = l.length := ⟨_, rfl⟩
  obtain ⟨m, hm⟩ : ∃ m, n = m + 1 := ⟨n - 1, by omega⟩
  rw [← hn] at h ⊢
  have na1 := na_len ⟨d, 6, none⟩
  have na2 := na_swap ⟨d, 6, none⟩
  have na3 := na_pop ⟨d, 6, none⟩
  have me1 := me_len h.c6
  have me2 := me_swap h.c6
  have me3 := me_pop ⟨d, 6, none⟩
  have cL := iwlen_any (some ⟨g, 0, none⟩) n c (by omega) W
  have cS : Calls Try.prog 48 #[.slice (some ⟨g, 0, none⟩) n c, .int .i64 0, .int .i64 m] W fun e w' => e = .returned (.tuple #[]) ∧ Bc B d s (.slice (some ⟨g, 0, none⟩) n c) (swI l 0 m) w' ∧ Tn d (.slice (some ⟨g, 0, none⟩) n c) (.slice (some ⟨g, 0, none⟩) n c) W w' := bswap_any h (by omega) hn.symm 0 m (by omega) (by omega)
  have hsl : (swI l 0 m).length = n := by rw [swI_len, hn]
  have hsm : itAt (swI l 0 m) m = itAt l 0 := by rw [swI_at (by omega) (by omega), if_pos rfl]
  have hsp := swI_perm (l := l) (i := 0) (j := m) (by omega) (by omega)
  have hl1 : l.length = m + 1 := by omega
  have hp1 : Hp l (m + 1) := by
    have h := hp
    rw [hl1] at h
    exact h
  have hdn : DnI (swI l 0 m) m 0 := DnI.start hp1 hl1
  have cD : ∀ {w1 : World}, Bc B d s (.slice (some ⟨g, 0, none⟩) n c) (swI l 0 m) w1 → Calls Try.prog 29 #[wi d, .int .i64 0, .int .i64 m] w1 (DnPost B d s (.slice (some ⟨g, 0, none⟩) n c) (swI l 0 m) w1 m) := fun {w1} hb => hdown_any hb (by omega) m (by omega) hdn
  obtain ⟨x0, hx0⟩ : ∃ x0, x0 = itAt l 0 := ⟨_, rfl⟩
  rw [← hx0] at hsm
  have cP : ∀ {w1 : World} {l1 : List It}, Bc B d s (.slice (some ⟨g, 0, none⟩) n c) l1 w1 → l1.length = n → itAt l1 m = x0 → Calls Try.prog 49 #[.pointer (some ⟨d, 6, none⟩)] w1 (PopPost B d s (.slice (some ⟨g, 0, none⟩) n c) w1 x0 (.slice (some ⟨g, 0, none⟩) m c) (l1.take m)) := fun {w1 l1} hb hl1 hx => by
    rw [← hx]; exact iwpop_any hb hm hl1 (by omega)
  have r1 : (n : Int) - 1 = (m : Int) := by omega
  have b1 : (m : Int) ≤ 100000 := by omega
  have b0 : (0 : Int) ≤ (m : Int) := by omega
  have HS := Lib.hid (show (swI l 0 m).length = n ∧ itAt (swI l 0 m) m = x0 ∧ (swI l 0 m).Perm l ∧ n = m + 1 from ⟨hsl, hsm, hsp, hm⟩)
  have HX := Lib.hid hx0
  unfold HPopPost
  rw [← hx0]
  generalize swI l 0 m = k at *
  clear hl1 hp1 hx0 h hl h0 hp hn hm hsl hsm hsp hdn
  go_enter Try.func28, Try.ntmps28
  go_wp2_with (first
    | (go_at_call 46; (with_reducible refine cL.mono ?_); rintro e w1 ⟨rfl, rfl⟩)
    | (go_at_call 48; (with_reducible refine cS.mono ?_); rintro e w2 ⟨rfl, hB2, hT2⟩)
    | (go_at_call 29; (with_reducible refine (cD hB2).mono ?_); rintro e w3 ⟨⟨b3, rfl⟩, l3, hS3, hH3⟩)
    | (go_at_call 49; (with_reducible refine (cP hS3.sif.bc (by rw [hS3.sif.pm.length_eq]; exact HS.out.1) (by rw [hS3.fix m (Nat.le_refl _)]; exact HS.out.2.1)).mono ?_); rintro e w4 ⟨rfl, hB4, hT4⟩))
  go_ret
  obtain ⟨y1, y2, y3, y4⟩ := HS.out
  have z := hS3.fix m (Nat.le_refl _)
  rw [y2] at z
  have hpp := pop_perm (l := k) (l' := l3) (n := m) (by omega) hS3.sif.pm
  rw [z] at hpp
  exact ⟨rfl, _, _, hB4, (hT2.trans hS3.sif.tn).trans hT4, rfl, hpp.trans y3, hH3.take (by rw [hS3.sif.pm.length_eq]; omega)⟩
end Go.Proofs.Ytagidmghmbfnpaa
