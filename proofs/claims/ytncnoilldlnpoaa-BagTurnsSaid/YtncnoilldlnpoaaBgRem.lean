/-
  Bag.Remove: what it leaves.
-/
import Derived.Test.YtncnoilldlnpoaaBgRemP
import Derived.Test.YtncnoilldlnpoaaBgAdd
import Derived.Test.YtncnoilldlnpoaaBgEnt
namespace Go.Proofs.Ytncnoilldlnpoaa
open Go.RowKit
set_option linter.unusedVariables false
set_option linter.unusedSimpArgs false
set_option maxRecDepth 100000

section
variable {B d am : Nat} {room : Int} {v : Value} {D D1 D2 : List Tz} {M : List (Int × Ky)} {W : World} {z : Tz} {k : Ky}
theorem er_count (hm : (z.t, k) ∈ M) (c : Int × Ky) : M.count c = (M.erase (z.t, k)).count c + if (z.t, k) = c then 1 else 0 := by
  rw [(List.perm_cons_erase hm).count_eq, List.count_cons]
  congr 1
  by_cases e : (z.t, k) = c
  · rw [if_pos e, if_pos (by simpa using e)]
  · rw [if_neg e, if_neg (by simpa using e)]
theorem er_countP (hm : (z.t, k) ∈ M) (t : Int) : M.countP (fun x => decide (x.1 = t)) = (M.erase (z.t, k)).countP (fun x => decide (x.1 = t)) + if z.t = t then 1 else 0 := by
  rw [(List.perm_cons_erase hm).countP_eq, List.countP_cons]
  congr 1
  by_cases e : z.t = t
  · rw [if_pos e, if_pos (by simpa using e)]
  · rw [if_neg e, if_neg (by simpa using e)]
theorem er_len (hm : (z.t, k) ∈ M) : M.length = (M.erase (z.t, k)).length + 1 := by
  rw [(List.perm_cons_erase hm).length_eq, List.length_cons]
theorem mid_ne (h : Bk B d room v am D M W) (hD : D = D1 ++ z :: D2) : ∀ y, y ∈ D1 ∨ y ∈ D2 → y.t ≠ z.t ∧ y.b ≠ z.b := fun y hy => by
  have h1 : (D.map (·.t)).Nodup := h.so.imp fun hab e => by omega
  have h2 := h.un
  rw [hD] at h1 h2
  have p1 : (((D1 ++ z :: D2)).map (·.t)).Perm ((z :: (D1 ++ D2)).map (·.t)) := List.perm_middle.map _
  have p2 : (((D1 ++ z :: D2)).map (·.b)).Perm ((z :: (D1 ++ D2)).map (·.b)) := List.perm_middle.map _
  have n1 := p1.nodup_iff.1 h1
  have n2 := p2.nodup_iff.1 h2
  simp only [List.map_cons, List.nodup_cons] at n1 n2
  have hm : y ∈ D1 ++ D2 := List.mem_append.2 hy
  exact ⟨fun e => n1.1 (List.mem_map.2 ⟨y, hm, e⟩), fun e => n2.1 (List.mem_map.2 ⟨y, hm, e⟩)⟩
/-- One fewer, and some are left at that time. -/
theorem rem_keep (h : Bk B d room v am D M W) (hD : D = D1 ++ z :: D2) (hm : (z.t, k) ∈ M) {w5 : World} (hc : Ch (fun q => q = z.b) W w5) (hq : Mq kE nE w5 z.b (lesL k z.l)) {n : Int} (hn : n = (M.length : Int) - 1) :
    Nx B d room am v D W v (D1 ++ (⟨z.t, z.b, lesL k z.l⟩ : Tz) :: D2) (M.erase (z.t, k)) (w5.setCell ⟨d, 1, none⟩ (.int .i64 n)) := by
  have hz : z ∈ D := by rw [hD]; simp
  have hpos : 0 < cntK z.l k := by rw [h.cn z hz]; exact List.count_pos_iff.2 hm
  have hne := mid_ne h hD
  obtain ⟨W2, hW2⟩ : ∃ W2, W2 = w5.setCell ⟨d, 1, none⟩ (.int .i64 n) := ⟨_, rfl⟩
  rw [← hW2]
  have dz : d ≠ z.b := (h.mi z hz).ne h.st
  have vz : vB v ≠ some z.b := fun e => by
    rcases h.ts with ⟨z1, _⟩ | ⟨g', off, c', cs', z1, z2, _⟩
    · rw [z1] at e; cases e
    · rw [z1] at e
      injection e with e
      have e' : g' = z.b := e
      exact (h.mi z hz).ne z2 e'
  have far : ∀ q, q < W.heap.size → q ≠ d → q ≠ z.b → W2.heap[q]? = W.heap[q]? := fun q h0 h1 h2 => by
    rw [hW2, Below.heap_setCell _ _ _ _ h1]
    exact hc.far q h0 h2
  have hsz : W2.heap.size = w5.heap.size := by rw [hW2]; simp
  have hs0 := hc.size
  have et : ((D1 ++ (⟨z.t, z.b, lesL k z.l⟩ : Tz) :: D2).map (·.t)) = D.map (·.t) := by rw [hD]; simp
  have eb : ((D1 ++ (⟨z.t, z.b, lesL k z.l⟩ : Tz) :: D2).map (·.b)) = D.map (·.b) := by rw [hD]; simp
  have etb : ((D1 ++ (⟨z.t, z.b, lesL k z.l⟩ : Tz) :: D2).map fun y => (y.t, y.b)) = D.map fun y => (y.t, y.b) := by rw [hD]; simp
  have mem : ∀ y ∈ D1 ++ (⟨z.t, z.b, lesL k z.l⟩ : Tz) :: D2, y = ⟨z.t, z.b, lesL k z.l⟩ ∨ (y ∈ D ∧ y.t ≠ z.t ∧ y.b ≠ z.b) := fun y hy => by
    rcases List.mem_append.1 hy with hy | hy
    · exact .inr ⟨by rw [hD]; exact List.mem_append_left _ hy, hne y (.inl hy)⟩
    · rcases List.mem_cons.1 hy with e | hy
      · exact .inl e
      · exact .inr ⟨by rw [hD]; exact List.mem_append_right _ (.tail _ hy), hne y (.inr hy)⟩
  have fp : ∀ q, Fp d am v (D1 ++ (⟨z.t, z.b, lesL k z.l⟩ : Tz) :: D2) q → Fp d am v D q := fun q hq => by
    rcases hq with e | e | e | ⟨y, hy, e⟩
    · exact .inl e
    · exact .inr (.inl e)
    · exact .inr (.inr (.inl e))
    · rcases mem y hy with rfl | ⟨hyD, _⟩
      · exact .inr (.inr (.inr ⟨z, hz, e⟩))
      · exact .inr (.inr (.inr ⟨y, hyD, e⟩))
  refine ⟨⟨?_, ?_, fun y hy => ?_, ?_, by rw [et]; exact h.so, by rw [eb]; exact h.un, fun y hy => ?_, fun q hq => h.ge q (fp q hq), fun q hq => by have := h.lt q (fp q hq); omega, h.vd, fun y hy k' => ?_, fun y hy => ?_, fun y hy => ?_, fun y hy => ?_, fun y hy => ?_⟩, ?_, fun q hq => .inl (fp q hq)⟩
  · have f0 : Fb w5 d 48 #[.int .i64 room, .int .i64 M.length, .map (some am), v] := (hc.far d (h.lt d (.inl rfl)) dz).trans h.st
    have := f0.set 1 (.int .i64 n)
    rw [← hW2, hn, er_len hm] at this
    have e : (((M.erase (z.t, k)).length + 1 : Nat) : Int) - 1 = ((M.erase (z.t, k)).length : Int) := by omega
    rw [e] at this
    exact this
  · obtain ⟨E, hE1, hE2⟩ := h.mo
    exact ⟨E, hE1.of (far am hE1.lt (fun e => hE1.ne h.st e.symm) (fun e => h.ne z hz e.symm)), by rw [etb]; exact hE2⟩
  · rcases mem y hy with rfl | ⟨hyD, hyt, hyb⟩
    · exact hq.of (by rw [hW2]; exact Below.heap_setCell _ _ _ _ dz.symm)
    · exact (h.mi y hyD).of (far y.b (h.lt y.b (.inr (.inr (.inr ⟨y, hyD, rfl⟩)))) (fun e => (h.mi y hyD).ne h.st e.symm) hyb)
  · rw [et]
    exact h.ts.of fun q hq => far q (h.lt q (.inr (.inr (.inl hq)))) (fun e => h.vd (e ▸ hq)) (fun e => vz (e ▸ hq))
  · rcases mem y hy with rfl | ⟨hyD, _⟩
    · exact h.ne z hz
    · exact h.ne y hyD
  · rcases mem y hy with rfl | ⟨hyD, hyt, _⟩
    · show cntK (lesL k z.l) k' = (M.erase (z.t, k)).count (z.t, k')
      have e1 := er_count hm (z.t, k')
      have e2 := h.cn z hz k'
      rw [les_cnt (h.nd z hz)]
      by_cases e : k' = k
      · subst e
        rw [if_pos rfl] at e1 ⊢
        omega
      · rw [if_neg e]
        rw [if_neg (fun e' : (z.t, k) = (z.t, k') => e (by injection e' with _ e'; exact e'.symm))] at e1
        omega
    · have e1 := er_count hm (y.t, k')
      rw [if_neg (fun e' : (z.t, k) = (y.t, k') => hyt (by injection e' with e' _; exact e'.symm))] at e1
      rw [h.cn y hyD k', e1]
      rfl
  · rcases mem y hy with rfl | ⟨hyD, hyt, _⟩
    · show sumN (lesL k z.l) = (M.erase (z.t, k)).countP fun x => decide (x.1 = z.t)
      have e1 := er_countP hm z.t
      have e2 := h.sm z hz
      have e3 := les_sum hpos
      rw [if_pos rfl] at e1
      omega
    · have e1 := er_countP hm y.t
      rw [if_neg (fun e' : z.t = y.t => hyt e'.symm)] at e1
      rw [h.sm y hyD, e1]
      rfl
  · rcases mem y hy with rfl | ⟨hyD, _⟩
    · exact les_nd (h.nd z hz)
    · exact h.nd y hyD
  · rcases mem y hy with rfl | ⟨hyD, _⟩
    · exact les_ps (h.nd z hz) (h.ps z hz) hpos
    · exact h.ps y hyD
  · rw [et]
    exact h.al y (List.mem_of_mem_erase hy)
  · have h1 : Ch (Fp d am v D) W w5 := ⟨hc.os, hc.tape, hc.output, hc.size, fun q hq hf => hc.far q hq fun e => hf (.inr (.inr (.inr ⟨z, hz, e⟩)))⟩
    rw [hW2]
    exact h1.trans (G := Fp d am v D) (Ch.set (.inl rfl)) fun q hq => .inl hq
/-- One fewer, and none is left at that time. -/
theorem rem_drop (h : Bk B d room v am D M W) (hD : D = D1 ++ z :: D2) (hm : (z.t, k) ∈ M) (hl : lesL k z.l = []) {w5 w6 : World} {v' : Value} {E' : List (Int × Nat)} (hc : Ch (fun q => q = z.b) W w5)
    (hf : Fb w6 d 48 #[.int .i64 room, .int .i64 M.length, .map (some am), v']) (hE : Mq iE mE w6 am E') (hE2 : E'.Perm ((D1 ++ D2).map fun y => (y.t, y.b))) (ht : TsA w6 v' ((D1 ++ D2).map (·.t))) (hv : ∀ q, vB v' = some q → vB v = some q) (hc6 : Ch (fun q => q = d ∨ q = am ∨ vB v = some q) w5 w6) {n : Int} (hn : n = (M.length : Int) - 1) :
    Nx B d room am v D W v' (D1 ++ D2) (M.erase (z.t, k)) (w6.setCell ⟨d, 1, none⟩ (.int .i64 n)) := by
  have hz : z ∈ D := by rw [hD]; simp
  have hpos : 0 < cntK z.l k := by rw [h.cn z hz]; exact List.count_pos_iff.2 hm
  have hne := mid_ne h hD
  obtain ⟨W2, hW2⟩ : ∃ W2, W2 = w6.setCell ⟨d, 1, none⟩ (.int .i64 n) := ⟨_, rfl⟩
  rw [← hW2]
  have far : ∀ q, q ≠ d → W2.heap[q]? = w6.heap[q]? := fun q h1 => by
    rw [hW2]
    exact Below.heap_setCell _ _ _ _ h1
  have hsz : W2.heap.size = w6.heap.size := by rw [hW2]; simp
  have hs0 := hc.size
  have hs6 := hc6.size
  have sub : ∀ y ∈ D1 ++ D2, y ∈ D ∧ y.t ≠ z.t ∧ y.b ≠ z.b := fun y hy => by
    rcases List.mem_append.1 hy with hy | hy
    · exact ⟨by rw [hD]; exact List.mem_append_left _ hy, hne y (.inl hy)⟩
    · exact ⟨by rw [hD]; exact List.mem_append_right _ (.tail _ hy), hne y (.inr hy)⟩
  have fp : ∀ q, Fp d am v' (D1 ++ D2) q → Fp d am v D q := fun q hq => by
    rcases hq with e | e | e | ⟨y, hy, e⟩
    · exact .inl e
    · exact .inr (.inl e)
    · exact .inr (.inr (.inl (hv q e)))
    · exact .inr (.inr (.inr ⟨y, (sub y hy).1, e⟩))
  have slist : (D1 ++ D2).Sublist D := by rw [hD]; exact List.Sublist.append (List.Sublist.refl _) (List.sublist_cons_self _ _)
  have dam : d ≠ am := hE.ne hf
  refine ⟨⟨?_, ⟨E', hE.of (far am dam.symm), hE2⟩, fun y hy => ?_, ht.of fun q hq => far q (fun e => h.vd (e ▸ hv q hq)), h.so.sublist (slist.map _), h.un.sublist (slist.map _), fun y hy => h.ne y (sub y hy).1, fun q hq => h.ge q (fp q hq), fun q hq => by have := h.lt q (fp q hq); omega, fun e => h.vd (hv d e), fun y hy k' => ?_, fun y hy => ?_, fun y hy => h.nd y (sub y hy).1, fun y hy => h.ps y (sub y hy).1, fun y hy => ?_⟩, ?_, fun q hq => .inl (fp q hq)⟩
  · have := hf.set 1 (.int .i64 n)
    rw [← hW2, hn, er_len hm] at this
    have e : (((M.erase (z.t, k)).length + 1 : Nat) : Int) - 1 = ((M.erase (z.t, k)).length : Int) := by omega
    rw [e] at this
    exact this
  · obtain ⟨hyD, hyt, hyb⟩ := sub y hy
    have hyl := h.lt y.b (.inr (.inr (.inr ⟨y, hyD, rfl⟩)))
    have dy : y.b ≠ d := fun e => (h.mi y hyD).ne h.st e.symm
    have vy : vB v ≠ some y.b := fun e => by
      rcases h.ts with ⟨z1, _⟩ | ⟨g', off, c', cs', z1, z2, _⟩
      · rw [z1] at e; cases e
      · rw [z1] at e
        injection e with e
        have e' : g' = y.b := e
        exact (h.mi y hyD).ne z2 e'
    exact (h.mi y hyD).of ((far y.b dy).trans ((hc6.far y.b (by omega) (fun e => e.elim dy fun e => e.elim (h.ne y hyD) vy)).trans (hc.far y.b hyl hyb)))
  · obtain ⟨hyD, hyt, hyb⟩ := sub y hy
    have e1 := er_count hm (y.t, k')
    rw [if_neg (fun e' : (z.t, k) = (y.t, k') => hyt (by injection e' with e' _; exact e'.symm))] at e1
    rw [h.cn y hyD k', e1]
    rfl
  · obtain ⟨hyD, hyt, hyb⟩ := sub y hy
    have e1 := er_countP hm y.t
    rw [if_neg (fun e' : z.t = y.t => hyt e'.symm)] at e1
    rw [h.sm y hyD, e1]
    rfl
  · have hyM := List.mem_of_mem_erase hy
    obtain ⟨u, hu, e⟩ := List.mem_map.1 (h.al y hyM)
    rw [hD] at hu
    by_cases hyz : y.1 = z.t
    · exfalso
      have e1 := er_countP hm z.t
      have e2 := h.sm z hz
      have e3 := les_sum hpos
      rw [if_pos rfl] at e1
      rw [hl] at e3
      have e4 : sumN ([] : List (Ky × Nat)) = 0 := rfl
      have e5 : 0 < (M.erase (z.t, k)).countP fun x => decide (x.1 = z.t) := List.countP_pos_iff.2 ⟨y, hy, by simpa using hyz⟩
      omega
    · refine List.mem_map.2 ⟨u, ?_, e⟩
      rcases List.mem_append.1 hu with hu | hu
      · exact List.mem_append_left _ hu
      · rcases List.mem_cons.1 hu with e' | hu
        · exact absurd (e'.symm ▸ e).symm (by rw [← e']; intro e9; exact hyz (e9.trans (by rw [e'])))
        · exact List.mem_append_right _ hu
  · have h1 : Ch (Fp d am v D) W w5 := ⟨hc.os, hc.tape, hc.output, hc.size, fun q hq hf => hc.far q hq fun e => hf (.inr (.inr (.inr ⟨z, hz, e⟩)))⟩
    have h2 : Ch (Fp d am v D) w5 w6 := ⟨hc6.os, hc6.tape, hc6.output, hc6.size, fun q hq hf => hc6.far q hq fun e => hf (e.elim .inl fun e => e.elim (fun e => .inr (.inl e)) fun e => .inr (.inr (.inl e)))⟩
    rw [hW2]
    exact (h1.trans h2 fun q hq => .inl hq).trans (G := Fp d am v D) (Ch.set (.inl rfl)) fun q hq => .inl hq
end
end Go.Proofs.Ytncnoilldlnpoaa
