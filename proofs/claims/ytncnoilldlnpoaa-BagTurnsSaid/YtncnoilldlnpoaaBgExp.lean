/-
  Bag.Expire: without those of times below one.
-/
import Derived.Test.YtncnoilldlnpoaaBgAdd
import Derived.Test.YtncnoilldlnpoaaBgSum
namespace Go.Proofs.Ytncnoilldlnpoaa
open Go.RowKit
set_option linter.unusedVariables false
set_option linter.unusedSimpArgs false
set_option maxRecDepth 100000

theorem del_perm {α β : Type} [DecidableEq α] {k : α} : ∀ {E : List (α × β)} {v : β}, getM k E = some v → E.Perm ((k, v) :: delM k E)
  | [], _, h => by cases h
  | p :: E, v, h => by
    unfold getM at h
    unfold delM
    by_cases hp : p.1 = k
    · rw [if_pos hp] at h
      rw [if_pos hp]
      injection h with h
      have : p = (k, v) := Prod.ext hp h
      rw [this]
    · rw [if_neg hp] at h
      rw [if_neg hp]
      exact ((del_perm h).cons p).trans (List.Perm.swap _ _ _)
/-- What stays. -/
def stayM (before : Int) (M : List (Int × Ky)) : List (Int × Ky) := M.filter fun x => decide (before ≤ x.1)
section
variable {B d am : Nat} {room : Int} {v : Value} {D : List Tz} {M : List (Int × Ky)} {W : World} {before : Int}
theorem exp_lt (h : Bk B d room v am D M W) : ∀ z ∈ D.take ((D.map (·.t)).countP (· < before)), z.t < before := fun z hz => by
  refine (part_at (x := before) h.so).1 z.t ?_
  rw [← List.map_take]
  exact List.mem_map.2 ⟨z, hz, rfl⟩
theorem exp_ge (h : Bk B d room v am D M W) : ∀ z ∈ D.drop ((D.map (·.t)).countP (· < before)), before ≤ z.t := fun z hz => by
  refine (part_at (x := before) h.so).2 z.t ?_
  rw [← List.map_drop]
  exact List.mem_map.2 ⟨z, hz, rfl⟩
theorem exp_count (h : Bk B d room v am D M W) : ((D.take ((D.map (·.t)).countP (· < before))).map fun z => sumN z.l).sum + (stayM before M).length = M.length := by
  have hl := exp_lt (before := before) h
  have hg := exp_ge (before := before) h
  generalize (D.map (·.t)).countP (· < before) = k at *
  have e1 : ((D.take k).map fun z => sumN z.l) = ((D.take k).map (·.t)).map fun t => M.countP (fun x => decide (x.1 = t)) := by
    rw [List.map_map]
    exact List.map_congr_left fun z hz => h.sm z (List.mem_of_mem_take hz)
  have hnd : ((D.take k).map (·.t)).Nodup := by
    have : (D.map (·.t)).Nodup := h.so.imp fun hab e => by omega
    rw [List.map_take]
    exact this.sublist (List.take_sublist _ _)
  rw [e1, countP_times M _ hnd]
  unfold stayM
  rw [← List.countP_eq_length_filter]
  have e2 : M.countP (fun x => decide (x.1 ∈ (D.take k).map (·.t))) = M.countP (fun x => !decide (before ≤ x.1)) := by
    refine List.countP_congr fun x hx => ?_
    have hxD := h.al x hx
    obtain ⟨z, hz, hzt⟩ := List.mem_map.1 hxD
    simp only [decide_eq_true_eq, Bool.not_eq_true', decide_eq_false_iff_not]
    rw [← List.take_append_drop k D] at hz
    constructor
    · intro hm
      obtain ⟨y, hy, hyt⟩ := List.mem_map.1 hm
      have := hl y hy
      omega
    · intro hb
      rcases List.mem_append.1 hz with hz | hz
      · exact List.mem_map.2 ⟨z, hz, hzt⟩
      · have := hg z hz
        omega
  rw [e2]
  have := List.length_eq_countP_add_countP (fun x : Int × Ky => decide (before ≤ x.1)) (l := M)
  simp only [Bool.not_eq_true] at this
  have e3 : M.countP (fun x => !decide (before ≤ x.1)) = M.countP (fun x => decide (decide (before ≤ x.1) = false)) := List.countP_congr fun x _ => by simp
  rw [e3]
  omega
theorem exp_end (h : Bk B d room v am D M W) {wr : World} (hc : Ch (fun q => q = am) W wr) {E : List (Int × Nat)} (hm : Mq iE mE wr am E) (hE : E.Perm ((D.drop ((D.map (·.t)).countP (· < before))).map fun z => (z.t, z.b))) {v' : Value}
    (hv : TsA wr v' ((D.drop ((D.map (·.t)).countP (· < before))).map (·.t))) (hvB : ∀ q, vB v' = some q → vB v = some q) {n : Int} (hn : n = (stayM before M).length) :
    Nx B d room am v D W v' (D.drop ((D.map (·.t)).countP (· < before))) (stayM before M) ((wr.setCell ⟨d, 3, none⟩ v').setCell ⟨d, 1, none⟩ (.int .i64 n)) := by
  have hg := exp_ge (before := before) h
  have hl := exp_lt (before := before) h
  generalize (D.map (·.t)).countP (· < before) = k at *
  obtain ⟨W2, hW2⟩ : ∃ W2, W2 = (wr.setCell ⟨d, 3, none⟩ v').setCell ⟨d, 1, none⟩ (.int .i64 n) := ⟨_, rfl⟩
  rw [← hW2]
  have sub : ∀ z ∈ D.drop k, z ∈ D := fun z hz => List.mem_of_mem_drop hz
  have dam : d ≠ am := by
    obtain ⟨E0, h0, _⟩ := h.mo
    exact h0.ne h.st
  have far : ∀ q, q ≠ d → W2.heap[q]? = wr.heap[q]? := fun q h1 => by
    rw [hW2, Below.heap_setCell _ _ _ _ h1]
    exact Below.heap_setCell _ _ _ _ h1
  have hsz : W2.heap.size = wr.heap.size := by rw [hW2]; simp
  have hs0 := hc.size
  have fsub : ∀ q, Fp d am v' (D.drop k) q → Fp d am v D q := fun q hq => by
    rcases hq with e | e | e | ⟨z, hz, e⟩
    · exact .inl e
    · exact .inr (.inl e)
    · exact .inr (.inr (.inl (hvB q e)))
    · exact .inr (.inr (.inr ⟨z, sub z hz, e⟩))
  refine ⟨⟨?_, ⟨E, hm.of (far am (Ne.symm dam)), hE⟩, fun z hz => ?_, hv.of fun q hq => far q (fun e => h.vd (e ▸ hvB q hq)), ?_, ?_, fun z hz => h.ne z (sub z hz), fun q hq => h.ge q (fsub q hq), fun q hq => by have := h.lt q (fsub q hq); omega, fun e => h.vd (hvB d e), fun z hz k' => ?_, fun z hz => ?_, fun z hz => h.nd z (sub z hz), fun z hz => h.ps z (sub z hz), fun x hx => ?_⟩, ?_, fun q hq => .inl (fsub q hq)⟩
  · have f0 : Fb wr d 48 #[.int .i64 room, .int .i64 M.length, .map (some am), v] := (hc.far d (h.lt d (.inl rfl)) dam).trans h.st
    have := (f0.set 3 v').set 1 (.int .i64 n)
    rw [← hW2, hn] at this
    exact this
  · have hl := h.lt z.b (.inr (.inr (.inr ⟨z, sub z hz, rfl⟩)))
    exact (h.mi z (sub z hz)).of ((far z.b (fun e => (h.mi z (sub z hz)).ne h.st e.symm)).trans (hc.far z.b hl (h.ne z (sub z hz))))
  · rw [List.map_drop]; exact h.so.sublist (List.drop_sublist _ _)
  · rw [List.map_drop]; exact h.un.sublist (List.drop_sublist _ _)
  · rw [h.cn z (sub z hz) k']
    unfold stayM
    rw [List.count_filter (by simpa using hg z hz)]
  · rw [h.sm z (sub z hz)]
    unfold stayM
    rw [List.countP_filter]
    refine List.countP_congr fun x hx => ?_
    have := hg z hz
    simp only [decide_eq_true_eq, Bool.and_eq_true]
    constructor
    · intro e; exact ⟨e, by omega⟩
    · exact fun e => e.1
  · unfold stayM at hx
    obtain ⟨h1, h2⟩ := List.mem_filter.1 hx
    obtain ⟨z, hz, hzt⟩ := List.mem_map.1 (h.al x h1)
    rw [← List.take_append_drop k D] at hz
    rcases List.mem_append.1 hz with hz | hz
    · have := hl z hz
      simp only [decide_eq_true_eq] at h2
      omega
    · exact List.mem_map.2 ⟨z, hz, hzt⟩
  · have h1 : Ch (Fp d am v D) W wr := ⟨hc.os, hc.tape, hc.output, hc.size, fun q hq hf => hc.far q hq fun e => hf (.inr (.inl e))⟩
    rw [hW2]
    exact (h1.trans (G := Fp d am v D) (Ch.set (.inl rfl)) fun q hq => .inl hq).trans (G := Fp d am v D) (Ch.set (.inl rfl)) fun q hq => .inl hq
def ExpP (B d : Nat) (room : Int) (am : Nat) (v : Value) (D : List Tz) (M : List (Int × Ky)) (W : World) (before : Int) (e : Ending) (w' : World) : Prop :=
  e = .returned (.int .i64 ((M.length : Int) - ((stayM before M).length : Int))) ∧ ∃ v' D', Nx B d room am v D W v' D' (stayM before M) w'
set_option maxHeartbeats 4000000 in
theorem gexp_nil (h : Bk B d room (.slice none 0 0) am D M W) (before : Int) :
    Calls Try.prog 13 #[.pointer (some ⟨d, 0, none⟩), .int .i64 before] W (ExpP B d room am (.slice none 0 0) D M W before) := by
  have hD : D = [] := by
    rcases h.ts with ⟨_, h1⟩ | ⟨g, off, c, cs, h1, _⟩
    · simpa using h1
    · cases h1
  have hMn : M = [] := by
    cases M with
    | nil => rfl
    | cons x M => have := h.al x (.head _); rw [hD] at this; cases this
  have cB := gbin_any h.ts h.so before
  rw [hD] at cB
  simp only [List.map_nil, List.countP_nil, List.contains_nil] at cB
  have c3 : W.cell? ⟨d, 3, none⟩ = some (.slice none 0 0) := h.st.cell 3
  have c1 : W.cell? ⟨d, 1, none⟩ = some (.int .i64 0) := by rw [h.st.cell 1, hMn]; rfl
  have f1 : W.frozen? ⟨d, 1, none⟩ = false := h.st.free 1
  have f3 : W.frozen? ⟨d, 3, none⟩ = false := h.st.free 3
  have hEnd : ∀ q, ExpP B d room am (.slice none 0 0) D M W before (.returned (.int .i64 0)) (((W.drewN q).setCell ⟨d, 3, none⟩ (.slice none 0 0)).setCell ⟨d, 1, none⟩ (.int .i64 0)) := fun q => by
    obtain ⟨E, hE1, hE2⟩ := h.mo
    have := exp_end (before := before) h (wr := W.drewN q) (Ch.of (below_drewP (Below.refl _ _) q)) (E := E) (hE1.of rfl) (by rw [hD] at hE2 ⊢; simpa using hE2) (v' := .slice none 0 0) (.inl ⟨rfl, by rw [hD]; rfl⟩) (fun q hq => hq) (n := 0) (by rw [hMn]; rfl)
    refine ⟨by rw [hMn]; rfl, _, _, this⟩
  have HE := Lib.hid hEnd
  clear hEnd h hD hMn
  go_enter Try.func13, Try.ntmps13
  go_wp2_with (go_at_call 20; (with_reducible refine cB.mono ?_); rintro e w1 ⟨rfl, q, rfl⟩)
  go_loopg [7, 26] 0 (fun kx s7 s26 wr => s7 = .int .i64 0 ∧ s26 = .int .i64 0 ∧ wr = W.drewN q)
  case atStart => exact ⟨rfl, rfl, rfl⟩
  case round =>
    obtain ⟨rfl, rfl, rfl⟩ := hrel
    go_wp2
    go_ret
    exact HE.out q
end
end Go.Proofs.Ytncnoilldlnpoaa
