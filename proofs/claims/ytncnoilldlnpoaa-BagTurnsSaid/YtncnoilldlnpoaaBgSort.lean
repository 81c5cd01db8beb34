/-
  slices.SortFunc over a content's entries: they come out as a content.
-/
import Derived.Test.YtncnoilldlnpoaaBgCmp
namespace Go.Proofs.Ytncnoilldlnpoaa
open Go.RowKit Go.Sort Go.Shelf
set_option linter.unusedVariables false
set_option linter.unusedSimpArgs false
set_option maxRecDepth 100000

def cfE (x y : Ky × Nat) : Int := cmpY x.1 y.1
theorem ltE (x y : Ky × Nat) : ltOf cfE x y = true ↔ ltY x.1 y.1 := by
  unfold ltOf cfE
  rw [decide_eq_true_eq]
  exact cmpY_lt _ _
theorem swoE : SWO (ltOf cfE) where
  irrefl x := by
    cases h : ltOf cfE x x
    · rfl
    · exact absurd ((ltE x x).1 h) (ltY_irr _)
  trans x y z h1 h2 := (ltE x z).2 (ltY_tr ((ltE x y).1 h1) ((ltE y z).1 h2))
  ntrans x y z h1 h2 := by
    cases h : ltOf cfE x z
    · rfl
    · have h3 := (ltE x z).1 h
      have n1 : ¬ ltY x.1 y.1 := fun e => by rw [(ltE x y).2 e] at h1; cases h1
      have n2 : ¬ ltY y.1 z.1 := fun e => by rw [(ltE y z).2 e] at h2; cases h2
      unfold ltY at *
      omega
set_option maxHeartbeats 4000000 in
theorem gcmp_any (x y : Ky × Nat) (W : World) : Calls Try.prog 28 #[.agg (entC x).toArray, .agg (entC y).toArray] W fun e w' => e = .returned (.int .i64 (cfE x y)) ∧ ∃ q os', w' = grow (W.drewN q) os' := by
  obtain ⟨W2, hW2⟩ : ∃ W2, W2 = (W.alloc (.cells (entC x).toArray 41)).alloc (.cells (entC y).toArray 41) := ⟨_, rfl⟩
  have f1 : Fb W2 W.heap.size 41 (entC x).toArray := by rw [hW2]; exact (Fb.new W _ _).alloc _
  have f2 : Fb W2 (W.heap.size + 1) 41 (entC y).toArray := by
    rw [hW2]
    have := Fb.new (W.alloc (.cells (entC x).toArray 41)) 41 (entC y).toArray
    simpa using this
  have cC := gCmp_any f1.drew f2.drew
  have HE := Lib.hid (show ∃ q os', W2.drew = grow (W.drewN q) os' from ⟨1, #[.cells (entC x).toArray 41] ++ #[.cells (entC y).toArray 41], by rw [hW2, alloc_eq_grow, alloc_eq_grow, grow_grow]; rfl⟩)
  unfold cfE
  generalize cmpY x.1 y.1 = r at *
  clear f1 f2
  unfold entC at *
  subst hW2
  go_enter Try.func28, Try.ntmps28
  go_wp2
  go_region_held3 (fun w => True) (first | trivial | exact True.intro)
    (first
      | (go_at_call 29; (with_reducible refine cC.mono ?_); rintro e w5 ⟨rfl, rfl⟩)
      | fail)
  all_goals
    go_wp2
    go_ret
    exact ⟨rfl, HE.out⟩
theorem enC : ∀ args w, (callFunc 28 args).run Try.prog w = .ok (.enter 28 args) w := enters_of Try.func28 (by kernel_rfl) rfl
theorem gcmp_lays (blk off size : Nat) (w : World) : Go.Proofs.CmpLays Try.prog 28 #[] entC 4 cfE blk off size w := fun m os dk _ x y => by
  rw [Array.append_empty]
  exact gcmp_any x y _
theorem isAggE (w : World) : (isAgg 41).run Try.prog w = .ok true w := by kernel_rfl
theorem sizeE (w : World) : (Go.sizeOf 41).run Try.prog w = .ok 4 w := by kernel_rfl
theorem gsort_any (blk off cap : Nat) (d : Array (Ky × Nat)) (w : World) (hH : HoldsK entC 4 w blk off d) (hblk : blk < w.heap.size) (hsz : d.size < 4611686018427387904) :
    Calls Try.prog 27 #[.slice (some ⟨blk, off, none⟩) d.size cap, .func (.func 28) #[] #[]] w fun e w' => e = .returned (.tuple #[]) ∧ ∃ d' n os, PermIn 0 d.size d d' ∧ SortedIn (ltOf cfE) 0 d.size d' ∧ w' = sortWorldK entC 4 w blk off n d' os :=
  Go.Proofs.AnyQ.slices_SortFunc Try.laysSort 4 isAggE sizeE entC (fun _ => rfl) (fun x v hv => by unfold entC at hv; simp at hv; rcases hv with rfl | rfl | rfl | rfl <;> rfl) cfE swoE 28 #[] blk off cap d w enC (gcmp_lays blk off d.size w) hH hblk hsz
/-- A permutation of counts, rising: a content. -/
theorem sort_isC {l : List (Ky × Nat)} {d' : Array (Ky × Nat)} (hn : (l.map (·.1)).Nodup) (hp : ∀ p ∈ l, 0 < p.2) (h1 : PermIn 0 l.toArray.size l.toArray d') (h2 : SortedIn (ltOf cfE) 0 l.toArray.size d') : IsC d'.toList (cntK l) ∧ d'.size = l.length := by
  obtain ⟨s1, _, s3⟩ := h1
  have hsz : d'.size = l.length := by simpa using s1
  have hperm : d'.toList.Perm l := by
    have e1 : (d'.extract 0 l.toArray.size).toList = d'.toList := by
      rw [show l.toArray.size = d'.size from s1.symm]
      simp
    have e2 : (l.toArray.extract 0 l.toArray.size).toList = l := by simp
    rw [e1, e2] at s3
    exact s3
  have hn' : (d'.toList.map (·.1)).Nodup := (hperm.map (·.1)).nodup_iff.2 hn
  have hp' : ∀ p ∈ d'.toList, 0 < p.2 := fun p h => hp p (hperm.mem_iff.1 h)
  refine ⟨⟨?_, hp', fun k => ?_⟩, hsz⟩
  · rw [List.pairwise_iff_getElem]
    intro i j hi hj hij
    have hi' : i < d'.size := by simpa using hi
    have hj' : j < d'.size := by simpa using hj
    have := h2 i j (Nat.zero_le _) hij (by rw [← s1]; exact hj')
    rw [getElem!_pos d' i hi', getElem!_pos d' j hj'] at this
    have nlt : ¬ ltY d'[j].1 d'[i].1 := fun e => by rw [(ltE _ _).2 e] at this; cases this
    have hne : d'[i].1 ≠ d'[j].1 := fun e => by
      have h3 := List.pairwise_iff_getElem.1 hn' i j (by simpa using hi') (by simpa using hj') hij
      simp only [List.getElem_map, Array.getElem_toList] at h3
      exact h3 e
    rcases ltY_tot hne with h3 | h3
    · simpa using h3
    · exact absurd h3 nlt
  · have : ∀ n, 0 < n → (cntK d'.toList k = n ↔ cntK l k = n) := fun n hn0 => by
      have a := mem_cnt hn' hp' (k, n)
      have b := mem_cnt hn hp (k, n)
      have c := hperm.mem_iff (a := (k, n))
      simp only [hn0, true_and] at a b
      rw [← a, ← b, c]
    rcases Nat.eq_zero_or_pos (cntK d'.toList k) with h0 | h0
    · rcases Nat.eq_zero_or_pos (cntK l k) with h1 | h1
      · rw [h0, h1]
      · have := (this _ h1).2 rfl
        omega
    · exact ((this _ h0).1 rfl).symm
end Go.Proofs.Ytncnoilldlnpoaa
