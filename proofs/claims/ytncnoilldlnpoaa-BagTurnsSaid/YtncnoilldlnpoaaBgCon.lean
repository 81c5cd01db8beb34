/-
  Bag.Content: that of a while: what the loops keep.
-/
import Derived.Test.YtncnoilldlnpoaaBgEnt
import Derived.Test.YtncnoilldlnpoaaBgInW
import Derived.Test.YtncnoilldlnpoaaBgExp
namespace Go.Proofs.Ytncnoilldlnpoaa
open Go.RowKit
set_option linter.unusedVariables false
set_option linter.unusedSimpArgs false
set_option maxRecDepth 100000

/-- How often a key is in a while. -/
def cw (M : List (Int × Ky)) (a b : Int) (k : Ky) : Nat := M.countP fun x => hasB a b x.1 && decide (x.2 = k)
def bK (M : List (Int × Ky)) (ts : List Int) (i : Nat) (k : Ky) : Nat := ((ts.take i).map fun t => M.count (t, k)).sum
def bS (M : List (Int × Ky)) (ts : List Int) (i : Nat) : Nat := ((ts.take i).map fun t => M.countP fun x => decide (x.1 = t)).sum
theorem bK_le (M : List (Int × Ky)) {ts : List Int} (h : ts.Nodup) (i : Nat) (k : Ky) : bK M ts i k ≤ M.length := by
  unfold bK
  rw [count_times M k _ (h.sublist (List.take_sublist _ _))]
  exact List.countP_le_length
theorem bS_le (M : List (Int × Ky)) {ts : List Int} (h : ts.Nodup) (i : Nat) : bS M ts i ≤ M.length := by
  unfold bS
  rw [countP_times M _ (h.sublist (List.take_sublist _ _))]
  exact List.countP_le_length
theorem bK_succ (M : List (Int × Ky)) {ts : List Int} {i : Nat} {t : Int} (h : ts[i]? = some t) (k : Ky) : bK M ts (i + 1) k = bK M ts i k + M.count (t, k) := by
  unfold bK
  rw [List.take_add_one, h]
  simp
theorem bS_succ (M : List (Int × Ky)) {ts : List Int} {i : Nat} {t : Int} (h : ts[i]? = some t) : bS M ts (i + 1) = bS M ts i + M.countP fun x => decide (x.1 = t) := by
  unfold bS
  rw [List.take_add_one, h]
  simp
theorem len_le_sum : ∀ {l : List (Ky × Nat)}, (∀ p ∈ l, 0 < p.2) → l.length ≤ sumN l
  | [], _ => Nat.le_refl _
  | p :: l, h => by
    have := len_le_sum fun x hx => h x (.tail _ hx)
    have := h p (.head _)
    unfold sumN at *
    simp only [List.length_cons, List.map_cons, List.sum_cons]
    omega
/-- What has been counted, of some times. -/
structure Al (W wr : World) (mb : Nat) (al : List (Ky × Nat)) : Prop where
  mp : Mq kE nE wr mb al
  nd : (al.map (·.1)).Nodup
  ps : ∀ p ∈ al, 0 < p.2
  bl : Below W.heap.size W wr
def ConR (M : List (Int × Ky)) (W : World) (mb : Nat) (ts : List Int) (gk : Nat) (s : Value) (wr : World) : Prop :=
  ∃ (i : Nat) (al : List (Ky × Nat)), s = .int .i64 (i : Int) ∧ i ≤ ts.length ∧ ts.length - i ≤ gk ∧ Al W wr mb al ∧ (∀ k, cntK al k = bK M ts i k) ∧ sumN al = bS M ts i
def InR (M : List (Int × Ky)) (W : World) (mb : Nat) (ts : List Int) (i : Nat) (z : Tz) (r gk : Nat) (wr : World) : Prop :=
  ∃ (al left : List (Ky × Nat)), Al W wr mb al ∧ Rg kE nE wr z.b r left ∧ left.length ≤ gk ∧ (∀ p ∈ left, 0 < p.2) ∧ (∀ k, cntK al k + cntL left k = bK M ts i k + cntK z.l k) ∧ sumN al + sumN left = bS M ts i + sumN z.l
section
variable {B d am : Nat} {room : Int} {v : Value} {D : List Tz} {M : List (Int × Ky)} {W : World}
/-- What the adding of one count meets. -/
structure Cl (M : List (Int × Ky)) (W : World) (mb : Nat) (ts : List Int) (i : Nat) (z : Tz) (r gk : Nat) (k : Ky) (n kb : Nat) (w2 : World) (st n0 : Nat) (o1 o2 : Obj) : Prop where
  k0 : w2.cell? ⟨kb, 0, none⟩ = some (.int .i64 k.1)
  k1 : w2.cell? ⟨kb, 1, none⟩ = some (.int .i64 k.2.1)
  k2 : w2.cell? ⟨kb, 2, none⟩ = some (.int .i64 k.2.2)
  li : (Instr.lookup 51 (.map (some mb)) (.agg #[.int .i64 k.1, .int .i64 k.2.1, .int .i64 k.2.2]) false).run Try.prog w2 = .ok (.int .i64 (n0 : Int)) w2
  me : (Instr.mapEntry 51 (.map (some mb)) (.agg #[.int .i64 k.1, .int .i64 k.2.1, .int .i64 k.2.2])).run Try.prog w2 = .ok (.tuple #[.int .i64 (n0 : Int), .int .i64 (st : Int)]) (putBlock w2 mb o1)
  l2 : (Instr.lookup 51 (.map (some mb)) (.agg #[.int .i64 k.1, .int .i64 k.2.1, .int .i64 k.2.2]) false).run Try.prog (putBlock w2 mb o1) = .ok (.int .i64 (n0 : Int)) (putBlock w2 mb o1)
  es : (Instr.entryStore 51 (.map (some mb)) (.int .i64 (st : Int)) (.int .i64 ((n0 : Int) + (n : Int)))).run Try.prog (putBlock w2 mb o1) = .ok () (putBlock w2 mb o2)
  nb : n0 + n ≤ 30000
  en : InR M W mb ts i z r gk (putBlock w2 mb o2)
theorem cl_of {mb i r kb : Nat} {ts : List Int} {z : Tz} {w2 : World} {al A C : List (Ky × Nat)} {k : Ky} {n : Nat} (hal : Al W w2 mb al) (hmb : W.heap.size ≤ mb) (hr : r ≠ mb) (hz : z.b ≠ mb) (hk : Fb w2 kb 39 #[.int .i64 k.1, .int .i64 k.2.1, .int .i64 k.2.2])
    (hR : Rg kE nE w2 z.b r (A ++ C)) (hp : ∀ p ∈ A ++ (k, n) :: C, 0 < p.2) (hc : ∀ k', cntK al k' + cntL (A ++ (k, n) :: C) k' = bK M ts i k' + cntK z.l k') (hs : sumN al + sumN (A ++ (k, n) :: C) = bS M ts i + sumN z.l) (hbd : bK M ts i k + cntK z.l k ≤ 30000) :
    ∃ st n0 o1 o2, Cl M W mb ts i z r (A ++ C).length k n kb w2 st n0 o1 o2 := by
  have hi := hal.mp
  have hzl := hi.lt
  obtain ⟨st, o1, e1, e2, e3⟩ := hi.entry KLk mapI (zb := 0) zeroN k
  obtain ⟨o2, s1, s2⟩ := e3 (cntK al k + n)
  have hc0 := hc k
  rw [cntL_mid, if_pos rfl] at hc0
  have hn0 : 0 < n := hp (k, n) (by simp)
  refine ⟨st, cntK al k, o1, o2, hk.cell 0, hk.cell 1, hk.cell 2, ?_, ?_, ?_, ?_, by dsimp only at hc0; omega, ?_⟩
  · have := hi.look KLk mapI zeroN k
    have e : ((getM k al).map nE).getD (nE 0) = nE (cntK al k) := by unfold cntK; cases getM k al <;> rfl
    rw [e] at this
    exact this
  · have e : ((getM k al).map nE).getD (nE 0) = nE (cntK al k) := by unfold cntK; cases getM k al <;> rfl
    rw [e] at e1
    exact e1
  · have := (e2 w2 hzl).look KLk mapI zeroN k
    have e : ((getM k (putM k ((getM k al).getD 0) al)).map nE).getD (nE 0) = nE (cntK al k) := by
      have := cnt_put k k ((getM k al).getD 0) al
      rw [if_pos rfl] at this
      unfold cntK at this ⊢
      cases hq : getM k (putM k ((getM k al).getD 0) al) with
      | none => rw [hq] at this; rw [← this]; rfl
      | some y => rw [hq] at this; rw [← this]; rfl
    rw [e] at this
    exact this
  · have := s1 (putBlock w2 mb o1) (putBlock_at (Array.getElem?_eq_getElem hzl))
    have pp : putBlock (putBlock w2 mb o1) mb o2 = putBlock w2 mb o2 := by unfold putBlock; simp
    rw [pp] at this
    have e : nE (cntK al k + n) = .int .i64 ((cntK al k : Int) + (n : Int)) := by unfold nE; rw [Int.natCast_add]
    rw [e] at this
    exact this
  · refine ⟨putM k (cntK al k + n) al, A ++ C, ⟨s2 w2 hzl, nodup_put hal.nd, pos_put (by omega) hal.ps, below_put hal.bl hmb o2⟩, hR.of (putBlock_far hz) (putBlock_far hr), Nat.le_refl _, fun p hp' => hp p (by
      rcases List.mem_append.1 hp' with h | h
      · exact List.mem_append_left _ h
      · exact List.mem_append_right _ (.tail _ h)), fun k' => ?_, ?_⟩
    · rw [cnt_put]
      have := hc k'
      rw [cntL_mid] at this
      by_cases e : k' = k
      · subst e
        rw [if_pos rfl] at this ⊢
        dsimp only at this
        omega
      · rw [if_neg e]
        rw [if_neg (fun e' : k = k' => e e'.symm)] at this
        omega
    · rw [sum_put]
      rw [sumN_mid] at hs
      dsimp only at hs
      omega
/-- All times of a while counted: a content of that while. -/
theorem cw_of (h : Bk B d room v am D M W) {a b : Int} (k : Ky) : bK M ((D.map (·.t)).filter (hasB a b)) ((D.map (·.t)).filter (hasB a b)).length k = cw M a b k := by
  have hnd : ((D.map (·.t)).filter (hasB a b)).Nodup := by
    have : (D.map (·.t)).Nodup := h.so.imp fun hab e => by omega
    exact this.sublist List.filter_sublist
  unfold bK cw
  rw [List.take_length, count_times M k _ hnd]
  refine List.countP_congr fun x hx => ?_
  have := h.al x hx
  simp only [Bool.and_eq_true, decide_eq_true_eq, List.mem_filter]
  constructor
  · rintro ⟨⟨_, h1⟩, h2⟩; exact ⟨h1, h2⟩
  · rintro ⟨h1, h2⟩; exact ⟨⟨this, h1⟩, h2⟩
end
end Go.Proofs.Ytncnoilldlnpoaa
