/-
  lay of a path of one part within another, as deep as it is.
-/
import Derived.Test.YtcbdgbcphfimlaaNfLa
namespace Go.Proofs.Ytcbdgbcphfimlaa
open Go.RowKit
set_option linter.unusedVariables false
set_option linter.unusedSimpArgs false
set_option maxRecDepth 100000

theorem lpC_seq {k : Int} {ks : List Int} (h : k = 2 ∨ k = 3) : lpC (k :: ks) = lpC ks ∧ emC (k :: ks) = emC ks := by
  rw [lpC, emC, if_neg (by omega), if_neg (by omega)]
  exact ⟨rfl, rfl⟩
theorem lpC_again {k : Int} {ks : List Int} (h : k = 4 ∨ k = 5 ∨ k = 6) : lpC (k :: ks) = (if k = 6 then lpC ks else true) ∧ emC (k :: ks) = (if k = 5 then emC ks else true) := by
  rw [lpC, emC]
  constructor
  · by_cases h6 : k = 6
    · rw [if_neg (by omega), if_pos h6]
    · rw [if_pos (by omega), if_neg h6]
  · by_cases h6 : k = 5
    · rw [if_neg (by omega), if_pos h6]
    · rw [if_pos (by omega), if_neg h6]
theorem lay_step {B d b : Nat} {N k qk qn : Int} {A : Option Addr} {m c : Nat} {ks : List Int} {W : World} (hk : 2 ≤ k ∧ k ≤ 6) (hF : Fb W b 28 #[.int .i64 qk, .int .i64 qn, .slice A m c]) (hB : B ≤ W.heap.size)
    (ih : ∀ w, Below W.heap.size W w → Calls Try.prog 31 #[.pointer (some ⟨d, 0, none⟩), .agg #[.int .i64 qk, .int .i64 qn, .slice A m c]] w (LyQ B d N (lpC ks) (emC ks) w)) :
    Calls Try.prog 31 #[.pointer (some ⟨d, 0, none⟩), .agg #[.int .i64 k, .int .i64 0, .slice (some ⟨b, 0, none⟩) 1 1]] W (LyQ B d N (lpC (k :: ks)) (emC (k :: ks)) W) := by
  have hc : k = 2 ∨ k = 3 ∨ (k = 4 ∨ k = 5 ∨ k = 6) := by omega
  rcases hc with h | h | h
  · rw [(lpC_seq (.inl h)).1, (lpC_seq (.inl h)).2]
    subst h
    exact lay_seq hF hB ih
  · rw [(lpC_seq (.inr h)).1, (lpC_seq (.inr h)).2]
    subst h
    exact lay_alt hF hB ih
  · rw [(lpC_again h).1, (lpC_again h).2]
    exact lay_again hF hB ih h
theorem lay_any {B d : Nat} {N : Int} (ks : List Int) : Kd ks → ∀ (p : Pa) (W : World), Chn W N ks p → MS B d 1 [.slice none 0 0, .bool false] W → B ≤ W.heap.size →
    Calls Try.prog 31 #[.pointer (some ⟨d, 0, none⟩), .agg p.cs] W (LyQ B d N (lpC ks) (emC ks) W) := by
  induction ks with
  | nil =>
    intro _ p W h hM hB
    obtain ⟨h1, h2, h3⟩ := h
    have e : p.cs = #[.int .i64 0, .int .i64 N, .slice none 0 0] := by unfold Pa.cs; rw [h1, h2, h3]
    rw [e]
    exact lay_leaf hM hB
  | cons k ks ih =>
    intro hK p W h hM hB
    obtain ⟨h1, h2, b, q, h3, hF, hC⟩ := h
    obtain ⟨A, hA⟩ := hC.shape
    have e : p.cs = #[.int .i64 k, .int .i64 0, .slice (some ⟨b, 0, none⟩) 1 1] := by unfold Pa.cs; rw [h1, h2, h3]
    have eq : q.cs = #[.int .i64 q.kd, .int .i64 q.n, .slice A (if ks = [] then 0 else 1) (if ks = [] then 0 else 1)] := by unfold Pa.cs; rw [hA]
    have hi : ∀ w, Below W.heap.size W w → Calls Try.prog 31 #[.pointer (some ⟨d, 0, none⟩), .agg q.cs] w (LyQ B d N (lpC ks) (emC ks) w) :=
      fun w hw => ih (fun x hx => hK x (List.mem_cons_of_mem _ hx)) q w (hC.below hw) (hM.below hw) (Nat.le_trans hB hw.size)
    rw [e]
    rw [eq] at hF hi
    exact lay_step (hK k (List.mem_cons_self ..)) hF hB hi
end Go.Proofs.Ytcbdgbcphfimlaa
