/-
  THE DOCUMENT's 'Quoted': the plain part; what can't stand there at all.
-/
import Derived.Test.YtjkjobgmeimknaaDoorReadG
import Derived.Test.YtjkjobgmeimknaaDoorText
namespace Go.Proofs.YtjkjobgmeimknaaDoor
open Go.RowKit
set_option linter.unusedVariables false

/-- The last number below m whose letter is c. -/
def pl (c : Int) : Nat → Int
  | 0 => -1
  | m + 1 => if lett m ≠ 0 ∧ lett m = c then m else pl c m
theorem lett_unl (c m : Int) (h39 : c ≠ 39) (h0 : 0 ≤ m) : (lett m ≠ 0 ∧ lett m = c) ↔ unl c = m := by
  constructor
  · rintro ⟨h1, h2⟩
    unfold lett at h1 h2
    unfold unl
    omega
  · intro h
    unfold unl at h
    unfold lett
    omega
theorem pl_inv (c : Int) (h39 : c ≠ 39) : ∀ m : Nat, pl c m = if 0 ≤ unl c ∧ unl c < m then unl c else -1
  | 0 => by unfold pl; rw [if_neg (by omega)]
  | m + 1 => by
    unfold pl
    rw [pl_inv c h39 m]
    by_cases hm : unl c = m
    · rw [if_pos ((lett_unl c m h39 (by omega)).2 hm), if_pos (by omega), hm]
    · rw [if_neg (fun h => hm ((lett_unl c m h39 (by omega)).1 h))]
      by_cases h : 0 ≤ unl c ∧ unl c < m
      · rw [if_pos h, if_pos (by omega)]
      · rw [if_neg h, if_neg (by omega)]
theorem pl_all (c : Int) (h39 : c ≠ 39) : pl c 160 = unl c := by
  rw [pl_inv c h39 160]
  have : unl c ≤ 92 := by unfold unl; omega
  have h2 : -1 ≤ unl c := by unfold unl; omega
  split <;> omega
def QxPost (B : Nat) (w : World) (r : Nat × Option (List Int)) (e : Ending) (w' : World) : Prop :=
  ∃ v, e = .returned (.tuple #[v, .int .i64 r.1, .bool r.2.isSome]) ∧ Ints B w' v (r.2.getD []) ∧ Below B w w'
theorem ints_nil (B : Nat) (w : World) : Ints B w (.slice none 0 0) [] := ⟨rfl, .inl ⟨rfl, rfl⟩⟩
set_option maxHeartbeats 4000000 in
theorem rquoted_far (sl : List Int) (k : Nat) (hk : sl.length ≤ k) (ao : Option Addr) (cap : Nat) (w : World) :
    Calls Tryd.prog 30 #[.slice ao sl.length cap, .int .i64 k] w (QxPost w.heap.size w (qd sl k)) := by
  have hq : qd sl k = (k, none) := by unfold qd; rw [List.getElem?_eq_none hk]; rfl
  have hge : (sl.length : Int) ≤ (k : Int) := by omega
  rw [hq]
  clear hq hk
  go_enter Tryd.func30, Tryd.ntmps30
  go_wp2
  go_ret3
  exact ⟨_, rfl, ints_nil _ _, Below.refl _ _⟩
end Go.Proofs.YtjkjobgmeimknaaDoor
