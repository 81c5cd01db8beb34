/-
  'Quoted': all ways.
-/
import Derived.Test.YtjkjobgmeimknaaDoorReadF
namespace Go.Proofs.YtjkjobgmeimknaaDoor
open Go.RowKit
set_option linter.unusedVariables false

/-- What stands quoted at place k. -/
def qd (sl : List Int) (k : Nat) : Nat × Option (List Int) := if sl[k]? = some 34 then qf sl (sl.length - (k + 1)) (k + 1) [] else (k, none)
set_option maxHeartbeats 4000000 in
theorem readq_none {B : Nat} {w : World} {b : Nat} {v : Value} {sl : List Int} {k : Nat} {c : Int} (h : Sc B w b v sl k)
    (hP : Calls Tryd.prog 20 #[.pointer (some ⟨b, 0, none⟩)] w fun e w' => e = .returned (.int .i32 c) ∧ Same w w') (hc : c ≠ 34) :
    Calls Tryd.prog 47 #[.pointer (some ⟨b, 0, none⟩)] w (QPost B w b v sl (k, none)) := by
  have hB : (c == 34) = false := by simpa using hc
  have HS := Lib.hid h
  clear h hc
  go_enter Tryd.func47, Tryd.ntmps47
  go_wp2_with (go_at_call 20; (with_reducible refine hP.mono ?_); rintro e w3 ⟨rfl, hs3⟩)
  go_ret2
  exact ⟨by rw [show ((k, (none : Option (List Int))).2.getD []) = [] from rfl, text_nil]; rfl, hs3.sc HS.out, same_grown hs3 _⟩
theorem readq_all {B : Nat} {w : World} {b : Nat} {v : Value} {sl : List Int} {k : Nat} (h : Sc B w b v sl k) (hk : k ≤ sl.length) (hl : sl.length ≤ 100000) (hall : AllS sl)
    (t : TypeId) (fr : Nat × Nat) (htab : w.heap[0]? = some (.cells escCells t fr)) :
    Calls Tryd.prog 47 #[.pointer (some ⟨b, 0, none⟩)] w (QPost B w b v sl (qd sl k)) := by
  unfold qd
  by_cases hx : sl[k]? = some 34
  · rw [if_pos hx]; exact readq_any h hl hall hx t fr htab
  · rw [if_neg hx]
    cases hy : sl[k]? with
    | none =>
      have hke : k = sl.length := by have := List.getElem?_eq_none_iff.1 hy; omega
      exact readq_none h (peek_end h hke (by omega)) (by decide)
    | some c => exact readq_none h (peek_sign h hy (by omega)) (fun e => hx (by rw [hy, e]))
def QdPost (B : Nat) (w : World) (b : Nat) (v : Value) (sl : List Int) (k : Nat) (r : Nat × Option (List Int)) (e : Ending) (w' : World) : Prop :=
  match r.2 with
  | some l => e = .returned (.tuple #[.string (textOf l), .int .i64 r.1, .int .i64 0]) ∧ Moves B w b v sl r.1 w'
  | none => e = .returned (.tuple #[.string ⟨#[]⟩, .int .i64 r.1, .int .i64 1]) ∧ Moves B w b v sl k w'
set_option maxHeartbeats 4000000 in
set_option maxRecDepth 100000 in
theorem quoted_any {B : Nat} {w : World} {b : Nat} {v : Value} {sl : List Int} {k : Nat} (h : Sc B w b v sl k) (hk : k ≤ sl.length) (hl : sl.length ≤ 100000) (hall : AllS sl)
    (t : TypeId) (fr : Nat × Nat) (htab : w.heap[0]? = some (.cells escCells t fr)) :
    Calls Tryd.prog 28 #[.pointer (some ⟨b, 0, none⟩)] w (QdPost B w b v sl k (qd sl k)) := by
  have hR := readq_all h hk hl hall t fr htab
  have c1 := h.c1
  obtain ⟨p, o, hr⟩ : ∃ p o, qd sl k = (p, o) := ⟨_, _, rfl⟩
  rw [hr] at hR ⊢
  clear h hall htab hr
  cases o with
  | some l =>
    go_enter Tryd.func28, Tryd.ntmps28
    go_wp2_with (go_at_call 47; (with_reducible refine hR.mono ?_); rintro e w2 ⟨rfl, hM⟩; have c12 := hM.1.c1)
    have HM := Lib.hid hM
    clear hM hR c1
    go_quiet (fail)
    go_wp2
    go_ret3
    refine ⟨rfl, Same.sc HM.out.1 ⟨rfl, rfl, rfl, rfl⟩, grown_trans HM.out.2 ?_⟩
    exact same_grown (same_drewN _ _) _
  | none =>
    go_enter Tryd.func28, Tryd.ntmps28
    go_wp2_with (go_at_call 47; (with_reducible refine hR.mono ?_); rintro e w2 ⟨rfl, hM⟩; have c12 := hM.1.c1; have f12 := hM.1.f1)
    have HM := Lib.hid hM
    clear hM hR c1
    go_ret3
    exact ⟨rfl, by exact HM.out.1.place k, grown_trans HM.out.2 (grown_set w2 b 1 _)⟩
end Go.Proofs.YtjkjobgmeimknaaDoor
