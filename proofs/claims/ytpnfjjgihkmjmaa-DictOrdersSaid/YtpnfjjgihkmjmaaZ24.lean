/-
  MERGED (a claim has at most 60 files): NTri, NPrs.
-/
import Derived.Test.YtpnfjjgihkmjmaaZ22
/-
  A LINE's TRIPLE (package nt): all ways.
-/
namespace Go.Proofs.Ytpnfjjgihkmjmaa
open Go.RowKit
set_option linter.unusedVariables false
set_option linter.unusedSimpArgs false

/-- May a term stand in a part of a triple? -/
def mayB (t : Tm) (part : Nat) : Bool := (t.kind == 1) || (((t.kind == 0) && !(part == 1)) || ((t.kind == 2) && (part == 2)))
section
variable {w : World} {B b : Nat} {v : Value} {sl : List Int} {k : Nat} {ps : Array Value}
end
theorem iface_of {t : Tm} (h : t.kind < 3) : ∃ ty x, t.val = .iface ty x := by
  cases t with
  | blank s => exact ⟨_, _, rfl⟩
  | iri s => exact ⟨_, _, rfl⟩
  | lit a b c => exact ⟨_, _, rfl⟩
  | odd n => exact ⟨_, _, rfl⟩
  | none => exact absurd h (by decide)
end Go.Proofs.Ytpnfjjgihkmjmaa

/-
  LINES OF TRIPLES: plain; a slice of triples; the world in which they are parsed.
-/
namespace Go.Proofs.Ytpnfjjgihkmjmaa
open Go.RowKit
set_option linter.unusedVariables false

/-! ### Slices of triples -/
def cellsT (l : List (List Tm)) : List Value := l.flatMap fun ts => ts.map Tm.val
theorem cellsT_snoc (l : List (List Tm)) (ts : List Tm) : cellsT (l ++ [ts]) = cellsT l ++ ts.map Tm.val := by simp [cellsT]
def TrsV (B : Nat) (W : World) (v : Value) (l : List (List Tm)) : Prop := W.ownsRow B 57 3 v l.length (cellsT l)
theorem TrsV.shape {B : Nat} {W : World} {v : Value} {l : List (List Tm)} (h : TrsV B W v l) : ∃ A c, v = .slice A l.length c := by
  rcases id h.2 with ⟨hv, hl⟩ | ⟨g, cap, cur, hv, _⟩
  · exact ⟨none, 0, by rw [hv, hl]⟩
  · exact ⟨_, cap, hv⟩
theorem TrsV.below {B : Nat} {w w' : World} {v : Value} {l : List (List Tm)} (h : TrsV B w v l) (hb : Below w.heap.size w w') : TrsV B w' v l := by
  refine ⟨h.1, ?_⟩
  rcases id h.2 with x | ⟨g, cap, cur, hv, hg, hh, rest⟩
  · exact .inl x
  · exact .inr ⟨g, cap, cur, hv, hg, (hb.block g (Array.getElem?_eq_some_iff.1 hh).1).trans hh, rest⟩
section
variable {w : World} {b : Nat} {v : Value} {sl : List Int} {k : Nat} {vL : Value} {acc : List (List Tm)}
end
end Go.Proofs.Ytpnfjjgihkmjmaa
