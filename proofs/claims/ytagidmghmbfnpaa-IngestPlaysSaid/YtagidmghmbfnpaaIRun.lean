/-
  A BUFFER IN A LAW: what stays below it, that it is a heap.
-/
import Derived.Test.YtagidmghmbfnpaaIArg
namespace Go.Proofs.Ytagidmghmbfnpaa
open Go.RowKit
set_option linter.unusedVariables false
set_option maxRecDepth 100000

structure Rn (w1 : World) (d : Nat) (s : Bs) (v : Value) (l : List It) (wr : World) : Prop where
  bc : Bc w1.heap.size d s v l wr
  b : Below w1.heap.size w1 wr
  hp : Hp l l.length
def RPush (w1 : World) (d : Nat) (s : Bs) (l : List It) (t k0 k1 k2 : Int) (e : Ending) (w' : World) : Prop :=
  e = .returned (.int .i64 (s.push l.length t).2) ∧ ∃ v' l', Rn w1 d (s.push l.length t).1 v' l' w' ∧ l'.Perm (if (s.push l.length t).2 = 0 then l ++ [⟨t, s.next, k0, k1, k2⟩] else l)
section
variable {w1 W : World} {d : Nat} {s : Bs} {v : Value} {l : List It}
theorem rn_new {w2 : World} {lat room : Int} (h : Bc w1.heap.size d (Bs.first lat room) (.slice none 0 0) [] w2) (hb : Below w1.heap.size w1 w2) : Rn w1 d (Bs.first lat room) (.slice none 0 0) [] w2 := ⟨h, hb, Hp.nil⟩
theorem Rn.below {W' : World} (h : Rn w1 d s v l W) (hb : Below W.heap.size W W') : Rn w1 d s v l W' := ⟨h.bc.below hb, h.b.trans (hb.mono h.b.size), h.hp⟩
theorem Rn.drewN (h : Rn w1 d s v l W) (q : Nat) : Rn w1 d s v l (W.drewN q) := ⟨h.bc.drewN q, ((Tn.refl W).drewN q).below h.bc h.b, h.hp⟩
theorem Rn.push (h : Rn w1 d s v l W) (hl : l.length ≤ 4000) (ho : s.ok) (t k0 k1 k2 : Int) : Calls Try.prog 7 #[.pointer (some ⟨d, 0, none⟩), .int .i64 t, kv k0 k1 k2] W (RPush w1 d s l t k0 k1 k2) := by
  refine (ipush_any h.bc h.b.size hl h.hp ho t k0 k1 k2).mono ?_
  rintro e w' ⟨h1, v', l', h2, h3, h4, h5⟩
  exact ⟨h1, v', l', ⟨h2, h3.below h.bc h.b, h4⟩, h5⟩
theorem Rn.tick (h : Rn w1 d s v l W) (t : Int) : Calls Try.prog 9 #[.pointer (some ⟨d, 0, none⟩), .int .i64 t] W fun e w' => e = .returned (.int .i64 (s.tick t).2) ∧ Rn w1 d (s.tick t).1 v l w' := by
  refine (itick_any h.bc t).mono ?_
  rintro e w' ⟨h1, h2, h3⟩
  exact ⟨h1, h2, h3.below h.bc h.b, h.hp⟩
theorem Rn.mark (h : Rn w1 d s v l W) (ho : s.ok) : Calls Try.prog 23 #[.pointer (some ⟨d, 0, none⟩)] W fun e w' => e = .returned (.tuple #[.int .i64 s.mark, .bool s.mq]) ∧ Rn w1 d s v l w' := by
  refine (imark_any h.bc ho).mono ?_
  rintro e w' ⟨h1, q, rfl⟩
  exact ⟨h1, h.drewN q⟩
theorem Rn.len (h : Rn w1 d s v l W) (hl : l.length ≤ 4000) : Calls Try.prog 15 #[.pointer (some ⟨d, 0, none⟩)] W fun e w' => e = .returned (.int .i64 l.length) ∧ W = w' := ilen_any h.bc (by omega)
theorem Rn.late (h : Rn w1 d s v l W) : Calls Try.prog 25 #[.pointer (some ⟨d, 0, none⟩)] W fun e w' => e = .returned (.int .i64 s.late) ∧ W = w' := ilate_any h.bc
theorem Rn.closed (h : Rn w1 d s v l W) : Calls Try.prog 26 #[.pointer (some ⟨d, 0, none⟩)] W fun e w' => e = .returned (.bool s.closed) ∧ W = w' := iclosed_any h.bc
/-- Taken: the row of what was taken lies apart. -/
structure RTk (w1 : World) (d : Nat) (s : Bs) (l : List It) (W : World) (u : Value) (out : List It) (v' : Value) (rest : List It) (w' : World) : Prop where
  rn : Rn w1 d s v' rest w'
  row : ItR W.heap.size w' u out
  le : W.heap.size ≤ w'.heap.size
  dl : d < W.heap.size
  vl : ∀ k, v'.ownBlock = some k → k < W.heap.size
  pm : (out ++ rest).Perm l
  ord : Ord out
  lo : ∀ x ∈ out, s.tl x.t = true
  hi : ∀ x ∈ rest, s.tl x.t = false
def RTake (w1 : World) (d : Nat) (s : Bs) (l : List It) (W : World) (e : Ending) (w' : World) : Prop := ∃ u out v' rest, e = .returned u ∧ RTk w1 d s l W u out v' rest w'
theorem Rn.take (h : Rn w1 d s v l W) (hl : l.length ≤ 4000) (ho : s.ok) : Calls Try.prog 12 #[.pointer (some ⟨d, 0, none⟩)] W (RTake w1 d s l W) := by
  refine (itk_any h.bc (by omega) h.hp ho).mono ?_
  rintro e w' ⟨u, out, v', rest, h1, h2⟩
  exact ⟨u, out, v', rest, h1, ⟨h2.bc, h2.tn.below h.bc h.b, h2.hp⟩, h2.row, h2.tn.size, h.bc.lt, fun k hk => by rw [h2.own] at hk; exact (h.bc.row_ge hk).2, h2.pm, h2.ord, h2.lo, h2.hi⟩
structure RFk (w1 : World) (d : Nat) (s : Bs) (l : List It) (W : World) (u : Value) (out : List It) (v' : Value) (w' : World) : Prop where
  rn : Rn w1 d { s with closed := true } v' [] w'
  row : ItR W.heap.size w' u out
  le : W.heap.size ≤ w'.heap.size
  dl : d < W.heap.size
  vl : ∀ k, v'.ownBlock = some k → k < W.heap.size
  pm : out.Perm l
  ord : Ord out
def RFlush (w1 : World) (d : Nat) (s : Bs) (l : List It) (W : World) (e : Ending) (w' : World) : Prop := ∃ u out v', e = .returned u ∧ RFk w1 d s l W u out v' w'
theorem Rn.flush (h : Rn w1 d s v l W) (hl : l.length ≤ 4000) (hi : ∀ x ∈ l, x.t ≤ 1152921504606846976) : Calls Try.prog 13 #[.pointer (some ⟨d, 0, none⟩)] W (RFlush w1 d s l W) := by
  refine (ifl_any h.bc (by omega) h.hp hi).mono ?_
  rintro e w' ⟨u, out, v', h1, h2⟩
  exact ⟨u, out, v', h1, ⟨h2.bc, h2.tn.below h.bc h.b, Hp.nil⟩, h2.row, h2.tn.size, h.bc.lt, fun k hk => by rw [h2.own] at hk; exact (h.bc.row_ge hk).2, h2.pm, h2.ord⟩
end
end Go.Proofs.Ytagidmghmbfnpaa
