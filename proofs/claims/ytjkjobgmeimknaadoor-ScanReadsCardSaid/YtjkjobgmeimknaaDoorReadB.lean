/-
  READING WHAT IS QUOTED: one sign behind a backslash; the whole of what Quote has written.
-/
import Derived.Test.YtjkjobgmeimknaaDoorReadA
import Derived.Test.YtjkjobgmeimknaaDoorShelf
namespace Go.Proofs.YtjkjobgmeimknaaDoor
open Go.RowKit
set_option linter.unusedVariables false

theorem bd_grown {T e : TypeId} {B Bb b : Nat} {bs : List Value} {W W' : World} {cs : Array Value} {U : TypeId} {fz : Nat × Nat} (h : Lib.IsBuilderF T e B Bb bs W) (hb : W.heap[b]? = some (.cells cs U fz)) (hT : T ≠ U) (he : e ≠ U) (hg : W.grownBy W' (some b)) : Lib.IsBuilderF T e B Bb bs W' := by
  have key : ∀ p, Lib.BuilderAtF T e B Bb p bs W → Lib.BuilderAtF T e B Bb p bs W' := by
    intro p ⟨hB, v, hbk, hown, hne⟩
    have h1 : Bb ≠ b := by
      intro x
      rw [x, hb] at hbk
      cases hbk
      exact hT rfl
    refine ⟨hB, v, (hg.block Bb (Array.getElem?_eq_some_iff.1 hbk).1 (fun x => h1 (Option.some.inj x))).trans hbk, hown.kept hg (Or.inr ?_), hne⟩
    intro x
    obtain ⟨c, f, hc⟩ := Lib.ownsRowF_kind hown b x
    rw [hb] at hc
    cases hc
    exact he rfl
  exact h.elim (fun x => .inl (key _ x)) (fun x => .inr (key _ x))
theorem below_grown {w w' : World} (h : Below w.heap.size w w') (row : Option Nat) : w.grownBy w' row := ⟨h.os, h.tape, h.output, h.size, fun k hk _ => h.block k hk⟩
theorem grown_ext {w W W' : World} {row : Option Nat} (h : w.grownBy W row) (k : Below w.heap.size W W') : w.grownBy W' row := ⟨k.os.trans h.os, k.tape.trans h.tape, k.output.trans h.output, Nat.le_trans h.size k.size, fun i hi hr => (k.block i hi).trans (h.block i hi hr)⟩
theorem Sc.below2 {B n : Nat} {w w' : World} {b : Nat} {v : Value} {sl : List Int} {k : Nat} (h : Sc B w b v sl k) (hb : Below n w w') (h1 : b < n) (h2 : ∀ g, v.ownBlock = some g → g < n) : Sc B w' b v sl k := by
  refine ⟨(hb.block b h1).trans h.blk, ⟨h.row.1, ?_⟩, h.ge⟩
  rcases h.row.2 with x | ⟨g, cap, cur, hv, hg, hh, rest⟩
  · exact .inl x
  · exact .inr ⟨g, cap, cur, hv, hg, (hb.block g (h2 g (by rw [hv]; rfl))).trans hh, rest⟩
theorem Sc.below3 {B : Nat} {w w' : World} {b : Nat} {v : Value} {sl : List Int} {k : Nat} (h : Sc B w b v sl k) (hb : Below w.heap.size w w') : Sc B w' b v sl k :=
  h.below2 hb (Array.getElem?_eq_some_iff.1 h.blk).1 (fun g hg => (World.ownsRow.lt h.row g hg).2)

set_option maxHeartbeats 4000000 in
set_option maxRecDepth 100000 in
theorem escape_letter {B : Nat} {w : World} {b : Nat} {v : Value} {sl : List Int} {k : Nat} {c n : Int} (h : Sc B w b v sl k) (hl : sl.length ≤ 4294967296) (hx : sl[k]? = some c) (hu : unl c = n) (h0 : 0 ≤ n)
    (t : TypeId) (fr : Nat × Nat) (htab : ∀ W, Same w W → W.heap[0]? = some (.cells escCells t fr)) :
    Calls Tryd.prog 53 #[.pointer (some ⟨b, 0, none⟩)] w fun e w' => e = .returned (.tuple #[.int .i32 n, .bool true]) ∧ Moves B w b v sl (k + 1) w' := by
  have hki : k < sl.length := (List.getElem?_eq_some_iff.1 hx).1
  have hP : ∀ W, Same w W → Calls Tryd.prog 20 #[.pointer (some ⟨b, 0, none⟩)] W fun e w' => e = .returned (.int .i32 c) ∧ Same w w' := fun W s => (peek_sign (s.sc h) hx hl).mono fun _ _ ⟨x, y⟩ => ⟨x, s.trans y⟩
  have hE : ∀ W, Same w W → Calls Tryd.prog 58 #[.int .i32 c] W fun e w' => e = .returned (.tuple #[.int .i32 n, .bool true]) ∧ Sc B w' b v sl k ∧ w.grownBy w' (some b) := fun W s => (escaped_any c W t fr (htab W s)).mono fun _ _ ⟨x, y⟩ => ⟨by rw [x, ← escRes_ok c n hu h0], (s.sc h).below3 y, grown_trans (same_grown s _) (below_grown y _)⟩
  have e1 : (c == 117) = false := by
    have : c ≠ 117 := by intro e; subst e; have : n = -1 := by rw [← hu]; rfl
                         omega
    simpa using this
  have e2 : (c == 85) = false := by
    have : c ≠ 85 := by intro e; subst e; have : n = -1 := by rw [← hu]; rfl
                        omega
    simpa using this
  have hs0 : Same w w := Same.refl w
  clear h hx hu htab
  go_enter Tryd.func53, Tryd.ntmps53
  go_wp2_with (first
    | (go_at_call 20; (with_reducible refine (hP _ (by assumption)).mono ?_); rintro e w3 ⟨rfl, hs3⟩)
    | (go_at_call 58; (with_reducible refine (hE _ (by assumption)).mono ?_); rintro e w4 ⟨rfl, hsc4, hg4⟩; have c14 := hsc4.c1; have f14 := hsc4.f1))
  go_ret2
  exact ⟨rfl, by exact hsc4.place (k + 1), grown_trans hg4 (grown_set w4 b 1 _)⟩

set_option maxHeartbeats 4000000 in
set_option maxRecDepth 100000 in
theorem escape_u {B : Nat} {w : World} {b : Nat} {v : Value} {sl ds : List Int} {k : Nat} (h : Sc B w b v sl k) (hl : sl.length ≤ 4294967296) (hx : sl[k]? = some 117) (hds : ds = (sl.drop (k + 1)).take ds.length) (hd4 : ds.length = 4)
    (hh : ∀ d ∈ ds, 0 ≤ hexv d) (hv : numV ds < 2147483648) (hs : sgn (numV ds) = true) :
    Calls Tryd.prog 53 #[.pointer (some ⟨b, 0, none⟩)] w fun e w' => e = .returned (.tuple #[.int .i32 (numV ds), .bool true]) ∧ Moves B w b v sl (k + 5) w' := by
  have hki : k < sl.length := (List.getElem?_eq_some_iff.1 hx).1
  have hP := peek_sign h hx hl
  have hN : ∀ W, Sc B W b v sl (k + 1) → Calls Tryd.prog 57 #[.pointer (some ⟨b, 0, none⟩), .int .i64 4] W fun e w' => e = .returned (.tuple #[.int .i32 (numV ds), .bool true]) ∧ Moves B W b v sl (k + 5) w' := fun W s => by
    have := number_good s hl hds (by omega) hh hv hs
    rw [hd4] at this
    exact this
  have HS := Lib.hid h
  obtain ⟨R, hR⟩ : ∃ R, R = numV ds := ⟨_, rfl⟩
  rw [← hR] at hN ⊢
  clear h hx hds hd4 hh hv hs hR
  go_enter Tryd.func53, Tryd.ntmps53
  go_wp2_with (first
    | (go_at_call 20; (with_reducible refine hP.mono ?_); rintro e w3 ⟨rfl, hs3⟩; have h3 := hs3.sc HS.out; have c13 := h3.c1; have f13 := h3.f1; have h4 : Sc B (w3.setCell ⟨b, 1, none⟩ (.int .i64 ((k : Int) + 1))) b v sl (k + 1) := h3.place (k + 1))
    | (go_at_call 57; (with_reducible refine (hN _ (by assumption)).mono ?_); rintro e w4 ⟨rfl, hM4⟩))
  go_ret2
  exact ⟨rfl, hM4.1, grown_trans (grown_trans (same_grown hs3 _) (grown_set w3 b 1 _)) hM4.2⟩
end Go.Proofs.YtjkjobgmeimknaaDoor
