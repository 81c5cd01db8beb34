/-
  list.from's closure as an iterator: of an empty list; of a list in general.
-/
import Derived.Test.YtoiigplflmejmaaSFrom
import Derived.RangeFuncNested
import Derived.RangeFuncBound
import Derived.RangeFuncCalls
import Derived.RangeFuncLeaves
import Derived.Shelf.Abstract
import Derived.Shelf.RegionOpen
import Derived.WalkKit
import Derived.OwnWalkIn
import Derived.TacticsInMore
import Derived.LoopNIn
import Derived.LoopIn
namespace Go.Proofs.Ytoiigplflmejmaa
open Go.RowKit Go.Shelf
set_option linter.unusedVariables false
set_option linter.unusedSimpArgs false
set_option maxRecDepth 100000
attribute [local go_sem] Oper.semAt_some


set_option maxHeartbeats 4000000 in
theorem sfromF_nil {A0 : Option Addr} {c0 : Nat} {n0 gn : Nat} {w : World} (hw : n0 ≤ w.heap.size) {d o : Nat} {n : Int} {k : Kt} {bl bk : Nat}
    (h0 : w.cell? ⟨d, o, none⟩ = some (.int .i64 n)) (h1 : w.cell? ⟨d, o + 1, none⟩ = some (.slice A0 0 c0)) (hd : d < w.heap.size)
    (hbl : Fb w bl 67 #[.pointer (some ⟨d, o, none⟩)]) (hbk : Fb w bk 37 #[.int .i64 k.a, .int .i64 k.b, .int .i64 k.c]) (q1 : bl < n0 ∧ bl ≠ gn) (q2 : d < n0 ∧ d ≠ gn) :
    SeqStopsK Fence.wide 4 Try.prog 42 #[.pointer (some ⟨bl, 0, none⟩), .pointer (some ⟨bk, 0, none⟩)] encK (But n0 gn) (FromS n [] k) (FromP n [] k) 0 w := fun lr J Jx W hW hJ hJx hY hj0 => by
  have c0 := (hW.cell (p := ⟨d, o, none⟩) hd).trans h0
  have c1 := (hW.cell (p := ⟨d, o + 1, none⟩) hd).trans h1
  have b1 := (hbl.below hW).cell 0
  have b2 := (hbk.below hW).cell 0
  have b3 := (hbk.below hW).cell 1
  have b4 := (hbk.below hW).cell 2
  have cF := sfind_none (a := k.a) (b := k.b) (c := k.c) c0 c1 (Nat.lt_of_lt_of_le hd hW.size)
  have HJ := Lib.hid hJ
  have HJ0 := Lib.hid hj0
  have HC := Lib.hid (And.intro c1 (And.intro b1 (hbl.below hW).lt))
  have HD := Lib.hid (Nat.lt_of_lt_of_le hd hW.size)
  clear hJ hJx hj0 hY h0 h1 hbl hbk q1 q2 hw hd c0 c1
  refine callsIn_of_wp Try.func42 rfl trivial ?_ rfl
  simp only [Try.ntmps42, List.size_toArray, List.length_cons, List.length_nil, Nat.reduceAdd, Nat.reduceSub, Array.replicate_succ, Array.replicate_zero, List.push_toArray, List.append_toArray, List.nil_append, List.cons_append]
  gi_wp2_with (refine ⟨trivial, ?_⟩; gi_at_call 35; refine (callsIn_wide.2 cF).mono ?_; rintro e W2 ⟨rfl, hb2⟩)
  have HJ2 := Lib.hid (abides_below HJ.out HJ0.out hb2)
  have c1 := (hb2.cell (p := ⟨d, o + 1, none⟩) HD.out).trans HC.out.1
  have b1 := (hb2.cell (p := ⟨bl, 0, none⟩) HC.out.2.2).trans HC.out.2.1
  clear hb2 cF
  gi_loopw [4, 5] (fun s4 s5 wr => s4 = .int .i64 0 ∧ wr = W2) (fun _ _ _ => 0)
  case atStart => exact ⟨rfl, rfl⟩
  case round =>
    obtain ⟨rfl, rfl⟩ := hrel
    gi_wp2
    go_end0
    exact ⟨⟨_, rfl⟩, .inl ⟨_, ⟨0, ⟨Nat.le_refl _, fun t ht => absurd ht (Nat.not_lt_zero _), fun t h1 h2 => absurd h2 (Nat.not_lt_zero _)⟩, rfl⟩, HJ2.out⟩⟩
end Go.Proofs.Ytoiigplflmejmaa
