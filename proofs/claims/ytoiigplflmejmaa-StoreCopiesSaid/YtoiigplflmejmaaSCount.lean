/-
  Store.Count: how many keys are told.
-/
import Derived.Test.YtoiigplflmejmaaSScanG
import Derived.Deep.RegionHeld3
import Derived.RangeFuncNested
import Derived.RangeFuncBound
import Derived.RangeFuncCalls
import Derived.RangeFuncLeaves
import Derived.Shelf.Abstract
import Derived.Shelf.RegionOpen
import Derived.WalkKit
import Derived.OwnWalkIn
import Derived.TacticsInMore
import Derived.LoopNIn
import Derived.LoopIn
namespace Go.Proofs.Ytoiigplflmejmaa
open Go.RowKit Go.Shelf
set_option linter.unusedVariables false
set_option linter.unusedSimpArgs false
set_option maxRecDepth 100000
attribute [local go_sem] Oper.semAt_some

def CntI (W : World) (gn : Nat) (pre : List Kt) (w : World) : Prop := Fb w gn 3 #[.int .i64 (pre.length : Nat)] ∧ Below W.heap.size W w
theorem cntI_own {W : World} {gn B : Nat} (hB : W.heap.size ≤ B) : OwnFrom B (CntI W gn) := fun pre w w' row h hg hr => ⟨fb_grown h.1 hg hr, h.2.grown hg h.2.size (fun r e => Nat.le_trans hB (hr r e).1)⟩
set_option maxHeartbeats 16000000 in
theorem scount_any {B d : Nat} {room many : Int} {m : List Kt} {W : World} (hS : Sx B d room many m m m W) (hm : m.length ≤ 1000) (p : Kt) :
    Calls Try.prog 19 #[.pointer (some ⟨d, 0, none⟩), .agg #[.int .i64 p.a, .int .i64 p.b, .int .i64 p.c]] W fun e w' => (∃ xs, ToldS p m xs ∧ e = .returned (.int .i64 (xs.length : Nat))) ∧ Below W.heap.size W w' := by
  obtain ⟨W1, hW1⟩ : ∃ W1, W1 = W := ⟨_, rfl⟩
  have HS := Lib.hid hS
  have HM := Lib.hid hm
  clear hS hm
  refine (callsIn_wide (n := 5)).1 ?_
  refine callsIn_of_wp_marks Try.func19 rfl trivial ?_ rfl
  simp only [Try.ntmps19, List.size_toArray, List.length_cons, List.length_nil, Nat.reduceAdd, Nat.reduceSub, Array.replicate_succ, Array.replicate_zero, List.push_toArray, List.append_toArray, List.nil_append, List.cons_append]
  gi_wp2_with (refine ⟨trivial, ?_⟩; gi_at_call 21; refine (callsIn_wide.2 (sscan_any undef _ _ _ _ _)).mono ?_; rintro e z4 ⟨rfl, rfl⟩)
  obtain ⟨w5, hw5⟩ : ∃ w5, w5 = (((W.alloc (.cells #[.int .i64 p.a, .int .i64 p.b, .int .i64 p.c] 48)).alloc (.cells #[.int .i64 0] 3)).alloc (.cells #[.pointer (some ⟨d, 0, none⟩)] 24)).alloc (.cells #[.int .i64 p.a, .int .i64 p.b, .int .i64 p.c] 48) := ⟨_, rfl⟩
  rw [← hw5]
  have hb5 : Below W.heap.size W w5 := by
    rw [hw5]
    exact ((((Below.refl _ _).alloc (Nat.le_refl _) _).alloc (by simp) _).alloc (by simp; omega) _).alloc (by simp; omega) _
  have hz5 : w5.heap.size = W.heap.size + 4 := by rw [hw5]; simp
  have fg : Fb w5 (W.heap.size + 1) 3 #[.int .i64 0] := by
    have := Fb.new (W.alloc (.cells #[.int .i64 p.a, .int .i64 p.b, .int .i64 p.c] 48)) 3 #[.int .i64 0]
    rw [World.size_alloc] at this
    rw [hw5]; exact (this.alloc _).alloc _
  have f1 : Fb w5 (W.heap.size + 1 + 1) 24 #[.pointer (some ⟨d, 0, none⟩)] := by
    have := Fb.new ((W.alloc (.cells #[.int .i64 p.a, .int .i64 p.b, .int .i64 p.c] 48)).alloc (.cells #[.int .i64 0] 3)) 24 #[.pointer (some ⟨d, 0, none⟩)]
    rw [World.size_alloc, World.size_alloc] at this
    rw [hw5]; exact this.alloc _
  have f2 : Fb w5 (W.heap.size + 1 + 1 + 1) 48 #[.int .i64 p.a, .int .i64 p.b, .int .i64 p.c] := by
    have := Fb.new (((W.alloc (.cells #[.int .i64 p.a, .int .i64 p.b, .int .i64 p.c] 48)).alloc (.cells #[.int .i64 0] 3)).alloc (.cells #[.pointer (some ⟨d, 0, none⟩)] 24)) 48 #[.int .i64 p.a, .int .i64 p.b, .int .i64 p.c]
    rw [World.size_alloc, World.size_alloc, World.size_alloc] at this
    rw [hw5]; exact this
  have hseq := sscanG_any (X := fun q => q = W.heap.size + 1 ∨ q = w5.heap.size + 1) (HS.out.below hb5) HM.out p f1 f2 (fun q hq h e => by
    rcases e with rfl | rfl
    · rcases h with ⟨cs, h⟩ | ⟨cs, h⟩ | ⟨cs, h⟩ | ⟨cs, h⟩ | ⟨cs, h⟩ <;> exact fb_ty_ne h fg (by decide) rfl
    · omega)
  have HI0 : Hid (CntI W (W.heap.size + 1) [] w5) := Lib.hid ⟨fg, hb5⟩
  have HB5 := Lib.hid (And.intro hb5 hz5)
  clear fg f1 f2 hb5 hw5
  refine range_all (gn := W.heap.size + 1) rfl (enters_of Try.func31 (by kernel_rfl) rfl) (by omega) hseq (Below.refl _ _) (fun _ => rfl) (CntI W (W.heap.size + 1)) (cntI_own HB5.out.1.size) HI0.out
    (fun x => { tmps := #[.pointer (some ⟨d, 0, none⟩), .agg #[.int .i64 p.a, .int .i64 p.b, .int .i64 p.c], undef, .pointer (some ⟨W.heap.size, 0, none⟩), .int .i64 0, .pointer (some ⟨W.heap.size + 1, 0, none⟩), .pointer (some ⟨d, 0, none⟩), .agg #[.int .i64 p.a, .int .i64 p.b, .int .i64 p.c], .func (.func 31) #[] #[.pointer (some ⟨W.heap.size + 1 + 1, 0, none⟩), .pointer (some ⟨W.heap.size + 1 + 1 + 1, 0, none⟩)], .agg #[.int .i64 x.a, .int .i64 x.b, .int .i64 x.c], undef, undef, undef], defers := [] }) ?_ ?_ ?_
  · intro l x w K hK
    clear hseq
    gi_wp2
    simpa [encK] using hK
  · rintro l pre x w ⟨hf, hb⟩ hlt
    have c0 := hf.cell 0
    have z0 := hf.free 0
    have hw : wrap64 ((pre.length : Int) + 1) = (((pre ++ [x]).length : Nat) : Int) := by
      rw [IntWalk.wrap64_in _ ⟨by omega, by have := HM.out; omega⟩]; simp
    have HF := Lib.hid (And.intro hf hb)
    have HWR := Lib.hid hw
    clear hseq hf hb hlt hw
    gi_wp2
    refine ⟨⟨rfl, rfl, rfl, by simp [World.setCell], fun q o hn hq => (Below.heap_setCell _ _ _ _ hn).trans hq⟩, ?_, Below.setCell HF.out.2 (p := ⟨W.heap.size + 1, 0, none⟩) (Nat.le_add_right _ _) _⟩
    have := HF.out.1.set 0 (.int .i64 (wrap64 ((pre.length : Int) + 1)))
    rw [HWR.out] at this ⊢
    exact this
  · intro D xs w hD hxs hI hK
    have c0 := hI.1.cell 0
    have HI := Lib.hid (And.intro hI (And.intro hxs hD))
    clear hseq hI hxs hD
    gi_wp2
    refine ⟨by simp, .inl ⟨_, _, rfl, run_takeDeferred hK, ?_⟩⟩
    refine ⟨.int .i64 (xs.length : Nat), by simp [results, Try.results19, go_sem], ⟨xs, HI.out.2.1, rfl⟩, ?_⟩
    exact ((cntI_own HB5.out.1.size).putObj _ HI.out.1 HI.out.2.2 hK rfl).2
end Go.Proofs.Ytoiigplflmejmaa
