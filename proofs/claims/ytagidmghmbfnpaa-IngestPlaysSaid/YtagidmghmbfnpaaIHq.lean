/-
  THE HEAP's METHODS: Push.
-/
import Derived.Test.YtagidmghmbfnpaaIHp
import Derived.Deep.AppendLies
import Derived.Deep.RegionLaw
import Derived.Deep.RegionHeldLaw
namespace Go.Proofs.Ytagidmghmbfnpaa
open Go.RowKit
set_option linter.unusedVariables false
set_option linter.unusedSimpArgs false
set_option maxRecDepth 100000

theorem itInfo : (Try.prog.info? 63).map (fun i => (i.zero, i.size, i.bytes)) = some (some (.agg #[.int .i64 0, .int .i64 0, .int .i64 0, .int .i64 0, .int .i64 0]), 5, 40) := by kernel_rfl
theorem ta_item (x : Value) (w : World) : ∀ cs : Array Value, (Instr.typeAssert (.iface 63 (.agg cs)) 20 63 false).run Try.prog w = .ok (.agg cs) w := fun cs => by kernel_rfl
theorem nd_of {W : World} {B d : Nat} {s : Bs} {v : Value} {l : List It} (h : Bc B d s v l W) {W' : World} (hg : W.grownBy W' v.ownBlock) : Fb W' d 54 (s.cells v) := (hg.block d h.lt (fun e => h.ne e.symm)).trans h.st
/-- Behind an append, and its store. -/
theorem Bc.pushed {B d : Nat} {s : Bs} {v : Value} {l : List It} {W W5 : World} {cap g : Nat} {x : It} (h : Bc B d s v l W) (hown : W5.ownsRow B 63 5 (.slice (some ⟨g, 0, none⟩) (l.length + 1) cap) (l.length + 1) (l.flatMap c5 ++ c5 x)) (hg : W.grownBy W5 v.ownBlock) (hloc : v.ownBlock = some g ∨ g = W.heap.size) :
    Bc B d s (.slice (some ⟨g, 0, none⟩) (l.length + 1) cap) (l ++ [x]) (W5.setCell ⟨d, 6, none⟩ (.slice (some ⟨g, 0, none⟩) (l.length + 1) cap)) ∧ Tn d v (.slice (some ⟨g, 0, none⟩) (l.length + 1) cap) W (W5.setCell ⟨d, 6, none⟩ (.slice (some ⟨g, 0, none⟩) (l.length + 1) cap)) := by
  have hr : ItR B W5 (.slice (some ⟨g, 0, none⟩) (l.length + 1) cap) (l ++ [x]) := by
    unfold ItR
    rw [List.length_append, List.flatMap_append]
    simpa using hown
  have hgd : g ≠ d := fun e => by
    have hd := h.lt
    rcases hloc with y | y
    · exact h.ne (by rw [y, e])
    · omega
  have hf : Fb W5 d 54 (s.cells v) := nd_of h hg
  have hz := hg.size
  refine ⟨⟨?_, ?_, h.gd⟩, ⟨hg.os, hg.tape, hg.output, by simpa [World.setCell] using hz, fun k hk => ?_, fun k h1 h2 h3 => (Below.heap_setCell _ _ _ _ h2).trans (hg.block k h1 (fun e => h3 e.symm))⟩⟩
  · exact hf.set 6 _
  · refine ⟨hr.1, ?_⟩
    rcases id hr.2 with hn | ⟨g', cap', cur, hv, hge, hgg, rest⟩
    · exact .inl hn
    · have e : g = g' := by
        injection hv with hv
        injection hv with hv
        injection hv with hv
      subst e
      exact .inr ⟨g, cap', cur, hv, hge, (Below.heap_setCell _ _ _ _ hgd).trans hgg, rest⟩
  · have e : some g = some k := hk
    injection e with e
    subst e
    rcases hloc with y | y
    · exact .inl y
    · right; omega
def WPushPost (B d : Nat) (s : Bs) (v : Value) (l : List It) (W : World) (x : It) (e : Ending) (w' : World) : Prop := ∃ v', e = .returned (.tuple #[]) ∧ Bc B d s v' (l ++ [x]) w' ∧ Tn d v v' W w'
set_option maxHeartbeats 8000000 in
theorem iwpush_any {W : World} {B d : Nat} {s : Bs} {v : Value} {l : List It} (h : Bc B d s v l W) (hB : B ≤ W.heap.size) (hl : l.length ≤ 100000) (x : It) :
    Calls Try.prog 50 #[.pointer (some ⟨d, 6, none⟩), .iface 63 (itv x)] W (WPushPost B d s v l W x) := by
  obtain ⟨A, c, rfl⟩ := h.row.shape
  obtain ⟨iT, hT0, hT1, hT2, hT3⟩ := info_parts itInfo
  have c6 := h.c6
  have f6 := h.free 6
  have hd := h.lt
  have ta := ta_item (.bool true)
  have H := Lib.hid h
  have HB := Lib.hid hB
  have HN := Lib.hid hl
  have hx : c5 x = [.int .i64 x.t, .int .i64 x.s, .int .i64 x.a, .int .i64 x.b, .int .i64 x.c] := rfl
  have HX := Lib.hid hx
  obtain ⟨xt, xs, xa, xb, xc⟩ := x
  dsimp only at *
  clear h hB hl hx
  have H1 := Lib.hid (show ∀ u ∈ ([.int .i64 xt, .int .i64 xs, .int .i64 xa, .int .i64 xb, .int .i64 xc] : List Value), u.oneCell' = true from fun u hu => by
    simp only [List.mem_cons, List.not_mem_nil, or_false] at hu
    rcases hu with rfl | rfl | rfl | rfl | rfl <;> rfl)
  have HNW := Lib.hid (World.news_of_block (heap_alloc_new W (.cells #[.int .i64 xt, .int .i64 xs, .int .i64 xa, .int .i64 xb, .int .i64 xc] 63)))
  have HQ := Lib.hid (show ∀ (g cap : Nat) (w1 : World), w1.ownsRow B 63 5 (.slice (some ⟨g, 0, none⟩) (l.length + 1) cap) (l.length + 1) (l.flatMap c5 ++ [.int .i64 xt, .int .i64 xs, .int .i64 xa, .int .i64 xb, .int .i64 xc]) → (W.alloc (.cells #[.int .i64 xt, .int .i64 xs, .int .i64 xa, .int .i64 xb, .int .i64 xc] 63)).drew.grownBy w1 (Value.ownBlock (.slice A l.length c)) → (Value.ownBlock (.slice A l.length c) = some g ∨ g = W.heap.size + 1) → w1.cell? ⟨d, 6, none⟩ = some (.slice A l.length c) ∧ w1.frozen? ⟨d, 6, none⟩ = false ∧ d < w1.heap.size ∧ Bc B d s (.slice (some ⟨g, 0, none⟩) (l.length + 1) cap) (l ++ [⟨xt, xs, xa, xb, xc⟩]) (w1.setCell ⟨d, 6, none⟩ (.slice (some ⟨g, 0, none⟩) (l.length + 1) cap)) ∧ Tn d (.slice A l.length c) (.slice (some ⟨g, 0, none⟩) (l.length + 1) cap) W (w1.setCell ⟨d, 6, none⟩ (.slice (some ⟨g, 0, none⟩) (l.length + 1) cap)) from fun g cap w1 hown hg hloc => by
    have hA := (H.out.alloc (.cells #[.int .i64 xt, .int .i64 xs, .int .i64 xa, .int .i64 xb, .int .i64 xc] 63)).drew
    have hf := nd_of hA hg
    obtain ⟨k1, k2⟩ := hA.pushed (x := ⟨xt, xs, xa, xb, xc⟩) hown hg (by simpa using hloc)
    exact ⟨hf.cell 6, hf.free 6, hf.lt, k1, Tn.trans ((Tn.refl W).alloc _).drew k2⟩)
  go_enter Try.func50, Try.ntmps50
  go_region_law (first
    | (refine step_append_lies _ rfl (.tmp 7) (.tmp 10) 52 rfl B 63 iT (.agg #[.int .i64 0, .int .i64 0, .int .i64 0, .int .i64 0, .int .i64 0]) 5 40 Try.underlying52 hT0 hT1 hT2 hT3 rfl (by decide) (.slice A l.length c) l.length (l.flatMap c5) ?f1 ?own ⟨W.heap.size, 0, none⟩ 1 1 [.int .i64 xt, .int .i64 xs, .int .i64 xa, .int .i64 xb, .int .i64 xc] ?f2 rfl ?news H1.out (by decide) (by have := HN.out; unfold maxLen; omega) (by have := HN.out; omega) ?base _ rfl ?_; (case f1 => (simp [Act.eval] <;> fail)); (case f2 => (simp [Act.eval] <;> fail)); (case own => exact (H.out.alloc _).drew.row); (case news => exact HNW.out); (case base => have := HB.out; simp; omega); intro g8 c8 w8 hown8 hgrow8 hloc8 hlt8; obtain ⟨d0, df, dl, dB, dT⟩ := HQ.out _ _ _ hown8 hgrow8 (by simpa using hloc8))
    | fail)
  all_goals
    have HBB := Lib.hid dB
    have HTT := Lib.hid dT
    clear dB dT hown8 hgrow8 hloc8
    go_wp2
    go_end0
    exact ⟨_, rfl, HBB.out, HTT.out⟩
end Go.Proofs.Ytagidmghmbfnpaa
