/-
  A STORE's Has, in general: over its first list.
-/
import Derived.Test.YtoiigplflmejmaaSGenH
import Derived.Test.YtoiigplflmejmaaSAdd
namespace Go.Proofs.Ytoiigplflmejmaa
open Go.RowKit
set_option linter.unusedVariables false
set_option linter.unusedSimpArgs false
set_option maxRecDepth 100000

theorem shas_any {B : Nat} {W : World} {d gb cb : Nat} {v : Value} {l : List Kt} (h : Lm B W d 2 0 gb cb v l) (hl : l.length ≤ 1000) (hp : 0 < l.length) (hs : Rs 0 l) (k : Kt) :
    Calls Try.prog 15 #[.pointer (some ⟨d, 0, none⟩), .agg #[.int .i64 k.a, .int .i64 k.b, .int .i64 k.c]] W fun e w' => e = .returned (.bool (decide (k ∈ l))) ∧ Below W.heap.size W w' := by
  have hB1 : Below W.heap.size W (W.alloc (.cells #[.int .i64 k.a, .int .i64 k.b, .int .i64 k.c] 37)) := (Below.refl _ _).alloc (Nat.le_refl _) _
  have hk := Fb.new W 37 #[.int .i64 k.a, .int .i64 k.b, .int .i64 k.c]
  have hlt : d < W.heap.size := World.block_lt_of_cell? _ _ h.h0
  have cH := fun (w : World) (hbb : Below (W.alloc (.cells #[.int .i64 k.a, .int .i64 k.b, .int .i64 k.c] 37)).heap.size (W.alloc (.cells #[.int .i64 k.a, .int .i64 k.b, .int .i64 k.c] 37)) w) => slhas_any ((h.below hB1).below hbb) hl hp hs k
  have HK := Lib.hid (fun (w : World) (hb : Below (W.alloc (.cells #[.int .i64 k.a, .int .i64 k.b, .int .i64 k.c] 37)).heap.size (W.alloc (.cells #[.int .i64 k.a, .int .i64 k.b, .int .i64 k.c] 37)) w) => (⟨(hk.below hb).cell 0, (hk.below hb).cell 1, (hk.below hb).cell 2⟩ : _ ∧ _ ∧ _))
  obtain ⟨k0, k1, k2⟩ := HK.out _ (Below.refl _ _)
  have HB := Lib.hid hB1
  have hcH := cH _ (Below.drew (Below.refl _ _))
  clear h hB1 hk cH hs
  generalize decide (k ∈ l) = r at *
  generalize k.a = ka at *
  generalize k.b = kb at *
  generalize k.c = kc at *
  go_enter Try.func15, Try.ntmps15
  go_wp2
  go_region_held3 (fun w => w.cell? ⟨W.heap.size, 0, none⟩ = some (.int .i64 ka) ∧ w.cell? ⟨W.heap.size, 1, none⟩ = some (.int .i64 kb) ∧ w.cell? ⟨W.heap.size, 2, none⟩ = some (.int .i64 kc))
    (first | exact ⟨k0, k1, k2⟩ | exact HK.out _ ((Below.drew (Below.refl _ _)).trans hb0))
    (first
      | (go_at_call 27; (with_reducible refine hcH.mono ?_); rintro e w1 ⟨rfl, hb0⟩)
      | fail)
  all_goals
    go_wp2
    go_ret
    exact ⟨rfl, HB.out.trans (((Below.drew (Below.refl _ _)).trans hb0).mono HB.out.size)⟩
end Go.Proofs.Ytoiigplflmejmaa
