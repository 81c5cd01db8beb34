/-
  awake: the document's example.
-/
import Derived.Test.YtcbdgbcphfimlaaNfCo
namespace Go.Proofs.Ytcbdgbcphfimlaa
open Go.RowKit
set_option linter.unusedVariables false
set_option linter.unusedSimpArgs false
set_option maxRecDepth 100000

theorem star_chain (W : World) : Chn (W.alloc (.cells #[.int .i64 0, .int .i64 0, .slice none 0 0] 28)) 0 [4] ⟨4, 0, .slice (some ⟨W.heap.size, 0, none⟩) 1 1⟩ :=
  ⟨rfl, rfl, W.heap.size, ⟨0, 0, .slice none 0 0⟩, rfl, Fb.new W _ _, rfl, rfl, rfl⟩
theorem star_compile (W : World) : Calls Try.prog 14 #[.agg #[.int .i64 4, .int .i64 0, .slice (some ⟨W.heap.size, 0, none⟩) 1 1]] (W.alloc (.cells #[.int .i64 0, .int .i64 0, .slice none 0 0] 28)) (CoQ 0 true true (W.alloc (.cells #[.int .i64 0, .int .i64 0, .slice none 0 0] 28))) := by
  have h := compile_ok (N := 0) (by decide) (ks := [4]) (fun k hk => by simp at hk; subst hk; decide) (star_chain W) (by decide)
  have e1 : emC [4] = true := by simp [emC]
  have e2 : lpC [4] = true := by simp [lpC]
  rw [e1, e2] at h
  exact h
set_option maxHeartbeats 8000000 in
theorem fawake_any (W : World) : Calls Try.prog 11 #[] W fun e w' => e = .returned (.bool true) ∧ Below W.heap.size W w' := by
  have cC := star_compile W
  have HB0 := Lib.hid (show Below W.heap.size W (W.alloc (.cells #[.int .i64 0, .int .i64 0, .slice none 0 0] 28)) from (Below.refl _ _).alloc (Nat.le_refl _) _)
  go_enter Try.func11, Try.ntmps11
  go_wp2_with (first
    | (go_at_call 14; (with_reducible refine cC.mono ?_); rintro e w1 ⟨d, rfl, hm, hb⟩; have c1 := takes_all (L := 0) (gw := 0) (cw := 0) (A := none) hm (.inl (by decide)) (by decide) rfl (fun j hj => absurd hj (Nat.not_lt_zero j)); rw [if_pos rfl] at c1; have HM1 := Lib.hid hm; have HB1 := Lib.hid (HB0.out.trans (hb.mono HB0.out.size)); clear hm hb)
    | (go_at_call 18; (with_reducible refine c1.mono ?_); rintro e w2 ⟨rfl, hb⟩; have hF2 := Fb.new w2 44 #[.int .i64 0, .bool false, .int .i64 0, .bool false]; have c2 := takes_all (L := 2) (gw := w2.heap.size) (cw := 2) (A := some ⟨w2.heap.size, 0, none⟩) ((HM1.out.below hb).below ((Below.refl w2.heap.size w2).alloc (Nat.le_refl _) (.cells #[.int .i64 0, .bool false, .int .i64 0, .bool false] 44))) (.inr rfl) (by decide) rfl (fun j hj => by
        match j, hj with
        | 0, _ => exact ⟨hF2.cell 0, hF2.cell 1⟩
        | 1, _ => exact ⟨hF2.cell 2, hF2.cell 3⟩); rw [if_neg (by decide)] at c2; have HM2 := Lib.hid ((HM1.out.below hb).below ((Below.refl w2.heap.size w2).alloc (Nat.le_refl _) (.cells #[.int .i64 0, .bool false, .int .i64 0, .bool false] 44))); have HB2 := Lib.hid ((HB1.out.trans (hb.mono HB1.out.size)).alloc (o := .cells #[.int .i64 0, .bool false, .int .i64 0, .bool false] 44) (HB1.out.trans (hb.mono HB1.out.size)).size); clear hF2 hb)
    | (go_at_call 18; (with_reducible refine c2.mono ?_); rintro e w3 ⟨rfl, hb⟩; have hF3 := Fb.new w3 44 #[.int .i64 1, .bool false]; have c3 := takes_lt (t := 1) (gw := w3.heap.size) (cw := 1) ((HM2.out.below hb).below ((Below.refl w3.heap.size w3).alloc (Nat.le_refl _) (.cells #[.int .i64 1, .bool false] 44))) (by decide) ⟨hF3.cell 0, hF3.cell 1⟩; have HB3 := Lib.hid ((HB2.out.trans (hb.mono HB2.out.size)).alloc (o := .cells #[.int .i64 1, .bool false] 44) (HB2.out.trans (hb.mono HB2.out.size)).size); clear hF3 hb)
    | (go_at_call 18; (with_reducible refine c3.mono ?_); rintro e w4 ⟨rfl, hb⟩; have HB4 := Lib.hid (HB3.out.trans (hb.mono HB3.out.size)); clear hb))
  go_ret
  exact ⟨rfl, HB4.out⟩
end Go.Proofs.Ytcbdgbcphfimlaa
