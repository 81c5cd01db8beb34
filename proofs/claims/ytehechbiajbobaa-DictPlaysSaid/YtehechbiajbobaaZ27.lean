/-
  MERGED (a claim has at most 60 files): NTrq.
-/
import Derived.Test.YtehechbiajbobaaZ16
/-
  A TRIPLE OF THE DOCUMENT's AS THE PROGRAM's; a triple's text; lines of triples (package nt).
-/
namespace Go.Proofs.Ytehechbiajbobaa
open Go.RowKit
set_option linter.unusedVariables false
set_option linter.unusedSimpArgs false

theorem Rl.fb {w : World} {cs : Array Value} {W : World} (h : Rl w cs W) : Fb W w.heap.size 34 cs := h.2.1
set_option maxRecDepth 100000 in
set_option maxHeartbeats 8000000 in
theorem nreal_any (a b c : Tm) (ka : a.kind < 3) (kb : b.kind < 3) (kc : c.kind < 3) (w : World) : Calls Try.prog 17 #[T12 a b c] w fun e w' => e = .returned (.agg #[a.val, b.val, c.val]) ∧ Below w.heap.size w w' := by
  have g0 := real_kind a ka
  have g1 := real_kind b kb
  have g2 := real_kind c kc
  obtain ⟨ta, va, hva⟩ := iface_of ka
  obtain ⟨tb, vb, hvb⟩ := iface_of kb
  obtain ⟨tc, vc, hvc⟩ := iface_of kc
  rw [hva] at g0 ⊢
  rw [hvb] at g1 ⊢
  rw [hvc] at g2 ⊢
  unfold T12
  unfold T4 at g0 g1 g2
  generalize a.kind = k0 at g0 ⊢
  generalize a.ta = a0 at g0 ⊢
  generalize a.tb = a1 at g0 ⊢
  generalize a.tc = a2 at g0 ⊢
  generalize b.kind = k1 at g1 ⊢
  generalize b.ta = b0 at g1 ⊢
  generalize b.tb = b1 at g1 ⊢
  generalize b.tc = b2 at g1 ⊢
  generalize c.kind = k2 at g2 ⊢
  generalize c.ta = c0 at g2 ⊢
  generalize c.tb = c1 at g2 ⊢
  generalize c.tc = c2 at g2 ⊢
  clear hva hvb hvc ka kb kc
  have hR0 : Rl w #[.int .i64 k0, .string a0, .string a1, .string a2, .int .i64 k1, .string b0, .string b1, .string b2, .int .i64 k2, .string c0, .string c1, .string c2] ((w.alloc (.cells #[.int .i64 k0, .string a0, .string a1, .string a2, .int .i64 k1, .string b0, .string b1, .string b2, .int .i64 k2, .string c0, .string c1, .string c2] 34)).alloc (.cells #[.nilIface, .nilIface, .nilIface] 57)) :=
    ⟨((Below.refl _ _).alloc (Nat.le_refl _) _).alloc (by simp) _, (Fb.new _ _ _).alloc _, by simpa using Fb.new (w.alloc (.cells #[.int .i64 k0, .string a0, .string a1, .string a2, .int .i64 k1, .string b0, .string b1, .string b2, .int .i64 k2, .string c0, .string c1, .string c2] 34)) 57 #[.nilIface, .nilIface, .nilIface]⟩
  go_enter Try.func17, Try.ntmps17
  go_wp2
  go_region_held3 (fun W => W.cell? ⟨w.heap.size, 0, none⟩ = some (.int .i64 k0) ∧ W.cell? ⟨w.heap.size, 1, none⟩ = some (.string a0) ∧ W.cell? ⟨w.heap.size, 2, none⟩ = some (.string a1) ∧ W.cell? ⟨w.heap.size, 3, none⟩ = some (.string a2) ∧ W.cell? ⟨w.heap.size, 4, none⟩ = some (.int .i64 k1) ∧ W.cell? ⟨w.heap.size, 5, none⟩ = some (.string b0) ∧ W.cell? ⟨w.heap.size, 6, none⟩ = some (.string b1) ∧ W.cell? ⟨w.heap.size, 7, none⟩ = some (.string b2) ∧ W.cell? ⟨w.heap.size, 8, none⟩ = some (.int .i64 k2) ∧ W.cell? ⟨w.heap.size, 9, none⟩ = some (.string c0) ∧ W.cell? ⟨w.heap.size, 10, none⟩ = some (.string c1) ∧ W.cell? ⟨w.heap.size, 11, none⟩ = some (.string c2))
    (first | exact Fb.c12 (Rl.sets (by assumption) _ _ _) | exact Fb.c12 (Rl.fb (by assumption)) | exact Fb.c12 (Rl.fb (Rl.drew (by assumption))))
    (first
      | (go_at_call 8; (with_reducible refine (rl_of (by first | assumption | exact Rl.drew (by assumption)) (g0 _)).mono ?_); rintro e wa ⟨rfl, hRa⟩)
      | (go_at_call 8; (with_reducible refine (rl_of (by first | assumption | exact Rl.drew (by assumption)) (g1 _)).mono ?_); rintro e wb ⟨rfl, hRb⟩)
      | (go_at_call 8; (with_reducible refine (rl_of (by first | assumption | exact Rl.drew (by assumption)) (g2 _)).mono ?_); rintro e wc ⟨rfl, hRc⟩; obtain ⟨x0, x1, x2, f0, f1, f2, hz⟩ := hRc.res))
  all_goals
    go_wp2
    exact bodyPost_ret (v := .agg #[.iface ta va, .iface tb vb, .iface tc vc]) (by simp [results, Try.results17, go_sem, x0, x1, x2, hz]) rfl ⟨rfl, hRc.belows _ _ _⟩
end Go.Proofs.Ytehechbiajbobaa
