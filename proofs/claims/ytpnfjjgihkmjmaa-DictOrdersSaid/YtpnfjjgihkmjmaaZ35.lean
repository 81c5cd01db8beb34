/-
  MERGED (a claim has at most 60 files): EOrd, NTrq.
-/
import Derived.Test.YtpnfjjgihkmjmaaZ34
import Derived.Test.YtpnfjjgihkmjmaaZ03
import Derived.Test.YtpnfjjgihkmjmaaZ00
import Derived.Deep.RegionHeld3
import Derived.Test.YtpnfjjgihkmjmaaZ26
/-
  A DICTIONARY's Order of two numbers; the law's own `has`.
-/
namespace Go.Proofs.Ytpnfjjgihkmjmaa
open Go.RowKit
set_option linter.unusedVariables false
set_option linter.unusedSimpArgs false
set_option maxRecDepth 100000

section
variable {B d m : Nat} {room : Int} {v : Value} {L : List Tm}
set_option maxHeartbeats 8000000 in
theorem dorder_both {W : World} (h : Dc B d m room v L W) (hl : L.length ≤ 100000) {i j : Nat} {s t : Tm} (hi : L[i]? = some s) (hj : L[j]? = some t) :
    Calls Try.prog 30 #[.pointer (some ⟨d, 0, none⟩), .int .i64 i, .int .i64 j] W fun e w' => e = .returned (.int .i64 (ordB s t)) ∧ Below W.heap.size W w' := by
  have hil := (List.getElem?_eq_some_iff.1 hi).1
  have hjl := (List.getElem?_eq_some_iff.1 hj).1
  have cA := dhas_any h hl i
  rw [show hasB L i = true from hasB_iff.2 ⟨by omega, by omega⟩] at cA
  have cB := dhas_any h hl j
  rw [show hasB L j = true from hasB_iff.2 ⟨by omega, by omega⟩] at cB
  obtain ⟨g, c, hv, hc⟩ := h.term hi
  obtain ⟨g2, c2, hv2, hc2⟩ := h.term hj
  subst hv
  injection hv2 with e1 e2 e3
  injection e1 with e1
  injection e1 with e1
  subst e1
  clear e2 e3
  have hgl := (World.ownsRow.lt h.row g rfl).2
  have hdl := h.st.lt
  obtain ⟨c0, c1, _⟩ := h.cells
  have k1 : (0 : Int) ≤ (i : Int) := by omega
  have k2 : (i : Int) < (L.length : Int) := by omega
  have k3 : (0 : Int) ≤ (j : Int) := by omega
  have k4 : (j : Int) < (L.length : Int) := by omega
  have cO := order_any s t
  generalize ordB s t = r at cO ⊢
  generalize s.val = sv at hc cO
  generalize t.val = tv at hc2 cO
  have CO : ∀ {w : World}, Below W.heap.size W w → Calls Try.prog 40 #[sv, tv] w fun e w' => e = .returned (.int .i64 r) ∧ Below W.heap.size W w' := fun {w} hb => (cO w).mono fun _ _ ⟨x, y⟩ => ⟨x, hb.trans (y.mono hb.size)⟩
  have K : ∀ w, Below W.heap.size W w → w.cell? ⟨d, 1, none⟩ = some (.slice (some ⟨g, 0, none⟩) L.length c) ∧ w.cell? ⟨g, i, none⟩ = some sv ∧ w.cell? ⟨g, j, none⟩ = some tv := fun w hb =>
    ⟨(hb.cell (p := ⟨d, 1, none⟩) hdl).trans c1, (hb.cell (p := ⟨g, i, none⟩) hgl).trans hc, (hb.cell (p := ⟨g, j, none⟩) hgl).trans hc2⟩
  have hB0 : Below W.heap.size W W := Below.refl _ _
  clear h hi hj hil hjl hl hgl hdl cO hc hc2 c0 c1
  go_enter Try.func30, Try.ntmps30
  go_wp2_with (first
    | (go_at_call 38; (with_reducible refine cA.mono ?_); rintro e w1 ⟨rfl, rfl⟩)
    | (go_at_call 38; (with_reducible refine cB.mono ?_); rintro e w1 ⟨rfl, rfl⟩))
  first
    | (go_region_held3 (fun w => w.cell? ⟨d, 1, none⟩ = some (.slice (some ⟨g, 0, none⟩) L.length c) ∧ w.cell? ⟨g, i, none⟩ = some sv ∧ w.cell? ⟨g, j, none⟩ = some tv)
        (first | exact K _ (by assumption) | exact K _ (Below.drew (by assumption)))
        (first | (go_at_call 40; (with_reducible refine (CO (by first | assumption | exact Below.drew (by assumption))).mono ?_); rintro e wa ⟨rfl, hBa⟩)))
    | fail
  all_goals
    (try go_wp2)
    (try rw [Exit.noGoto_ret])
    go_ret
    exact ⟨rfl, by first | assumption | exact Below.drew (by assumption)⟩
theorem dorder_l {W : World} (h : Dc B d m room v L W) (hl : L.length ≤ 100000) (a b : Int) (ha : hasB L a = true) (hb : hasB L b = false) :
    Calls Try.prog 30 #[.pointer (some ⟨d, 0, none⟩), .int .i64 a, .int .i64 b] W fun e w' => e = .returned (.int .i64 (-1)) ∧ Below W.heap.size W w' := by
  have cA := dhas_any h hl a
  have cB := dhas_any h hl b
  rw [ha] at cA
  rw [hb] at cB
  clear h ha hb
  go_enter Try.func30, Try.ntmps30
  go_wp2_with (first
    | (go_at_call 38; (with_reducible refine cA.mono ?_); rintro e w1 ⟨rfl, rfl⟩)
    | (go_at_call 38; (with_reducible refine cB.mono ?_); rintro e w1 ⟨rfl, rfl⟩))
  (try rw [Exit.noGoto_ret])
  go_ret
  exact ⟨rfl, Below.refl _ _⟩
theorem dorder_r {W : World} (h : Dc B d m room v L W) (hl : L.length ≤ 100000) (a b : Int) (ha : hasB L a = false) (hb : hasB L b = true) :
    Calls Try.prog 30 #[.pointer (some ⟨d, 0, none⟩), .int .i64 a, .int .i64 b] W fun e w' => e = .returned (.int .i64 1) ∧ Below W.heap.size W w' := by
  have cA := dhas_any h hl a
  have cB := dhas_any h hl b
  rw [ha] at cA
  rw [hb] at cB
  clear h ha hb
  go_enter Try.func30, Try.ntmps30
  go_wp2_with (first
    | (go_at_call 38; (with_reducible refine cA.mono ?_); rintro e w1 ⟨rfl, rfl⟩)
    | (go_at_call 38; (with_reducible refine cB.mono ?_); rintro e w1 ⟨rfl, rfl⟩))
  (try rw [Exit.noGoto_ret])
  go_ret
  exact ⟨rfl, Below.refl _ _⟩
theorem dorder_none {W : World} (h : Dc B d m room v L W) (hl : L.length ≤ 100000) (a b : Int) (ha : hasB L a = false) (hb : hasB L b = false) :
    Calls Try.prog 30 #[.pointer (some ⟨d, 0, none⟩), .int .i64 a, .int .i64 b] W fun e w' => e = .returned (.int .i64 (ordT a b)) ∧ Below W.heap.size W w' := by
  have cA := dhas_any h hl a
  have cB := dhas_any h hl b
  rw [ha] at cA
  rw [hb] at cB
  have cK := cmpInt_any a b
  generalize ordT a b = r at cK ⊢
  clear h ha hb
  go_enter Try.func30, Try.ntmps30
  go_wp2_with (first
    | (go_at_call 38; (with_reducible refine cA.mono ?_); rintro e w1 ⟨rfl, rfl⟩)
    | (go_at_call 38; (with_reducible refine cB.mono ?_); rintro e w1 ⟨rfl, rfl⟩)
    | (go_at_call 41; (with_reducible refine (cK _).mono ?_); rintro e w1 ⟨rfl, rfl⟩))
  (try rw [Exit.noGoto_ret])
  go_ret
  exact ⟨rfl, Below.refl _ _⟩
end
/-- The law's `has`. -/
theorem dcl_any {W : World} {g : Nat} {room : Int} {A : Option Addr} {c : Nat} {L : List Tm} (h : Fb W g 30 #[.int .i64 room, .slice A L.length c]) (n : Int) : Calls Try.prog 28 #[.int .i64 n, .pointer (some ⟨g, 0, none⟩)] W fun e w' => e = .returned (.bool (hasB L n)) ∧ w' = W := by
  have c1 := h.cell 1
  unfold hasB
  by_cases h0 : 0 ≤ n
  · have e1 : decide (0 ≤ n) = true := decide_eq_true h0
    rw [e1]
    clear h
    go_enter Try.func28, Try.ntmps28
    go_wp2
    go_ret
    exact ⟨rfl, rfl⟩
  · have e1 : decide (0 ≤ n) = false := decide_eq_false h0
    rw [e1]
    clear h
    go_enter Try.func28, Try.ntmps28
    go_wp2
    go_ret
    exact ⟨rfl, rfl⟩
end Go.Proofs.Ytpnfjjgihkmjmaa

/-
  A TRIPLE OF THE DOCUMENT's AS THE PROGRAM's; a triple's text; lines of triples (package nt).
-/
namespace Go.Proofs.Ytpnfjjgihkmjmaa
open Go.RowKit
set_option linter.unusedVariables false
set_option linter.unusedSimpArgs false

theorem Rl.fb {w : World} {cs : Array Value} {W : World} (h : Rl w cs W) : Fb W w.heap.size 34 cs := h.2.1
set_option maxRecDepth 100000 in
set_option maxHeartbeats 8000000 in
theorem nreal_any (a b c : Tm) (ka : a.kind < 3) (kb : b.kind < 3) (kc : c.kind < 3) (w : World) : Calls Try.prog 21 #[T12 a b c] w fun e w' => e = .returned (.agg #[a.val, b.val, c.val]) ∧ Below w.heap.size w w' := by
  have g0 := real_kind a ka
  have g1 := real_kind b kb
  have g2 := real_kind c kc
  obtain ⟨ta, va, hva⟩ := iface_of ka
  obtain ⟨tb, vb, hvb⟩ := iface_of kb
  obtain ⟨tc, vc, hvc⟩ := iface_of kc
  rw [hva] at g0 ⊢
  rw [hvb] at g1 ⊢
  rw [hvc] at g2 ⊢
  unfold T12
  unfold T4 at g0 g1 g2
  generalize a.kind = k0 at g0 ⊢
  generalize a.ta = a0 at g0 ⊢
  generalize a.tb = a1 at g0 ⊢
  generalize a.tc = a2 at g0 ⊢
  generalize b.kind = k1 at g1 ⊢
  generalize b.ta = b0 at g1 ⊢
  generalize b.tb = b1 at g1 ⊢
  generalize b.tc = b2 at g1 ⊢
  generalize c.kind = k2 at g2 ⊢
  generalize c.ta = c0 at g2 ⊢
  generalize c.tb = c1 at g2 ⊢
  generalize c.tc = c2 at g2 ⊢
  clear hva hvb hvc ka kb kc
  have hR0 : Rl w #[.int .i64 k0, .string a0, .string a1, .string a2, .int .i64 k1, .string b0, .string b1, .string b2, .int .i64 k2, .string c0, .string c1, .string c2] ((w.alloc (.cells #[.int .i64 k0, .string a0, .string a1, .string a2, .int .i64 k1, .string b0, .string b1, .string b2, .int .i64 k2, .string c0, .string c1, .string c2] 34)).alloc (.cells #[.nilIface, .nilIface, .nilIface] 57)) :=
    ⟨((Below.refl _ _).alloc (Nat.le_refl _) _).alloc (by simp) _, (Fb.new _ _ _).alloc _, by simpa using Fb.new (w.alloc (.cells #[.int .i64 k0, .string a0, .string a1, .string a2, .int .i64 k1, .string b0, .string b1, .string b2, .int .i64 k2, .string c0, .string c1, .string c2] 34)) 57 #[.nilIface, .nilIface, .nilIface]⟩
  go_enter Try.func21, Try.ntmps21
  go_wp2
  go_region_held3 (fun W => W.cell? ⟨w.heap.size, 0, none⟩ = some (.int .i64 k0) ∧ W.cell? ⟨w.heap.size, 1, none⟩ = some (.string a0) ∧ W.cell? ⟨w.heap.size, 2, none⟩ = some (.string a1) ∧ W.cell? ⟨w.heap.size, 3, none⟩ = some (.string a2) ∧ W.cell? ⟨w.heap.size, 4, none⟩ = some (.int .i64 k1) ∧ W.cell? ⟨w.heap.size, 5, none⟩ = some (.string b0) ∧ W.cell? ⟨w.heap.size, 6, none⟩ = some (.string b1) ∧ W.cell? ⟨w.heap.size, 7, none⟩ = some (.string b2) ∧ W.cell? ⟨w.heap.size, 8, none⟩ = some (.int .i64 k2) ∧ W.cell? ⟨w.heap.size, 9, none⟩ = some (.string c0) ∧ W.cell? ⟨w.heap.size, 10, none⟩ = some (.string c1) ∧ W.cell? ⟨w.heap.size, 11, none⟩ = some (.string c2))
    (first | exact Fb.c12 (Rl.sets (by assumption) _ _ _) | exact Fb.c12 (Rl.fb (by assumption)) | exact Fb.c12 (Rl.fb (Rl.drew (by assumption))))
    (first
      | (go_at_call 12; (with_reducible refine (rl_of (by first | assumption | exact Rl.drew (by assumption)) (g0 _)).mono ?_); rintro e wa ⟨rfl, hRa⟩)
      | (go_at_call 12; (with_reducible refine (rl_of (by first | assumption | exact Rl.drew (by assumption)) (g1 _)).mono ?_); rintro e wb ⟨rfl, hRb⟩)
      | (go_at_call 12; (with_reducible refine (rl_of (by first | assumption | exact Rl.drew (by assumption)) (g2 _)).mono ?_); rintro e wc ⟨rfl, hRc⟩; obtain ⟨x0, x1, x2, f0, f1, f2, hz⟩ := hRc.res))
  all_goals
    go_wp2
    exact bodyPost_ret (v := .agg #[.iface ta va, .iface tb vb, .iface tc vc]) (by simp [results, Try.results21, go_sem, x0, x1, x2, hz]) rfl ⟨rfl, hRc.belows _ _ _⟩
end Go.Proofs.Ytpnfjjgihkmjmaa
