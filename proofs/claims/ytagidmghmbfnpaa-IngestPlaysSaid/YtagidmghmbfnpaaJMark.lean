/-
  THE DOCUMENT's Mark, Instant.
-/
import Derived.Test.YtagidmghmbfnpaaJApp
import Derived.Deep.LoopGhost
import Derived.BigQuiet
import Derived.Deep.QuietTactic
namespace Go.Proofs.Ytagidmghmbfnpaa
open Go.RowKit
set_option linter.unusedVariables false
set_option linter.unusedSimpArgs false
set_option maxRecDepth 100000

theorem own_drewJ {W : World} {B : Nat} {ty : TypeId} {z n : Nat} {v : Value} {xs : List Value} (h : W.ownsRow B ty z v n xs) : W.drew.ownsRow B ty z v n xs := h
theorem jinst_any (t : Int) (W : World) : Calls Try.prog 17 #[.int .i64 t] W fun e w' => e = .returned (.bool (instB t)) ∧ W = w' := by
  unfold instB
  by_cases h1 : -1152921504606846976 ≤ t
  · rw [decide_eq_true h1]
    by_cases h2 : t ≤ 1152921504606846976
    · rw [decide_eq_true h2]
      go_enter Try.func17, Try.ntmps17
      go_wp2
      go_ret
      exact ⟨rfl, rfl⟩
    · rw [decide_eq_false h2]
      go_enter Try.func17, Try.ntmps17
      go_wp2
      go_ret
      exact ⟨rfl, rfl⟩
  · rw [decide_eq_false h1]
    go_enter Try.func17, Try.ntmps17
    go_wp2
    go_ret
    exact ⟨rfl, rfl⟩
structure Mb.ok (m : Mb) : Prop where
  l0 : 0 ≤ m.lat
  l1 : m.lat ≤ 1152921504606846976
  ts : ∀ x ∈ m.seen ++ m.shown, -1152921504606846976 ≤ x ∧ x ≤ 1152921504606846976
  z : m.seen.length ≤ 1000
  zh : m.shown.length ≤ 1000
  zw : m.wait.length ≤ 1000
def JmRel (W2 : World) (lat : Int) (all : List Int) (g : Nat) (s4 s5 s17 : Value) (wr : World) : Prop := ∃ (i : Nat), i + g = all.length ∧ s17 = .int .i64 i ∧ s4 = .int .i64 (mkM lat (all.take i)).1 ∧ s5 = .bool (mkM lat (all.take i)).2 ∧ Below W2.heap.size W2 wr
set_option maxHeartbeats 16000000 in
theorem jmark_any {B : Nat} {m : Mb} {vw vs vh : Value} {W : World} (h : Mm B m vw vs vh W) (ho : m.ok) :
    Calls Try.prog 16 #[.agg (m.cells vw vs vh)] W fun e w' => e = .returned (.tuple #[.int .i64 (mkM m.lat (m.seen ++ m.shown)).1, .bool (mkM m.lat (m.seen ++ m.shown)).2]) ∧ Below W.heap.size W w' := by
  obtain ⟨r, hr⟩ : ∃ r, r = mkM m.lat (m.seen ++ m.shown) := ⟨_, rfl⟩
  rw [← hr]
  obtain ⟨W1, hW1⟩ : ∃ W1, W1 = W.alloc (.cells (m.cells vw vs vh) 32) := ⟨_, rfl⟩
  have hb1 : Below W.heap.size W W1 := by rw [hW1]; exact (Below.refl _ _).alloc (Nat.le_refl _) _
  have hx1 : Fb W1 W.heap.size 32 (m.cells vw vs vh) := by rw [hW1]; exact Fb.new _ _ _
  have HK := Lib.hid (show ∀ w, Below W1.heap.size W1 w → w.cell? ⟨W.heap.size, 3, none⟩ = some vs ∧ w.cell? ⟨W.heap.size, 4, none⟩ = some vh from fun w hb => ⟨(hx1.below hb).cell 3, (hx1.below hb).cell 4⟩)
  have HL := Lib.hid (show ∀ w, Below W1.heap.size W1 w → w.cell? ⟨W.heap.size, 0, none⟩ = some (.int .i64 m.lat) from fun w hb => (hx1.below hb).cell 0)
  have HM := Lib.hid (show ∀ w, Below W1.heap.size W1 w → TmR B w vs m.seen ∧ TmR B w vh m.shown from fun w hb => ⟨(h.below (hb1.trans (hb.mono hb1.size))).rs, (h.below (hb1.trans (hb.mono hb1.size))).rh⟩)
  have HE := Lib.hid (own_drewJ (emp_new (B := W1.heap.size) W1 3 1 (Nat.le_refl _)))
  have HB1 := Lib.hid hb1
  have HR := Lib.hid hr
  have HO := Lib.hid ho
  unfold Mb.cells at *
  have hbr : Below W1.heap.size W1 W1 := Below.refl _ _
  obtain ⟨x3, x4⟩ := HK.out W1 hbr
  clear hx1 hb1 h hr ho
  go_enter Try.func16, Try.ntmps16
  go_wp2
  rw [← hW1]
  clear hW1
  go_region_held3 (fun w => w.cell? ⟨W.heap.size, 3, none⟩ = some vs ∧ w.cell? ⟨W.heap.size, 4, none⟩ = some vh)
    (first | (refine HK.out _ ?_; repeat (first | assumption | refine Below.drew ?_ | refine Below.alloc ?_ (by first | exact Nat.le_refl _ | simp) _)))
    (first
      | (refine step_app_ints rfl (.tmp 8) (.tmp 10) rfl (B := W1.heap.size) (N := B) (v := .slice (some ⟨W1.heap.size, 0, none⟩) 0 0) (u := vs) (l := []) (new := m.seen) ?f1 ?f2 HE.out (HM.out _ ?bb1).1 (by have := HO.out.z; simp; omega) (by simp) ?_; (case f1 => (simp [Act.eval] <;> fail)); (case f2 => (simp [Act.eval] <;> fail)); (case bb1 => exact Below.drew ((Below.refl _ _).alloc (Nat.le_refl _) _)); intro v7 w7 hr7 hg7 hf7; have hB7 : Below W1.heap.size W1 w7 := (Below.drew ((Below.refl _ _).alloc (Nat.le_refl _) _)).grown hg7 (by simp) (fun k hk => by have e : some W1.heap.size = some k := hk; injection e with e; omega))
      | (refine step_app_ints rfl (.tmp 11) (.tmp 13) rfl (B := W1.heap.size) (N := B) (v := v7) (u := vh) (l := [] ++ m.seen) (new := m.shown) ?f3 ?f4 hr7 (HM.out _ ?bb2).2 (by have := HO.out.z; have := HO.out.zh; simp; omega) (by have := hB7.size; omega) ?_; (case f3 => (simp [Act.eval] <;> fail)); (case f4 => (simp [Act.eval] <;> fail)); (case bb2 => exact hB7); intro v8 w8 hr8 hg8 hf8; have hB8 : Below W1.heap.size W1 w8 := hB7.grown hg8 hB7.size (fun k hk => (World.ownsRow.lt hr7 k hk).1))
      | fail)
  rw [List.nil_append] at hr8
  have HR8 := Lib.hid hr8
  have HB8 := Lib.hid hB8
  obtain ⟨all, hall⟩ : ∃ all, all = m.seen ++ m.shown := ⟨_, rfl⟩
  rw [← hall] at HR8 HR
  obtain ⟨A8, c8, hv8⟩ := HR8.out.shape
  subst hv8
  have HO2 := Lib.hid (show ∀ x ∈ all, -1152921504606846976 ≤ x ∧ x ≤ 1152921504606846976 from by rw [hall]; exact HO.out.ts)
  have HZ := Lib.hid (show all.length ≤ 2000 from by rw [hall, List.length_append]; have := HO.out.z; have := HO.out.zh; omega)
  have HST := Lib.hid (show JmRel w8 m.lat all all.length (.int .i64 0) (.bool false) (.int .i64 0) w8 from ⟨0, by omega, rfl, rfl, rfl, Below.refl _ _⟩)
  clear hr8 hB8 hr7 hg7 hf7 hg8 hf8 hB7 x3 x4 hall HM HK
  go_wp2
  go_loopg [4, 5, 17] all.length (fun g s4 s5 s17 wr => JmRel w8 m.lat all g s4 s5 s17 wr)
  case atStart => exact HST.out
  case round =>
    clear HST
    obtain ⟨i, hig, rfl, rfl, rfl, hB⟩ := hrel
    have hi9 : (i : Int) ≤ 2000 := by have := HZ.out; omega
    cases gk with
    | zero =>
      have hin : ¬ (i : Int) < (all.length : Int) := by omega
      have ht : all.take i = all := List.take_of_length_le (by omega)
      rw [ht, ← HR.out]
      have HBE := Lib.hid (HB1.out.trans ((HB8.out.trans (hB.mono HB8.out.size)).mono HB1.out.size))
      clear hig hB ht
      go_wp2
      go_ret2
      exact ⟨rfl, HBE.out⟩
    | succ g =>
      have hin : (i : Int) < (all.length : Int) := by omega
      have hiz : (0 : Int) ≤ (i : Int) := by omega
      obtain ⟨x, hx⟩ : ∃ x, all[i]? = some x := ⟨_, List.getElem?_eq_getElem (by omega)⟩
      obtain ⟨g6, c6, e6, q0⟩ := TmR.at (row_below HR8.out hB) hx
      injection e6 with e6 _ e7
      subst e6
      subst e7
      have c0 := HL.out _ (HB8.out.trans (hB.mono HB8.out.size))
      obtain ⟨xb0, xb1⟩ := HO2.out x (List.mem_of_getElem? hx)
      have l0 := HO.out.l0
      have l1 := HO.out.l1
      have hst := mkM_step m.lat hx
      obtain ⟨mb0, mb1⟩ := mkM_bound m.lat l0 l1 (all.take i) (fun y hy => HO2.out y (List.mem_of_mem_take hy))
      have HI := Lib.hid (show i + 1 + g = all.length from by omega)
      have HBB := Lib.hid hB
      have w1x : IntKind.i64.wrap (x - m.lat) = x - m.lat := IntWalk.i64_in _ (by omega)
      generalize hp : mkM m.lat (all.take i) = p at *
      obtain ⟨po, pk⟩ := p
      dsimp only at *
      have HST2 := Lib.hid hst
      have hKEEP : ∀ (q : Nat) (s4 s5 : Value), s4 = .int .i64 (mkM m.lat (all.take (i + 1))).1 → s5 = .bool (mkM m.lat (all.take (i + 1))).2 → JmRel w8 m.lat all g s4 s5 (.int .i64 ((i : Int) + 1)) (wr.drewN q) := fun q s4 s5 h4 h5 => ⟨i + 1, HI.out, by go_num, h4, h5, below_drewN HBB.out q⟩
      have HKEEP := Lib.hid hKEEP
      clear hx hig hB hst hp hKEEP
      cases pk with
      | false =>
        go_wp2
        go_quiet (fail)
        go_wp2
        go_quiet (fail)
        go_wp2
        go_roundg g
        case measure => exact Nat.lt_succ_self g
        case rel =>
          exact HKEEP.out _ _ _ (by rw [HST2.out]; simp) (by rw [HST2.out]; simp)
      | true =>
        by_cases hlt : po < x - m.lat
        · have d1 : decide (po < x - m.lat) = true := decide_eq_true hlt
          go_wp2
          go_quiet (fail)
          go_wp2
          go_quiet (fail)
          go_wp2
          go_roundg g
          case measure => exact Nat.lt_succ_self g
          case rel =>
            exact HKEEP.out _ _ _ (by rw [HST2.out, if_pos (.inr hlt)]) (by rw [HST2.out, if_pos (.inr hlt)])
        · have d1 : decide (po < x - m.lat) = false := decide_eq_false hlt
          have HN1 := Lib.hid (show ¬ ((true = false) ∨ po < x - m.lat) from by simp; omega)
          go_wp2
          go_quiet (fail)
          go_wp2
          go_roundg g
          case measure => exact Nat.lt_succ_self g
          case rel => exact HKEEP.out _ _ _ (by rw [HST2.out, if_neg HN1.out]) (by rw [HST2.out, if_neg HN1.out])
end Go.Proofs.Ytagidmghmbfnpaa
