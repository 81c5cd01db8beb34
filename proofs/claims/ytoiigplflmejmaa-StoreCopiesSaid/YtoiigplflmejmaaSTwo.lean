/-
  SClone, SFoot, SCop, SCopy, STwo, joined.
-/
import Derived.Test.YtoiigplflmejmaaSGenY
import Derived.Lib.SliceRun
import Derived.Test.YtoiigplflmejmaaSRemS
import Derived.Test.YtoiigplflmejmaaSScan
import Derived.Deep.RegionHeldLaw
import Derived.Deep.RegionHeld3
import Derived.Test.YtoiigplflmejmaaSSumE
import Derived.Test.YtoiigplflmejmaaSKrem
import Derived.Test.YtoiigplflmejmaaSScanned
namespace Go.Proofs.Ytoiigplflmejmaa
open Go.RowKit
set_option linter.unusedVariables false
set_option linter.unusedSimpArgs false
set_option maxRecDepth 100000

theorem emp_hK {W : World} {n B : Nat} (hh : W.heap[n]? = some (.cells #[] 37 (0, 0))) (hB : B ≤ n) : KtR B W (.slice (some ⟨n, 0, none⟩) 0 0) [] := ⟨by simp, .inr ⟨n, 0, #[], rfl, hB, hh, Nat.le_refl _, by decide, by simp, by simp⟩⟩
set_option maxHeartbeats 8000000 in
theorem kclone_any {B : Nat} {W : World} {v : Value} {l : List Kt} (h : KtR B W v l) (h0 : 0 < l.length) (hl : l.length ≤ 50000) :
    Calls Try.prog 41 #[v] W fun e w' => ∃ v', e = .returned v' ∧ KtR W.heap.size w' v' l ∧ Below W.heap.size W w' := by
  obtain ⟨g, c, rfl⟩ : ∃ g c, v = .slice (some ⟨g, 0, none⟩) l.length c := by
    obtain ⟨x, hx⟩ : ∃ x, l[0]? = some x := ⟨_, List.getElem?_eq_getElem h0⟩
    obtain ⟨g, c, hv, _⟩ := h.at hx
    exact ⟨g, c, hv⟩
  obtain ⟨iT, hT0, hT1, hT2, hT3⟩ := info_parts keyZ
  have hE : ∀ w, (binOp .eql 70 (.slice (some ⟨g, 0, none⟩) l.length c) (.slice none 0 0)).run Try.prog w = .ok (.bool false) w := fun w => Lib.run_eql_slice_nil w 70 37 (some ⟨g, 0, none⟩) l.length c 0 0 Try.underlying70
  have HR := Lib.hid h
  have HL := Lib.hid (show 0 + l.length ≤ 100000 by omega)
  clear h h0 hl
  go_enter Try.func41, Try.ntmps41
  go_wp2_with (at_builtin; refine wpList_plain rfl fun _ hK => ?_; refine wp_app_any (.tmp 5) (.tmp 6) 70 rfl 37 iT (.agg #[.int .i64 0, .int .i64 0, .int .i64 0]) 3 24 Try.underlying70 hT0 hT1 hT2 hT3 rfl (by decide) (by decide) rfl rfl (emp_hK (B := W.heap.size) (heap_alloc_new _ _) (Nat.le_refl _)) (row_below HR.out ((Below.refl _ _).alloc (Nat.le_refl _) _)) (ktc_one _) HL.out (by simp) ?_; intro v7 w7 hr7 hg7 hf7; refine hK _ _ ?_; have HR7 := Lib.hid hr7; have HB7 := Lib.hid (Below.grown ((Below.refl W.heap.size W).alloc (Nat.le_refl _) (.cells #[] 37)) hg7 (by simp) (fun k hk => by have e : some W.heap.size = some k := hk; injection e with e; omega)); clear hr7 hg7 hf7 hK)
  go_ret
  refine ⟨_, rfl, ?_, HB7.out⟩
  have := HR7.out
  unfold KtR
  simpa using this
end Go.Proofs.Ytoiigplflmejmaa
namespace Go.Proofs.Ytoiigplflmejmaa
open Go.RowKit
set_option linter.unusedVariables false
set_option linter.unusedSimpArgs false
set_option maxRecDepth 100000

/-- All lies as it lay but one block and some others. -/
def Ft (d : Nat) (F : List Nat) (W W' : World) : Prop := ∀ q, q < W.heap.size → q ≠ d → q ∉ F → W'.heap[q]? = W.heap[q]?
theorem Ft.of {d : Nat} {F : List Nat} {W W' : World} (h : Below W.heap.size W W') : Ft d F W W' := fun q hq _ _ => h.block q hq
theorem Ft.trans {d : Nat} {F G : List Nat} {W W1 W2 : World} (h : Ft d F W W1) (k : Ft d G W1 W2) (hs : W.heap.size ≤ W1.heap.size) (hG : ∀ q ∈ G, q ∈ F ∨ W.heap.size ≤ q) : Ft d F W W2 := fun q hq hd hf =>
  (k q (Nat.lt_of_lt_of_le hq hs) hd (fun hm => (hG q hm).elim hf (fun h => by omega))).trans (h q hq hd hf)
theorem Ft.set {d i : Nat} {F : List Nat} {W W' : World} (h : Ft d F W W') (x : Value) : Ft d F W (W'.setCell ⟨d, i, none⟩ x) := fun q hq hd hf => (Below.heap_setCell _ _ _ _ hd).trans (h q hq hd hf)
/-- A store, and its blocks. -/
def Sz (B d : Nat) (room many : Int) (m : List Kt) (F : List Nat) (W : World) : Prop := ∃ x0 x1 x2 l0 l1 l2 F0 F1 F2, Sy B d room many m m m x0 x1 x2 l0 l1 l2 F0 F1 F2 W ∧ F = F0 ++ (F1 ++ F2)
theorem Sz.sx {B d : Nat} {room many : Int} {m : List Kt} {F : List Nat} {W : World} (h : Sz B d room many m F W) : Sx B d room many m m m W := by
  obtain ⟨x0, x1, x2, l0, l1, l2, F0, F1, F2, h, _⟩ := h
  exact ⟨x0, x1, x2, l0, l1, l2, F0, F1, F2, h⟩
theorem Sz.below {B d : Nat} {room many : Int} {m : List Kt} {F : List Nat} {W W' : World} (h : Sz B d room many m F W) (hb : Below W.heap.size W W') : Sz B d room many m F W' := by
  obtain ⟨x0, x1, x2, l0, l1, l2, F0, F1, F2, h, e⟩ := h
  exact ⟨x0, x1, x2, l0, l1, l2, F0, F1, F2, h.below hb, e⟩
def SaddF (B d : Nat) (room : Int) (W : World) (F : List Nat) (r : List Kt × Int) (e : Ending) (w' : World) : Prop := e = .returned (.int .i64 r.2) ∧ ∃ F', Sz B d room (r.1.length : Int) r.1 F' w' ∧ Kp B W w' ∧ Ft d F W w' ∧ ∀ q ∈ F', q ∈ F ∨ W.heap.size ≤ q
def SyRF (F : List Nat) (B : Nat) (W : World) (d bk : Nat) (room many : Int) (m : List Kt) (k : Kt) (g : Nat) (s : Value) (wr : World) : Prop :=
  Kp B W wr ∧ Ft d F W wr ∧ Fb wr bk 37 #[.int .i64 k.a, .int .i64 k.b, .int .i64 k.c] ∧
  ∃ y0 y1 y2 x0 x1 x2 l0 l1 l2 F0 F1 F2, Sy B d room many y0 y1 y2 x0 x1 x2 l0 l1 l2 F0 F1 F2 wr ∧ bk ∉ F0 ∧ bk ∉ F1 ∧ bk ∉ F2 ∧ (∀ q ∈ F0 ++ (F1 ++ F2), q ∈ F ∨ W.heap.size ≤ q) ∧
  ((g = 3 ∧ s = .int .i64 0 ∧ Hid (y0 = m ∧ y1 = m ∧ y2 = m)) ∨ (g = 2 ∧ s = .int .i64 1 ∧ Hid (y0 = k :: m ∧ y1 = m ∧ y2 = m)) ∨ (g = 1 ∧ s = .int .i64 2 ∧ Hid (y0 = k :: m ∧ y1 = k :: m ∧ y2 = m)) ∨ (g = 0 ∧ s = .int .i64 3 ∧ Hid (y0 = k :: m ∧ y1 = k :: m ∧ y2 = k :: m)))
set_option maxHeartbeats 16000000 in
theorem saddF_sx {B d : Nat} {room : Int} {m : List Kt} {F : List Nat} {W : World} (h : Sz B d room (m.length : Int) m F W) (hml : m.length ≤ 200) (k : Kt) :
    Calls Try.prog 11 #[.pointer (some ⟨d, 0, none⟩), .agg #[.int .i64 k.a, .int .i64 k.b, .int .i64 k.c]] W (SaddF B d room W F (addR room m k)) := by
  obtain ⟨W2, hW2⟩ : ∃ W2, W2 = W.alloc (.cells #[.int .i64 k.a, .int .i64 k.b, .int .i64 k.c] 37) := ⟨_, rfl⟩
  have hB1 : Below W.heap.size W W2 := by rw [hW2]; exact (Below.refl _ _).alloc (Nat.le_refl _) _
  have hk : Fb W2 W.heap.size 37 #[.int .i64 k.a, .int .i64 k.b, .int .i64 k.c] := by rw [hW2]; exact Fb.new _ _ _
  have hBW : B ≤ W.heap.size ∧ d < W.heap.size := by
    obtain ⟨_, _, _, _, _, _, _, _, _, q, _⟩ := h
    exact ⟨Nat.le_of_lt (Nat.lt_of_le_of_lt q.hd q.fb.lt), q.fb.lt⟩
  have h2 := h.below hB1
  have cH := shas_sx h2.sx (by omega) k
  have k0 : W2.cell? ⟨W.heap.size, 0, none⟩ = some (.int .i64 k.a) := hk.cell 0
  have k1 : W2.cell? ⟨W.heap.size, 1, none⟩ = some (.int .i64 k.b) := hk.cell 1
  have k2 : W2.cell? ⟨W.heap.size, 2, none⟩ = some (.int .i64 k.c) := hk.cell 2
  obtain ⟨M, hM⟩ : ∃ M : Int, M = (if (if k.b < k.a then k.b else k.a) > k.c then k.c else (if k.b < k.a then k.b else k.a)) := ⟨_, rfl⟩
  have hmin : ∀ (ts : Array TypeId) (ty : TypeId) w, (Builtin.min_ ts ty #[.int .i64 k.a, .int .i64 k.b, .int .i64 k.c]).run Try.prog w = .ok (.int .i64 M) w := fun ts ty w => by
    rw [hM]
    simp [Builtin.min_, Builtin.min2]
  have HE := Lib.hid (fun (r : Int) (w : World) (hb : Below W.heap.size W w) (hr : addR room m k = (m, r)) => (show SaddF B d room W F (addR room m k) (.returned (.int .i64 r)) w from by rw [hr]; exact ⟨rfl, F, h.below hb, Kp.of hb hBW.1, Ft.of hb, fun q hq => .inl hq⟩))
  have HB1 := Lib.hid hB1
  have HML := Lib.hid hml
  have HBW := Lib.hid hBW
  have H2 := Lib.hid h2
  have HK := Lib.hid hk
  by_cases hneg : k.a < 0 ∨ k.b < 0 ∨ k.c < 0
  · have hMn : M < 0 := by rw [hM]; split <;> split at * <;> omega
    have HR := Lib.hid (show addR room m k = (m, 2) from by unfold addR; rw [if_pos hneg])
    clear hM hneg h hB1 hk h2 cH hml hBW
    subst hW2
    go_enter Try.func11, Try.ntmps11
    go_wp2
    go_ret
    exact HE.out _ _ HB1.out HR.out
  · have hMn : ¬ M < 0 := by rw [hM]; split <;> split at * <;> omega
    have HNN := Lib.hid hneg
    by_cases hkm : k ∈ m
    · have HR := Lib.hid (show addR room m k = (m, 5) from by unfold addR; rw [if_neg hneg, if_pos hkm])
      rw [decide_eq_true hkm] at cH
      clear hM hneg h hB1 hk h2 hml hBW hkm
      subst hW2
      go_enter Try.func11, Try.ntmps11
      go_wp2_with (go_at_call 15; (with_reducible refine cH.mono ?_); rintro e w1 ⟨rfl, hb1⟩)
      go_ret
      exact HE.out _ _ (HB1.out.trans (hb1.mono HB1.out.size)) HR.out
    · rw [decide_eq_false hkm] at cH
      have HKM := Lib.hid hkm
      have hz : ∀ w1 : World, Below W2.heap.size W2 w1 → w1.cell? ⟨d, 0, none⟩ = some (.int .i64 room) ∧ w1.cell? ⟨d, 1, none⟩ = some (.int .i64 m.length) := fun w1 hb => by
        obtain ⟨_, _, _, _, _, _, _, _, _, q, _⟩ := H2.out.below hb
        exact ⟨q.fb.cell 0, q.fb.cell 1⟩
      have HZ := Lib.hid hz
      by_cases hfull : room ≤ (m.length : Int)
      · have HR := Lib.hid (show addR room m k = (m, 6) from by unfold addR; rw [if_neg hneg, if_neg hkm, if_pos hfull])
        have d1 : decide (room ≤ (m.length : Int)) = true := decide_eq_true hfull
        clear hM hneg h hB1 hk h2 hml hBW hkm hz
        subst hW2
        go_enter Try.func11, Try.ntmps11
        go_wp2_with (go_at_call 15; (with_reducible refine cH.mono ?_); rintro e w1 ⟨rfl, hb1⟩; obtain ⟨z0, z1⟩ := HZ.out _ hb1)
        go_quiet (fail)
        go_wp2
        go_ret
        exact HE.out _ _ (below_drewP (HB1.out.trans (hb1.mono HB1.out.size)) _) HR.out
      · have HR := Lib.hid (show addR room m k = (k :: m, 0) from by unfold addR; rw [if_neg hneg, if_neg hkm, if_neg hfull])
        have d1 : decide (room ≤ (m.length : Int)) = false := decide_eq_false hfull
        have hst : ∀ w1 : World, Below W2.heap.size W2 w1 → SyRF F B W d W.heap.size room m.length m k 3 (.int .i64 0) w1 := fun w1 hb => by
          obtain ⟨y0, y1, y2, t0, t1, t2, G0, G1, G2, p, hFe⟩ := h
          have hbb := HB1.out.trans (hb.mono HB1.out.size)
          exact ⟨Kp.of hbb HBW.out.1, Ft.of hbb, HK.out.below hb, m, m, m, y0, y1, y2, t0, t1, t2, G0, G1, G2, p.below hbb, (fun hm => by have := (p.a0.ge _ hm).2; omega), (fun hm => by have := (p.a1.ge _ hm).2; omega), (fun hm => by have := (p.a2.ge _ hm).2; omega), (fun q hq => .inl (by rw [hFe]; exact hq)), .inl ⟨rfl, rfl, Lib.hid ⟨rfl, rfl, rfl⟩⟩⟩
        have HST := Lib.hid hst
        have HDW := Lib.hid hBW.2
        clear hM hneg h hB1 hk h2 hml hBW hkm hz hst
        subst hW2
        go_enter Try.func11, Try.ntmps11
        go_wp2_with (go_at_call 15; (with_reducible refine cH.mono ?_); rintro e w1 ⟨rfl, hb1⟩; obtain ⟨z0, z1⟩ := HZ.out _ hb1)
        go_quiet (fail)
        go_wp2
        have HS := Lib.hid (HST.out _ (below_drewP hb1 nq))
        clear hb1 cH k0 k1 k2 z0 z1 HZ HST HE hmin
        go_loopg [29] 3 (fun g s wr => SyRF F B W d W.heap.size room m.length m k g s wr)
        case atStart => exact HS.out
        case round =>
          clear HS
          obtain ⟨hKP, hFt, hKB, y0, y1, y2, x0, x1, x2, l0, l1, l2, F0, F1, F2, hY, nb0, nb1, nb2, hFF, hw⟩ := hrel
          have k0 : wr.cell? ⟨W.heap.size, 0, none⟩ = some (.int .i64 k.a) := hKB.cell 0
          have k1 : wr.cell? ⟨W.heap.size, 1, none⟩ = some (.int .i64 k.b) := hKB.cell 1
          have k2 : wr.cell? ⟨W.heap.size, 2, none⟩ = some (.int .i64 k.c) := hKB.cell 2
          have HKP := Lib.hid hKP
          have HFT := Lib.hid (And.intro hFt hFF)
          have HKB := Lib.hid hKB
          have HY := Lib.hid hY
          have HNB := Lib.hid (And.intro nb0 (And.intro nb1 nb2))
          have HBL := Lib.hid hKB.lt
          clear hKP hKB hY nb0 nb1 nb2 hFt hFF
          rcases hw with ⟨hg, rfl, HZ⟩ | ⟨hg, rfl, HZ⟩ | ⟨hg, rfl, HZ⟩ | ⟨hg, rfl, HZ⟩
          · subst hg
            have hmi : k ∉ y0 := by rw [HZ.out.1]; exact HKM.out
            have hli : l0.length ≤ 200 := by rw [HY.out.p0.length_eq, HZ.out.1]; exact HML.out
            have hD := HY.out.below (Below.drew (Below.refl _ _))
            have cL := sladd_lx (W := wr.drew) (d := d) (o := 2) hD.fb rfl rfl hD.a0 hli (by have := HY.out.fb.lt; have := HY.out.hd; show B ≤ wr.heap.size; omega) k (fun hm => hmi (HY.out.p0.mem_iff.1 hm))
            have HD := Lib.hid hD
            clear hD hmi hli
            go_wp2
            go_region_held3 (fun w => w.cell? ⟨W.heap.size, 0, none⟩ = some (.int .i64 k.a) ∧ w.cell? ⟨W.heap.size, 1, none⟩ = some (.int .i64 k.b) ∧ w.cell? ⟨W.heap.size, 2, none⟩ = some (.int .i64 k.c))
              (first | exact ⟨k0, k1, k2⟩ | exact ⟨Fb.cell HK6.out 0, Fb.cell HK6.out 1, Fb.cell HK6.out 2⟩)
              (first
                | (go_at_call 24; (with_reducible refine cL.mono ?_); rintro e w5 ⟨rfl, x', l', F', hP⟩; have HP := Lib.hid hP; have HK6 : Hid (Fb w5 W.heap.size 37 #[.int .i64 k.a, .int .i64 k.b, .int .i64 k.c]) := Lib.hid ((hP.block _ HBL.out (Nat.ne_of_lt (Nat.lt_of_lt_of_le HDW.out (Nat.le_refl _))).symm HNB.out.1).trans HKB.out); clear hP)
                | fail)
            all_goals
              go_wp2
              go_roundg 2
              case measure => exact Nat.lt_succ_self _
              case rel =>
                have HNX : Hid (W.heap.size ∉ F') := Lib.hid (fun hm => by
                  rcases HP.out.far _ hm with y | y
                  · exact HNB.out.1 y
                  · have h1 := HBL.out
                    have h2 : wr.heap.size ≤ W.heap.size := y
                    omega)
                exact ⟨HKP.out.trans ((Kp.of (Below.drew (Below.refl _ _)) (by have := HY.out.fb.lt; have := HY.out.hd; omega)).trans (HP.out.kp HD.out.a0 HD.out.fb HD.out.hd)), (HFT.out.1.trans (G := F0) (fun q hq hd hf => HP.out.block q hq hd hf) HKP.out.size (fun q hq => HFT.out.2 q (List.mem_append_left _ hq))), HK6.out, _, _, _, _, _, _, _, _, _, _, _, _, HD.out.add0 HP.out, HNX.out, HNB.out.2.1, HNB.out.2.2, (fun q hq => by
                  rcases List.mem_append.1 hq with hq | hq
                  · exact (HP.out.far q hq).elim (fun h => HFT.out.2 q (List.mem_append_left _ h)) (fun h => .inr (Nat.le_trans HKP.out.size h))
                  · rcases List.mem_append.1 hq with hq | hq
                    · exact HFT.out.2 q (List.mem_append_right _ (List.mem_append_left _ hq))
                    · exact HFT.out.2 q (List.mem_append_right _ (List.mem_append_right _ hq))), .inr (.inl ⟨rfl, rfl, Lib.hid ⟨by rw [HZ.out.1], HZ.out.2.1, HZ.out.2.2⟩⟩)⟩
          · subst hg
            have hmi : k ∉ y1 := by rw [HZ.out.2.1]; exact HKM.out
            have hli : l1.length ≤ 200 := by rw [HY.out.p1.length_eq, HZ.out.2.1]; exact HML.out
            have hD := HY.out.below (Below.drew (Below.refl _ _))
            have cL := sladd_lx (W := wr.drew) (d := d) (o := 4) hD.fb rfl rfl hD.a1 hli (by have := HY.out.fb.lt; have := HY.out.hd; show B ≤ wr.heap.size; omega) k (fun hm => hmi (HY.out.p1.mem_iff.1 hm))
            have HD := Lib.hid hD
            clear hD hmi hli
            go_wp2
            go_region_held3 (fun w => w.cell? ⟨W.heap.size, 0, none⟩ = some (.int .i64 k.a) ∧ w.cell? ⟨W.heap.size, 1, none⟩ = some (.int .i64 k.b) ∧ w.cell? ⟨W.heap.size, 2, none⟩ = some (.int .i64 k.c))
              (first | exact ⟨k0, k1, k2⟩ | exact ⟨Fb.cell HK6.out 0, Fb.cell HK6.out 1, Fb.cell HK6.out 2⟩)
              (first
                | (go_at_call 24; (with_reducible refine cL.mono ?_); rintro e w5 ⟨rfl, x', l', F', hP⟩; have HP := Lib.hid hP; have HK6 : Hid (Fb w5 W.heap.size 37 #[.int .i64 k.a, .int .i64 k.b, .int .i64 k.c]) := Lib.hid ((hP.block _ HBL.out (Nat.ne_of_lt (Nat.lt_of_lt_of_le HDW.out (Nat.le_refl _))).symm HNB.out.2.1).trans HKB.out); clear hP)
                | fail)
            all_goals
              go_wp2
              go_roundg 1
              case measure => exact Nat.lt_succ_self _
              case rel =>
                have HNX : Hid (W.heap.size ∉ F') := Lib.hid (fun hm => by
                  rcases HP.out.far _ hm with y | y
                  · exact HNB.out.2.1 y
                  · have h1 := HBL.out
                    have h2 : wr.heap.size ≤ W.heap.size := y
                    omega)
                exact ⟨HKP.out.trans ((Kp.of (Below.drew (Below.refl _ _)) (by have := HY.out.fb.lt; have := HY.out.hd; omega)).trans (HP.out.kp HD.out.a1 HD.out.fb HD.out.hd)), (HFT.out.1.trans (G := F1) (fun q hq hd hf => HP.out.block q hq hd hf) HKP.out.size (fun q hq => HFT.out.2 q (List.mem_append_right _ (List.mem_append_left _ hq)))), HK6.out, _, _, _, _, _, _, _, _, _, _, _, _, HD.out.add1 HP.out, HNB.out.1, HNX.out, HNB.out.2.2, (fun q hq => by
                  rcases List.mem_append.1 hq with hq | hq
                  · exact HFT.out.2 q (List.mem_append_left _ hq)
                  · rcases List.mem_append.1 hq with hq | hq
                    · exact (HP.out.far q hq).elim (fun h => HFT.out.2 q (List.mem_append_right _ (List.mem_append_left _ h))) (fun h => .inr (Nat.le_trans HKP.out.size h))
                    · exact HFT.out.2 q (List.mem_append_right _ (List.mem_append_right _ hq))), .inr (.inr (.inl ⟨rfl, rfl, Lib.hid ⟨HZ.out.1, by rw [HZ.out.2.1], HZ.out.2.2⟩⟩))⟩
          · subst hg
            have hmi : k ∉ y2 := by rw [HZ.out.2.2]; exact HKM.out
            have hli : l2.length ≤ 200 := by rw [HY.out.p2.length_eq, HZ.out.2.2]; exact HML.out
            have hD := HY.out.below (Below.drew (Below.refl _ _))
            have cL := sladd_lx (W := wr.drew) (d := d) (o := 6) hD.fb rfl rfl hD.a2 hli (by have := HY.out.fb.lt; have := HY.out.hd; show B ≤ wr.heap.size; omega) k (fun hm => hmi (HY.out.p2.mem_iff.1 hm))
            have HD := Lib.hid hD
            clear hD hmi hli
            go_wp2
            go_region_held3 (fun w => w.cell? ⟨W.heap.size, 0, none⟩ = some (.int .i64 k.a) ∧ w.cell? ⟨W.heap.size, 1, none⟩ = some (.int .i64 k.b) ∧ w.cell? ⟨W.heap.size, 2, none⟩ = some (.int .i64 k.c))
              (first | exact ⟨k0, k1, k2⟩ | exact ⟨Fb.cell HK6.out 0, Fb.cell HK6.out 1, Fb.cell HK6.out 2⟩)
              (first
                | (go_at_call 24; (with_reducible refine cL.mono ?_); rintro e w5 ⟨rfl, x', l', F', hP⟩; have HP := Lib.hid hP; have HK6 : Hid (Fb w5 W.heap.size 37 #[.int .i64 k.a, .int .i64 k.b, .int .i64 k.c]) := Lib.hid ((hP.block _ HBL.out (Nat.ne_of_lt (Nat.lt_of_lt_of_le HDW.out (Nat.le_refl _))).symm HNB.out.2.2).trans HKB.out); clear hP)
                | fail)
            all_goals
              go_wp2
              go_roundg 0
              case measure => exact Nat.lt_succ_self _
              case rel =>
                have HNX : Hid (W.heap.size ∉ F') := Lib.hid (fun hm => by
                  rcases HP.out.far _ hm with y | y
                  · exact HNB.out.2.2 y
                  · have h1 := HBL.out
                    have h2 : wr.heap.size ≤ W.heap.size := y
                    omega)
                exact ⟨HKP.out.trans ((Kp.of (Below.drew (Below.refl _ _)) (by have := HY.out.fb.lt; have := HY.out.hd; omega)).trans (HP.out.kp HD.out.a2 HD.out.fb HD.out.hd)), (HFT.out.1.trans (G := F2) (fun q hq hd hf => HP.out.block q hq hd hf) HKP.out.size (fun q hq => HFT.out.2 q (List.mem_append_right _ (List.mem_append_right _ hq)))), HK6.out, _, _, _, _, _, _, _, _, _, _, _, _, HD.out.add2 HP.out, HNB.out.1, HNB.out.2.1, HNX.out, (fun q hq => by
                  rcases List.mem_append.1 hq with hq | hq
                  · exact HFT.out.2 q (List.mem_append_left _ hq)
                  · rcases List.mem_append.1 hq with hq | hq
                    · exact HFT.out.2 q (List.mem_append_right _ (List.mem_append_left _ hq))
                    · exact (HP.out.far q hq).elim (fun h => HFT.out.2 q (List.mem_append_right _ (List.mem_append_right _ h))) (fun h => .inr (Nat.le_trans HKP.out.size h))), .inr (.inr (.inr ⟨rfl, rfl, Lib.hid ⟨HZ.out.1, HZ.out.2.1, by rw [HZ.out.2.2]⟩⟩))⟩
          · have c1 : wr.cell? ⟨d, 1, none⟩ = some (.int .i64 m.length) := HY.out.fb.cell 1
            have f1 := HY.out.fb.free 1
            have ld := HY.out.fb.lt
            have hwz : wrap64 ((m.length : Int) + 1) = (m.length : Int) + 1 := IntWalk.wrap64_in _ ⟨by omega, by have := HML.out; omega⟩
            have hwz2 : IntKind.i64.wrap ((m.length : Int) + 1) = (m.length : Int) + 1 := IntWalk.i64_in _ (by have := HML.out; omega)
            have hfin : SaddF B d room W F (addR room m k) (.returned (.int .i64 0)) (wr.setCell ⟨d, 1, none⟩ (.int .i64 ((m.length : Int) + 1))) := by
              rw [HR.out]
              have hq := HY.out.inc ((m.length : Int) + 1)
              rw [HZ.out.1, HZ.out.2.1, HZ.out.2.2] at hq
              exact ⟨rfl, _, ⟨_, _, _, _, _, _, _, _, _, by simpa using hq, rfl⟩, HKP.out.trans (HY.out.kpinc _), HFT.out.1.set _, HFT.out.2⟩
            have HF := Lib.hid hfin
            clear hfin
            subst hg
            go_wp2
            go_ret
            exact HF.out
def SyQF (F : List Nat) (B : Nat) (W : World) (d bk : Nat) (room many : Int) (m : List Kt) (k : Kt) (g : Nat) (s : Value) (wr : World) : Prop :=
  Kp B W wr ∧ Ft d F W wr ∧ Fb wr bk 37 #[.int .i64 k.a, .int .i64 k.b, .int .i64 k.c] ∧
  ∃ y0 y1 y2 x0 x1 x2 l0 l1 l2 F0 F1 F2, Sy B d room many y0 y1 y2 x0 x1 x2 l0 l1 l2 F0 F1 F2 wr ∧ bk ∉ F0 ∧ bk ∉ F1 ∧ bk ∉ F2 ∧ (∀ q ∈ F0 ++ (F1 ++ F2), q ∈ F ∨ W.heap.size ≤ q) ∧
  ((g = 3 ∧ s = .int .i64 0 ∧ Hid (y0 = m ∧ y1 = m ∧ y2 = m)) ∨ (g = 2 ∧ s = .int .i64 1 ∧ Hid (y0 = m.erase k ∧ y1 = m ∧ y2 = m)) ∨ (g = 1 ∧ s = .int .i64 2 ∧ Hid (y0 = m.erase k ∧ y1 = m.erase k ∧ y2 = m)) ∨ (g = 0 ∧ s = .int .i64 3 ∧ Hid (y0 = m.erase k ∧ y1 = m.erase k ∧ y2 = m.erase k)))
set_option maxHeartbeats 16000000 in
theorem sremF_sx {B d : Nat} {room : Int} {m : List Kt} {F : List Nat} {W : World} (h : Sz B d room (m.length : Int) m F W) (hml : m.length ≤ 200) (k : Kt) :
    Calls Try.prog 13 #[.pointer (some ⟨d, 0, none⟩), .agg #[.int .i64 k.a, .int .i64 k.b, .int .i64 k.c]] W (SaddF B d room W F (remR m k)) := by
  obtain ⟨W2, hW2⟩ : ∃ W2, W2 = W.alloc (.cells #[.int .i64 k.a, .int .i64 k.b, .int .i64 k.c] 37) := ⟨_, rfl⟩
  have hB1 : Below W.heap.size W W2 := by rw [hW2]; exact (Below.refl _ _).alloc (Nat.le_refl _) _
  have hk : Fb W2 W.heap.size 37 #[.int .i64 k.a, .int .i64 k.b, .int .i64 k.c] := by rw [hW2]; exact Fb.new _ _ _
  have hBW : B ≤ W.heap.size ∧ d < W.heap.size := by
    obtain ⟨_, _, _, _, _, _, _, _, _, q, _⟩ := h
    exact ⟨Nat.le_of_lt (Nat.lt_of_le_of_lt q.hd q.fb.lt), q.fb.lt⟩
  have h2 := h.below hB1
  have cH := shas_sx h2.sx (by omega) k
  have k0 : W2.cell? ⟨W.heap.size, 0, none⟩ = some (.int .i64 k.a) := hk.cell 0
  have k1 : W2.cell? ⟨W.heap.size, 1, none⟩ = some (.int .i64 k.b) := hk.cell 1
  have k2 : W2.cell? ⟨W.heap.size, 2, none⟩ = some (.int .i64 k.c) := hk.cell 2
  have HE := Lib.hid (fun (r : Int) (w : World) (hb : Below W.heap.size W w) (hr : remR m k = (m, r)) => (show SaddF B d room W F (remR m k) (.returned (.int .i64 r)) w from by rw [hr]; exact ⟨rfl, F, h.below hb, Kp.of hb hBW.1, Ft.of hb, fun q hq => .inl hq⟩))
  have HB1 := Lib.hid hB1
  have HML := Lib.hid hml
  have HBW := Lib.hid hBW
  have H2 := Lib.hid h2
  have HK := Lib.hid hk
  by_cases hkm : k ∈ m
  · rw [decide_eq_true hkm] at cH
    have HKM := Lib.hid hkm
    have HR := Lib.hid (show remR m k = (m.erase k, 0) from by unfold remR; rw [if_pos hkm])
    have hst : ∀ w1 : World, Below W2.heap.size W2 w1 → SyQF F B W d W.heap.size room m.length m k 3 (.int .i64 0) w1 := fun w1 hb => by
      obtain ⟨y0, y1, y2, t0, t1, t2, G0, G1, G2, p, hFe⟩ := h
      have hbb := HB1.out.trans (hb.mono HB1.out.size)
      exact ⟨Kp.of hbb HBW.out.1, Ft.of hbb, HK.out.below hb, m, m, m, y0, y1, y2, t0, t1, t2, G0, G1, G2, p.below hbb, (fun hm => by have := (p.a0.ge _ hm).2; omega), (fun hm => by have := (p.a1.ge _ hm).2; omega), (fun hm => by have := (p.a2.ge _ hm).2; omega), (fun q hq => .inl (by rw [hFe]; exact hq)), .inl ⟨rfl, rfl, Lib.hid ⟨rfl, rfl, rfl⟩⟩⟩
    have HST := Lib.hid hst
    have HDW := Lib.hid hBW.2
    clear h hB1 hk h2 hml hBW hkm hst
    subst hW2
    go_enter Try.func13, Try.ntmps13
    go_wp2_with (go_at_call 15; (with_reducible refine cH.mono ?_); rintro e w1 ⟨rfl, hb1⟩; have HS := Lib.hid (HST.out _ hb1); clear hb1)
    clear cH k0 k1 k2 HST HE
    go_loopg [10] 3 (fun g s wr => SyQF F B W d W.heap.size room m.length m k g s wr)
    case atStart => exact HS.out
    case round =>
      clear HS
      obtain ⟨hKP, hFt, hKB, y0, y1, y2, x0, x1, x2, l0, l1, l2, F0, F1, F2, hY, nb0, nb1, nb2, hFF, hw⟩ := hrel
      have k0 : wr.cell? ⟨W.heap.size, 0, none⟩ = some (.int .i64 k.a) := hKB.cell 0
      have k1 : wr.cell? ⟨W.heap.size, 1, none⟩ = some (.int .i64 k.b) := hKB.cell 1
      have k2 : wr.cell? ⟨W.heap.size, 2, none⟩ = some (.int .i64 k.c) := hKB.cell 2
      have HKP := Lib.hid hKP
      have HFT := Lib.hid (And.intro hFt hFF)
      have HKB := Lib.hid hKB
      have HY := Lib.hid hY
      have HNB := Lib.hid (And.intro nb0 (And.intro nb1 nb2))
      have HBL := Lib.hid hKB.lt
      clear hKP hKB hY nb0 nb1 nb2 hFt hFF
      rcases hw with ⟨hg, rfl, HZ⟩ | ⟨hg, rfl, HZ⟩ | ⟨hg, rfl, HZ⟩ | ⟨hg, rfl, HZ⟩
      · subst hg
        have hmi : k ∈ y0 := by rw [HZ.out.1]; exact HKM.out
        have hli : l0.length ≤ 1000 := by rw [HY.out.p0.length_eq, HZ.out.1]; have := HML.out; omega
        have hD := HY.out.below (Below.drew (Below.refl _ _))
        have cL := slrem_lx (W := wr.drew) (d := d) (o := 2) hD.fb rfl hD.a0 hli k (HY.out.p0.mem_iff.2 hmi)
        have HD := Lib.hid hD
        have HMI := Lib.hid hmi
        clear hD hmi hli
        go_wp2
        go_region_held3 (fun w => w.cell? ⟨W.heap.size, 0, none⟩ = some (.int .i64 k.a) ∧ w.cell? ⟨W.heap.size, 1, none⟩ = some (.int .i64 k.b) ∧ w.cell? ⟨W.heap.size, 2, none⟩ = some (.int .i64 k.c))
          (first | exact ⟨k0, k1, k2⟩ | exact ⟨Fb.cell HK6.out 0, Fb.cell HK6.out 1, Fb.cell HK6.out 2⟩)
          (first
            | (go_at_call 25; (with_reducible refine cL.mono ?_); rintro e w5 ⟨rfl, x', l', F', hP⟩; have HP := Lib.hid hP; have HK6 : Hid (Fb w5 W.heap.size 37 #[.int .i64 k.a, .int .i64 k.b, .int .i64 k.c]) := Lib.hid ((hP.block _ HBL.out (Nat.ne_of_lt (Nat.lt_of_lt_of_le HDW.out (Nat.le_refl _))).symm HNB.out.1).trans HKB.out); clear hP)
            | fail)
        all_goals
          go_wp2
          go_roundg 2
          case measure => exact Nat.lt_succ_self _
          case rel =>
            have HNX : Hid (W.heap.size ∉ F') := Lib.hid (fun hm => HNB.out.1 (HP.out.far _ hm))
            exact ⟨HKP.out.trans ((Kp.of (Below.drew (Below.refl _ _)) (by have := HY.out.fb.lt; have := HY.out.hd; omega)).trans (HP.out.kp HD.out.a0 HD.out.fb HD.out.hd)), (HFT.out.1.trans (G := F0) (fun q hq hd hf => HP.out.block q hq hd hf) HKP.out.size (fun q hq => HFT.out.2 q (List.mem_append_left _ hq))), HK6.out, _, _, _, _, _, _, _, _, _, _, _, _, HD.out.rem0 HMI.out HP.out, HNX.out, HNB.out.2.1, HNB.out.2.2, (fun q hq => by
                  rcases List.mem_append.1 hq with hq | hq
                  · exact HFT.out.2 q (List.mem_append_left _ (HP.out.far q hq))
                  · rcases List.mem_append.1 hq with hq | hq
                    · exact HFT.out.2 q (List.mem_append_right _ (List.mem_append_left _ hq))
                    · exact HFT.out.2 q (List.mem_append_right _ (List.mem_append_right _ hq))), .inr (.inl ⟨rfl, rfl, Lib.hid ⟨by rw [HZ.out.1], HZ.out.2.1, HZ.out.2.2⟩⟩)⟩
      · subst hg
        have hmi : k ∈ y1 := by rw [HZ.out.2.1]; exact HKM.out
        have hli : l1.length ≤ 1000 := by rw [HY.out.p1.length_eq, HZ.out.2.1]; have := HML.out; omega
        have hD := HY.out.below (Below.drew (Below.refl _ _))
        have cL := slrem_lx (W := wr.drew) (d := d) (o := 4) hD.fb rfl hD.a1 hli k (HY.out.p1.mem_iff.2 hmi)
        have HD := Lib.hid hD
        have HMI := Lib.hid hmi
        clear hD hmi hli
        go_wp2
        go_region_held3 (fun w => w.cell? ⟨W.heap.size, 0, none⟩ = some (.int .i64 k.a) ∧ w.cell? ⟨W.heap.size, 1, none⟩ = some (.int .i64 k.b) ∧ w.cell? ⟨W.heap.size, 2, none⟩ = some (.int .i64 k.c))
          (first | exact ⟨k0, k1, k2⟩ | exact ⟨Fb.cell HK6.out 0, Fb.cell HK6.out 1, Fb.cell HK6.out 2⟩)
          (first
            | (go_at_call 25; (with_reducible refine cL.mono ?_); rintro e w5 ⟨rfl, x', l', F', hP⟩; have HP := Lib.hid hP; have HK6 : Hid (Fb w5 W.heap.size 37 #[.int .i64 k.a, .int .i64 k.b, .int .i64 k.c]) := Lib.hid ((hP.block _ HBL.out (Nat.ne_of_lt (Nat.lt_of_lt_of_le HDW.out (Nat.le_refl _))).symm HNB.out.2.1).trans HKB.out); clear hP)
            | fail)
        all_goals
          go_wp2
          go_roundg 1
          case measure => exact Nat.lt_succ_self _
          case rel =>
            have HNX : Hid (W.heap.size ∉ F') := Lib.hid (fun hm => HNB.out.2.1 (HP.out.far _ hm))
            exact ⟨HKP.out.trans ((Kp.of (Below.drew (Below.refl _ _)) (by have := HY.out.fb.lt; have := HY.out.hd; omega)).trans (HP.out.kp HD.out.a1 HD.out.fb HD.out.hd)), (HFT.out.1.trans (G := F1) (fun q hq hd hf => HP.out.block q hq hd hf) HKP.out.size (fun q hq => HFT.out.2 q (List.mem_append_right _ (List.mem_append_left _ hq)))), HK6.out, _, _, _, _, _, _, _, _, _, _, _, _, HD.out.rem1 HMI.out HP.out, HNB.out.1, HNX.out, HNB.out.2.2, (fun q hq => by
                  rcases List.mem_append.1 hq with hq | hq
                  · exact HFT.out.2 q (List.mem_append_left _ hq)
                  · rcases List.mem_append.1 hq with hq | hq
                    · exact HFT.out.2 q (List.mem_append_right _ (List.mem_append_left _ (HP.out.far q hq)))
                    · exact HFT.out.2 q (List.mem_append_right _ (List.mem_append_right _ hq))), .inr (.inr (.inl ⟨rfl, rfl, Lib.hid ⟨HZ.out.1, by rw [HZ.out.2.1], HZ.out.2.2⟩⟩))⟩
      · subst hg
        have hmi : k ∈ y2 := by rw [HZ.out.2.2]; exact HKM.out
        have hli : l2.length ≤ 1000 := by rw [HY.out.p2.length_eq, HZ.out.2.2]; have := HML.out; omega
        have hD := HY.out.below (Below.drew (Below.refl _ _))
        have cL := slrem_lx (W := wr.drew) (d := d) (o := 6) hD.fb rfl hD.a2 hli k (HY.out.p2.mem_iff.2 hmi)
        have HD := Lib.hid hD
        have HMI := Lib.hid hmi
        clear hD hmi hli
        go_wp2
        go_region_held3 (fun w => w.cell? ⟨W.heap.size, 0, none⟩ = some (.int .i64 k.a) ∧ w.cell? ⟨W.heap.size, 1, none⟩ = some (.int .i64 k.b) ∧ w.cell? ⟨W.heap.size, 2, none⟩ = some (.int .i64 k.c))
          (first | exact ⟨k0, k1, k2⟩ | exact ⟨Fb.cell HK6.out 0, Fb.cell HK6.out 1, Fb.cell HK6.out 2⟩)
          (first
            | (go_at_call 25; (with_reducible refine cL.mono ?_); rintro e w5 ⟨rfl, x', l', F', hP⟩; have HP := Lib.hid hP; have HK6 : Hid (Fb w5 W.heap.size 37 #[.int .i64 k.a, .int .i64 k.b, .int .i64 k.c]) := Lib.hid ((hP.block _ HBL.out (Nat.ne_of_lt (Nat.lt_of_lt_of_le HDW.out (Nat.le_refl _))).symm HNB.out.2.2).trans HKB.out); clear hP)
            | fail)
        all_goals
          go_wp2
          go_roundg 0
          case measure => exact Nat.lt_succ_self _
          case rel =>
            have HNX : Hid (W.heap.size ∉ F') := Lib.hid (fun hm => HNB.out.2.2 (HP.out.far _ hm))
            exact ⟨HKP.out.trans ((Kp.of (Below.drew (Below.refl _ _)) (by have := HY.out.fb.lt; have := HY.out.hd; omega)).trans (HP.out.kp HD.out.a2 HD.out.fb HD.out.hd)), (HFT.out.1.trans (G := F2) (fun q hq hd hf => HP.out.block q hq hd hf) HKP.out.size (fun q hq => HFT.out.2 q (List.mem_append_right _ (List.mem_append_right _ hq)))), HK6.out, _, _, _, _, _, _, _, _, _, _, _, _, HD.out.rem2 HMI.out HP.out, HNB.out.1, HNB.out.2.1, HNX.out, (fun q hq => by
                  rcases List.mem_append.1 hq with hq | hq
                  · exact HFT.out.2 q (List.mem_append_left _ hq)
                  · rcases List.mem_append.1 hq with hq | hq
                    · exact HFT.out.2 q (List.mem_append_right _ (List.mem_append_left _ hq))
                    · exact HFT.out.2 q (List.mem_append_right _ (List.mem_append_right _ (HP.out.far q hq)))), .inr (.inr (.inr ⟨rfl, rfl, Lib.hid ⟨HZ.out.1, HZ.out.2.1, by rw [HZ.out.2.2]⟩⟩))⟩
      · have c1 : wr.cell? ⟨d, 1, none⟩ = some (.int .i64 m.length) := HY.out.fb.cell 1
        have f1 := HY.out.fb.free 1
        have ld := HY.out.fb.lt
        have hml := List.length_pos_of_mem HKM.out
        have hwz : wrap64 ((m.length : Int) - 1) = (m.length : Int) - 1 := IntWalk.wrap64_in _ ⟨by omega, by have := HML.out; omega⟩
        have hwz2 : IntKind.i64.wrap ((m.length : Int) - 1) = (m.length : Int) - 1 := IntWalk.i64_in _ (by have := HML.out; omega)
        have hfin : SaddF B d room W F (remR m k) (.returned (.int .i64 0)) (wr.setCell ⟨d, 1, none⟩ (.int .i64 ((m.length : Int) - 1))) := by
          rw [HR.out]
          have hq := HY.out.inc ((m.length : Int) - 1)
          rw [HZ.out.1, HZ.out.2.1, HZ.out.2.2] at hq
          have hle : ((m.erase k).length : Int) = (m.length : Int) - 1 := by rw [List.length_erase_of_mem HKM.out]; omega
          exact ⟨rfl, _, ⟨_, _, _, _, _, _, _, _, _, by rw [hle]; exact hq, rfl⟩, HKP.out.trans (HY.out.kpinc _), HFT.out.1.set _, HFT.out.2⟩
        have HF := Lib.hid hfin
        clear hfin hml
        subst hg
        go_wp2
        go_ret
        exact HF.out
  · rw [decide_eq_false hkm] at cH
    have HR := Lib.hid (show remR m k = (m, 4) from by unfold remR; rw [if_neg hkm])
    clear h hB1 hk h2 hml hBW hkm
    subst hW2
    go_enter Try.func13, Try.ntmps13
    go_wp2_with (go_at_call 15; (with_reducible refine cH.mono ?_); rintro e w1 ⟨rfl, hb1⟩)
    go_ret
    exact HE.out _ _ (HB1.out.trans (hb1.mono HB1.out.size)) HR.out
end Go.Proofs.Ytoiigplflmejmaa
namespace Go.Proofs.Ytoiigplflmejmaa
open Go.RowKit
set_option linter.unusedVariables false
set_option linter.unusedSimpArgs false
set_option maxRecDepth 100000

/-- A list's value, its blocks new. -/
def Lv (N : Nat) (W : World) (n : Int) (e : Value) (l : List Kt) : Prop :=
  ∃ x, e = .agg #[.int .i64 n, x] ∧ ((l = [] ∧ x = .slice none 0 0) ∨ ∃ gb cb v g, x = .slice (some ⟨gb, 0, none⟩) 1 cb ∧ v.ownBlock = some g ∧ Fk W gb 70 v ∧ KtR N W v l ∧ 0 < l.length ∧ N ≤ gb ∧ 1 ≤ cb ∧ gb ≠ g)
theorem row_lo {B N : Nat} {W : World} {v : Value} {l : List Kt} (h : KtR N W v l) (hB : B ≤ N) : KtR B W v l := by
  refine ⟨h.1, ?_⟩
  rcases id h.2 with q | ⟨g, cap, cur, hv, hN, q⟩
  · exact .inl q
  · exact .inr ⟨g, cap, cur, hv, Nat.le_trans hB hN, q⟩
theorem row_on {N : Nat} {W W' : World} {v : Value} {l : List Kt} (h : KtR N W v l) (hk : ∀ q, N ≤ q → q < W.heap.size → (∃ cs, Fb W q 37 cs) → W'.heap[q]? = W.heap[q]?) : KtR N W' v l := by
  refine ⟨h.1, ?_⟩
  rcases id h.2 with q | ⟨g, cap, cur, hv, hN, hg, q⟩
  · exact .inl q
  · exact .inr ⟨g, cap, cur, hv, hN, (hk g hN (Array.getElem?_eq_some_iff.1 hg).1 ⟨cur, hg⟩).trans hg, q⟩
theorem Lv.lo {B N : Nat} {W : World} {n : Int} {e : Value} {l : List Kt} (h : Lv N W n e l) (hB : B ≤ N) : Lv B W n e l := by
  obtain ⟨x, he, h⟩ := h
  refine ⟨x, he, ?_⟩
  rcases h with h | ⟨gb, cb, v, g, hx, hvg, hb, hr, hp, hN, hc, hne⟩
  · exact .inl h
  · exact .inr ⟨gb, cb, v, g, hx, hvg, hb, row_lo hr hB, hp, Nat.le_trans hB hN, hc, hne⟩
theorem Lv.on {N : Nat} {W W' : World} {n : Int} {e : Value} {l : List Kt} (h : Lv N W n e l) (hk : ∀ q, N ≤ q → q < W.heap.size → W'.heap[q]? = W.heap[q]?) : Lv N W' n e l := by
  obtain ⟨x, he, h⟩ := h
  refine ⟨x, he, ?_⟩
  rcases h with h | ⟨gb, cb, v, g, hx, hvg, hb, hr, hp, hN, hc, hne⟩
  · exact .inl h
  · exact .inr ⟨gb, cb, v, g, hx, hvg, hb.keep (hk gb hN hb.lt), row_on hr (fun q h1 h2 _ => hk q h1 h2), hp, hN, hc, hne⟩
theorem kt_slice {B : Nat} {W : World} {v : Value} {l : List Kt} (h : KtR B W v l) (h0 : 0 < l.length) : ∃ g c, v = .slice (some ⟨g, 0, none⟩) l.length c := by
  obtain ⟨x, hx⟩ : ∃ x, l[0]? = some x := ⟨_, List.getElem?_eq_getElem h0⟩
  obtain ⟨g, c, hv, _⟩ := h.at hx
  exact ⟨g, c, hv⟩
theorem row_one {N : Nat} {W : World} {t : TypeId} {v x : Value} (h : W.ownsRow N t 1 v (0 + 1) ([] ++ [x])) : ∃ g c, v = .slice (some ⟨g, 0, none⟩) 1 c ∧ N ≤ g ∧ 1 ≤ c ∧ Fk W g t x := by
  rcases id h.2 with ⟨_, h0⟩ | ⟨g, cap, cur, hv, hN, hg, hc, h4, h5, h6⟩
  · omega
  · refine ⟨g, cap, hv, hN, hc, cur.toList.drop 1, ?_⟩
    have e : (x :: cur.toList.drop 1).toArray = cur := by
      have e1 : x :: cur.toList.drop 1 = cur.toList := by
        have := List.take_append_drop 1 cur.toList
        rw [show (0 + 1) * 1 = 1 from rfl] at h6
        rw [h6] at this
        simpa using this
      rw [e1]
    rw [e]
    exact hg
theorem keysZ : (Try.prog.info? 70).map (fun i => (i.zero, i.size, i.bytes)) = some (some (.slice none 0 0), 1, 24) := by kernel_rfl
theorem step_app_kss {ops : Array Oper} {o : Oper} {a : Act} {w : World} {K : Act → World → Prop} {Q : Exit → Act → World → Prop} {E : Prop} (hgd : o.guard = none) (s x : Operand) (ho : o.op = .call { callee := .builtin .append, args := #[s, x], argTypes := #[55, 55] })
    {B N n m : Nat} {v u : Value} {l new : List Value} (hs : a.eval s = v) (hx : a.eval x = u) (hv : w.ownsRow B 70 1 v n l) (hu : w.ownsRow N 70 1 u m new) (h1 : ∀ u ∈ new, u.oneCell' = true) (hz : n + m ≤ 100000) (hB : B ≤ w.heap.size)
    (h : ∀ v' w', w'.ownsRow B 70 1 v' (n + m) (l ++ new) → w.grownBy w' v.ownBlock → (∀ k, v'.ownBlock = some k → v.ownBlock = some k ∨ w.heap.size ≤ k) → K (a.put o.dst v') w') : if Region.wanted o (yielded ops a.tmps) = true then Oper.wp Try.prog o a w K Q else E := by
  obtain ⟨iT, hT0, hT1, hT2, hT3⟩ := info_parts keysZ
  have hw : Region.wanted o (yielded ops a.tmps) = true := by simp [Region.wanted, hgd]
  rw [if_pos hw]
  exact wp_app_any s x 55 ho 70 iT (.slice none 0 0) 1 24 Try.underlying55 hT0 hT1 hT2 hT3 rfl (by decide) (by decide) hs hx hv hu h1 hz hB h
set_option maxHeartbeats 8000000 in
theorem scop_nil {W : World} {d o : Nat} {n : Int} {A0 : Option Addr} {c0 : Nat} (h0 : W.cell? ⟨d, o, none⟩ = some (.int .i64 n)) (h1 : W.cell? ⟨d, o + 1, none⟩ = some (.slice A0 0 c0)) (hd : d < W.heap.size) :
    Calls Try.prog 28 #[.pointer (some ⟨d, o, none⟩)] W fun e w' => e = .returned (.agg #[.int .i64 n, .slice none 0 0]) ∧ Below W.heap.size W w' := by
  have hB1 : Below W.heap.size W (W.alloc (.cells #[.int .i64 0, .slice none 0 0] 57)) := (Below.refl _ _).alloc (Nat.le_refl _) _
  have HB2 := Lib.hid (hB1.alloc hB1.size (.cells #[.int .i64 n, .slice none 0 0] 57))
  have HF2 := Lib.hid ((Fb.new W 57 #[.int .i64 0, .slice none 0 0]).alloc (.cells #[.int .i64 n, .slice none 0 0] 57))
  have HF3 := Lib.hid (by have := Fb.new (W.alloc (.cells #[.int .i64 0, .slice none 0 0] 57)) 57 #[.int .i64 n, .slice none 0 0]; rw [World.size_alloc] at this; exact this)
  clear hB1
  go_enter Try.func28, Try.ntmps28
  go_wp2
  go_loopg [16] 0 (fun g s wr => s = .int .i64 0 ∧ Below W.heap.size W wr ∧ Fb wr W.heap.size 57 #[.int .i64 0, .slice none 0 0] ∧ Fb wr (W.heap.size + 1) 57 #[.int .i64 n, .slice none 0 0])
  case atStart => exact ⟨rfl, HB2.out, HF2.out, HF3.out⟩
  case round =>
    obtain ⟨rfl, hb, hf, hf3⟩ := hrel
    have c0 := hf3.cell 0
    have c1 := hf3.cell 1
    have q0 := hf.cell 0
    have q1 := hf.cell 1
    have r0 := hf.free 0
    have r1 := hf.free 1
    have HN := Lib.hid ((hf.set 0 (.int .i64 n)).set 1 (.slice none 0 0))
    have HBN := Lib.hid ((Below.setCell hb (p := ⟨W.heap.size, 0, none⟩) (Nat.le_refl _) (.int .i64 n)).setCell (p := ⟨W.heap.size, 1, none⟩) (Nat.le_refl _) (.slice none 0 0))
    clear hf hf3 hb
    go_wp2
    have z0 := HN.out.cell 0
    have z1 := HN.out.cell 1
    exact bodyPost_ret (v := .agg #[.int .i64 n, .slice none 0 0]) (by simp [results, Try.results28, go_sem, z0, z1]) rfl ⟨rfl, HBN.out⟩
/-- Between two rounds. -/
def CpR (W : World) (n : Int) (l : List Kt) (g : Nat) (s : Value) (wr : World) : Prop :=
  Below W.heap.size W wr ∧ Fb wr W.heap.size 57 #[.int .i64 0, .slice none 0 0] ∧
  ((g = 1 ∧ s = .int .i64 0 ∧ Fb wr (W.heap.size + 1) 57 #[.int .i64 n, .slice none 0 0]) ∨
   (g = 0 ∧ s = .int .i64 1 ∧ ∃ x, Fb wr (W.heap.size + 1) 57 #[.int .i64 n, x] ∧ Hid (Lv (W.heap.size + 2) wr n (.agg #[.int .i64 n, x]) l)))
theorem cp_end {W wr w7 : World} {n : Int} {l : List Kt} {g' c' gb7 cb7 : Nat} (HB : Below W.heap.size W wr) (HF : Fb wr W.heap.size 57 #[.int .i64 0, .slice none 0 0]) (HF3 : Fb wr (W.heap.size + 1) 57 #[.int .i64 n, .slice none 0 0]) (HB7 : Below wr.heap.size wr w7)
    (HR7 : KtR wr.heap.size w7 (.slice (some ⟨g', 0, none⟩) l.length c') l) (HK7 : Fk w7 gb7 70 (.slice (some ⟨g', 0, none⟩) l.length c')) (hN7 : wr.heap.size ≤ gb7) (hc7 : 1 ≤ cb7) (hp : 0 < l.length) :
    CpR W n l 0 (.int .i64 1) (w7.setCell ⟨W.heap.size + 1, 1, none⟩ (.slice (some ⟨gb7, 0, none⟩) 1 cb7)) := by
  have hlt := HF3.lt
  have hs := fun q (h : wr.heap.size ≤ q) => Below.heap_setCell w7 ⟨W.heap.size + 1, 1, none⟩ (.slice (some ⟨gb7, 0, none⟩) 1 cb7) q (by show q ≠ W.heap.size + 1; omega)
  refine ⟨(HB.trans (HB7.mono HB.size)).setCell (p := ⟨W.heap.size + 1, 1, none⟩) (by simp) _, (HF.below HB7).far 1 _ (by omega), .inr ⟨rfl, rfl, _, (HF3.below HB7).set 1 _, Lib.hid ?_⟩⟩
  refine ⟨_, rfl, .inr ⟨gb7, cb7, _, g', rfl, rfl, HK7.keep (hs gb7 hN7), row_on (row_lo HR7 (by omega)) (fun q _ _ hq => Below.heap_setCell _ _ _ _ (fun e => ?_)), hp, by omega, hc7, fun e => ?_⟩⟩
  · obtain ⟨cs, hq⟩ := hq
    exact fb_ty_ne hq (HF3.below HB7) (by decide) e
  · obtain ⟨rs, hK⟩ := HK7
    rcases id HR7.2 with ⟨hv, _⟩ | ⟨g2, cap, cur, hv, _, hg, _⟩
    · cases hv
    · injection hv with hv
      injection hv with hv
      injection hv with hv
      exact fb_ty_ne hK (show Fb w7 g2 37 cur from hg) (by decide) (e.trans hv)
set_option maxHeartbeats 16000000 in
theorem scop_one {B : Nat} {W : World} {d o gb cb : Nat} {n : Int} {v : Value} {l : List Kt} (h : Lm B W d o n gb cb v l) (hp : 0 < l.length) (hl : l.length ≤ 1000) (hd : d < W.heap.size) :
    Calls Try.prog 28 #[.pointer (some ⟨d, o, none⟩)] W fun e w' => ∃ u, e = .returned u ∧ Lv W.heap.size w' n u l ∧ Below W.heap.size W w' := by
  have hB1 : Below W.heap.size W (W.alloc (.cells #[.int .i64 0, .slice none 0 0] 57)) := (Below.refl _ _).alloc (Nat.le_refl _) _
  have HB2 := Lib.hid (hB1.alloc hB1.size (.cells #[.int .i64 n, .slice none 0 0] 57))
  have HF2 := Lib.hid ((Fb.new W 57 #[.int .i64 0, .slice none 0 0]).alloc (.cells #[.int .i64 n, .slice none 0 0] 57))
  have HF3 := Lib.hid (by have := Fb.new (W.alloc (.cells #[.int .i64 0, .slice none 0 0] 57)) 57 #[.int .i64 n, .slice none 0 0]; rw [World.size_alloc] at this; exact this)
  have h0 := h.h0
  have h1 := h.h1
  have HL := Lib.hid h
  clear hB1 h
  go_enter Try.func28, Try.ntmps28
  go_wp2
  go_loopg [16] 1 (fun g s wr => CpR W n l g s wr)
  case atStart => exact ⟨HB2.out, HF2.out, .inl ⟨rfl, rfl, HF3.out⟩⟩
  case round =>
    obtain ⟨hb, hf, hw⟩ := hrel
    rcases hw with ⟨hg, rfl, hf3⟩ | ⟨hg, rfl, x, hf3, HV⟩
    · subst hg
      have hL := HL.out.below hb
      have b0 := hL.hb.cell 0
      have cC := fun w5 (hb5 : Below wr.heap.size wr w5) => kclone_any (row_below hL.hr hb5) hp (by omega)
      have HF3 := Lib.hid hf3
      have HF := Lib.hid hf
      have HB := Lib.hid hb
      clear hL hf hb hf3
      go_wp2_with fail
      have hcur : Below wr.heap.size wr wr := Below.refl _ _
      refine wp_region_noPanic ?_
      refine wp_region_held_drew (S := fun _ => True) (by kernel_rfl) trivial (fun hHeld => ?_)
      replace hcur := Below.drew hcur
      refine wpAnyH_take (i := 0) (oi := { dst := some 20, op := Op.fieldAddr 57 (Operand.tmp 3) 1, type := 0, pos := "list.go:106", after := #[], guard := none }) (v := ?_) rfl (by kernel_rfl) (by kernel_rfl) (by kernel_rfl) (fun _ _ _ h => h) (Or.inl ⟨by rfl, ?_⟩) (by assumption) ?_
      rotate_left
      · (intro w hSw; (try dsimp only at hSw); go_simp; try with_reducible rfl)
      try simp only [Act.put, List.setIfInBounds_toArray, List.set_cons_zero, List.set_cons_succ]
      refine wpAnyH_take (i := 2) (oi := { dst := some 22, op := Op.move (Operand.tmp 5), type := 70, pos := "list.go:106", after := #[], guard := none }) (v := ?_) rfl (by kernel_rfl) (by kernel_rfl) (by kernel_rfl) (fun _ _ _ h => h) (Or.inl ⟨by rfl, ?_⟩) (by assumption) ?_
      rotate_left
      · (intro w hSw; (try dsimp only at hSw); go_simp; try with_reducible rfl)
      try simp only [Act.put, List.setIfInBounds_toArray, List.set_cons_zero, List.set_cons_succ]
      refine wpAnyH_ready (rs := [1, 3]) (by kernel_rfl) (by simp) ?_
      refine AllReadyH.cons (o := { dst := some 21, op := Op.load 55 (Operand.tmp 20), type := 55, pos := "list.go:106", after := #[{ on := 0, ground := Ground.data }], guard := none }) rfl (fun K' hS' => ?_) (AllReadyH.cons (o := { dst := some 23, op := Op.call { callee := Callee.value (Operand.func 41), args := #[Operand.tmp 22], argTypes := #[70] }, type := 70, pos := "list.go:106", after := #[{ on := 2, ground := Ground.data }], guard := none }) rfl (fun K' hS' => ?_) AllReadyH.nil)
      · have qL := (HF3.out.below hcur).cell 1
        go_simp
        (try go_wp2_with fail)
        clear qL
        refine hS'.out _ _ trivial (fun hHeld => ?_)
        clear hS' K'
        try simp only [Act.put, List.setIfInBounds_toArray, List.set_cons_zero, List.set_cons_succ]
        refine wpAnyH_ready (rs := [3]) (by kernel_rfl) (by simp) ?_
        refine AllReadyH.cons (o := { dst := some 23, op := Op.call { callee := Callee.value (Operand.func 41), args := #[Operand.tmp 22], argTypes := #[70] }, type := 70, pos := "list.go:106", after := #[{ on := 2, ground := Ground.data }], guard := none }) rfl (fun K' hS' => ?_) AllReadyH.nil
        go_simp
        go_at_call 41; (with_reducible refine (cC _ hcur).mono ?_); rintro e w5 ⟨v', rfl, hr5, hb5⟩; obtain ⟨g', c', rfl⟩ := kt_slice hr5 hp; have HB5 := Lib.hid (Below.trans hcur (hb5.mono hcur.size)); have HR5 := Lib.hid (show KtR wr.heap.size w5 (.slice (some ⟨g', 0, none⟩) l.length c') l from row_lo hr5 hcur.size); clear hr5 hb5
        (try go_wp2_with fail)
        refine hS'.out _ _ trivial (fun hHeld => ?_)
        clear hS' K'
        try simp only [Act.put, List.setIfInBounds_toArray, List.set_cons_zero, List.set_cons_succ]
        refine wpAnyH_ready (rs := [4]) (by kernel_rfl) (by simp) ?_
        refine AllReadyH.cons (o := { dst := some 24, op := Op.buildSlice 55 1 #[(0, Operand.tmp 23)], type := 55, pos := "list.go:106", after := #[{ on := 3, ground := Ground.data }], guard := none }) rfl (fun K' hS' => ?_) AllReadyH.nil
        have HB6 := Lib.hid (HB5.out.alloc HB5.out.size (.cells #[.slice (some ⟨g', 0, none⟩) l.length c'] 70))
        have HR6 := Lib.hid (row_below HR5.out ((Below.refl _ _).alloc (Nat.le_refl _) (.cells #[.slice (some ⟨g', 0, none⟩) l.length c'] 70)))
        have hu6 : (w5.alloc (.cells #[.slice (some ⟨g', 0, none⟩) l.length c'] 70)).ownsRow w5.heap.size 70 1 (.slice (some ⟨w5.heap.size, 0, none⟩) 1 1) 1 [.slice (some ⟨g', 0, none⟩) l.length c'] := ⟨by simp, .inr ⟨w5.heap.size, 1, _, rfl, Nat.le_refl _, heap_alloc_new _ _, Nat.le_refl _, by decide, by simp, by simp⟩⟩
        go_simp
        (try go_wp2_with fail)
        refine hS'.out _ _ trivial (fun hHeld => ?_)
        clear hS' K'
        try simp only [Act.put, List.setIfInBounds_toArray, List.set_cons_zero, List.set_cons_succ]
        refine wpAnyH_ready (rs := [5]) (by kernel_rfl) (by simp) ?_
        refine AllReadyH.cons (o := { dst := some 25, op := Op.call { callee := Callee.builtin Builtin.append, args := #[Operand.tmp 21, Operand.tmp 24], argTypes := #[55, 55] }, type := 55, pos := "list.go:106", after := #[{ on := 1, ground := Ground.data }, { on := 4, ground := Ground.data }, { on := 3, ground := Ground.chain }], guard := none }) rfl (fun K' hS' => ?_) AllReadyH.nil
        refine step_app_kss rfl (.tmp 21) (.tmp 24) rfl (B := wr.heap.size) (N := w5.heap.size) (n := 0) (m := 1) (v := .slice none 0 0) (u := .slice (some ⟨w5.heap.size, 0, none⟩) 1 1) (l := []) (new := [.slice (some ⟨g', 0, none⟩) l.length c']) rfl rfl ⟨by simp, .inl ⟨rfl, rfl⟩⟩ hu6 (by simp [Value.oneCell']) (by decide) HB6.out.size ?_
        intro v7 w7 hr7 hg7 hf7
        have HB7 := Lib.hid (Below.grown HB6.out hg7 HB6.out.size (fun k hk => by cases hk))
        have HR7 : Hid (KtR wr.heap.size w7 (.slice (some ⟨g', 0, none⟩) l.length c') l) := Lib.hid (row_below HR6.out (Below.grown (Below.refl _ _) hg7 (Nat.le_refl _) (fun k hk => by cases hk)))
        obtain ⟨gb7, cb7, rfl, hN7, hc7, hK7⟩ := row_one hr7
        have HK7 := Lib.hid hK7
        clear hr7 hg7 hf7 hu6 hK7
        refine hS'.out _ _ trivial (fun hHeld => ?_)
        clear hS' K'
        try simp only [Act.put, List.setIfInBounds_toArray, List.set_cons_zero, List.set_cons_succ]
        refine wpAnyH_take (i := 6) (oi := { dst := some 26, op := Op.fieldAddr 57 (Operand.tmp 3) 1, type := 0, pos := "list.go:106", after := #[{ on := 0, ground := Ground.phase }, { on := 1, ground := Ground.phase }, { on := 2, ground := Ground.phase }, { on := 3, ground := Ground.phase }, { on := 4, ground := Ground.phase }, { on := 5, ground := Ground.phase }], guard := none }) (v := ?_) rfl (by kernel_rfl) (by kernel_rfl) (by kernel_rfl) (fun _ _ _ h => h) (Or.inl ⟨by rfl, ?_⟩) (by assumption) ?_
        rotate_left
        · (intro w hSw; (try dsimp only at hSw); go_simp; try with_reducible rfl)
        try simp only [Act.put, List.setIfInBounds_toArray, List.set_cons_zero, List.set_cons_succ]
        refine wpAnyH_ready (rs := [7]) (by kernel_rfl) (by simp) ?_
        refine AllReadyH.cons (o := { dst := none, op := Op.store 55 (Operand.tmp 26) (Operand.tmp 25), type := 0, pos := "list.go:106", after := #[{ on := 6, ground := Ground.data }, { on := 5, ground := Ground.data }, { on := 5, ground := Ground.chain }, { on := 0, ground := Ground.phase }, { on := 1, ground := Ground.phase }, { on := 2, ground := Ground.phase }, { on := 3, ground := Ground.phase }, { on := 4, ground := Ground.phase }, { on := 5, ground := Ground.phase }], guard := none }) rfl (fun K' hS' => ?_) AllReadyH.nil
        have q3 := (HF3.out.below HB7.out).free 1
        have qlt := (HF3.out.below HB7.out).cell 1
        go_simp
        (try go_wp2_with fail)
        clear q3
        refine hS'.out _ _ trivial (fun hHeld => ?_)
        clear hS' K'
        try simp only [Act.put, List.setIfInBounds_toArray, List.set_cons_zero, List.set_cons_succ]
        refine wpAnyH_done (by kernel_rfl) ?_ _
        refine NoPanic.normal ?_
        go_wp2_with fail
        go_roundg 0
        case measure => exact Nat.lt_succ_self _
        case rel => exact cp_end HB.out HF.out HF3.out HB7.out HR7.out HK7.out hN7 hc7 hp
      · go_simp
        go_at_call 41; (with_reducible refine (cC _ hcur).mono ?_); rintro e w5 ⟨v', rfl, hr5, hb5⟩; obtain ⟨g', c', rfl⟩ := kt_slice hr5 hp; have HB5 := Lib.hid (Below.trans hcur (hb5.mono hcur.size)); have HR5 := Lib.hid (show KtR wr.heap.size w5 (.slice (some ⟨g', 0, none⟩) l.length c') l from row_lo hr5 hcur.size); clear hr5 hb5
        (try go_wp2_with fail)
        refine hS'.out _ _ trivial (fun hHeld => ?_)
        clear hS' K'
        try simp only [Act.put, List.setIfInBounds_toArray, List.set_cons_zero, List.set_cons_succ]
        refine wpAnyH_ready (rs := [1, 4]) (by kernel_rfl) (by simp) ?_
        refine AllReadyH.cons (o := { dst := some 21, op := Op.load 55 (Operand.tmp 20), type := 55, pos := "list.go:106", after := #[{ on := 0, ground := Ground.data }], guard := none }) rfl (fun K' hS' => ?_) (AllReadyH.cons (o := { dst := some 24, op := Op.buildSlice 55 1 #[(0, Operand.tmp 23)], type := 55, pos := "list.go:106", after := #[{ on := 3, ground := Ground.data }], guard := none }) rfl (fun K' hS' => ?_) AllReadyH.nil)
        · have qL := (HF3.out.below HB5.out).cell 1
          go_simp
          (try go_wp2_with fail)
          clear qL
          refine hS'.out _ _ trivial (fun hHeld => ?_)
          clear hS' K'
          try simp only [Act.put, List.setIfInBounds_toArray, List.set_cons_zero, List.set_cons_succ]
          refine wpAnyH_ready (rs := [4]) (by kernel_rfl) (by simp) ?_
          refine AllReadyH.cons (o := { dst := some 24, op := Op.buildSlice 55 1 #[(0, Operand.tmp 23)], type := 55, pos := "list.go:106", after := #[{ on := 3, ground := Ground.data }], guard := none }) rfl (fun K' hS' => ?_) AllReadyH.nil
          have HB6 := Lib.hid (HB5.out.alloc HB5.out.size (.cells #[.slice (some ⟨g', 0, none⟩) l.length c'] 70))
          have HR6 := Lib.hid (row_below HR5.out ((Below.refl _ _).alloc (Nat.le_refl _) (.cells #[.slice (some ⟨g', 0, none⟩) l.length c'] 70)))
          have hu6 : (w5.alloc (.cells #[.slice (some ⟨g', 0, none⟩) l.length c'] 70)).ownsRow w5.heap.size 70 1 (.slice (some ⟨w5.heap.size, 0, none⟩) 1 1) 1 [.slice (some ⟨g', 0, none⟩) l.length c'] := ⟨by simp, .inr ⟨w5.heap.size, 1, _, rfl, Nat.le_refl _, heap_alloc_new _ _, Nat.le_refl _, by decide, by simp, by simp⟩⟩
          go_simp
          (try go_wp2_with fail)
          refine hS'.out _ _ trivial (fun hHeld => ?_)
          clear hS' K'
          try simp only [Act.put, List.setIfInBounds_toArray, List.set_cons_zero, List.set_cons_succ]
          refine wpAnyH_ready (rs := [5]) (by kernel_rfl) (by simp) ?_
          refine AllReadyH.cons (o := { dst := some 25, op := Op.call { callee := Callee.builtin Builtin.append, args := #[Operand.tmp 21, Operand.tmp 24], argTypes := #[55, 55] }, type := 55, pos := "list.go:106", after := #[{ on := 1, ground := Ground.data }, { on := 4, ground := Ground.data }, { on := 3, ground := Ground.chain }], guard := none }) rfl (fun K' hS' => ?_) AllReadyH.nil
          refine step_app_kss rfl (.tmp 21) (.tmp 24) rfl (B := wr.heap.size) (N := w5.heap.size) (n := 0) (m := 1) (v := .slice none 0 0) (u := .slice (some ⟨w5.heap.size, 0, none⟩) 1 1) (l := []) (new := [.slice (some ⟨g', 0, none⟩) l.length c']) rfl rfl ⟨by simp, .inl ⟨rfl, rfl⟩⟩ hu6 (by simp [Value.oneCell']) (by decide) HB6.out.size ?_
          intro v7 w7 hr7 hg7 hf7
          have HB7 := Lib.hid (Below.grown HB6.out hg7 HB6.out.size (fun k hk => by cases hk))
          have HR7 : Hid (KtR wr.heap.size w7 (.slice (some ⟨g', 0, none⟩) l.length c') l) := Lib.hid (row_below HR6.out (Below.grown (Below.refl _ _) hg7 (Nat.le_refl _) (fun k hk => by cases hk)))
          obtain ⟨gb7, cb7, rfl, hN7, hc7, hK7⟩ := row_one hr7
          have HK7 := Lib.hid hK7
          clear hr7 hg7 hf7 hu6 hK7
          refine hS'.out _ _ trivial (fun hHeld => ?_)
          clear hS' K'
          try simp only [Act.put, List.setIfInBounds_toArray, List.set_cons_zero, List.set_cons_succ]
          refine wpAnyH_take (i := 6) (oi := { dst := some 26, op := Op.fieldAddr 57 (Operand.tmp 3) 1, type := 0, pos := "list.go:106", after := #[{ on := 0, ground := Ground.phase }, { on := 1, ground := Ground.phase }, { on := 2, ground := Ground.phase }, { on := 3, ground := Ground.phase }, { on := 4, ground := Ground.phase }, { on := 5, ground := Ground.phase }], guard := none }) (v := ?_) rfl (by kernel_rfl) (by kernel_rfl) (by kernel_rfl) (fun _ _ _ h => h) (Or.inl ⟨by rfl, ?_⟩) (by assumption) ?_
          rotate_left
          · (intro w hSw; (try dsimp only at hSw); go_simp; try with_reducible rfl)
          try simp only [Act.put, List.setIfInBounds_toArray, List.set_cons_zero, List.set_cons_succ]
          refine wpAnyH_ready (rs := [7]) (by kernel_rfl) (by simp) ?_
          refine AllReadyH.cons (o := { dst := none, op := Op.store 55 (Operand.tmp 26) (Operand.tmp 25), type := 0, pos := "list.go:106", after := #[{ on := 6, ground := Ground.data }, { on := 5, ground := Ground.data }, { on := 5, ground := Ground.chain }, { on := 0, ground := Ground.phase }, { on := 1, ground := Ground.phase }, { on := 2, ground := Ground.phase }, { on := 3, ground := Ground.phase }, { on := 4, ground := Ground.phase }, { on := 5, ground := Ground.phase }], guard := none }) rfl (fun K' hS' => ?_) AllReadyH.nil
          have q3 := (HF3.out.below HB7.out).free 1
          have qlt := (HF3.out.below HB7.out).cell 1
          go_simp
          (try go_wp2_with fail)
          clear q3
          refine hS'.out _ _ trivial (fun hHeld => ?_)
          clear hS' K'
          try simp only [Act.put, List.setIfInBounds_toArray, List.set_cons_zero, List.set_cons_succ]
          refine wpAnyH_done (by kernel_rfl) ?_ _
          refine NoPanic.normal ?_
          go_wp2_with fail
          go_roundg 0
          case measure => exact Nat.lt_succ_self _
          case rel => exact cp_end HB.out HF.out HF3.out HB7.out HR7.out HK7.out hN7 hc7 hp
        · have HB6 := Lib.hid (HB5.out.alloc HB5.out.size (.cells #[.slice (some ⟨g', 0, none⟩) l.length c'] 70))
          have HR6 := Lib.hid (row_below HR5.out ((Below.refl _ _).alloc (Nat.le_refl _) (.cells #[.slice (some ⟨g', 0, none⟩) l.length c'] 70)))
          have hu6 : (w5.alloc (.cells #[.slice (some ⟨g', 0, none⟩) l.length c'] 70)).ownsRow w5.heap.size 70 1 (.slice (some ⟨w5.heap.size, 0, none⟩) 1 1) 1 [.slice (some ⟨g', 0, none⟩) l.length c'] := ⟨by simp, .inr ⟨w5.heap.size, 1, _, rfl, Nat.le_refl _, heap_alloc_new _ _, Nat.le_refl _, by decide, by simp, by simp⟩⟩
          go_simp
          (try go_wp2_with fail)
          refine hS'.out _ _ trivial (fun hHeld => ?_)
          clear hS' K'
          try simp only [Act.put, List.setIfInBounds_toArray, List.set_cons_zero, List.set_cons_succ]
          refine wpAnyH_ready (rs := [1]) (by kernel_rfl) (by simp) ?_
          refine AllReadyH.cons (o := { dst := some 21, op := Op.load 55 (Operand.tmp 20), type := 55, pos := "list.go:106", after := #[{ on := 0, ground := Ground.data }], guard := none }) rfl (fun K' hS' => ?_) AllReadyH.nil
          have qL := (HF3.out.below HB6.out).cell 1
          go_simp
          (try go_wp2_with fail)
          clear qL
          refine hS'.out _ _ trivial (fun hHeld => ?_)
          clear hS' K'
          try simp only [Act.put, List.setIfInBounds_toArray, List.set_cons_zero, List.set_cons_succ]
          refine wpAnyH_ready (rs := [5]) (by kernel_rfl) (by simp) ?_
          refine AllReadyH.cons (o := { dst := some 25, op := Op.call { callee := Callee.builtin Builtin.append, args := #[Operand.tmp 21, Operand.tmp 24], argTypes := #[55, 55] }, type := 55, pos := "list.go:106", after := #[{ on := 1, ground := Ground.data }, { on := 4, ground := Ground.data }, { on := 3, ground := Ground.chain }], guard := none }) rfl (fun K' hS' => ?_) AllReadyH.nil
          refine step_app_kss rfl (.tmp 21) (.tmp 24) rfl (B := wr.heap.size) (N := w5.heap.size) (n := 0) (m := 1) (v := .slice none 0 0) (u := .slice (some ⟨w5.heap.size, 0, none⟩) 1 1) (l := []) (new := [.slice (some ⟨g', 0, none⟩) l.length c']) rfl rfl ⟨by simp, .inl ⟨rfl, rfl⟩⟩ hu6 (by simp [Value.oneCell']) (by decide) HB6.out.size ?_
          intro v7 w7 hr7 hg7 hf7
          have HB7 := Lib.hid (Below.grown HB6.out hg7 HB6.out.size (fun k hk => by cases hk))
          have HR7 : Hid (KtR wr.heap.size w7 (.slice (some ⟨g', 0, none⟩) l.length c') l) := Lib.hid (row_below HR6.out (Below.grown (Below.refl _ _) hg7 (Nat.le_refl _) (fun k hk => by cases hk)))
          obtain ⟨gb7, cb7, rfl, hN7, hc7, hK7⟩ := row_one hr7
          have HK7 := Lib.hid hK7
          clear hr7 hg7 hf7 hu6 hK7
          refine hS'.out _ _ trivial (fun hHeld => ?_)
          clear hS' K'
          try simp only [Act.put, List.setIfInBounds_toArray, List.set_cons_zero, List.set_cons_succ]
          refine wpAnyH_take (i := 6) (oi := { dst := some 26, op := Op.fieldAddr 57 (Operand.tmp 3) 1, type := 0, pos := "list.go:106", after := #[{ on := 0, ground := Ground.phase }, { on := 1, ground := Ground.phase }, { on := 2, ground := Ground.phase }, { on := 3, ground := Ground.phase }, { on := 4, ground := Ground.phase }, { on := 5, ground := Ground.phase }], guard := none }) (v := ?_) rfl (by kernel_rfl) (by kernel_rfl) (by kernel_rfl) (fun _ _ _ h => h) (Or.inl ⟨by rfl, ?_⟩) (by assumption) ?_
          rotate_left
          · (intro w hSw; (try dsimp only at hSw); go_simp; try with_reducible rfl)
          try simp only [Act.put, List.setIfInBounds_toArray, List.set_cons_zero, List.set_cons_succ]
          refine wpAnyH_ready (rs := [7]) (by kernel_rfl) (by simp) ?_
          refine AllReadyH.cons (o := { dst := none, op := Op.store 55 (Operand.tmp 26) (Operand.tmp 25), type := 0, pos := "list.go:106", after := #[{ on := 6, ground := Ground.data }, { on := 5, ground := Ground.data }, { on := 5, ground := Ground.chain }, { on := 0, ground := Ground.phase }, { on := 1, ground := Ground.phase }, { on := 2, ground := Ground.phase }, { on := 3, ground := Ground.phase }, { on := 4, ground := Ground.phase }, { on := 5, ground := Ground.phase }], guard := none }) rfl (fun K' hS' => ?_) AllReadyH.nil
          have q3 := (HF3.out.below HB7.out).free 1
          have qlt := (HF3.out.below HB7.out).cell 1
          go_simp
          (try go_wp2_with fail)
          clear q3
          refine hS'.out _ _ trivial (fun hHeld => ?_)
          clear hS' K'
          try simp only [Act.put, List.setIfInBounds_toArray, List.set_cons_zero, List.set_cons_succ]
          refine wpAnyH_done (by kernel_rfl) ?_ _
          refine NoPanic.normal ?_
          go_wp2_with fail
          go_roundg 0
          case measure => exact Nat.lt_succ_self _
          case rel => exact cp_end HB.out HF.out HF3.out HB7.out HR7.out HK7.out hN7 hc7 hp
    · subst hg
      obtain ⟨A, j, c, rfl⟩ : ∃ A j c, x = .slice A j c := by
        obtain ⟨y, he, h⟩ := HV.out
        injection he with he
        have e : x = y := by simpa using he
        subst e
        rcases h with ⟨_, rfl⟩ | ⟨gb, cb, v, g, rfl, _⟩
        · exact ⟨_, _, _, rfl⟩
        · exact ⟨_, _, _, rfl⟩
      have c0 := hf3.cell 0
      have c1 := hf3.cell 1
      have q0 := hf.cell 0
      have q1 := hf.cell 1
      have r0 := hf.free 0
      have r1 := hf.free 1
      have HN := Lib.hid ((hf.set 0 (.int .i64 n)).set 1 (.slice A j c))
      have HBN := Lib.hid ((Below.setCell hb (p := ⟨W.heap.size, 0, none⟩) (Nat.le_refl _) (.int .i64 n)).setCell (p := ⟨W.heap.size, 1, none⟩) (Nat.le_refl _) (.slice A j c))
      clear hb hf hf3
      go_wp2
      have z0 := HN.out.cell 0
      have z1 := HN.out.cell 1
      exact bodyPost_ret (v := .agg #[.int .i64 n, .slice A j c]) (by simp [results, Try.results28, go_sem, z0, z1]) rfl ⟨_, rfl, (HV.out.on (fun q hq _ => (Below.heap_setCell _ _ _ _ (by show q ≠ W.heap.size; omega)).trans (Below.heap_setCell _ _ _ _ (by show q ≠ W.heap.size; omega)))).lo (by omega), HBN.out⟩
end Go.Proofs.Ytoiigplflmejmaa
namespace Go.Proofs.Ytoiigplflmejmaa
open Go.RowKit
set_option linter.unusedVariables false
set_option linter.unusedSimpArgs false
set_option maxRecDepth 100000

theorem scop_any {B : Nat} {W : World} {d o : Nat} {n : Int} {x : Value} {l : List Kt} {F : List Nat} (h : Lx B W d o n x l F) (hl : l.length ≤ 1000) (hd : d < W.heap.size) :
    Calls Try.prog 28 #[.pointer (some ⟨d, o, none⟩)] W fun e w' => ∃ u, e = .returned u ∧ Lv W.heap.size w' n u l ∧ Below W.heap.size W w' := by
  obtain ⟨h0, h1, h⟩ := h
  rcases h with ⟨rfl, ⟨A0, c0, rfl⟩, _⟩ | ⟨gb, cb, v, g, rfl, hvg, _, hm, hp, hs, hge, hc⟩
  · refine (scop_nil h0 h1 hd).mono ?_
    rintro e w' ⟨rfl, hb⟩
    exact ⟨_, rfl, ⟨_, rfl, .inl ⟨rfl, rfl⟩⟩, hb⟩
  · exact scop_one hm hp hl hd
theorem lv_slice {N : Nat} {W : World} {n : Int} {u : Value} {l : List Kt} (h : Lv N W n u l) : ∃ A j c, u = .agg #[.int .i64 n, .slice A j c] := by
  obtain ⟨x, rfl, h⟩ := h
  rcases h with ⟨_, rfl⟩ | ⟨gb, cb, v, g, rfl, _⟩
  · exact ⟨_, _, _, rfl⟩
  · exact ⟨_, _, _, rfl⟩
theorem lx_new {r o N : Nat} {w5 w8 : World} {n : Int} {y : Value} {l : List Kt} (hv : Lv N w5 n (.agg #[.int .i64 n, y]) l) (hr : r < N) (hs : Rs n l) (h0 : w8.cell? ⟨r, o, none⟩ = some (.int .i64 n)) (h1 : w8.cell? ⟨r, o + 1, none⟩ = some y)
    (hk : ∀ q, N ≤ q → q < w5.heap.size → w8.heap[q]? = w5.heap[q]?) : ∃ G, Lx r w8 r o n y l G ∧ ∀ q ∈ G, N ≤ q := by
  obtain ⟨x, he, h⟩ := hv.on hk
  injection he with he
  have e : y = x := by simpa using he
  subst e
  rcases h with ⟨rfl, rfl⟩ | ⟨gb, cb, v, g, rfl, hvg, hb, hr2, hp, hN, hc, hne⟩
  · exact ⟨[], ⟨h0, h1, .inl ⟨rfl, ⟨_, _, rfl⟩, rfl⟩⟩, by simp⟩
  · refine ⟨[gb, g], ⟨h0, h1, .inr ⟨gb, cb, v, g, rfl, hvg, rfl, ⟨h0, h1, hb, row_lo hr2 (by omega)⟩, hp, hs, by omega, hc⟩⟩, ?_⟩
    intro q hq
    simp at hq
    rcases hq with rfl | rfl
    · exact hN
    · exact (World.ownsRow.lt hr2 _ hvg).1
/-- Between two rounds. -/
def CyR (W : World) (r : Nat) (room many : Int) (l0 l1 l2 : List Kt) (g : Nat) (s : Value) (wr : World) : Prop :=
  Below W.heap.size W wr ∧ ((g = 3 ∧ s = .int .i64 0 ∧ Fb wr r 60 (stc room many nl nl nl 0 0)) ∨
  (g = 2 ∧ s = .int .i64 1 ∧ ∃ y0 G0, Fb wr r 60 (stc room many y0 nl nl 0 0) ∧ Lx r wr r 2 0 y0 l0 G0) ∨
  (g = 1 ∧ s = .int .i64 2 ∧ ∃ y0 y1 G0 G1, Fb wr r 60 (stc room many y0 y1 nl 1 0) ∧ Lx r wr r 2 0 y0 l0 G0 ∧ Lx r wr r 4 1 y1 l1 G1 ∧ (∀ q ∈ G0, q ∉ G1)) ∨
  (g = 0 ∧ s = .int .i64 3 ∧ ∃ y0 y1 y2 G0 G1 G2, Fb wr r 60 (stc room many y0 y1 y2 1 2) ∧ Lx r wr r 2 0 y0 l0 G0 ∧ Lx r wr r 4 1 y1 l1 G1 ∧ Lx r wr r 6 2 y2 l2 G2 ∧ (∀ q ∈ G0, q ∉ G1) ∧ (∀ q ∈ G0, q ∉ G2) ∧ (∀ q ∈ G1, q ∉ G2)))
theorem cy_end0 {W wr w5 : World} {room many : Int} {l0 l1 l2 : List Kt} {A : Option Addr} {j c : Nat} (HB : Below W.heap.size W wr) (HF : Fb wr W.heap.size 60 (stc room many nl nl nl 0 0)) (HB5 : Below wr.heap.size wr w5) (HV5 : Lv wr.heap.size w5 0 (.agg #[.int .i64 0, .slice A j c]) l0) (HR : Rs 0 l0) :
    CyR W W.heap.size room many l0 l1 l2 2 (.int .i64 1) ((w5.setCell ⟨W.heap.size, 2, none⟩ (.int .i64 0)).setCell ⟨W.heap.size, 3, none⟩ (.slice A j c)) := by
  have hlt := HF.lt
  have h8 := ((HF.below HB5).set 2 (.int .i64 0)).set 3 (.slice A j c)
  have hs : ∀ q, q ≠ W.heap.size → ((w5.setCell ⟨W.heap.size, 2, none⟩ (.int .i64 0)).setCell ⟨W.heap.size, 3, none⟩ (.slice A j c)).heap[q]? = w5.heap[q]? := fun q h => (Below.heap_setCell _ _ _ _ h).trans (Below.heap_setCell _ _ _ _ h)
  obtain ⟨G, hG, hN⟩ := lx_new HV5 hlt HR (h8.cell 2) (h8.cell 3) (fun q hq _ => hs q (by omega))
  exact ⟨((HB.trans (HB5.mono HB.size)).setCell (p := ⟨W.heap.size, 2, none⟩) (Nat.le_refl _) _).setCell (p := ⟨W.heap.size, 3, none⟩) (Nat.le_refl _) _, .inr (.inl ⟨rfl, rfl, _, G, h8, hG⟩)⟩
theorem cy_end1 {W wr w5 : World} {room many : Int} {l0 l1 l2 : List Kt} {y0 : Value} {G0 : List Nat} {A : Option Addr} {j c : Nat} (HB : Below W.heap.size W wr) (HF : Fb wr W.heap.size 60 (stc room many y0 nl nl 0 0)) (HL0 : Lx W.heap.size wr W.heap.size 2 0 y0 l0 G0) (HB5 : Below wr.heap.size wr w5) (HV5 : Lv wr.heap.size w5 1 (.agg #[.int .i64 1, .slice A j c]) l1) (HR : Rs 1 l1) :
    CyR W W.heap.size room many l0 l1 l2 1 (.int .i64 2) ((w5.setCell ⟨W.heap.size, 4, none⟩ (.int .i64 1)).setCell ⟨W.heap.size, 5, none⟩ (.slice A j c)) := by
  have hlt := HF.lt
  have h8 := ((HF.below HB5).set 4 (.int .i64 1)).set 5 (.slice A j c)
  have hs : ∀ q, q ≠ W.heap.size → ((w5.setCell ⟨W.heap.size, 4, none⟩ (.int .i64 1)).setCell ⟨W.heap.size, 5, none⟩ (.slice A j c)).heap[q]? = w5.heap[q]? := fun q h => (Below.heap_setCell _ _ _ _ h).trans (Below.heap_setCell _ _ _ _ h)
  obtain ⟨G, hG, hN⟩ := lx_new HV5 hlt HR (h8.cell 4) (h8.cell 5) (fun q hq _ => hs q (by omega))
  have k0 := HL0.keep ((h8.cell 2).trans HL0.1.symm) ((h8.cell 3).trans HL0.2.1.symm) (fun q hq => (hs q (fun e => HL0.far HF (by decide) (by decide) (e ▸ hq))).trans (HB5.block q (HL0.ge q hq).2))
  have e0 : ∀ q ∈ G0, q ∉ G := fun q hq hm => by have := (HL0.ge q hq).2; have := hN q hm; omega
  exact ⟨((HB.trans (HB5.mono HB.size)).setCell (p := ⟨W.heap.size, 4, none⟩) (Nat.le_refl _) _).setCell (p := ⟨W.heap.size, 5, none⟩) (Nat.le_refl _) _, .inr (.inr (.inl ⟨rfl, rfl, _, _, _, G, h8, k0, hG, e0⟩))⟩
theorem cy_end2 {W wr w5 : World} {room many : Int} {l0 l1 l2 : List Kt} {y0 y1 : Value} {G0 G1 : List Nat} {A : Option Addr} {j c : Nat} (HB : Below W.heap.size W wr) (HF : Fb wr W.heap.size 60 (stc room many y0 y1 nl 1 0)) (HL0 : Lx W.heap.size wr W.heap.size 2 0 y0 l0 G0) (HL1 : Lx W.heap.size wr W.heap.size 4 1 y1 l1 G1) (HD01 : ∀ q ∈ G0, q ∉ G1) (HB5 : Below wr.heap.size wr w5) (HV5 : Lv wr.heap.size w5 2 (.agg #[.int .i64 2, .slice A j c]) l2) (HR : Rs 2 l2) :
    CyR W W.heap.size room many l0 l1 l2 0 (.int .i64 3) ((w5.setCell ⟨W.heap.size, 6, none⟩ (.int .i64 2)).setCell ⟨W.heap.size, 7, none⟩ (.slice A j c)) := by
  have hlt := HF.lt
  have h8 := ((HF.below HB5).set 6 (.int .i64 2)).set 7 (.slice A j c)
  have hs : ∀ q, q ≠ W.heap.size → ((w5.setCell ⟨W.heap.size, 6, none⟩ (.int .i64 2)).setCell ⟨W.heap.size, 7, none⟩ (.slice A j c)).heap[q]? = w5.heap[q]? := fun q h => (Below.heap_setCell _ _ _ _ h).trans (Below.heap_setCell _ _ _ _ h)
  obtain ⟨G, hG, hN⟩ := lx_new HV5 hlt HR (h8.cell 6) (h8.cell 7) (fun q hq _ => hs q (by omega))
  have k0 := HL0.keep ((h8.cell 2).trans HL0.1.symm) ((h8.cell 3).trans HL0.2.1.symm) (fun q hq => (hs q (fun e => HL0.far HF (by decide) (by decide) (e ▸ hq))).trans (HB5.block q (HL0.ge q hq).2))
  have e0 : ∀ q ∈ G0, q ∉ G := fun q hq hm => by have := (HL0.ge q hq).2; have := hN q hm; omega
  have k1 := HL1.keep ((h8.cell 4).trans HL1.1.symm) ((h8.cell 5).trans HL1.2.1.symm) (fun q hq => (hs q (fun e => HL1.far HF (by decide) (by decide) (e ▸ hq))).trans (HB5.block q (HL1.ge q hq).2))
  have e1 : ∀ q ∈ G1, q ∉ G := fun q hq hm => by have := (HL1.ge q hq).2; have := hN q hm; omega
  exact ⟨((HB.trans (HB5.mono HB.size)).setCell (p := ⟨W.heap.size, 6, none⟩) (Nat.le_refl _) _).setCell (p := ⟨W.heap.size, 7, none⟩) (Nat.le_refl _) _, .inr (.inr (.inr ⟨rfl, rfl, _, _, _, _, _, G, h8, k0, k1, hG, HD01, e0, e1⟩))⟩
set_option maxHeartbeats 16000000 in
theorem scopy_sz {B d : Nat} {room : Int} {m : List Kt} {F : List Nat} {W : World} (h : Sz B d room (m.length : Int) m F W) (hml : m.length ≤ 1000) :
    Calls Try.prog 18 #[.pointer (some ⟨d, 0, none⟩)] W fun e w' => e = .returned (.pointer (some ⟨W.heap.size, 0, none⟩)) ∧ Below W.heap.size W w' ∧ ∃ G, Sz W.heap.size W.heap.size room (m.length : Int) m G w' := by
  obtain ⟨x0, x1, x2, l0, l1, l2, F0, F1, F2, h, _⟩ := h
  have c0 := h.fb.cell 0
  have c1 := h.fb.cell 1
  have hlt := h.fb.lt
  have n0 : l0.length ≤ 1000 := by rw [h.p0.length_eq]; exact hml
  have n1 : l1.length ≤ 1000 := by rw [h.p1.length_eq]; exact hml
  have n2 : l2.length ≤ 1000 := by rw [h.p2.length_eq]; exact hml
  have HRS0 := Lib.hid (lx_rises h.a0)
  have HRS1 := Lib.hid (lx_rises h.a1)
  have HRS2 := Lib.hid (lx_rises h.a2)
  have HP := Lib.hid (And.intro h.p0 (And.intro h.p1 h.p2))
  have CC0 := Lib.hid (fun w (hb : Below W.heap.size W w) => scop_any (h.a0.below hlt hb) n0 (Nat.lt_of_lt_of_le hlt hb.size))
  have CC1 := Lib.hid (fun w (hb : Below W.heap.size W w) => scop_any (h.a1.below hlt hb) n1 (Nat.lt_of_lt_of_le hlt hb.size))
  have CC2 := Lib.hid (fun w (hb : Below W.heap.size W w) => scop_any (h.a2.below hlt hb) n2 (Nat.lt_of_lt_of_le hlt hb.size))
  have HB0 := Lib.hid ((Below.refl W.heap.size W).drew.alloc (Nat.le_refl _) (.cells (stc room m.length nl nl nl 0 0) 60))
  have HF0 : Hid (Fb (W.drew.alloc (.cells (stc room m.length nl nl nl 0 0) 60)) W.heap.size 60 (stc room m.length nl nl nl 0 0)) := Lib.hid (Fb.new W.drew 60 (stc room m.length nl nl nl 0 0))
  clear h hlt
  generalize (m.length : Int) = many at *
  unfold stc at c0 c1
  go_enter Try.func18, Try.ntmps18
  go_wp2_with fail
  go_region
  go_wp2_with fail
  go_loopg [15] 3 (fun g s wr => CyR W W.heap.size room many l0 l1 l2 g s wr)
  case atStart => exact ⟨HB0.out, .inl ⟨rfl, rfl, HF0.out⟩⟩
  case round =>
    obtain ⟨hb, hw⟩ := hrel
    have HB := Lib.hid hb
    clear hb
    rcases hw with ⟨hg, rfl, hf⟩ | ⟨hg, rfl, y0, G0, hf, hL0⟩ | ⟨hg, rfl, y0, y1, G0, G1, hf, hL0, hL1, hd01⟩ | ⟨hg, rfl, y0, y1, y2, G0, G1, G2, hf, hL0, hL1, hL2, hd01, hd02, hd12⟩
    · subst hg
      have HF := Lib.hid hf
      have cC := fun w5 (hb5 : Below wr.heap.size wr w5) => CC0.out w5 (HB.out.trans (hb5.mono HB.out.size))
      clear hf
      go_wp2_with fail
      have hcur : Below wr.heap.size wr wr := Below.refl _ _
      refine wp_region_noPanic ?_
      refine wp_region_held_drew (S := fun _ => True) (by kernel_rfl) trivial (fun hHeld => ?_)
      replace hcur := Below.drew hcur
      refine wpAnyH_take (i := 0) (oi := { dst := some 18, op := Op.move (Operand.tmp 3), type := 24, pos := "store.go:96", after := #[], guard := none }) (v := ?_) rfl (by kernel_rfl) (by kernel_rfl) (by kernel_rfl) (fun _ _ _ h => h) (Or.inl ⟨by rfl, ?_⟩) (by assumption) ?_
      rotate_left
      · (intro w hSw; (try dsimp only at hSw); go_simp; try with_reducible rfl)
      try simp only [Act.put, List.setIfInBounds_toArray, List.set_cons_zero, List.set_cons_succ]
      refine wpAnyH_take (i := 1) (oi := { dst := some 19, op := Op.move (Operand.tmp 4), type := 3, pos := "store.go:96", after := #[], guard := none }) (v := ?_) rfl (by kernel_rfl) (by kernel_rfl) (by kernel_rfl) (fun _ _ _ h => h) (Or.inl ⟨by rfl, ?_⟩) (by assumption) ?_
      rotate_left
      · (intro w hSw; (try dsimp only at hSw); go_simp; try with_reducible rfl)
      try simp only [Act.put, List.setIfInBounds_toArray, List.set_cons_zero, List.set_cons_succ]
      refine wpAnyH_take (i := 2) (oi := { dst := some 20, op := Op.move (Operand.tmp 0), type := 24, pos := "store.go:96", after := #[], guard := none }) (v := ?_) rfl (by kernel_rfl) (by kernel_rfl) (by kernel_rfl) (fun _ _ _ h => h) (Or.inl ⟨by rfl, ?_⟩) (by assumption) ?_
      rotate_left
      · (intro w hSw; (try dsimp only at hSw); go_simp; try with_reducible rfl)
      try simp only [Act.put, List.setIfInBounds_toArray, List.set_cons_zero, List.set_cons_succ]
      refine wpAnyH_take (i := 3) (oi := { dst := some 21, op := Op.move (Operand.tmp 4), type := 3, pos := "store.go:96", after := #[], guard := none }) (v := ?_) rfl (by kernel_rfl) (by kernel_rfl) (by kernel_rfl) (fun _ _ _ h => h) (Or.inl ⟨by rfl, ?_⟩) (by assumption) ?_
      rotate_left
      · (intro w hSw; (try dsimp only at hSw); go_simp; try with_reducible rfl)
      try simp only [Act.put, List.setIfInBounds_toArray, List.set_cons_zero, List.set_cons_succ]
      refine wpAnyH_take (i := 4) (oi := { dst := some 22, op := Op.nilCheck (Operand.tmp 20), type := 0, pos := "store.go:96", after := #[{ on := 2, ground := Ground.data }], guard := none }) (v := ?_) rfl (by kernel_rfl) (by kernel_rfl) (by kernel_rfl) (fun _ _ _ h => h) (Or.inl ⟨by rfl, ?_⟩) (by assumption) ?_
      rotate_left
      · (intro w hSw; (try dsimp only at hSw); go_simp; try with_reducible rfl)
      try simp only [Act.put, List.setIfInBounds_toArray, List.set_cons_zero, List.set_cons_succ]
      refine wpAnyH_take (i := 5) (oi := { dst := some 23, op := Op.fieldAddr 60 (Operand.tmp 22) 2, type := 0, pos := "store.go:96", after := #[{ on := 4, ground := Ground.data }], guard := none }) (v := ?_) rfl (by kernel_rfl) (by kernel_rfl) (by kernel_rfl) (fun _ _ _ h => h) (Or.inl ⟨by rfl, ?_⟩) (by assumption) ?_
      rotate_left
      · (intro w hSw; (try dsimp only at hSw); go_simp; try with_reducible rfl)
      try simp only [Act.put, List.setIfInBounds_toArray, List.set_cons_zero, List.set_cons_succ]
      refine wpAnyH_take (i := 6) (oi := { dst := some 24, op := Op.indexAddr 58 (Operand.tmp 23) (Operand.tmp 21), type := 0, pos := "store.go:96", after := #[{ on := 5, ground := Ground.data }, { on := 3, ground := Ground.data }], guard := none }) (v := ?_) rfl (by kernel_rfl) (by kernel_rfl) (by kernel_rfl) (fun _ _ _ h => h) (Or.inl ⟨by rfl, ?_⟩) (by assumption) ?_
      rotate_left
      · (intro w hSw; (try dsimp only at hSw); go_simp; try with_reducible rfl)
      try simp only [Act.put, List.setIfInBounds_toArray, List.set_cons_zero, List.set_cons_succ]
      refine wpAnyH_take (i := 8) (oi := { dst := some 26, op := Op.nilCheck (Operand.tmp 18), type := 0, pos := "store.go:96", after := #[{ on := 0, ground := Ground.data }], guard := none }) (v := ?_) rfl (by kernel_rfl) (by kernel_rfl) (by kernel_rfl) (fun _ _ _ h => h) (Or.inl ⟨by rfl, ?_⟩) (by assumption) ?_
      rotate_left
      · (intro w hSw; (try dsimp only at hSw); go_simp; try with_reducible rfl)
      try simp only [Act.put, List.setIfInBounds_toArray, List.set_cons_zero, List.set_cons_succ]
      refine wpAnyH_take (i := 9) (oi := { dst := some 27, op := Op.fieldAddr 60 (Operand.tmp 26) 2, type := 0, pos := "store.go:96", after := #[{ on := 8, ground := Ground.data }], guard := none }) (v := ?_) rfl (by kernel_rfl) (by kernel_rfl) (by kernel_rfl) (fun _ _ _ h => h) (Or.inl ⟨by rfl, ?_⟩) (by assumption) ?_
      rotate_left
      · (intro w hSw; (try dsimp only at hSw); go_simp; try with_reducible rfl)
      try simp only [Act.put, List.setIfInBounds_toArray, List.set_cons_zero, List.set_cons_succ]
      refine wpAnyH_ready (rs := [7]) (by kernel_rfl) (by simp) ?_
      refine AllReadyH.cons (o := { dst := some 25, op := Op.call { callee := Callee.value (Operand.func 28), args := #[Operand.tmp 24], argTypes := #[57] }, type := 57, pos := "store.go:96", after := #[{ on := 6, ground := Ground.data }], guard := none }) rfl (fun K' hS' => ?_) AllReadyH.nil
      go_simp
      go_at_call 28; (with_reducible refine (cC _ hcur).mono ?_); rintro e w5 ⟨u5, rfl, hv5, hb5⟩; obtain ⟨A, j, c, rfl⟩ := lv_slice hv5; have HB5 := Lib.hid (Below.trans hcur (hb5.mono hcur.size)); have HV5 := Lib.hid (hv5.lo hcur.size); clear hv5 hb5
      (try go_wp2_with fail)
      refine hS'.out _ _ trivial (fun hHeld => ?_)
      clear hS' K'
      try simp only [Act.put, List.setIfInBounds_toArray, List.set_cons_zero, List.set_cons_succ]
      refine wpAnyH_take (i := 10) (oi := { dst := some 28, op := Op.indexAddr 58 (Operand.tmp 27) (Operand.tmp 19), type := 0, pos := "store.go:96", after := #[{ on := 9, ground := Ground.data }, { on := 1, ground := Ground.data }, { on := 0, ground := Ground.phase }, { on := 1, ground := Ground.phase }, { on := 2, ground := Ground.phase }, { on := 3, ground := Ground.phase }, { on := 4, ground := Ground.phase }, { on := 5, ground := Ground.phase }, { on := 6, ground := Ground.phase }, { on := 7, ground := Ground.phase }], guard := none }) (v := ?_) rfl (by kernel_rfl) (by kernel_rfl) (by kernel_rfl) (fun _ _ _ h => h) (Or.inl ⟨by rfl, ?_⟩) (by assumption) ?_
      rotate_left
      · (intro w hSw; (try dsimp only at hSw); go_simp; try with_reducible rfl)
      try simp only [Act.put, List.setIfInBounds_toArray, List.set_cons_zero, List.set_cons_succ]
      refine wpAnyH_ready (rs := [11]) (by kernel_rfl) (by simp) ?_
      refine AllReadyH.cons (o := { dst := none, op := Op.store 57 (Operand.tmp 28) (Operand.tmp 25), type := 0, pos := "store.go:96", after := #[{ on := 10, ground := Ground.data }, { on := 7, ground := Ground.data }, { on := 7, ground := Ground.chain }, { on := 0, ground := Ground.phase }, { on := 1, ground := Ground.phase }, { on := 2, ground := Ground.phase }, { on := 3, ground := Ground.phase }, { on := 4, ground := Ground.phase }, { on := 5, ground := Ground.phase }, { on := 6, ground := Ground.phase }, { on := 7, ground := Ground.phase }], guard := none }) rfl (fun K' hS' => ?_) AllReadyH.nil
      have f5 := HF.out.below HB5.out
      have q0 := f5.cell 2
      have q1 := f5.cell 3
      have r0 := f5.free 2
      have r1 := f5.free 3
      clear f5
      go_simp
      (try go_wp2_with fail)
      clear q0 q1 r0 r1
      refine hS'.out _ _ trivial (fun hHeld => ?_)
      clear hS' K'
      try simp only [Act.put, List.setIfInBounds_toArray, List.set_cons_zero, List.set_cons_succ]
      refine wpAnyH_done (by kernel_rfl) ?_ _
      refine NoPanic.normal ?_
      go_wp2_with fail
      go_roundg 2
      case measure => exact Nat.lt_succ_self _
      case rel => exact cy_end0 HB.out HF.out HB5.out HV5.out HRS0.out
    · subst hg
      have HF := Lib.hid hf
      have HL0 := Lib.hid hL0
      have cC := fun w5 (hb5 : Below wr.heap.size wr w5) => CC1.out w5 (HB.out.trans (hb5.mono HB.out.size))
      clear hf hL0
      go_wp2_with fail
      have hcur : Below wr.heap.size wr wr := Below.refl _ _
      refine wp_region_noPanic ?_
      refine wp_region_held_drew (S := fun _ => True) (by kernel_rfl) trivial (fun hHeld => ?_)
      replace hcur := Below.drew hcur
      refine wpAnyH_take (i := 0) (oi := { dst := some 18, op := Op.move (Operand.tmp 3), type := 24, pos := "store.go:96", after := #[], guard := none }) (v := ?_) rfl (by kernel_rfl) (by kernel_rfl) (by kernel_rfl) (fun _ _ _ h => h) (Or.inl ⟨by rfl, ?_⟩) (by assumption) ?_
      rotate_left
      · (intro w hSw; (try dsimp only at hSw); go_simp; try with_reducible rfl)
      try simp only [Act.put, List.setIfInBounds_toArray, List.set_cons_zero, List.set_cons_succ]
      refine wpAnyH_take (i := 1) (oi := { dst := some 19, op := Op.move (Operand.tmp 4), type := 3, pos := "store.go:96", after := #[], guard := none }) (v := ?_) rfl (by kernel_rfl) (by kernel_rfl) (by kernel_rfl) (fun _ _ _ h => h) (Or.inl ⟨by rfl, ?_⟩) (by assumption) ?_
      rotate_left
      · (intro w hSw; (try dsimp only at hSw); go_simp; try with_reducible rfl)
      try simp only [Act.put, List.setIfInBounds_toArray, List.set_cons_zero, List.set_cons_succ]
      refine wpAnyH_take (i := 2) (oi := { dst := some 20, op := Op.move (Operand.tmp 0), type := 24, pos := "store.go:96", after := #[], guard := none }) (v := ?_) rfl (by kernel_rfl) (by kernel_rfl) (by kernel_rfl) (fun _ _ _ h => h) (Or.inl ⟨by rfl, ?_⟩) (by assumption) ?_
      rotate_left
      · (intro w hSw; (try dsimp only at hSw); go_simp; try with_reducible rfl)
      try simp only [Act.put, List.setIfInBounds_toArray, List.set_cons_zero, List.set_cons_succ]
      refine wpAnyH_take (i := 3) (oi := { dst := some 21, op := Op.move (Operand.tmp 4), type := 3, pos := "store.go:96", after := #[], guard := none }) (v := ?_) rfl (by kernel_rfl) (by kernel_rfl) (by kernel_rfl) (fun _ _ _ h => h) (Or.inl ⟨by rfl, ?_⟩) (by assumption) ?_
      rotate_left
      · (intro w hSw; (try dsimp only at hSw); go_simp; try with_reducible rfl)
      try simp only [Act.put, List.setIfInBounds_toArray, List.set_cons_zero, List.set_cons_succ]
      refine wpAnyH_take (i := 4) (oi := { dst := some 22, op := Op.nilCheck (Operand.tmp 20), type := 0, pos := "store.go:96", after := #[{ on := 2, ground := Ground.data }], guard := none }) (v := ?_) rfl (by kernel_rfl) (by kernel_rfl) (by kernel_rfl) (fun _ _ _ h => h) (Or.inl ⟨by rfl, ?_⟩) (by assumption) ?_
      rotate_left
      · (intro w hSw; (try dsimp only at hSw); go_simp; try with_reducible rfl)
      try simp only [Act.put, List.setIfInBounds_toArray, List.set_cons_zero, List.set_cons_succ]
      refine wpAnyH_take (i := 5) (oi := { dst := some 23, op := Op.fieldAddr 60 (Operand.tmp 22) 2, type := 0, pos := "store.go:96", after := #[{ on := 4, ground := Ground.data }], guard := none }) (v := ?_) rfl (by kernel_rfl) (by kernel_rfl) (by kernel_rfl) (fun _ _ _ h => h) (Or.inl ⟨by rfl, ?_⟩) (by assumption) ?_
      rotate_left
      · (intro w hSw; (try dsimp only at hSw); go_simp; try with_reducible rfl)
      try simp only [Act.put, List.setIfInBounds_toArray, List.set_cons_zero, List.set_cons_succ]
      refine wpAnyH_take (i := 6) (oi := { dst := some 24, op := Op.indexAddr 58 (Operand.tmp 23) (Operand.tmp 21), type := 0, pos := "store.go:96", after := #[{ on := 5, ground := Ground.data }, { on := 3, ground := Ground.data }], guard := none }) (v := ?_) rfl (by kernel_rfl) (by kernel_rfl) (by kernel_rfl) (fun _ _ _ h => h) (Or.inl ⟨by rfl, ?_⟩) (by assumption) ?_
      rotate_left
      · (intro w hSw; (try dsimp only at hSw); go_simp; try with_reducible rfl)
      try simp only [Act.put, List.setIfInBounds_toArray, List.set_cons_zero, List.set_cons_succ]
      refine wpAnyH_take (i := 8) (oi := { dst := some 26, op := Op.nilCheck (Operand.tmp 18), type := 0, pos := "store.go:96", after := #[{ on := 0, ground := Ground.data }], guard := none }) (v := ?_) rfl (by kernel_rfl) (by kernel_rfl) (by kernel_rfl) (fun _ _ _ h => h) (Or.inl ⟨by rfl, ?_⟩) (by assumption) ?_
      rotate_left
      · (intro w hSw; (try dsimp only at hSw); go_simp; try with_reducible rfl)
      try simp only [Act.put, List.setIfInBounds_toArray, List.set_cons_zero, List.set_cons_succ]
      refine wpAnyH_take (i := 9) (oi := { dst := some 27, op := Op.fieldAddr 60 (Operand.tmp 26) 2, type := 0, pos := "store.go:96", after := #[{ on := 8, ground := Ground.data }], guard := none }) (v := ?_) rfl (by kernel_rfl) (by kernel_rfl) (by kernel_rfl) (fun _ _ _ h => h) (Or.inl ⟨by rfl, ?_⟩) (by assumption) ?_
      rotate_left
      · (intro w hSw; (try dsimp only at hSw); go_simp; try with_reducible rfl)
      try simp only [Act.put, List.setIfInBounds_toArray, List.set_cons_zero, List.set_cons_succ]
      refine wpAnyH_ready (rs := [7]) (by kernel_rfl) (by simp) ?_
      refine AllReadyH.cons (o := { dst := some 25, op := Op.call { callee := Callee.value (Operand.func 28), args := #[Operand.tmp 24], argTypes := #[57] }, type := 57, pos := "store.go:96", after := #[{ on := 6, ground := Ground.data }], guard := none }) rfl (fun K' hS' => ?_) AllReadyH.nil
      go_simp
      go_at_call 28; (with_reducible refine (cC _ hcur).mono ?_); rintro e w5 ⟨u5, rfl, hv5, hb5⟩; obtain ⟨A, j, c, rfl⟩ := lv_slice hv5; have HB5 := Lib.hid (Below.trans hcur (hb5.mono hcur.size)); have HV5 := Lib.hid (hv5.lo hcur.size); clear hv5 hb5
      (try go_wp2_with fail)
      refine hS'.out _ _ trivial (fun hHeld => ?_)
      clear hS' K'
      try simp only [Act.put, List.setIfInBounds_toArray, List.set_cons_zero, List.set_cons_succ]
      refine wpAnyH_take (i := 10) (oi := { dst := some 28, op := Op.indexAddr 58 (Operand.tmp 27) (Operand.tmp 19), type := 0, pos := "store.go:96", after := #[{ on := 9, ground := Ground.data }, { on := 1, ground := Ground.data }, { on := 0, ground := Ground.phase }, { on := 1, ground := Ground.phase }, { on := 2, ground := Ground.phase }, { on := 3, ground := Ground.phase }, { on := 4, ground := Ground.phase }, { on := 5, ground := Ground.phase }, { on := 6, ground := Ground.phase }, { on := 7, ground := Ground.phase }], guard := none }) (v := ?_) rfl (by kernel_rfl) (by kernel_rfl) (by kernel_rfl) (fun _ _ _ h => h) (Or.inl ⟨by rfl, ?_⟩) (by assumption) ?_
      rotate_left
      · (intro w hSw; (try dsimp only at hSw); go_simp; try with_reducible rfl)
      try simp only [Act.put, List.setIfInBounds_toArray, List.set_cons_zero, List.set_cons_succ]
      refine wpAnyH_ready (rs := [11]) (by kernel_rfl) (by simp) ?_
      refine AllReadyH.cons (o := { dst := none, op := Op.store 57 (Operand.tmp 28) (Operand.tmp 25), type := 0, pos := "store.go:96", after := #[{ on := 10, ground := Ground.data }, { on := 7, ground := Ground.data }, { on := 7, ground := Ground.chain }, { on := 0, ground := Ground.phase }, { on := 1, ground := Ground.phase }, { on := 2, ground := Ground.phase }, { on := 3, ground := Ground.phase }, { on := 4, ground := Ground.phase }, { on := 5, ground := Ground.phase }, { on := 6, ground := Ground.phase }, { on := 7, ground := Ground.phase }], guard := none }) rfl (fun K' hS' => ?_) AllReadyH.nil
      have f5 := HF.out.below HB5.out
      have q0 := f5.cell 4
      have q1 := f5.cell 5
      have r0 := f5.free 4
      have r1 := f5.free 5
      clear f5
      go_simp
      (try go_wp2_with fail)
      clear q0 q1 r0 r1
      refine hS'.out _ _ trivial (fun hHeld => ?_)
      clear hS' K'
      try simp only [Act.put, List.setIfInBounds_toArray, List.set_cons_zero, List.set_cons_succ]
      refine wpAnyH_done (by kernel_rfl) ?_ _
      refine NoPanic.normal ?_
      go_wp2_with fail
      go_roundg 1
      case measure => exact Nat.lt_succ_self _
      case rel => exact cy_end1 HB.out HF.out HL0.out HB5.out HV5.out HRS1.out
    · subst hg
      have HF := Lib.hid hf
      have HL0 := Lib.hid hL0
      have HL1 := Lib.hid hL1
      have HD01 := Lib.hid hd01
      have cC := fun w5 (hb5 : Below wr.heap.size wr w5) => CC2.out w5 (HB.out.trans (hb5.mono HB.out.size))
      clear hf hL0 hL1 hd01
      go_wp2_with fail
      have hcur : Below wr.heap.size wr wr := Below.refl _ _
      refine wp_region_noPanic ?_
      refine wp_region_held_drew (S := fun _ => True) (by kernel_rfl) trivial (fun hHeld => ?_)
      replace hcur := Below.drew hcur
      refine wpAnyH_take (i := 0) (oi := { dst := some 18, op := Op.move (Operand.tmp 3), type := 24, pos := "store.go:96", after := #[], guard := none }) (v := ?_) rfl (by kernel_rfl) (by kernel_rfl) (by kernel_rfl) (fun _ _ _ h => h) (Or.inl ⟨by rfl, ?_⟩) (by assumption) ?_
      rotate_left
      · (intro w hSw; (try dsimp only at hSw); go_simp; try with_reducible rfl)
      try simp only [Act.put, List.setIfInBounds_toArray, List.set_cons_zero, List.set_cons_succ]
      refine wpAnyH_take (i := 1) (oi := { dst := some 19, op := Op.move (Operand.tmp 4), type := 3, pos := "store.go:96", after := #[], guard := none }) (v := ?_) rfl (by kernel_rfl) (by kernel_rfl) (by kernel_rfl) (fun _ _ _ h => h) (Or.inl ⟨by rfl, ?_⟩) (by assumption) ?_
      rotate_left
      · (intro w hSw; (try dsimp only at hSw); go_simp; try with_reducible rfl)
      try simp only [Act.put, List.setIfInBounds_toArray, List.set_cons_zero, List.set_cons_succ]
      refine wpAnyH_take (i := 2) (oi := { dst := some 20, op := Op.move (Operand.tmp 0), type := 24, pos := "store.go:96", after := #[], guard := none }) (v := ?_) rfl (by kernel_rfl) (by kernel_rfl) (by kernel_rfl) (fun _ _ _ h => h) (Or.inl ⟨by rfl, ?_⟩) (by assumption) ?_
      rotate_left
      · (intro w hSw; (try dsimp only at hSw); go_simp; try with_reducible rfl)
      try simp only [Act.put, List.setIfInBounds_toArray, List.set_cons_zero, List.set_cons_succ]
      refine wpAnyH_take (i := 3) (oi := { dst := some 21, op := Op.move (Operand.tmp 4), type := 3, pos := "store.go:96", after := #[], guard := none }) (v := ?_) rfl (by kernel_rfl) (by kernel_rfl) (by kernel_rfl) (fun _ _ _ h => h) (Or.inl ⟨by rfl, ?_⟩) (by assumption) ?_
      rotate_left
      · (intro w hSw; (try dsimp only at hSw); go_simp; try with_reducible rfl)
      try simp only [Act.put, List.setIfInBounds_toArray, List.set_cons_zero, List.set_cons_succ]
      refine wpAnyH_take (i := 4) (oi := { dst := some 22, op := Op.nilCheck (Operand.tmp 20), type := 0, pos := "store.go:96", after := #[{ on := 2, ground := Ground.data }], guard := none }) (v := ?_) rfl (by kernel_rfl) (by kernel_rfl) (by kernel_rfl) (fun _ _ _ h => h) (Or.inl ⟨by rfl, ?_⟩) (by assumption) ?_
      rotate_left
      · (intro w hSw; (try dsimp only at hSw); go_simp; try with_reducible rfl)
      try simp only [Act.put, List.setIfInBounds_toArray, List.set_cons_zero, List.set_cons_succ]
      refine wpAnyH_take (i := 5) (oi := { dst := some 23, op := Op.fieldAddr 60 (Operand.tmp 22) 2, type := 0, pos := "store.go:96", after := #[{ on := 4, ground := Ground.data }], guard := none }) (v := ?_) rfl (by kernel_rfl) (by kernel_rfl) (by kernel_rfl) (fun _ _ _ h => h) (Or.inl ⟨by rfl, ?_⟩) (by assumption) ?_
      rotate_left
      · (intro w hSw; (try dsimp only at hSw); go_simp; try with_reducible rfl)
      try simp only [Act.put, List.setIfInBounds_toArray, List.set_cons_zero, List.set_cons_succ]
      refine wpAnyH_take (i := 6) (oi := { dst := some 24, op := Op.indexAddr 58 (Operand.tmp 23) (Operand.tmp 21), type := 0, pos := "store.go:96", after := #[{ on := 5, ground := Ground.data }, { on := 3, ground := Ground.data }], guard := none }) (v := ?_) rfl (by kernel_rfl) (by kernel_rfl) (by kernel_rfl) (fun _ _ _ h => h) (Or.inl ⟨by rfl, ?_⟩) (by assumption) ?_
      rotate_left
      · (intro w hSw; (try dsimp only at hSw); go_simp; try with_reducible rfl)
      try simp only [Act.put, List.setIfInBounds_toArray, List.set_cons_zero, List.set_cons_succ]
      refine wpAnyH_take (i := 8) (oi := { dst := some 26, op := Op.nilCheck (Operand.tmp 18), type := 0, pos := "store.go:96", after := #[{ on := 0, ground := Ground.data }], guard := none }) (v := ?_) rfl (by kernel_rfl) (by kernel_rfl) (by kernel_rfl) (fun _ _ _ h => h) (Or.inl ⟨by rfl, ?_⟩) (by assumption) ?_
      rotate_left
      · (intro w hSw; (try dsimp only at hSw); go_simp; try with_reducible rfl)
      try simp only [Act.put, List.setIfInBounds_toArray, List.set_cons_zero, List.set_cons_succ]
      refine wpAnyH_take (i := 9) (oi := { dst := some 27, op := Op.fieldAddr 60 (Operand.tmp 26) 2, type := 0, pos := "store.go:96", after := #[{ on := 8, ground := Ground.data }], guard := none }) (v := ?_) rfl (by kernel_rfl) (by kernel_rfl) (by kernel_rfl) (fun _ _ _ h => h) (Or.inl ⟨by rfl, ?_⟩) (by assumption) ?_
      rotate_left
      · (intro w hSw; (try dsimp only at hSw); go_simp; try with_reducible rfl)
      try simp only [Act.put, List.setIfInBounds_toArray, List.set_cons_zero, List.set_cons_succ]
      refine wpAnyH_ready (rs := [7]) (by kernel_rfl) (by simp) ?_
      refine AllReadyH.cons (o := { dst := some 25, op := Op.call { callee := Callee.value (Operand.func 28), args := #[Operand.tmp 24], argTypes := #[57] }, type := 57, pos := "store.go:96", after := #[{ on := 6, ground := Ground.data }], guard := none }) rfl (fun K' hS' => ?_) AllReadyH.nil
      go_simp
      go_at_call 28; (with_reducible refine (cC _ hcur).mono ?_); rintro e w5 ⟨u5, rfl, hv5, hb5⟩; obtain ⟨A, j, c, rfl⟩ := lv_slice hv5; have HB5 := Lib.hid (Below.trans hcur (hb5.mono hcur.size)); have HV5 := Lib.hid (hv5.lo hcur.size); clear hv5 hb5
      (try go_wp2_with fail)
      refine hS'.out _ _ trivial (fun hHeld => ?_)
      clear hS' K'
      try simp only [Act.put, List.setIfInBounds_toArray, List.set_cons_zero, List.set_cons_succ]
      refine wpAnyH_take (i := 10) (oi := { dst := some 28, op := Op.indexAddr 58 (Operand.tmp 27) (Operand.tmp 19), type := 0, pos := "store.go:96", after := #[{ on := 9, ground := Ground.data }, { on := 1, ground := Ground.data }, { on := 0, ground := Ground.phase }, { on := 1, ground := Ground.phase }, { on := 2, ground := Ground.phase }, { on := 3, ground := Ground.phase }, { on := 4, ground := Ground.phase }, { on := 5, ground := Ground.phase }, { on := 6, ground := Ground.phase }, { on := 7, ground := Ground.phase }], guard := none }) (v := ?_) rfl (by kernel_rfl) (by kernel_rfl) (by kernel_rfl) (fun _ _ _ h => h) (Or.inl ⟨by rfl, ?_⟩) (by assumption) ?_
      rotate_left
      · (intro w hSw; (try dsimp only at hSw); go_simp; try with_reducible rfl)
      try simp only [Act.put, List.setIfInBounds_toArray, List.set_cons_zero, List.set_cons_succ]
      refine wpAnyH_ready (rs := [11]) (by kernel_rfl) (by simp) ?_
      refine AllReadyH.cons (o := { dst := none, op := Op.store 57 (Operand.tmp 28) (Operand.tmp 25), type := 0, pos := "store.go:96", after := #[{ on := 10, ground := Ground.data }, { on := 7, ground := Ground.data }, { on := 7, ground := Ground.chain }, { on := 0, ground := Ground.phase }, { on := 1, ground := Ground.phase }, { on := 2, ground := Ground.phase }, { on := 3, ground := Ground.phase }, { on := 4, ground := Ground.phase }, { on := 5, ground := Ground.phase }, { on := 6, ground := Ground.phase }, { on := 7, ground := Ground.phase }], guard := none }) rfl (fun K' hS' => ?_) AllReadyH.nil
      have f5 := HF.out.below HB5.out
      have q0 := f5.cell 6
      have q1 := f5.cell 7
      have r0 := f5.free 6
      have r1 := f5.free 7
      clear f5
      go_simp
      (try go_wp2_with fail)
      clear q0 q1 r0 r1
      refine hS'.out _ _ trivial (fun hHeld => ?_)
      clear hS' K'
      try simp only [Act.put, List.setIfInBounds_toArray, List.set_cons_zero, List.set_cons_succ]
      refine wpAnyH_done (by kernel_rfl) ?_ _
      refine NoPanic.normal ?_
      go_wp2_with fail
      go_roundg 0
      case measure => exact Nat.lt_succ_self _
      case rel => exact cy_end2 HB.out HF.out HL0.out HL1.out HD01.out HB5.out HV5.out HRS2.out
    · subst hg
      have HS := Lib.hid (And.intro hf (And.intro hL0 (And.intro hL1 (And.intro hL2 (And.intro hd01 (And.intro hd02 hd12))))))
      clear hf hL0 hL1 hL2 hd01 hd02 hd12
      go_wp2
      go_ret
      obtain ⟨hf, hL0, hL1, hL2, hd01, hd02, hd12⟩ := HS.out
      exact ⟨rfl, HB.out, _, y0, y1, y2, l0, l1, l2, G0, G1, G2, ⟨hf, Nat.le_refl _, hL0, hL1, hL2, HP.out.1, HP.out.2.1, HP.out.2.2, hd01, hd02, hd12⟩, rfl⟩
end Go.Proofs.Ytoiigplflmejmaa
namespace Go.Proofs.Ytoiigplflmejmaa
open Go.RowKit
set_option linter.unusedVariables false
set_option linter.unusedSimpArgs false
set_option maxRecDepth 100000

/-- A store's blocks are not touched. -/
theorem Sz.on {B d : Nat} {room many : Int} {m : List Kt} {F : List Nat} {W W' : World} (h : Sz B d room many m F W) (hd : W'.heap[d]? = W.heap[d]?) (hF : ∀ q ∈ F, q < W.heap.size → W'.heap[q]? = W.heap[q]?) : Sz B d room many m F W' := by
  obtain ⟨x0, x1, x2, l0, l1, l2, F0, F1, F2, s, rfl⟩ := h
  have hl : ∀ {o : Nat} {nn : Int} {x : Value} {l : List Kt} {G : List Nat}, Lx B W d o nn x l G → (∀ q ∈ G, q ∈ F0 ++ (F1 ++ F2)) → Lx B W' d o nn x l G := fun {o nn x l G} hx hG =>
    hx.keep (World.cell?_of_block (w := W) hd) (World.cell?_of_block (w := W) hd) (fun q hq => hF q (hG q hq) (hx.ge q hq).2)
  exact ⟨x0, x1, x2, l0, l1, l2, F0, F1, F2, ⟨hd.trans s.fb, s.hd, hl s.a0 (fun q hq => by simp [hq]), hl s.a1 (fun q hq => by simp [hq]), hl s.a2 (fun q hq => by simp [hq]), s.p0, s.p1, s.p2, s.d01, s.d02, s.d12⟩, rfl⟩
theorem Lx.lo {B N : Nat} {W : World} {d o : Nat} {n : Int} {x : Value} {l : List Kt} {F : List Nat} (h : Lx N W d o n x l F) (hB : B ≤ N) : Lx B W d o n x l F := by
  obtain ⟨h0, h1, h⟩ := h
  refine ⟨h0, h1, ?_⟩
  rcases h with h | ⟨gb, cb, v, g, hx, hvg, hF, hm, hp, hs, hge, hc⟩
  · exact .inl h
  · exact .inr ⟨gb, cb, v, g, hx, hvg, hF, ⟨hm.h0, hm.h1, hm.hb, row_lo hm.hr hB⟩, hp, hs, Nat.le_trans hB hge, hc⟩
theorem Sz.lo {B N d : Nat} {room many : Int} {m : List Kt} {F : List Nat} {W : World} (h : Sz N d room many m F W) (hB : B ≤ N) : Sz B d room many m F W := by
  obtain ⟨x0, x1, x2, l0, l1, l2, F0, F1, F2, s, rfl⟩ := h
  exact ⟨x0, x1, x2, l0, l1, l2, F0, F1, F2, ⟨s.fb, Nat.le_trans hB s.hd, s.a0.lo hB, s.a1.lo hB, s.a2.lo hB, s.p0, s.p1, s.p2, s.d01, s.d02, s.d12⟩, rfl⟩
theorem Sz.ge {B d : Nat} {room many : Int} {m : List Kt} {F : List Nat} {W : World} (h : Sz B d room many m F W) : ∀ q ∈ F, B ≤ q ∧ q < W.heap.size := by
  obtain ⟨x0, x1, x2, l0, l1, l2, F0, F1, F2, s, rfl⟩ := h
  intro q hq
  simp at hq
  rcases hq with hq | hq | hq
  · exact s.a0.ge q hq
  · exact s.a1.ge q hq
  · exact s.a2.ge q hq
theorem Sz.fb {B d : Nat} {room many : Int} {m : List Kt} {F : List Nat} {W : World} (h : Sz B d room many m F W) : ∃ cs, Fb W d 60 cs := by
  obtain ⟨x0, x1, x2, l0, l1, l2, F0, F1, F2, s, rfl⟩ := h
  exact ⟨_, s.fb⟩
theorem Sz.far {B d : Nat} {room many : Int} {m : List Kt} {F : List Nat} {W : World} (h : Sz B d room many m F W) {q : Nat} {t : TypeId} {cs : Array Value} (hq : Fb W q t cs) (h1 : t ≠ 70) (h2 : t ≠ 37) : q ∉ F := by
  obtain ⟨x0, x1, x2, l0, l1, l2, F0, F1, F2, s, rfl⟩ := h
  simp
  exact ⟨s.a0.far hq h1 h2, s.a1.far hq h1 h2, s.a2.far hq h1 h2⟩
/-- Both stores; the document's. -/
structure Tw (w : World) (B d dc gm gn : Nat) (m L n N : List Kt) (A : Option Addr) (c : Nat) (A' : Option Addr) (c' : Nat) (W : World) : Prop where
  b : Below w.heap.size w W
  st : ∃ F G, Sz B d 50 (m.length : Int) m F W ∧ Sz B dc 50 (n.length : Int) n G W ∧ ∀ q ∈ F, q ∉ G
  ne : d ≠ dc
  mx : Fb W gm 30 #[.int .i64 50, .slice A L.length c]
  mr : KtD B W (.slice A L.length c) L
  nx : Fb W gn 30 #[.int .i64 50, .slice A' N.length c']
  nr : KtD B W (.slice A' N.length c') N
  gne : gm ≠ gn
  hm : B ≤ gm
  hn : B ≤ gn
  wB : w.heap.size ≤ B
section
variable {w : World} {B d dc gm gn : Nat} {m L n N : List Kt} {A A' : Option Addr} {c c' : Nat} {W W' : World}
theorem Tw.swap (h : Tw w B d dc gm gn m L n N A c A' c' W) : Tw w B dc d gn gm n N m L A' c' A c W := by
  obtain ⟨F, G, h1, h2, h3⟩ := h.st
  exact ⟨h.b, ⟨G, F, h2, h1, fun q hq hm => h3 q hm hq⟩, h.ne.symm, h.nx, h.nr, h.mx, h.mr, h.gne.symm, h.hn, h.hm, h.wB⟩
theorem Tw.below (h : Tw w B d dc gm gn m L n N A c A' c' W) (hb : Below W.heap.size W W') : Tw w B d dc gm gn m L n N A c A' c' W' := by
  obtain ⟨F, G, h1, h2, h3⟩ := h.st
  exact ⟨h.b.trans (hb.mono h.b.size), ⟨F, G, h1.below hb, h2.below hb, h3⟩, h.ne, h.mx.below hb, h.mr.below hb, h.nx.below hb, h.nr.below hb, h.gne, h.hm, h.hn, h.wB⟩
theorem Tw.alloc (h : Tw w B d dc gm gn m L n N A c A' c' W) (o : Obj) : Tw w B d dc gm gn m L n N A c A' c' (W.alloc o) := h.below ((Below.refl _ _).alloc (Nat.le_refl _) o)
/-- What a call of one store leaves. -/
def TwP (w : World) (B d dc gm gn : Nat) (L n N : List Kt) (A : Option Addr) (c : Nat) (A' : Option Addr) (c' : Nat) (W : World) (r : List Kt × Int) (e : Ending) (W' : World) : Prop :=
  e = .returned (.int .i64 r.2) ∧ Tw w B d dc gm gn r.1 L n N A c A' c' W' ∧ ∀ ga cs, Fb W ga 33 cs → Fb W' ga 33 cs
theorem Tw.act {F G : List Nat} {r : List Kt × Int} {e : Ending} (h : Tw w B d dc gm gn m L n N A c A' c' W) (h1 : Sz B d 50 (m.length : Int) m F W) (h2 : Sz B dc 50 (n.length : Int) n G W) (h3 : ∀ q ∈ F, q ∉ G) (ha : SaddF B d 50 W F r e W') : TwP w B d dc gm gn L n N A c A' c' W r e W' := by
  obtain ⟨he, F', hS, hK, hT, hN⟩ := ha
  obtain ⟨cs, hdc⟩ := h2.fb
  obtain ⟨ds, hd⟩ := h1.fb
  refine ⟨he, ⟨⟨hK.os.trans h.b.os, hK.tape.trans h.b.tape, hK.output.trans h.b.output, Nat.le_trans h.b.size hK.size, fun q hq => (hK.low q (Nat.lt_of_lt_of_le hq h.wB)).trans (h.b.block q hq)⟩, ⟨F', G, hS, h2.on (hT dc hdc.lt h.ne.symm (h1.far hdc (by decide) (by decide))) (fun q hq hl => hT q hl (fun e => h2.far hd (by decide) (by decide) (e ▸ hq)) (fun hm => h3 q hm hq)), fun q hq hm => ?_⟩, h.ne, hK.keep h.mx (by decide) (by decide) (by decide), row_heapB h.mr (fun g cur _ hg => hK.keep (t := 31) hg (by decide) (by decide) (by decide)), hK.keep h.nx (by decide) (by decide) (by decide), row_heapB h.nr (fun g cur _ hg => hK.keep (t := 31) hg (by decide) (by decide) (by decide)), h.gne, h.hm, h.hn, h.wB⟩, fun ga cs hf => hK.keep hf (by decide) (by decide) (by decide)⟩
  rcases hN q hq with hF | hge
  · exact h3 q hF hm
  · have := (h2.ge q hm).2; omega
theorem Tw.add (h : Tw w B d dc gm gn m L n N A c A' c' W) (hml : m.length ≤ 200) (k : Kt) : Calls Try.prog 11 #[.pointer (some ⟨d, 0, none⟩), .agg #[.int .i64 k.a, .int .i64 k.b, .int .i64 k.c]] W (TwP w B d dc gm gn L n N A c A' c' W (addR 50 m k)) := by
  obtain ⟨F, G, h1, h2, h3⟩ := h.st
  exact (saddF_sx h1 hml k).mono fun e w' ha => h.act h1 h2 h3 ha
theorem Tw.rem (h : Tw w B d dc gm gn m L n N A c A' c' W) (hml : m.length ≤ 200) (k : Kt) : Calls Try.prog 13 #[.pointer (some ⟨d, 0, none⟩), .agg #[.int .i64 k.a, .int .i64 k.b, .int .i64 k.c]] W (TwP w B d dc gm gn L n N A c A' c' W (remR m k)) := by
  obtain ⟨F, G, h1, h2, h3⟩ := h.st
  exact (sremF_sx h1 hml k).mono fun e w' ha => h.act h1 h2 h3 ha
/-- The document's store is stored. -/
theorem Tw.setm {A2 : Option Addr} {c2 : Nat} {L2 : List Kt} (h : Tw w B d dc gm gn m L n N A c A' c' W) (hr : KtD B W (.slice A2 L2.length c2) L2) : Tw w B d dc gm gn m L2 n N A2 c2 A' c' ((W.setCell ⟨gm, 0, none⟩ (.int .i64 50)).setCell ⟨gm, 1, none⟩ (.slice A2 L2.length c2)) := by
  have hf := (h.mx.set 0 (.int .i64 50)).set 1 (.slice A2 L2.length c2)
  have hb : ∀ q, q ≠ gm → ((W.setCell ⟨gm, 0, none⟩ (.int .i64 50)).setCell ⟨gm, 1, none⟩ (.slice A2 L2.length c2)).heap[q]? = W.heap[q]? := fun q hn => (Below.heap_setCell _ _ _ _ hn).trans (Below.heap_setCell _ _ _ _ hn)
  obtain ⟨F, G, h1, h2, h3⟩ := h.st
  obtain ⟨cs, hdc⟩ := h2.fb
  obtain ⟨ds, hd⟩ := h1.fb
  have hrow : ∀ (g : Nat) (cur : Array Value), W.heap[g]? = some (.cells cur 31 (0, 0)) → ((W.setCell ⟨gm, 0, none⟩ (.int .i64 50)).setCell ⟨gm, 1, none⟩ (.slice A2 L2.length c2)).heap[g]? = some (.cells cur 31 (0, 0)) := fun g cur hg => fb_set_far (h.mx.set 0 (.int .i64 50)) (by decide) _ g cur (fb_set_far h.mx (by decide) _ g cur hg)
  refine ⟨Below.setCell (Below.setCell h.b (p := ⟨gm, 0, none⟩) (Nat.le_trans h.wB h.hm) _) (p := ⟨gm, 1, none⟩) (Nat.le_trans h.wB h.hm) _, ⟨F, G, h1.on (hb d (fb_ty_ne hd h.mx (by decide))) (fun q hq _ => hb q (fun e => h1.far h.mx (by decide) (by decide) (e ▸ hq))), h2.on (hb dc (fb_ty_ne hdc h.mx (by decide))) (fun q hq _ => hb q (fun e => h2.far h.mx (by decide) (by decide) (e ▸ hq))), h3⟩, h.ne, hf, row_heapB hr (fun g cur _ hg => hrow g cur hg), (hb gn h.gne.symm).trans h.nx, row_heapB h.nr (fun g cur _ hg => hrow g cur hg), h.gne, h.hm, h.hn, h.wB⟩
theorem Tw.cm (h : Tw w B d dc gm gn m L n N A c A' c' W) : W.cell? ⟨gm, 0, none⟩ = some (.int .i64 50) ∧ W.cell? ⟨gm, 1, none⟩ = some (.slice A L.length c) ∧ W.frozen? ⟨gm, 0, none⟩ = false ∧ W.frozen? ⟨gm, 1, none⟩ = false := ⟨h.mx.cell 0, h.mx.cell 1, h.mx.free 0, h.mx.free 1⟩
theorem Tw.scanned (h : Tw w B d dc gm gn m L n N A c A' c' W) (hm : m.length ≤ 1000) (hp : L.Perm m) (hn : ∀ k ∈ m, nnK k) (p : Kt) (most : Int) :
    Calls Try.prog 14 #[.pointer (some ⟨d, 0, none⟩), .agg #[.int .i64 50, .slice A L.length c], .agg #[.int .i64 p.a, .int .i64 p.b, .int .i64 p.c], .int .i64 most] W fun e w' => e = .returned (.bool true) ∧ Below W.heap.size W w' := by
  obtain ⟨F, G, h1, h2, h3⟩ := h.st
  exact scanned_any h1.sx hm h.mr hp hn p 50 most
end
end Go.Proofs.Ytoiigplflmejmaa
