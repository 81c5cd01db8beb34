/-
  THE DOCUMENT's STORE: Remove.
-/
import Derived.Test.YtoiigplflmejmaaSKaddC
import Derived.Test.YtoiigplflmejmaaSKput
import Derived.Test.YtoiigplflmejmaaSRemS
import Derived.Deep.RegionHeldLaw
import Derived.Deep.CutBlock
namespace Go.Proofs.Ytoiigplflmejmaa
open Go.RowKit
set_option linter.unusedVariables false
set_option linter.unusedSimpArgs false
set_option maxRecDepth 100000

theorem step_app_tail {ops : Array Oper} {o : Oper} {a : Act} {w : World} {K : Act → World → Prop} {Q : Exit → Act → World → Prop} {E : Prop} (hgd : o.guard = none) (s x : Operand) (ho : o.op = .call { callee := .builtin .append, args := #[s, x], argTypes := #[28, 28] })
    {B c' : Nat} {v : Value} {A' : Option Addr} {l new : List Kt} (hs : a.eval s = v) (hx : a.eval x = .slice A' new.length c') (hv : KtD B w v l) (hu : TailAt w A' new) (hz : l.length + new.length ≤ 100000) (hB : B ≤ w.heap.size)
    (h : ∀ v' w', KtD B w' v' (l ++ new) → w.grownBy w' v.ownBlock → (∀ k, v'.ownBlock = some k → v.ownBlock = some k ∨ w.heap.size ≤ k) → K (a.put o.dst v') w') : if Region.wanted o (yielded ops a.tmps) = true then Oper.wp Try.prog o a w K Q else E := by
  obtain ⟨iT, hT0, hT1, hT2, hT3⟩ := info_parts arrZ
  have hw : Region.wanted o (yielded ops a.tmps) = true := by simp [Region.wanted, hgd]
  rw [if_pos hw]
  refine wp_app_at s x 28 ho 31 iT (.agg #[.int .i64 0, .int .i64 0, .int .i64 0]) 3 24 Try.underlying28 hT0 hT1 hT2 hT3 rfl (by decide) (by decide) hs hx hv ?_ hu (ktc_one _) hz hB fun v' w' h1 h2 h3 => h v' w' ?_ h2 h3
  · rw [flat_len]
  · unfold KtD
    rw [List.length_append, List.flatMap_append]
    exact h1
theorem KtD.head {B : Nat} {W : World} {A : Option Addr} {c : Nat} {L : List Kt} (h : KtD B W (.slice A L.length c) L) (i : Nat) (hi : i ≤ L.length) : KtD B W (.slice A i c) (L.take i) := by
  have hl : (L.take i).length = i := by rw [List.length_take]; omega
  unfold KtD
  rw [hl, flat_takeK]
  rcases id h.2 with ⟨hv, h0⟩ | ⟨g, cap, cur, hv, hge, hg, hnc, hcm, hcz, hct⟩
  · injection hv with e1 e2 e3
    have h0' : L = [] := List.length_eq_zero_iff.1 e2
    subst h0'
    obtain rfl : i = 0 := by simpa using hi
    subst e1 e3
    exact World.ownsRow_nil _ _ _ _
  · injection hv with e1 e2 e3
    subst e1 e3
    refine ⟨by rw [List.length_take, flat_len]; omega, .inr ⟨g, c, cur, rfl, hge, hg, by omega, hcm, hcz, ?_⟩⟩
    rw [← hct, List.take_take, show min (i * 3) (L.length * 3) = i * 3 by omega]
theorem erase_at {L : List Kt} {k : Kt} {i : Nat} (h1 : L[i]? = some k) (h2 : k ∉ L.take i) : L.take i ++ L.drop (i + 1) = L.erase k := by
  have hi := (List.getElem?_eq_some_iff.1 h1).1
  have e : L = L.take i ++ k :: L.drop (i + 1) := by
    conv => lhs; rw [← List.take_append_drop i L, List.drop_eq_getElem_cons hi]
    rw [(List.getElem?_eq_some_iff.1 h1).2]
  conv => rhs; rw [e]
  rw [List.erase_append_right _ h2, List.erase_cons_head]
noncomputable def remD (L : List Kt) (k : Kt) : List Kt × Int := if k ∈ L then (L.erase k, 0) else (L, 4)
theorem rem_both {m L : List Kt} (h : L.Perm m) (k : Kt) : (remD L k).1.Perm (remR m k).1 ∧ (remD L k).2 = (remR m k).2 := by
  unfold remD remR
  by_cases h2 : k ∈ L
  · rw [if_pos h2, if_pos (h.mem_iff.1 h2)]; exact ⟨h.erase k, rfl⟩
  · rw [if_neg h2, if_neg (fun e => h2 (h.mem_iff.2 e))]; exact ⟨h, rfl⟩
theorem remR_nn {m : List Kt} {k : Kt} (h : ∀ x ∈ m, nnK x) : ∀ x ∈ (remR m k).1, nnK x := by
  unfold remR
  split
  · exact fun x hx => h x (List.mem_of_mem_erase hx)
  · exact h
theorem remR_len {m : List Kt} {k : Kt} : (remR m k).1.length ≤ m.length := by
  unfold remR
  split
  · exact List.length_erase_le
  · exact Nat.le_refl _
set_option maxHeartbeats 16000000 in
theorem krem_any {B : Nat} {W : World} {v : Value} {L : List Kt} (hL : KtD B W v L) (hB : B ≤ W.heap.size) (hl : L.length ≤ 1000) (room : Int) (k : Kt) :
    Calls Try.prog 12 #[.agg #[.int .i64 room, v], .agg #[.int .i64 k.a, .int .i64 k.b, .int .i64 k.c]] W (KaddP B W room (remD L k)) := by
  obtain ⟨A, c, rfl⟩ := hL.shape
  have hcc : L.length ≤ c := by
    obtain ⟨A', c', e, hc⟩ := row_shape hL
    injection e with e1 e2 e3
    omega
  have cF := fun {w : World} (h : KtD B w (.slice A L.length c) L) => kfind_any h (by omega) room k
  obtain ⟨W2, hW2⟩ : ∃ W2, W2 = ((W.alloc (.cells #[.int .i64 room, .slice A L.length c] 30)).alloc (.cells #[.int .i64 k.a, .int .i64 k.b, .int .i64 k.c] 31)).alloc (.cells #[.int .i64 0, .slice none 0 0] 30) := ⟨_, rfl⟩
  have hX := kx3_at (W := W) room (.slice A L.length c) #[.int .i64 k.a, .int .i64 k.b, .int .i64 k.c]
  rw [← hW2] at hX
  have cF2 := cF (hL.below hX.b)
  have HX := Lib.hid hX
  have HL := Lib.hid (hL.below hX.b)
  have HW2 := Lib.hid hW2
  by_cases hk : k ∈ L
  · obtain ⟨i, hi, hat, hnt⟩ := fromD_at k L 0 hk
    rw [Nat.zero_add] at hi
    have hfd : findD L k = (i : Int) := hi
    rw [hfd, hW2] at cF2
    have hil := (List.getElem?_eq_some_iff.1 hat).1
    have HE := Lib.hid (show remD L k = (L.take i ++ L.drop (i + 1), 0) from by unfold remD; rw [if_pos hk, erase_at hat hnt])
    have hi0 : (0 : Int) ≤ (i : Int) := by omega
    have hin : ¬ (i : Int) < 0 := by omega
    have b1 : (i : Int) ≤ (c : Int) := by omega
    have b2 : (i : Int) + 1 ≤ (L.length : Int) := by omega
    have b3 : (L.length : Int) ≤ (c : Int) := by omega
    have HBB := Lib.hid hB
    have HLL := Lib.hid hl
    obtain ⟨j, hj⟩ : ∃ j, j = i + 1 := ⟨_, rfl⟩
    have HJ := Lib.hid hj
    have HIL := Lib.hid hil
    have hwj : wrap64 ((i : Int) + 1) = (j : Int) := by rw [IntWalk.wrap64_in _ ⟨by omega, by omega⟩, hj, Int.natCast_succ]
    have hwj2 : IntKind.i64.wrap ((i : Int) + 1) = (j : Int) := by rw [IntKind.wrap_i64]; omega
    have b4 : (j : Int) ≤ (L.length : Int) := by omega
    have b5 : (0 : Int) ≤ (j : Int) := by omega
    have HTK := Lib.hid (show (L.take i).length = i from by rw [List.length_take]; omega)
    have HDK := Lib.hid (show (L.drop j).length = L.length - j from List.length_drop)
    rw [← hj] at HE
    obtain ⟨r, hr⟩ : ∃ r, r = (L.take i ++ L.drop j).length := ⟨_, rfl⟩
    have HRL := Lib.hid (show (([] : List Kt) ++ L.take i ++ L.drop j).length = r from by rw [hr, List.nil_append])
    clear hr
    obtain ⟨gb, cb, ev, _, _, _, _⟩ := ktD_at hL hat
    injection ev with ev1 ev2 ev3
    subst ev1
    clear ev2 ev3
    by_cases hcj : c = j
    · have HNW := Lib.hid (show L.drop j = [] from List.drop_of_length_le (by omega))
      have hcj2 : j = c := hcj.symm
      subst hcj2
      clear hL hX cF hfd hk hB hl hcc hW2 hi hat hnt hil hj
      go_enter Try.func12, Try.ntmps12
      go_upto_region 4 with (go_at_call 16; (with_reducible refine cF2.mono ?_); rintro e w5 ⟨rfl, hb5⟩; rw [← HW2.out] at hb5; have hX5 := HX.out.below hb5; have HB5 := Lib.hid hb5; obtain ⟨u0, u1, uf, ul⟩ := hX5.c2; have HX5 := Lib.hid hX5; clear hb5 hX5)
      have HL5 := Lib.hid (HL.out.below HB5.out)
      have hpa1 := fun o : Obj => (HX5.out.alloc o).x2.cell 1
      simp at hpa1
      clear cF2
      go_cut [] from 13 (fun wx => ∃ A8 c8, Kx3 W W.heap.size (W.heap.size + 1) (W.heap.size + 1 + 1) room (.slice A8 r c8) #[.int .i64 k.a, .int .i64 k.b, .int .i64 k.c] wx ∧ KtD W2.heap.size wx (.slice A8 r c8) (L.take i ++ L.drop j))
      case first =>
        go_region_law
          (first
          | (refine step_app_kd rfl (.tmp 13) (.tmp 17) rfl (B := w5.heap.size) (N := B) (v := .slice (some ⟨w5.heap.size, 0, none⟩) 0 0) (u := .slice (some ⟨gb, 0, none⟩) i j) (l := []) (new := L.take i) ?fap ?fbp (emp_hD (heap_alloc_new _ _) (Nat.le_refl _)) (row_below (KtD.head HL5.out i (by have := HIL.out; omega)) (by (repeat (first | exact Below.refl _ _ | assumption | refine Below.drew ?_ | refine below_drewP ?_ _ | refine Below.alloc ?_ (by first | exact Nat.le_refl _ | exact hB7.size | (simp; done) | (simp; omega) | (have := hB7.size; simp; omega)) _)))) (by rw [HTK.out]; have := HIL.out; have := HLL.out; simp; omega) (by first | (simp; done) | (simp; omega)) ?_; (case fap => (first | (simp [Act.eval] <;> fail) | (simp [Act.eval, Act.put] <;> fail))); (case fbp => (first | (simp [Act.eval] <;> fail) | (simp [Act.eval, Act.put] <;> fail))); intro v7 w7 hr7 hg7 hf7; have hB7 : Below w5.heap.size w5 w7 := Below.grown (by (repeat (first | exact Below.refl _ _ | assumption | refine Below.drew ?_ | refine below_drewP ?_ _ | refine Below.alloc ?_ (by first | exact Nat.le_refl _ | exact hB7.size | (simp; done) | (simp; omega) | (have := hB7.size; simp; omega)) _))) hg7 (by first | (simp; done) | (simp; omega)) (fun k hk => by have e : some (w5.heap.size) = some k := hk; injection e with e; omega); have P5 := (HX5.out.below hB7).x2.cell 1)
          | (refine step_app_tail rfl (.tmp 18) (.tmp 23) rfl (B := w5.heap.size) (A' := some ⟨gb, 0, none⟩) (c' := 0) (v := v7) (l := [] ++ L.take i) (new := L.drop j) ?fcp ?fdp (row_below hr7 (by (repeat (first | exact Below.refl _ _ | assumption | refine Below.drew ?_ | refine below_drewP ?_ _ | refine Below.alloc ?_ (by first | exact Nat.le_refl _ | exact hB7.size | (simp; done) | (simp; omega) | (have := hB7.size; simp; omega)) _)))) (by rw [HNW.out]; exact fun q u hu => by simp at hu) (by rw [List.nil_append, HTK.out, HDK.out]; have := HIL.out; have := HLL.out; omega) (by have := hB7.size; first | (simp; done) | (simp; omega) | omega) ?_; (case fcp => (first | (simp [Act.eval] <;> fail) | (simp [Act.eval, Act.put] <;> fail))); (case fdp => (rw [HDK.out]; first | (simp [Act.eval] <;> fail) | (simp [Act.eval, Act.put] <;> fail))); intro v8 w8 hr8 hg8 hf8; have hB8 : Below w5.heap.size w5 w8 := Below.grown (by (repeat (first | exact Below.refl _ _ | assumption | refine Below.drew ?_ | refine below_drewP ?_ _ | refine Below.alloc ?_ (by first | exact Nat.le_refl _ | exact hB7.size | (simp; done) | (simp; omega) | (have := hB7.size; simp; omega)) _))) hg8 (by have := hB7.size; first | (simp; done) | (simp; omega) | omega) (fun k hk => by have := (World.ownsRow.lt hr7 k hk).1; omega); have hX8 := HX5.out.below hB8; have HX8 := Lib.hid hX8; have HB8 := Lib.hid hB8; have P2 := hX8.x2.cell 1; have G2 := hX8.x2.free 1; have L2 := hX8.x2.lt; obtain ⟨A8, c8, hv8, _⟩ := row_shape hr8; rw [HRL.out] at hv8; subst hv8)
          | fail)
        all_goals (go_wp2_with fail; go_meet)
        all_goals
          rw [List.nil_append] at hr8
          exact ⟨A8, c8, HX8.out.set2 _, (KtD.mono hr8 (by have := HB5.out.size; omega)).set2 HX8.out _⟩
      case rest =>
        obtain ⟨A8, c8, hX9, hR9⟩ := hcut
        obtain ⟨z0, z1, zf, zl⟩ := hX9.c2
        obtain ⟨y0, y1, f0, f1, yl⟩ := hX9.c4
        have HX9 := Lib.hid hX9
        have HR9 := Lib.hid hR9
        have HQ := Lib.hid (Nat.le_trans HBB.out HX.out.b.size)
        clear hX9 hR9
        go_wp2
        rw [HE.out]
        refine bodyPost_ret (v := .tuple #[.agg #[.int .i64 room, .slice A8 r c8], .int .i64 0]) (by simp [results, Try.results12, go_sem, y0, y1, yl]) rfl ⟨_, rfl, KtD.mono (HR9.out.set4 HX9.out _ _) HQ.out, HX9.out.fin _ _⟩
    · have n1 : ¬ j = c := fun e => hcj e.symm
      have n2 : ¬ (c : Int) = (j : Int) := by omega
      have n3 : ¬ (j : Int) = (c : Int) := by omega
      clear hL hX cF hfd hk hB hl hcc hW2 hi hat hnt hil hj
      go_enter Try.func12, Try.ntmps12
      go_upto_region 4 with (go_at_call 16; (with_reducible refine cF2.mono ?_); rintro e w5 ⟨rfl, hb5⟩; rw [← HW2.out] at hb5; have hX5 := HX.out.below hb5; have HB5 := Lib.hid hb5; obtain ⟨u0, u1, uf, ul⟩ := hX5.c2; have HX5 := Lib.hid hX5; clear hb5 hX5)
      have HL5 := Lib.hid (HL.out.below HB5.out)
      have hpa1 := fun o : Obj => (HX5.out.alloc o).x2.cell 1
      simp at hpa1
      clear cF2
      go_cut [] from 13 (fun wx => ∃ A8 c8, Kx3 W W.heap.size (W.heap.size + 1) (W.heap.size + 1 + 1) room (.slice A8 r c8) #[.int .i64 k.a, .int .i64 k.b, .int .i64 k.c] wx ∧ KtD W2.heap.size wx (.slice A8 r c8) (L.take i ++ L.drop j))
      case first =>
        go_region_law
          (first
          | (refine step_app_kd rfl (.tmp 13) (.tmp 17) rfl (B := w5.heap.size) (N := B) (v := .slice (some ⟨w5.heap.size, 0, none⟩) 0 0) (u := .slice (some ⟨gb, 0, none⟩) i c) (l := []) (new := L.take i) ?faq ?fbq (emp_hD (heap_alloc_new _ _) (Nat.le_refl _)) (row_below (KtD.head HL5.out i (by have := HIL.out; omega)) (by (repeat (first | exact Below.refl _ _ | assumption | refine Below.drew ?_ | refine below_drewP ?_ _ | refine Below.alloc ?_ (by first | exact Nat.le_refl _ | exact hB7.size | (simp; done) | (simp; omega) | (have := hB7.size; simp; omega)) _)))) (by rw [HTK.out]; have := HIL.out; have := HLL.out; simp; omega) (by first | (simp; done) | (simp; omega)) ?_; (case faq => (first | (simp [Act.eval] <;> fail) | (simp [Act.eval, Act.put] <;> fail))); (case fbq => (first | (simp [Act.eval] <;> fail) | (simp [Act.eval, Act.put] <;> fail))); intro v7 w7 hr7 hg7 hf7; have hB7 : Below w5.heap.size w5 w7 := Below.grown (by (repeat (first | exact Below.refl _ _ | assumption | refine Below.drew ?_ | refine below_drewP ?_ _ | refine Below.alloc ?_ (by first | exact Nat.le_refl _ | exact hB7.size | (simp; done) | (simp; omega) | (have := hB7.size; simp; omega)) _))) hg7 (by first | (simp; done) | (simp; omega)) (fun k hk => by have e : some (w5.heap.size) = some k := hk; injection e with e; omega); have P5 := (HX5.out.below hB7).x2.cell 1)
          | (refine step_app_tail rfl (.tmp 18) (.tmp 23) rfl (B := w5.heap.size) (A' := some ⟨gb, j * 3, none⟩) (c' := c - j) (v := v7) (l := [] ++ L.take i) (new := L.drop j) ?fcq ?fdq (row_below hr7 (by (repeat (first | exact Below.refl _ _ | assumption | refine Below.drew ?_ | refine below_drewP ?_ _ | refine Below.alloc ?_ (by first | exact Nat.le_refl _ | exact hB7.size | (simp; done) | (simp; omega) | (have := hB7.size; simp; omega)) _)))) (tail_of HL5.out j (by (repeat (first | exact Below.refl _ _ | assumption | refine Below.drew ?_ | refine below_drewP ?_ _ | refine Below.alloc ?_ (by first | exact Nat.le_refl _ | exact hB7.size | (simp; done) | (simp; omega) | (have := hB7.size; simp; omega)) _)))) (by rw [List.nil_append, HTK.out, HDK.out]; have := HIL.out; have := HLL.out; omega) (by have := hB7.size; first | (simp; done) | (simp; omega) | omega) ?_; (case fcq => (first | (simp [Act.eval] <;> fail) | (simp [Act.eval, Act.put] <;> fail))); (case fdq => (rw [HDK.out]; first | (simp [Act.eval] <;> fail) | (simp [Act.eval, Act.put] <;> fail))); intro v8 w8 hr8 hg8 hf8; have hB8 : Below w5.heap.size w5 w8 := Below.grown (by (repeat (first | exact Below.refl _ _ | assumption | refine Below.drew ?_ | refine below_drewP ?_ _ | refine Below.alloc ?_ (by first | exact Nat.le_refl _ | exact hB7.size | (simp; done) | (simp; omega) | (have := hB7.size; simp; omega)) _))) hg8 (by have := hB7.size; first | (simp; done) | (simp; omega) | omega) (fun k hk => by have := (World.ownsRow.lt hr7 k hk).1; omega); have hX8 := HX5.out.below hB8; have HX8 := Lib.hid hX8; have HB8 := Lib.hid hB8; have P2 := hX8.x2.cell 1; have G2 := hX8.x2.free 1; have L2 := hX8.x2.lt; obtain ⟨A8, c8, hv8, _⟩ := row_shape hr8; rw [HRL.out] at hv8; subst hv8)
          | fail)
        all_goals (go_wp2_with fail; go_meet)
        all_goals
          rw [List.nil_append] at hr8
          exact ⟨A8, c8, HX8.out.set2 _, (KtD.mono hr8 (by have := HB5.out.size; omega)).set2 HX8.out _⟩
      case rest =>
        obtain ⟨A8, c8, hX9, hR9⟩ := hcut
        obtain ⟨z0, z1, zf, zl⟩ := hX9.c2
        obtain ⟨y0, y1, f0, f1, yl⟩ := hX9.c4
        have HX9 := Lib.hid hX9
        have HR9 := Lib.hid hR9
        have HQ := Lib.hid (Nat.le_trans HBB.out HX.out.b.size)
        clear hX9 hR9
        go_wp2
        rw [HE.out]
        refine bodyPost_ret (v := .tuple #[.agg #[.int .i64 room, .slice A8 r c8], .int .i64 0]) (by simp [results, Try.results12, go_sem, y0, y1, yl]) rfl ⟨_, rfl, KtD.mono (HR9.out.set4 HX9.out _ _) HQ.out, HX9.out.fin _ _⟩
  · have hfd : findD L k = -1 := fromD_neg k L 0 hk
    rw [hfd, hW2] at cF2
    have HE := Lib.hid (show remD L k = (L, 4) from by unfold remD; rw [if_neg hk])
    clear hL hX cF hfd hk hB hl hcc hW2
    generalize k.a = ka at *
    generalize k.b = kb at *
    generalize k.c = kc at *
    rw [HE.out]
    go_enter Try.func12, Try.ntmps12
    go_wp2_with (go_at_call 16; (with_reducible refine cF2.mono ?_); rintro e w5 ⟨rfl, hb5⟩; rw [← HW2.out] at hb5; have hX5 := HX.out.below hb5; obtain ⟨u0, u1, uf, ul⟩ := hX5.c2; obtain ⟨y0, y1, f0, f1, yl⟩ := hX5.c4)
    exact bodyPost_ret (v := .tuple #[.agg #[.int .i64 room, .slice A L.length c], .int .i64 4]) (by simp [results, Try.results12, go_sem, y0, y1, yl]) rfl ⟨_, rfl, (HL.out.below hb5).set4 hX5 _ _, hX5.fin _ _⟩
end Go.Proofs.Ytoiigplflmejmaa
