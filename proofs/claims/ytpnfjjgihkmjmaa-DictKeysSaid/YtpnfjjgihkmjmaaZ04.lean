/-
  MERGED (a claim has at most 60 files): DCut, DCutW.
-/
import Derived.Test.YtpnfjjgihkmjmaaZ03
import Derived.Laws.CopyRow
import Derived.Laws.Slices
/-
  A DICTIONARY's CALL Cut.
-/
namespace Go.Proofs.Ytpnfjjgihkmjmaa
open Go.RowKit
set_option linter.unusedVariables false
set_option linter.unusedSimpArgs false
set_option maxRecDepth 100000

/-- From which number on. -/
def cutF (n : Int) (k : Nat) : Nat := (min (max n 0) (k : Int)).toNat
theorem cutF_le (n : Int) (k : Nat) : cutF n k ≤ k := by unfold cutF; omega
theorem cutF_int (n : Int) (k : Nat) : min (max n 0) (k : Int) = (cutF n k : Int) := by unfold cutF; omega
/-- What is left of the entries when j of those behind f are gone. -/
def entC (L : List Tm) (f j : Nat) : List (Tm × Nat) := L.zipIdx.take f ++ L.zipIdx.drop (f + j)
theorem posV_none {t : Tm} : ∀ {E : List (Tm × Nat)}, (∀ p ∈ E, p.1 ≠ t) → posV t E = none
  | [], _ => rfl
  | p :: E, h => by
    unfold posV
    rw [if_neg (fun e => h p List.mem_cons_self (d_eq e).symm), posV_none fun q hq => h q (List.mem_cons_of_mem _ hq)]
    rfl
theorem posV_app {t : Tm} (ht : t.kind < 3) (n : Nat) : ∀ {E F : List (Tm × Nat)}, (∀ p ∈ E, p.1 ≠ t) → posV t (E ++ (t, n) :: F) = some (E.length, n)
  | [], F, _ => by
    show posV t ((t, n) :: F) = _
    unfold posV
    rw [if_pos (d_refl ht)]; rfl
  | p :: E, F, h => by
    show posV t (p :: (E ++ (t, n) :: F)) = _
    unfold posV
    rw [if_neg (fun e => h p List.mem_cons_self (d_eq e).symm), posV_app ht n fun q hq => h q (List.mem_cons_of_mem _ hq)]
    rfl
theorem entC_step {L : List Tm} (hd : L.Nodup) {f j : Nat} {t : Tm} (ht : t.kind < 3) (hj : L[f + j]? = some t) : posV t (entC L f j) = some (f, f + j) ∧ f < (entC L f j).length ∧ (entC L f j).eraseIdx f = entC L f (j + 1) := by
  have hlt := (List.getElem?_eq_some_iff.1 hj).1
  have hz : L.zipIdx[f + j]? = some (t, f + j) := by rw [List.getElem?_zipIdx, hj]; simp
  have e1 : L.zipIdx.drop (f + j) = (t, f + j) :: L.zipIdx.drop (f + j + 1) := by
    rw [List.drop_eq_getElem?_toList_append, hz]; rfl
  have hlen : (L.zipIdx.take f).length = f := by rw [List.length_take, List.length_zipIdx]; omega
  have e2 : entC L f j = L.zipIdx.take f ++ (t, f + j) :: L.zipIdx.drop (f + j + 1) := by unfold entC; rw [e1]
  have hfar : ∀ p ∈ L.zipIdx.take f, p.1 ≠ t := fun p hp e => by
    obtain ⟨i, hi⟩ := List.getElem?_of_mem hp
    have hif : i < f := by have := (List.getElem?_eq_some_iff.1 hi).1; omega
    rw [List.getElem?_take_of_lt hif, List.getElem?_zipIdx] at hi
    cases hL : L[i]? with
    | none => rw [hL] at hi; cases hi
    | some u =>
      rw [hL] at hi
      have : u = t := by simp at hi; rw [← e, ← hi]
      subst this
      have := (List.getElem?_inj (l := L) (i := i) (j := f + j) (by omega) hd).1 (hL.trans hj.symm)
      omega
  refine ⟨?_, ?_, ?_⟩
  · rw [e2, posV_app ht (f + j) hfar, hlen]
  · rw [e2, List.length_append, hlen, List.length_cons]; omega
  · rw [e2, List.eraseIdx_append_of_length_le (by omega), hlen, Nat.sub_self]
    unfold entC
    rfl
theorem entC_start (L : List Tm) (f : Nat) : entC L f 0 = L.zipIdx := by unfold entC; rw [Nat.add_zero, List.take_append_drop]
theorem entC_end (L : List Tm) (f : Nat) (hf : f ≤ L.length) : entC L f (L.length - f) = (L.take f).zipIdx := by
  unfold entC
  rw [show f + (L.length - f) = L.zipIdx.length by rw [List.length_zipIdx]; omega, List.drop_length, List.append_nil]
  apply List.ext_getElem?
  intro i
  by_cases hi : i < f
  · rw [List.getElem?_take_of_lt hi, List.getElem?_zipIdx, List.getElem?_zipIdx, List.getElem?_take_of_lt hi]
  · rw [List.getElem?_eq_none (by rw [List.length_take]; omega), List.getElem?_eq_none (by rw [List.length_zipIdx, List.length_take]; omega)]
theorem entC_ks {L : List Tm} (h : Ks L) (f j : Nat) : ∀ p ∈ entC L f j, p.1.kind < 3 := fun p hp => by
  unfold entC at hp
  rcases List.mem_append.1 hp with hp | hp
  · exact h.zip p (List.mem_of_mem_take hp)
  · exact h.zip p (List.mem_of_mem_drop hp)
theorem termZero : ∀ w, (zeroValue 41).run Try.prog w = .ok .nilIface w := fun w => by kernel_rfl
theorem dclear (W : World) (g o k c : Nat) (cur : Array Value) (hg : W.heap[g]? = some (.cells cur 41 (0, 0))) (hk : o + k ≤ cur.size) (h0 : 0 < k) (ty : TypeId) :
    (Builtin.clear_ #[87] ty #[.slice (some ⟨g, o, none⟩) k c]).run Try.prog W = .ok (.tuple #[]) (W.setRow g (cur.toList.take o ++ List.replicate k Value.nilIface ++ cur.toList.drop (o + k)).toArray) := by
  have hzc : (Builtin.zeroCells (Value.nilIface).cells k).toList = List.replicate k Value.nilIface := by
    simp [Builtin.zeroCells, Value.cells]
    apply List.ext_getElem
    · simp
    · intro i h1 h2
      simp [Nat.mod_one]
  have hst := run_storeCells_at Try.prog g o 41 (List.replicate k Value.nilIface) 0 cur W hg (by simpa using hk) (by intro v hv'; rw [List.eq_of_mem_replicate hv']; rfl)
  simp only [Nat.add_zero, List.length_replicate] at hst
  obtain ⟨k', rfl⟩ : ∃ m, k = m + 1 := ⟨k - 1, by omega⟩
  simp [Builtin.clear_, run_underlying Try.underlying87, termZero, hzc, hst]
section
variable {B d m : Nat} {room : Int} {v : Value} {L : List Tm}
/-- Behind the last deletion: the spare room is cleared, the list is shorter. -/
theorem Dc.cut_end {W W1 : World} {f g c : Nat} {cur : Array Value} (h : Dc B d m room (.slice (some ⟨g, 0, none⟩) L.length c) L W) (hf : f < L.length) (hmp : Mp W1 m (entC L f (L.length - f))) (hg : W.grownBy W1 (some m)) (hcur : W.heap[g]? = some (.cells cur 41 (0, 0))) :
    Dc B d m room (.slice (some ⟨g, 0, none⟩) f c) (L.take f) ((W1.setRow g (cur.toList.take f ++ List.replicate (L.length - f) Value.nilIface ++ cur.toList.drop (f + (L.length - f))).toArray).setCell ⟨d, 1, none⟩ (.slice (some ⟨g, 0, none⟩) f c)) ∧
      Tn d m (.slice (some ⟨g, 0, none⟩) L.length c) (.slice (some ⟨g, 0, none⟩) f c) W ((W1.setRow g (cur.toList.take f ++ List.replicate (L.length - f) Value.nilIface ++ cur.toList.drop (f + (L.length - f))).toArray).setCell ⟨d, 1, none⟩ (.slice (some ⟨g, 0, none⟩) f c)) := by
  have hgd : g ≠ d := fun e => h.row_d (by rw [← e]; rfl)
  have hgm : g ≠ m := fun e => h.row_m (by rw [← e]; rfl)
  have hdm := h.d_m
  obtain ⟨hge, hgl⟩ := h.row_ge (k := g) rfl
  have hrow := h.row.2
  rcases hrow with ⟨hv, _⟩ | ⟨g', c', cur', hv, hge', hcur', hnc, hcm, hsz, htk⟩
  · cases hv
  injection hv with hv1 hv2 hv3
  injection hv1 with hv1
  injection hv1 with hv1 _
  subst hv1 hv3
  rw [hcur] at hcur'
  injection hcur' with hcur'
  injection hcur' with hcur' _
  subst hcur'
  have hsz' : cur.size = c := by omega
  have g1 : W1.heap[g]? = some (.cells cur 41 (0, 0)) := (hg.block g hgl (fun e => hgm (Option.some.inj e))).trans hcur
  have d1 : W1.heap[d]? = some (.cells #[.int .i64 room, .slice (some ⟨g, 0, none⟩) L.length c, .map (some m)] 89 (0, 0)) := (hg.block d h.st.lt (fun e => hdm (Option.some.inj e))).trans h.st
  obtain ⟨new, hnew⟩ : ∃ x, x = (cur.toList.take f ++ List.replicate (L.length - f) Value.nilIface ++ cur.toList.drop (f + (L.length - f))).toArray := ⟨_, rfl⟩
  rw [← hnew]
  have hfar : ∀ k, k ≠ g → k ≠ d → ((W1.setRow g new).setCell ⟨d, 1, none⟩ (.slice (some ⟨g, 0, none⟩) f c)).heap[k]? = W1.heap[k]? := fun k h1 h2 => (Below.heap_setCell _ _ _ _ h2).trans (by
    unfold World.setRow
    simp [Array.getElem?_modify, Ne.symm h1])
  have hs2 : ((W1.setRow g new).setCell ⟨d, 1, none⟩ (.slice (some ⟨g, 0, none⟩) f c)).heap.size = W1.heap.size := by simp [World.setCell, World.setRow]
  have gg : ((W1.setRow g new).setCell ⟨d, 1, none⟩ (.slice (some ⟨g, 0, none⟩) f c)).heap[g]? = some (.cells new 41 (0, 0)) := (Below.heap_setCell _ _ _ _ hgd).trans (setRow_heap W1 g cur new 41 _ g1)
  have dd0 : (W1.setRow g new).heap[d]? = some (.cells #[.int .i64 room, .slice (some ⟨g, 0, none⟩) L.length c, .map (some m)] 89 (0, 0)) := by
    unfold World.setRow
    simp [Array.getElem?_modify, hgd, d1]
  refine ⟨⟨?_, ⟨?_, .inr ⟨g, c, new, ?_, hge, gg, ?_, hcm, ?_, ?_⟩⟩, ?_, h.gd, h.gm, fun t ht => h.ks t (List.mem_of_mem_take ht), h.nd.sublist (List.take_sublist _ _)⟩, ⟨hg.os, hg.tape, hg.output, ?_, fun k e => .inl e, fun k hk hkd hkm hkv => ?_⟩⟩
  · exact heap_setCell_same _ d 1 _ _ _ dd0
  · simp
  · rw [List.length_take]; simp; omega
  · rw [List.length_take]; omega
  · rw [hnew]; simp; omega
  · rw [hnew, List.length_take, Nat.min_eq_left (by omega)]
    simp only [Nat.mul_one]
    have htk' : cur.toList.take L.length = L.map Tm.val := by simpa using htk
    rw [List.append_assoc, List.take_append_of_le_length (by rw [List.length_take]; simp; omega), List.take_take, Nat.min_self, List.map_take, ← htk', List.take_take, Nat.min_eq_left (by omega)]
  · rw [← entC_end L f (by omega)]
    exact hmp.of (hfar m (Ne.symm hgm) (Ne.symm hdm))
  · rw [hs2]; exact hg.size
  · rw [hfar k (fun e => hkv (by rw [e]; rfl)) hkd]
    exact hg.block k hk (fun e => hkm (Option.some.inj e))
/-- Cut. -/
def CutPost (B d m : Nat) (room : Int) (v : Value) (L : List Tm) (W : World) (f : Nat) (e : Ending) (w' : World) : Prop :=
  ∃ v', e = .returned (.int .i64 (L.length - f : Nat)) ∧ Dc B d m room v' (L.take f) w' ∧ Tn d m v v' W w'
end
end Go.Proofs.Ytpnfjjgihkmjmaa

/-
  A DICTIONARY's CALL Cut: the walk.
-/
namespace Go.Proofs.Ytpnfjjgihkmjmaa
open Go.RowKit
set_option linter.unusedVariables false
set_option linter.unusedSimpArgs false
set_option maxRecDepth 100000

section
variable {B d m : Nat} {room : Int} {v : Value} {L : List Tm}
theorem slice_from (A : Option Addr) (n c f : Nat) (hf : f ≤ n) (w : World) : (Instr.slice 87 (.slice A n c) (some (.int .i64 (f : Int))) none none).run Try.prog w = .ok (.slice (if c = f then A else A.map (·.add f)) (n - f) (c - f)) w := by
  rw [run_slice_l w 87 A n c (by kernel_rfl) .i64 f (by omega) (by omega)]
  have hs : (sizeOf (Try.prog.elem 87)).run Try.prog w = .ok 1 w := by kernel_rfl
  rw [hs]
  simp [sliced, Result.andThen]
theorem slice_to (A : Option Addr) (n c f : Nat) (hf : f ≤ c) (w : World) : (Instr.slice 87 (.slice A n c) none (some (.int .i64 (f : Int))) none).run Try.prog w = .ok (.slice A f c) w := by
  rw [run_slice_h w 87 A n c (by kernel_rfl) .i64 f (by omega) (by omega)]
  have hs : (sizeOf (Try.prog.elem 87)).run Try.prog w = .ok 1 w := by kernel_rfl
  rw [hs]
  cases A with
  | none => simp [sliced, Result.andThen]
  | some a => simp [sliced, Result.andThen, Addr.add]
/-- The world between two deletions. -/
def CtI (W : World) (m : Nat) (L : List Tm) (f g : Nat) (s23 : Value) (wr : World) : Prop := ∃ j : Nat, j + g = L.length - f ∧ s23 = .int .i64 j ∧ Mp wr m (entC L f j) ∧ W.grownBy wr (some m)
set_option maxHeartbeats 8000000 in
theorem dcut_any {W : World} (h : Dc B d m room v L W) (hl : L.length ≤ 100000) (n : Int) :
    Calls Try.prog 26 #[.pointer (some ⟨d, 0, none⟩), .int .i64 n] W (CutPost B d m room v L W (cutF n L.length)) := by
  have cL := dlen_any h hl
  have hmm := cutF_int n L.length
  have hfl := cutF_le n L.length
  obtain ⟨M, hM⟩ : ∃ M, M = max n 0 := ⟨_, rfl⟩
  have hmx : ∀ (ts : Array TypeId) (ty : TypeId) w, (Builtin.max_ ts ty #[.int .i64 n, .int .i64 0]).run Try.prog w = .ok (.int .i64 M) w := fun ts ty w => by
    rw [run_max_int2, hM]
    congr 2
    split <;> omega
  have hmn : ∀ (ts : Array TypeId) (ty : TypeId) w, (Builtin.min_ ts ty #[.int .i64 M, .int .i64 (L.length : Int)]).run Try.prog w = .ok (.int .i64 (cutF n L.length : Int)) w := fun ts ty w => by
    rw [run_min_int2, ← hmm, ← hM]
    congr 2
    split <;> omega
  obtain ⟨f, hf⟩ : ∃ f, f = cutF n L.length := ⟨_, rfl⟩
  rw [← hf] at hmm hfl hmn ⊢
  clear hf hmm hM
  obtain ⟨c0, c1, c2⟩ := h.cells
  by_cases hlt : f < L.length
  · obtain ⟨A, c, rfl⟩ := h.shape
    obtain ⟨g, cur, rfl, hnc, hcur, hsz, htk⟩ : ∃ g cur, A = some ⟨g, 0, none⟩ ∧ L.length ≤ c ∧ W.heap[g]? = some (.cells cur 41 (0, 0)) ∧ cur.size = c ∧ cur.toList.take L.length = L.map Tm.val := by
      rcases id h.row.2 with ⟨hv, hz⟩ | ⟨g, c', cur, hv, _, hc, hnc, _, hz, ht⟩
      · omega
      · injection hv with h1 h2 h3
        subst h1 h3
        exact ⟨g, cur, rfl, hnc, hc, by omega, by simpa using ht⟩
    have hs1 := slice_from (some ⟨g, 0, none⟩) L.length c f hfl
    have hs2 := slice_to (some ⟨g, 0, none⟩) L.length c f (by omega)
    rw [if_neg (by omega)] at hs1
    have ead : (some (⟨g, 0, none⟩ : Addr)).map (·.add f) = some ⟨g, f, none⟩ := by
      show some ((⟨g, 0, none⟩ : Addr).add f) = _
      by_cases h0 : f = 0
      · subst h0; rfl
      · simp [Addr.add, h0]
    rw [ead] at hs1
    have hdm := h.d_m
    have hgm : g ≠ m := fun e => h.row_m (by rw [← e]; rfl)
    have hgd : g ≠ d := fun e => h.row_d (by rw [← e]; rfl)
    obtain ⟨k, hk⟩ : ∃ k, k = L.length - f := ⟨_, rfl⟩
    obtain ⟨c', hc'⟩ : ∃ k, k = c - f := ⟨_, rfl⟩
    have hk0 : 0 < k := by omega
    have hfk : f + k ≤ cur.size := by omega
    have hend := fun (W1 : World) => h.cut_end (W1 := W1) (cur := cur) hlt
    rw [← hk] at hs1 hend
    rw [← hc'] at hs1
    have hstart : CtI W m L f k (.int .i64 ((0 : Nat) : Int)) W := ⟨0, by omega, rfl, by rw [entC_start]; exact h.mp, ⟨rfl, rfl, rfl, Nat.le_refl _, fun _ _ _ => rfl⟩⟩
    have hstep : ∀ (wr : World) (j : Nat), j < k → Mp wr m (entC L f j) → W.grownBy wr (some m) → ∃ ty x o, wr.cell? ⟨g, f + j, none⟩ = some (.iface ty x) ∧ (∀ t, (Builtin.delete_ #[86, 41] t #[.map (some m), .iface ty x]).run Try.prog wr = .ok (.tuple #[]) (putBlock wr m o)) ∧ Mp (putBlock wr m o) m (entC L f (j + 1)) ∧ W.grownBy (putBlock wr m o) (some m) := fun wr j hj hmp hg => by
      obtain ⟨t, ht⟩ : ∃ t, L[f + j]? = some t := ⟨_, List.getElem?_eq_getElem (by omega)⟩
      have htk3 := h.ks t (List.mem_of_getElem? ht)
      obtain ⟨ty, x, hv⟩ := val_iface t htk3
      obtain ⟨e1, e2, e3⟩ := entC_step h.nd htk3 ht
      have hq := fun ty' => hmp.drop (entC_ks h.ks f j) t htk3 f (f + j) e1 e2 ty'
      obtain ⟨o, ho1, ho2⟩ := hq 0
      rw [e3] at ho2
      refine ⟨ty, x, o, ?_, ?_, ho2, ?_⟩
      · rw [← hv]
        obtain ⟨g2, cap2, ev, hc2⟩ := h.term ht
        injection ev with ev
        injection ev with ev
        injection ev with ev
        subst ev
        exact (World.cell?_of_block (hg.block g (h.row_ge (k := g) rfl).2 (fun e => hgm (Option.some.inj e)))).trans hc2
      · intro t'
        rw [← hv]
        obtain ⟨o', h1, h2⟩ := hq t'
        have : (Builtin.delete_ #[86, 41] t' #[.map (some m), t.val]).run Try.prog wr = (Builtin.delete_ #[86, 41] 0 #[.map (some m), t.val]).run Try.prog wr := rfl
        rw [this]; exact ho1
      · refine ⟨hg.os, hg.tape, hg.output, by simpa [putBlock] using hg.size, fun i hi hne => ?_⟩
        have him : i ≠ m := fun e => hne (by rw [e])
        rw [putBlock_far him]
        exact hg.block i hi hne
    have hcells : ∀ wr, W.grownBy wr (some m) → wr.cell? ⟨d, 1, none⟩ = some (.slice (some ⟨g, 0, none⟩) L.length c) ∧ wr.cell? ⟨d, 2, none⟩ = some (.map (some m)) ∧ wr.heap[g]? = some (.cells cur 41 (0, 0)) ∧ wr.heap[d]? = some (.cells #[.int .i64 room, .slice (some ⟨g, 0, none⟩) L.length c, .map (some m)] 89 (0, 0)) := fun wr hg => by
      have hd : Fb wr d 89 #[.int .i64 room, .slice (some ⟨g, 0, none⟩) L.length c, .map (some m)] := (hg.block d h.st.lt (fun e => hdm (Option.some.inj e))).trans h.st
      exact ⟨hd.cell 1, hd.cell 2, (hg.block g (h.row_ge (k := g) rfl).2 (fun e => hgm (Option.some.inj e))).trans hcur, hd⟩
    have HSP := Lib.hid hstep
    have HCL := Lib.hid hcells
    have HST := Lib.hid hstart
    have HE := Lib.hid hend
    have HCU := Lib.hid hcur
    have HK := Lib.hid hk
    have HK0 := Lib.hid hk0
    have HFK := Lib.hid hfk
    have HKL := Lib.hid (show k ≤ 100000 by omega)
    have HGD := Lib.hid hgd
    have hlk : (f : Int) ≤ (L.length : Int) := by omega
    clear h hl hlt hnc hcur hsz htk hdm hgm hgd hk hc' hk0 hfk hend hstart hstep hcells ead hfl
    go_enter Try.func26, Try.ntmps26
    go_wp2_with (go_at_call 31; (with_reducible refine cL.mono ?_); rintro e w1 ⟨rfl, rfl⟩)
    go_loopg [23] k (fun gk s23 wr => CtI w1 m L f gk s23 wr)
    case atStart => exact HST.out
    case round =>
      obtain ⟨j, hjk, rfl, hmp, hg⟩ := hrel
      obtain ⟨c1, c2, hrg, hrd⟩ := HCL.out wr hg
      have HK' := HK.out
      cases gk with
      | zero =>
        have hj : j = k := by omega
        subst hj
        have hin : ¬ (j : Int) < (j : Int) := by omega
        have hcl := fun ty => dclear wr g f j c' cur hrg HFK.out HK0.out ty
        obtain ⟨W2, hW2⟩ : ∃ W2, W2 = wr.setRow g (cur.toList.take f ++ List.replicate j Value.nilIface ++ cur.toList.drop (f + j)).toArray := ⟨_, rfl⟩
        have hrd2 : Fb W2 d 89 #[.int .i64 room, .slice (some ⟨g, 0, none⟩) L.length c, .map (some m)] := by
          unfold Fb
          rw [hW2]
          unfold World.setRow
          simp [Array.getElem?_modify, HGD.out, hrd]
        have p1 := hrd2.cell 1
        have pf := d_free hrd2 1
        have hfin := HE.out wr (by rw [HK', ← hjk, Nat.add_zero] at *; exact hmp) hg HCU.out
        rw [← hW2] at hcl hfin
        have HF := Lib.hid hfin
        have HK2 := Lib.hid HK'
        clear hW2 hrd2 hfin hrg hrd hmp hg hjk HK' HST HSP
        go_wp2
        go_ret
        obtain ⟨r1, r2⟩ := HF.out
        exact ⟨_, by rw [← HK2.out]; rfl, r1, r2⟩
      | succ gk =>
        have hin : (j : Int) < (k : Int) := by omega
        have hj0 : (0 : Int) ≤ (j : Int) := by omega
        obtain ⟨ty, x, o, hcell, hdel, hmp2, hg2⟩ := HSP.out wr j (by omega) hmp hg
        obtain ⟨Wn, hWn⟩ : ∃ Wn, Wn = putBlock wr m o := ⟨_, rfl⟩
        rw [← hWn] at hdel hmp2 hg2
        have HM := Lib.hid hmp2
        have HG := Lib.hid hg2
        have HJ := Lib.hid (show j + 1 + gk = L.length - f by omega)
        have HJ2 := Lib.hid (show j < 100000 by have := HKL.out; omega)
        clear hWn hmp2 hg2 hmp hg hrg hrd hjk HK' c1
        go_wp2
        go_roundg gk
        case measure => exact Nat.lt_succ_self gk
        case rel => exact ⟨j + 1, HJ.out, by have := HJ2.out; first | rfl | (rw [IntWalk.wrap64_in _ ⟨by omega, by omega⟩, Int.natCast_succ]), HM.out, HG.out⟩
  · obtain rfl : f = L.length := by omega
    obtain ⟨A, c, rfl⟩ := h.shape
    have hAc : L.length ≤ c := by
      rcases id h.row.2 with ⟨hv, hz⟩ | ⟨g, c', cur, hv, _, _, hnc, _⟩
      · rw [hz]; exact Nat.zero_le _
      · injection hv with _ _ hv; omega
    have hs1 := slice_from A L.length c L.length (Nat.le_refl _)
    have hs2 := slice_to A L.length c L.length hAc
    rw [Nat.sub_self] at hs1
    obtain ⟨A2, hA2⟩ : ∃ A2, A2 = (if c = L.length then A else A.map (·.add L.length)) := ⟨_, rfl⟩
    rw [← hA2] at hs1
    have hcl : ∀ ty w, (Builtin.clear_ #[87] ty #[.slice A2 0 (c - L.length)]).run Try.prog w = .ok (.tuple #[]) w := fun ty w => by
      cases A2 <;> simp [Builtin.clear_, run_underlying Try.underlying87]
    have hfz := d_free h.st 1
    have HD := Lib.hid h
    have hend : Dc B d m room (.slice A L.length c) L (W.setCell ⟨d, 1, none⟩ (.slice A L.length c)) ∧ Tn d m (.slice A L.length c) (.slice A L.length c) W (W.setCell ⟨d, 1, none⟩ (.slice A L.length c)) := by
      have hb : (W.setCell ⟨d, 1, none⟩ (.slice A L.length c)).heap[d]? = W.heap[d]? := by rw [heap_setCell_same W d 1 _ _ _ h.st]; exact h.st.symm
      have hall : ∀ k, (W.setCell ⟨d, 1, none⟩ (.slice A L.length c)).heap[k]? = W.heap[k]? := fun k => by
        by_cases hk : k = d
        · rw [hk]; exact hb
        · exact Below.heap_setCell _ _ _ _ hk
      have hbel : Below W.heap.size W (W.setCell ⟨d, 1, none⟩ (.slice A L.length c)) := ⟨rfl, rfl, rfl, by simp [World.setCell], fun k _ => hall k⟩
      exact ⟨h.below hbel, Tn.of hbel⟩
    have HE := Lib.hid hend
    clear h hend hA2 hfl hlt hl hAc
    go_enter Try.func26, Try.ntmps26
    go_wp2_with (go_at_call 31; (with_reducible refine cL.mono ?_); rintro e w1 ⟨rfl, rfl⟩)
    go_loopg [23] 0 (fun gk s23 wr => s23 = .int .i64 0 ∧ wr = w1)
    case atStart => exact ⟨rfl, rfl⟩
    case round =>
      obtain ⟨rfl, rfl⟩ := hrel
      go_wp2
      go_ret
      obtain ⟨r1, r2⟩ := HE.out
      exact ⟨_, by rw [Nat.sub_self]; rfl, by rw [List.take_length]; exact r1, r2⟩
end
end Go.Proofs.Ytpnfjjgihkmjmaa
