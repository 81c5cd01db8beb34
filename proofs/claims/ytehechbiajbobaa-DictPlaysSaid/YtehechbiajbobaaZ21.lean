/-
  MERGED (a claim has at most 60 files): EIs, DCut.
-/
import Derived.Test.YtehechbiajbobaaZ18
import Derived.Test.YtehechbiajbobaaZ00
import Derived.Test.YtehechbiajbobaaZ19
import Derived.Test.YtehechbiajbobaaZ20
import Derived.Test.YtehechbiajbobaaZ16
import Derived.Deep.RegionHeld3
import Derived.IntWalk
import Derived.Test.YtehechbiajbobaaZ01
import Derived.Laws.CopyRow
import Derived.Laws.Slices
/-
  IS A DICTIONARY THE DOCUMENT's: the law's own question.
-/
namespace Go.Proofs.Ytehechbiajbobaa
open Go.RowKit
set_option linter.unusedVariables false
set_option linter.unusedSimpArgs false
set_option maxRecDepth 100000

theorem nm_at {L : List Tm} (hnd : L.Nodup) {t : Tm} (hk : t.kind < 3) {i : Nat} (hi : L[i]? = some t) : nm t L = some i := by
  have hm := List.mem_of_getElem? hi
  cases h : nm t L with
  | none =>
    have := nm_none h t hm
    rw [d_refl hk] at this
    cases this
  | some j =>
    have hj := (nm_some h).1
    obtain ⟨hj1, hj2⟩ := List.getElem?_eq_some_iff.1 hj
    obtain ⟨hi1, hi2⟩ := List.getElem?_eq_some_iff.1 hi
    congr 1
    exact Option.some.inj (by rw [(List.getElem?_inj hj1 hnd).1 (hj.trans hi.symm)])
def EsI (w : World) (n : Nat) (g : Nat) (s18 : Value) (wr : World) : Prop := ∃ i : Nat, i + g = n ∧ s18 = .int .i64 i ∧ Below w.heap.size w wr
set_option maxHeartbeats 16000000 in
theorem dis_any {B B' d m : Nat} {room : Int} {v u : Value} {L : List Tm} {W : World} (hD : Dc B d m room v L W) (hM : DtL B' W u L) (hg : ∀ t ∈ L, goodT t = true) (hf : ∀ t ∈ L, t.few) (hl : L.length ≤ 100000) (r0 : Int) :
    Calls Try.prog 23 #[.pointer (some ⟨d, 0, none⟩), .agg #[.int .i64 r0, u]] W fun e w' => e = .returned (.bool true) ∧ Below W.heap.size W w' := by
  obtain ⟨A, c, rfl⟩ := hM.shape
  obtain ⟨W2, hW2⟩ : ∃ W2, W2 = W.alloc (.cells #[.int .i64 r0, .slice A L.length c] 30) := ⟨_, rfl⟩
  have hb2 : Below W.heap.size W W2 := by rw [hW2]; exact (Below.refl _ _).alloc (Nat.le_refl _) _
  have hx2 : Fb W2 W.heap.size 30 #[.int .i64 r0, .slice A L.length c] := by rw [hW2]; exact Fb.new _ _ _
  have hD2 : Dc B d m room v L W2 := hD.below ⟨hb2.os, hb2.tape, hb2.output, hb2.size, hb2.block⟩
  have hM2 : DtL B' W2 (.slice A L.length c) L := hM.below ⟨hb2.os, hb2.tape, hb2.output, hb2.size, hb2.block⟩
  have HB2 := Lib.hid hb2
  have HX2 := Lib.hid hx2
  have HD2 := Lib.hid hD2
  have HM2 := Lib.hid hM2
  have HG := Lib.hid hg
  have HF := Lib.hid hf
  have HN := Lib.hid hl
  have y1 := hx2.cell 1
  have hno : hasB L L.length = false := by
    cases h : hasB L (L.length : Int) with
    | false => rfl
    | true => have := hasB_iff.1 h; omega
  have hno2 : hasB L (-1) = false := by
    cases h : hasB L (-1) with
    | false => rfl
    | true => have := hasB_iff.1 h; omega
  have cN1 : ∀ {w : World}, Below W2.heap.size W2 w → Calls Try.prog 13 #[.pointer (some ⟨d, 0, none⟩), .int .i64 L.length] w fun e w' => e = .returned (.tuple #[.nilIface, .int .i64 4]) ∧ w' = w := fun {w} hb => dterm_none (hD2.below hb) hl _ hno
  have cN2 : ∀ {w : World}, Below W2.heap.size W2 w → Calls Try.prog 13 #[.pointer (some ⟨d, 0, none⟩), .int .i64 (-1)] w fun e w' => e = .returned (.tuple #[.nilIface, .int .i64 4]) ∧ w' = w := fun {w} hb => dterm_none (hD2.below hb) hl _ hno2
  have cL : ∀ {w : World}, Below W2.heap.size W2 w → Calls Try.prog 25 #[.pointer (some ⟨d, 0, none⟩)] w fun e w' => e = .returned (.int .i64 L.length) ∧ w' = w := fun {w} hb => dlen_any (hD2.below hb) hl
  clear hg hf hl hD hM hb2 hx2 hD2 hM2 hno hno2
  go_enter Try.func23, Try.ntmps23
  go_wp2
  rw [← hW2]
  clear hW2
  go_loopg [18] L.length (fun gk s18 wr => EsI W2 L.length gk s18 wr)
  case atStart => exact ⟨0, by omega, rfl, Below.refl _ _⟩
  case round =>
    clear y1
    obtain ⟨i, hig, rfl, hbw⟩ := hrel
    cases gk with
    | zero =>
      have hin : ¬ (i : Int) < (L.length : Int) := by omega
      have y1 := (HX2.out.below hbw).cell 1
      have hln : ((L.length : Int) == (L.length : Int)) = true := by simp
      have K : ∀ w, Below W2.heap.size W2 w → w.cell? ⟨W.heap.size, 1, none⟩ = some (.slice A L.length c) := fun w hb => (HX2.out.below hb).cell 1
      clear hig
      go_wp2_with (first
        | (go_at_call 13; (with_reducible refine (cN1 hbw).mono ?_); rintro e w5 ⟨rfl, rfl⟩)
        | (go_at_call 13; (with_reducible refine (cN2 hbw).mono ?_); rintro e w5 ⟨rfl, rfl⟩))
      first
        | (go_region_held3 (fun w => w.cell? ⟨W.heap.size, 1, none⟩ = some (.slice A L.length c))
            (first | exact K _ (by assumption) | exact K _ (Below.drew (by assumption)))
            (first | (go_at_call 25; (with_reducible refine (cL (by first | assumption | exact Below.drew (by assumption))).mono ?_); rintro e wa ⟨rfl, rfl⟩)))
        | fail
      all_goals
        (try go_wp2)
        (try rw [Exit.noGoto_ret])
        go_ret
        exact ⟨rfl, HB2.out.trans ((show Below W2.heap.size W2 _ from by repeat (first | assumption | refine Below.drew ?_)).mono HB2.out.size)⟩
    | succ gg =>
      have hin : (i : Int) < (L.length : Int) := by omega
      have hiz : (0 : Int) ≤ (i : Int) := by omega
      obtain ⟨t, hu⟩ : ∃ t, L[i]? = some t := ⟨_, List.getElem?_eq_getElem (by omega)⟩
      obtain ⟨gb, cb, ev, hgb, q0, q1, q2, q3⟩ := dtL_at HM2.out hu
      injection ev with ev1 ev2 ev3
      subst ev1
      clear ev2 ev3
      have hmem := List.mem_of_getElem? hu
      have hgt := HG.out t hmem
      have hkt := d_good_kind hgt
      have hft := HF.out t hmem
      have hfd : findP L t = some i := by
        unfold findP
        rw [if_pos hgt, nm_at HD2.out.nd hkt hu]
      obtain ⟨W3, hW3⟩ : ∃ W3, W3 = wr.alloc (.cells #[.int .i64 t.kind, .string t.ta, .string t.tb, .string t.tc] 32) := ⟨_, rfl⟩
      have hb3 : Below W2.heap.size W2 W3 := by rw [hW3]; exact hbw.alloc hbw.size _
      have hx3 : Fb W3 wr.heap.size 32 #[.int .i64 t.kind, .string t.ta, .string t.tb, .string t.tc] := by rw [hW3]; exact Fb.new _ _ _
      have cT : ∀ {w : World}, Below W3.heap.size W3 w → Calls Try.prog 13 #[.pointer (some ⟨d, 0, none⟩), .int .i64 i] w fun e w' => e = .returned (.tuple #[t.val, .int .i64 0]) ∧ w' = w := fun {w} hb => dterm_some (HD2.out.below (hb3.trans (hb.mono hb3.size))) HN.out i t hu
      have cF : ∀ {w : World}, Below W3.heap.size W3 w → Calls Try.prog 11 #[.pointer (some ⟨d, 0, none⟩), t.val] w fun e w' => e = .returned (.tuple #[.int .i64 i, .int .i64 0]) ∧ Below W3.heap.size W3 w' := fun {w} hb => by
        have := dfind_any (HD2.out.below (hb3.trans (hb.mono hb3.size))) HN.out t hft
        rw [hfd] at this
        exact this.mono fun _ _ ⟨x, y⟩ => ⟨x, hb.trans (y.mono hb.size)⟩
      have cR : ∀ {w : World}, Below W3.heap.size W3 w → Calls Try.prog 8 #[T4 t] w fun e w' => e = .returned t.val ∧ Below W3.heap.size W3 w' := fun {w} hb => (real_kind t hkt w).mono fun _ _ ⟨x, y⟩ => ⟨x, hb.trans (y.mono hb.size)⟩
      have cQ : ∀ {w : World}, Below W3.heap.size W3 w → Calls Try.prog 14 #[t.val] w fun e w' => e = .returned (F4 t.kind t.ta t.tb t.tc) ∧ Below W3.heap.size W3 w' := fun {w} hb => (lref_any t w).mono fun _ _ ⟨x, y⟩ => ⟨x, hb.trans (y.mono hb.size)⟩
      unfold T4 at cR
      obtain ⟨ty, x, hv⟩ := val_iface t hkt
      rw [hv] at cT cF cR cQ
      have q0 : wr.cell? ⟨gb, i * 4, none⟩ = some (.int .i64 t.kind) := (hbw.cell (p := ⟨gb, i * 4, none⟩) hgb).trans q0
      have q1 : wr.cell? ⟨gb, i * 4 + 1, none⟩ = some (.string t.ta) := (hbw.cell (p := ⟨gb, i * 4 + 1, none⟩) hgb).trans q1
      have q2 : wr.cell? ⟨gb, i * 4 + 2, none⟩ = some (.string t.tb) := (hbw.cell (p := ⟨gb, i * 4 + 2, none⟩) hgb).trans q2
      have q3 : wr.cell? ⟨gb, i * 4 + 3, none⟩ = some (.string t.tc) := (hbw.cell (p := ⟨gb, i * 4 + 3, none⟩) hgb).trans q3
      generalize t.kind = tk at *
      generalize t.ta = ta at *
      generalize t.tb = tb at *
      generalize t.tc = tc at *
      have hne := neqT4s tk ta tb tc
      have hii : ((i : Int) != (i : Int)) = false := by simp
      have K : ∀ w, Below W3.heap.size W3 w → w.cell? ⟨wr.heap.size, 0, none⟩ = some (.int .i64 tk) ∧ w.cell? ⟨wr.heap.size, 1, none⟩ = some (.string ta) ∧ w.cell? ⟨wr.heap.size, 2, none⟩ = some (.string tb) ∧ w.cell? ⟨wr.heap.size, 3, none⟩ = some (.string tc) := fun w hb =>
        have h3 := hx3.below hb
        ⟨h3.cell 0, h3.cell 1, h3.cell 2, h3.cell 3⟩
      obtain ⟨x0, x1, x2, x3⟩ := K W3 (Below.refl _ _)
      have hb33 : Below W3.heap.size W3 W3 := Below.refl _ _
      have HI := Lib.hid (show i + 1 + gg = L.length from by omega)
      have HI9 := Lib.hid (show i < 100000 from by have := HN.out; omega)
      have HB3 := Lib.hid hb3
      rw [hW3] at x0 x1 x2 x3 hb33
      have HW3 := Lib.hid hW3
      clear hu hmem hgt hkt hft hfd hv hx3 hgb hig hbw hb3 cN1 cN2 cL hW3
      go_wp2_with (first
        | (go_at_call 13; rw [← HW3.out]; (with_reducible refine (cT (Below.refl _ _)).mono ?_); rintro e w5 ⟨rfl, rfl⟩; obtain ⟨x0, x1, x2, x3⟩ := K _ (Below.refl _ _))
        | (go_at_call 8; (with_reducible refine (cR (Below.refl _ _)).mono ?_); rintro e w6 ⟨rfl, hb6⟩)
        | (go_at_call 11; (with_reducible refine (cF hb6).mono ?_); rintro e w7 ⟨rfl, hb7⟩))
      first
        | (go_region_held3 (fun w => w.cell? ⟨wr.heap.size, 0, none⟩ = some (.int .i64 tk) ∧ w.cell? ⟨wr.heap.size, 1, none⟩ = some (.string ta) ∧ w.cell? ⟨wr.heap.size, 2, none⟩ = some (.string tb) ∧ w.cell? ⟨wr.heap.size, 3, none⟩ = some (.string tc))
            (first | exact K _ (by assumption) | exact K _ (Below.drew (by assumption)))
            (first | (go_at_call 14; (with_reducible refine (cQ (by first | assumption | exact Below.drew (by assumption))).mono ?_); rintro e wa ⟨rfl, hBa⟩)))
        | fail
      all_goals
        (try go_wp2)
        go_roundg gg
        case measure => exact Nat.lt_succ_self gg
        case rel => exact ⟨i + 1, HI.out, by have := HI9.out; first | rfl | (rw [IntWalk.wrap64_in _ ⟨by omega, by omega⟩, Int.natCast_succ]), HB3.out.trans ((show Below _ _ _ from by repeat (first | assumption | refine Below.drew ?_)).mono HB3.out.size)⟩
end Go.Proofs.Ytehechbiajbobaa

/-
  A DICTIONARY's CALL Cut.
-/
namespace Go.Proofs.Ytehechbiajbobaa
open Go.RowKit
set_option linter.unusedVariables false
set_option linter.unusedSimpArgs false
set_option maxRecDepth 100000

/-- From which number on. -/
def cutF (n : Int) (k : Nat) : Nat := (min (max n 0) (k : Int)).toNat
theorem cutF_le (n : Int) (k : Nat) : cutF n k ≤ k := by unfold cutF; omega
theorem cutF_int (n : Int) (k : Nat) : min (max n 0) (k : Int) = (cutF n k : Int) := by unfold cutF; omega
/-- What is left of the entries when j of those behind f are gone. -/
def entC (L : List Tm) (f j : Nat) : List (Tm × Nat) := L.zipIdx.take f ++ L.zipIdx.drop (f + j)
theorem posV_none {t : Tm} : ∀ {E : List (Tm × Nat)}, (∀ p ∈ E, p.1 ≠ t) → posV t E = none
  | [], _ => rfl
  | p :: E, h => by
    unfold posV
    rw [if_neg (fun e => h p List.mem_cons_self (d_eq e).symm), posV_none fun q hq => h q (List.mem_cons_of_mem _ hq)]
    rfl
theorem posV_app {t : Tm} (ht : t.kind < 3) (n : Nat) : ∀ {E F : List (Tm × Nat)}, (∀ p ∈ E, p.1 ≠ t) → posV t (E ++ (t, n) :: F) = some (E.length, n)
  | [], F, _ => by
    show posV t ((t, n) :: F) = _
    unfold posV
    rw [if_pos (d_refl ht)]; rfl
  | p :: E, F, h => by
    show posV t (p :: (E ++ (t, n) :: F)) = _
    unfold posV
    rw [if_neg (fun e => h p List.mem_cons_self (d_eq e).symm), posV_app ht n fun q hq => h q (List.mem_cons_of_mem _ hq)]
    rfl
theorem entC_step {L : List Tm} (hd : L.Nodup) {f j : Nat} {t : Tm} (ht : t.kind < 3) (hj : L[f + j]? = some t) : posV t (entC L f j) = some (f, f + j) ∧ f < (entC L f j).length ∧ (entC L f j).eraseIdx f = entC L f (j + 1) := by
  have hlt := (List.getElem?_eq_some_iff.1 hj).1
  have hz : L.zipIdx[f + j]? = some (t, f + j) := by rw [List.getElem?_zipIdx, hj]; simp
  have e1 : L.zipIdx.drop (f + j) = (t, f + j) :: L.zipIdx.drop (f + j + 1) := by
    rw [List.drop_eq_getElem?_toList_append, hz]; rfl
  have hlen : (L.zipIdx.take f).length = f := by rw [List.length_take, List.length_zipIdx]; omega
  have e2 : entC L f j = L.zipIdx.take f ++ (t, f + j) :: L.zipIdx.drop (f + j + 1) := by unfold entC; rw [e1]
  have hfar : ∀ p ∈ L.zipIdx.take f, p.1 ≠ t := fun p hp e => by
    obtain ⟨i, hi⟩ := List.getElem?_of_mem hp
    have hif : i < f := by have := (List.getElem?_eq_some_iff.1 hi).1; omega
    rw [List.getElem?_take_of_lt hif, List.getElem?_zipIdx] at hi
    cases hL : L[i]? with
    | none => rw [hL] at hi; cases hi
    | some u =>
      rw [hL] at hi
      have : u = t := by simp at hi; rw [← e, ← hi]
      subst this
      have := (List.getElem?_inj (l := L) (i := i) (j := f + j) (by omega) hd).1 (hL.trans hj.symm)
      omega
  refine ⟨?_, ?_, ?_⟩
  · rw [e2, posV_app ht (f + j) hfar, hlen]
  · rw [e2, List.length_append, hlen, List.length_cons]; omega
  · rw [e2, List.eraseIdx_append_of_length_le (by omega), hlen, Nat.sub_self]
    unfold entC
    rfl
theorem entC_start (L : List Tm) (f : Nat) : entC L f 0 = L.zipIdx := by unfold entC; rw [Nat.add_zero, List.take_append_drop]
theorem entC_end (L : List Tm) (f : Nat) (hf : f ≤ L.length) : entC L f (L.length - f) = (L.take f).zipIdx := by
  unfold entC
  rw [show f + (L.length - f) = L.zipIdx.length by rw [List.length_zipIdx]; omega, List.drop_length, List.append_nil]
  apply List.ext_getElem?
  intro i
  by_cases hi : i < f
  · rw [List.getElem?_take_of_lt hi, List.getElem?_zipIdx, List.getElem?_zipIdx, List.getElem?_take_of_lt hi]
  · rw [List.getElem?_eq_none (by rw [List.length_take]; omega), List.getElem?_eq_none (by rw [List.length_zipIdx, List.length_take]; omega)]
theorem entC_ks {L : List Tm} (h : Ks L) (f j : Nat) : ∀ p ∈ entC L f j, p.1.kind < 3 := fun p hp => by
  unfold entC at hp
  rcases List.mem_append.1 hp with hp | hp
  · exact h.zip p (List.mem_of_mem_take hp)
  · exact h.zip p (List.mem_of_mem_drop hp)
theorem termZero : ∀ w, (zeroValue 41).run Try.prog w = .ok .nilIface w := fun w => by kernel_rfl
theorem dclear (W : World) (g o k c : Nat) (cur : Array Value) (hg : W.heap[g]? = some (.cells cur 41 (0, 0))) (hk : o + k ≤ cur.size) (h0 : 0 < k) (ty : TypeId) :
    (Builtin.clear_ #[76] ty #[.slice (some ⟨g, o, none⟩) k c]).run Try.prog W = .ok (.tuple #[]) (W.setRow g (cur.toList.take o ++ List.replicate k Value.nilIface ++ cur.toList.drop (o + k)).toArray) := by
  have hzc : (Builtin.zeroCells (Value.nilIface).cells k).toList = List.replicate k Value.nilIface := by
    simp [Builtin.zeroCells, Value.cells]
    apply List.ext_getElem
    · simp
    · intro i h1 h2
      simp [Nat.mod_one]
  have hst := run_storeCells_at Try.prog g o 41 (List.replicate k Value.nilIface) 0 cur W hg (by simpa using hk) (by intro v hv'; rw [List.eq_of_mem_replicate hv']; rfl)
  simp only [Nat.add_zero, List.length_replicate] at hst
  obtain ⟨k', rfl⟩ : ∃ m, k = m + 1 := ⟨k - 1, by omega⟩
  simp [Builtin.clear_, run_underlying Try.underlying76, termZero, hzc, hst]
section
variable {B d m : Nat} {room : Int} {v : Value} {L : List Tm}
/-- Behind the last deletion: the spare room is cleared, the list is shorter. -/
theorem Dc.cut_end {W W1 : World} {f g c : Nat} {cur : Array Value} (h : Dc B d m room (.slice (some ⟨g, 0, none⟩) L.length c) L W) (hf : f < L.length) (hmp : Mp W1 m (entC L f (L.length - f))) (hg : W.grownBy W1 (some m)) (hcur : W.heap[g]? = some (.cells cur 41 (0, 0))) :
    Dc B d m room (.slice (some ⟨g, 0, none⟩) f c) (L.take f) ((W1.setRow g (cur.toList.take f ++ List.replicate (L.length - f) Value.nilIface ++ cur.toList.drop (f + (L.length - f))).toArray).setCell ⟨d, 1, none⟩ (.slice (some ⟨g, 0, none⟩) f c)) ∧
      Tn d m (.slice (some ⟨g, 0, none⟩) L.length c) (.slice (some ⟨g, 0, none⟩) f c) W ((W1.setRow g (cur.toList.take f ++ List.replicate (L.length - f) Value.nilIface ++ cur.toList.drop (f + (L.length - f))).toArray).setCell ⟨d, 1, none⟩ (.slice (some ⟨g, 0, none⟩) f c)) := by
  have hgd : g ≠ d := fun e => h.row_d (by rw [← e]; rfl)
  have hgm : g ≠ m := fun e => h.row_m (by rw [← e]; rfl)
  have hdm := h.d_m
  obtain ⟨hge, hgl⟩ := h.row_ge (k := g) rfl
  have hrow := h.row.2
  rcases hrow with ⟨hv, _⟩ | ⟨g', c', cur', hv, hge', hcur', hnc, hcm, hsz, htk⟩
  · cases hv
  injection hv with hv1 hv2 hv3
  injection hv1 with hv1
  injection hv1 with hv1 _
  subst hv1 hv3
  rw [hcur] at hcur'
  injection hcur' with hcur'
  injection hcur' with hcur' _
  subst hcur'
  have hsz' : cur.size = c := by omega
  have g1 : W1.heap[g]? = some (.cells cur 41 (0, 0)) := (hg.block g hgl (fun e => hgm (Option.some.inj e))).trans hcur
  have d1 : W1.heap[d]? = some (.cells #[.int .i64 room, .slice (some ⟨g, 0, none⟩) L.length c, .map (some m)] 78 (0, 0)) := (hg.block d h.st.lt (fun e => hdm (Option.some.inj e))).trans h.st
  obtain ⟨new, hnew⟩ : ∃ x, x = (cur.toList.take f ++ List.replicate (L.length - f) Value.nilIface ++ cur.toList.drop (f + (L.length - f))).toArray := ⟨_, rfl⟩
  rw [← hnew]
  have hfar : ∀ k, k ≠ g → k ≠ d → ((W1.setRow g new).setCell ⟨d, 1, none⟩ (.slice (some ⟨g, 0, none⟩) f c)).heap[k]? = W1.heap[k]? := fun k h1 h2 => (Below.heap_setCell _ _ _ _ h2).trans (by
    unfold World.setRow
    simp [Array.getElem?_modify, Ne.symm h1])
  have hs2 : ((W1.setRow g new).setCell ⟨d, 1, none⟩ (.slice (some ⟨g, 0, none⟩) f c)).heap.size = W1.heap.size := by simp [World.setCell, World.setRow]
  have gg : ((W1.setRow g new).setCell ⟨d, 1, none⟩ (.slice (some ⟨g, 0, none⟩) f c)).heap[g]? = some (.cells new 41 (0, 0)) := (Below.heap_setCell _ _ _ _ hgd).trans (setRow_heap W1 g cur new 41 _ g1)
  have dd0 : (W1.setRow g new).heap[d]? = some (.cells #[.int .i64 room, .slice (some ⟨g, 0, none⟩) L.length c, .map (some m)] 78 (0, 0)) := by
    unfold World.setRow
    simp [Array.getElem?_modify, hgd, d1]
  refine ⟨⟨?_, ⟨?_, .inr ⟨g, c, new, ?_, hge, gg, ?_, hcm, ?_, ?_⟩⟩, ?_, h.gd, h.gm, fun t ht => h.ks t (List.mem_of_mem_take ht), h.nd.sublist (List.take_sublist _ _)⟩, ⟨hg.os, hg.tape, hg.output, ?_, fun k e => .inl e, fun k hk hkd hkm hkv => ?_⟩⟩
  · exact heap_setCell_same _ d 1 _ _ _ dd0
  · simp
  · rw [List.length_take]; simp; omega
  · rw [List.length_take]; omega
  · rw [hnew]; simp; omega
  · rw [hnew, List.length_take, Nat.min_eq_left (by omega)]
    simp only [Nat.mul_one]
    have htk' : cur.toList.take L.length = L.map Tm.val := by simpa using htk
    rw [List.append_assoc, List.take_append_of_le_length (by rw [List.length_take]; simp; omega), List.take_take, Nat.min_self, List.map_take, ← htk', List.take_take, Nat.min_eq_left (by omega)]
  · rw [← entC_end L f (by omega)]
    exact hmp.of (hfar m (Ne.symm hgm) (Ne.symm hdm))
  · rw [hs2]; exact hg.size
  · rw [hfar k (fun e => hkv (by rw [e]; rfl)) hkd]
    exact hg.block k hk (fun e => hkm (Option.some.inj e))
/-- Cut. -/
def CutPost (B d m : Nat) (room : Int) (v : Value) (L : List Tm) (W : World) (f : Nat) (e : Ending) (w' : World) : Prop :=
  ∃ v', e = .returned (.int .i64 (L.length - f : Nat)) ∧ Dc B d m room v' (L.take f) w' ∧ Tn d m v v' W w'
end
end Go.Proofs.Ytehechbiajbobaa
