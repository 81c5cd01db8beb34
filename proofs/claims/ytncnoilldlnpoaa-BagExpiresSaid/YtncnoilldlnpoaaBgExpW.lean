/-
  Bag.Expire, walked.
-/
import Derived.Test.YtncnoilldlnpoaaBgExp
namespace Go.Proofs.Ytncnoilldlnpoaa
open Go.RowKit
set_option linter.unusedVariables false
set_option linter.unusedSimpArgs false
set_option maxRecDepth 100000

def ExR (am : Nat) (D : List Tz) (W : World) (k gk : Nat) (s7 s26 : Value) (wr : World) : Prop :=
  ∃ i gone : Nat, s7 = .int .i64 (gone : Int) ∧ s26 = .int .i64 (i : Int) ∧ i ≤ k ∧ k - i ≤ gk ∧ gone = ((D.take i).map fun z => sumN z.l).sum ∧ Ch (fun q => q = am) W wr ∧ ∃ E, Mq iE mE wr am E ∧ E.Perm ((D.drop i).map fun z => (z.t, z.b))
section
variable {B d am : Nat} {room : Int} {v : Value} {D : List Tz} {M : List (Int × Ky)} {W : World}
theorem sum_take (h : Bk B d room v am D M W) (i : Nat) : ((D.take i).map fun z => sumN z.l).sum ≤ M.length := by
  have e1 : ((D.take i).map fun z => sumN z.l) = ((D.take i).map (·.t)).map fun t => M.countP (fun x => decide (x.1 = t)) := by
    rw [List.map_map]
    exact List.map_congr_left fun z hz => h.sm z (List.mem_of_mem_take hz)
  have hnd : ((D.take i).map (·.t)).Nodup := by
    have : (D.map (·.t)).Nodup := h.so.imp fun hab e => by omega
    rw [List.map_take]
    exact this.sublist (List.take_sublist _ _)
  rw [e1, countP_times M _ hnd]
  exact List.countP_le_length
/-- One time's way out. -/
structure Er (d am : Nat) (D : List Tz) (W : World) (g off k i : Nat) (wr : World) (z : Tz) (gone : Nat) : Prop where
  a1 : wr.cell? ⟨g, off + i, none⟩ = some (.int .i64 z.t)
  a2 : wr.cell? ⟨d, 2, none⟩ = some (.map (some am))
  a3 : (Instr.lookup 45 (.map (some am)) (.int .i64 z.t) false).run Try.prog wr = .ok (.map (some z.b)) wr
  a4 : Mq kE nE wr z.b z.l
  a5 : ∀ w' : World, Below wr.heap.size wr w' → w'.cell? ⟨d, 2, none⟩ = some (.map (some am)) ∧ ∃ o, (Builtin.delete_ #[45, 3] 0 #[.map (some am), .int .i64 z.t]).run Try.prog w' = .ok (.tuple #[]) (putBlock w' am o) ∧ ∀ gk, k - (i + 1) ≤ gk → i < k → ExR am D W k gk (.int .i64 ((gone : Int) + (sumN z.l : Int))) (.int .i64 ((i : Int) + 1)) (putBlock w' am o)
theorem er_of {g off n c : Nat} {cs : Array Value} (h : Bk B d room (.slice (some ⟨g, off, none⟩) n c) am D M W) (hg : Fb W g 3 cs) (hx : ∀ j x, (D.map (·.t))[j]? = some x → cs[off + j]? = some (iE x)) {k i gone : Nat} {wr : World} (hc : Ch (fun q => q = am) W wr) {E : List (Int × Nat)} (hm : Mq iE mE wr am E) (hE : E.Perm ((D.drop i).map fun z => (z.t, z.b)))
    (hgone : gone = ((D.take i).map fun z => sumN z.l).sum) {z : Tz} (hz : D[i]? = some z) : Er d am D W g off k i wr z gone := by
  have hzD := List.mem_of_getElem? hz
  have dam : d ≠ am := by
    obtain ⟨E0, h0, _⟩ := h.mo
    exact h0.ne h.st
  have gam : g ≠ am := by
    obtain ⟨E0, h0, _⟩ := h.mo
    exact h0.ne hg
  have hg2 : Fb wr g 3 cs := (hc.far g hg.lt gam).trans hg
  have hd2 : Fb wr d 48 #[.int .i64 room, .int .i64 M.length, .map (some am), .slice (some ⟨g, off, none⟩) n c] := (hc.far d (h.lt d (.inl rfl)) dam).trans h.st
  have hil := (List.getElem?_eq_some_iff.1 hz).1
  have hdr : D.drop i = z :: D.drop (i + 1) := by rw [List.drop_eq_getElem_cons hil, (List.getElem?_eq_some_iff.1 hz).2]
  have hn : ((D.drop i).map (·.t)).Nodup := by
    have : (D.map (·.t)).Nodup := h.so.imp fun hab e => by omega
    rw [List.map_drop]
    exact this.sublist (List.drop_sublist _ _)
  have hget : getM z.t E = some z.b := by
    have hmm : (z.t, z.b) ∈ E := hE.mem_iff.2 (by rw [hdr]; exact .head _)
    have hnE : (E.map (·.1)).Nodup := by
      have h1 : (E.map (·.1)).Perm ((D.drop i).map (·.t)) := by
        have := hE.map (·.1)
        rw [List.map_map] at this
        exact this
      exact h1.nodup_iff.2 hn
    clear hE hm
    induction E with
    | nil => cases hmm
    | cons p E ih =>
      simp only [List.map_cons, List.nodup_cons] at hnE
      unfold getM
      rcases List.mem_cons.1 hmm with e | hmm
      · rw [← e, if_pos rfl]
      · rw [if_neg (fun (e : p.1 = z.t) => hnE.1 (by rw [e]; exact List.mem_map.2 ⟨(z.t, z.b), hmm, rfl⟩))]
        exact ih hmm hnE.2
  have hp : (delM z.t E).Perm ((D.drop (i + 1)).map fun z => (z.t, z.b)) := by
    have h1 := (del_perm hget).symm.trans hE
    rw [hdr, List.map_cons] at h1
    exact (List.perm_cons _).1 h1
  refine ⟨?_, hd2.cell 2, ?_, ?_, fun w' hb => ⟨(hd2.below hb).cell 2, ?_⟩⟩
  · rw [hg2.cell]
    exact hx i z.t (by rw [List.getElem?_map, hz]; rfl)
  · have := hm.look KLi mapO zeroC z.t
    rw [hget] at this
    exact this
  · exact (h.mi z hzD).of (hc.far z.b (h.lt z.b (.inr (.inr (.inr ⟨z, hzD, rfl⟩)))) (h.ne z hzD))
  · have hm' : Mq iE mE w' am E := hm.of (hb.block am hm.lt)
    obtain ⟨o, u1, u2⟩ := hm'.drop KLi mapO z.t 0
    refine ⟨o, u1, fun gk hgk hik => ⟨i + 1, gone + sumN z.l, by rw [Int.natCast_add], by rw [Int.natCast_add]; rfl, hik, hgk, ?_, ?_, _, u2 w' hm'.lt, hp⟩⟩
    · rw [hgone, List.take_add_one, hz]
      simp
    · have h1 : Ch (fun q => q = am) W w' := hc.trans (Ch.of (F := fun _ => False) hb) fun q hq => hq.elim
      exact h1.trans (Ch.put (F := fun q => q = am) rfl) fun q hq => .inl hq
set_option maxHeartbeats 8000000 in
theorem gexp_some {g off n c : Nat} (h : Bk B d room (.slice (some ⟨g, off, none⟩) n c) am D M W) (hM : M.length ≤ 30000) (before : Int) :
    Calls Try.prog 13 #[.pointer (some ⟨d, 0, none⟩), .int .i64 before] W (ExpP B d room am (.slice (some ⟨g, off, none⟩) n c) D M W before) := by
  obtain ⟨cs, hg, hnD, hnc, hn9, hc9, hx⟩ : ∃ cs, Fb W g 3 cs ∧ n = (D.map (·.t)).length ∧ n ≤ c ∧ n ≤ 100000 ∧ c ≤ 9223372036854775807 ∧ ∀ j x, (D.map (·.t))[j]? = some x → cs[off + j]? = some (iE x) := by
    rcases h.ts with ⟨h1, _⟩ | ⟨g', off', c', cs, h1, h2, h3, h4, h5, h6⟩
    · cases h1
    · simp only [Value.slice.injEq, Option.some.injEq, Addr.mk.injEq] at h1
      obtain ⟨⟨rfl, rfl, _⟩, rfl, rfl⟩ := h1
      exact ⟨cs, h2, rfl, h3, h4, h5, h6⟩
  have cB := gbin_any h.ts h.so before
  have hk : (D.map (·.t)).countP (· < before) ≤ n := by rw [hnD]; exact List.countP_le_length
  obtain ⟨E, hE1, hE2⟩ := h.mo
  have hER := fun (k i gone : Nat) (wr : World) (hc : Ch (fun q => q = am) W wr) (hgone : gone = ((D.take i).map fun z => sumN z.l).sum) (hm : ∃ E, Mq iE mE wr am E ∧ E.Perm ((D.drop i).map fun z => (z.t, z.b))) (z : Tz) (hz : D[i]? = some z) => (show Er d am D W g off k i wr z gone from by
    obtain ⟨E, h1, h2⟩ := hm
    exact er_of h hg hx hc h1 h2 hgone hz)
  have hSum := fun i => Nat.le_trans (sum_take h i) hM
  have hCnt := exp_count (before := before) h
  have hEnd := fun (o' : Nat) (c' : Nat) (hc' : c' = c - (D.map (·.t)).countP (· < before)) (ho : o' = off + (D.map (·.t)).countP (· < before) ∨ n - (D.map (·.t)).countP (· < before) = 0) (wr : World) (hc : Ch (fun q => q = am) W wr) (hm : ∃ E, Mq iE mE wr am E ∧ E.Perm ((D.drop ((D.map (·.t)).countP (· < before))).map fun z => (z.t, z.b))) (gone : Nat) (hgone : gone = ((D.take ((D.map (·.t)).countP (· < before))).map fun z => sumN z.l).sum) =>
    (show ExpP B d room am (.slice (some ⟨g, off, none⟩) n c) D M W before (.returned (.int .i64 (gone : Int))) ((wr.setCell ⟨d, 3, none⟩ (.slice (some ⟨g, o', none⟩) (n - (D.map (·.t)).countP (· < before)) c')).setCell ⟨d, 1, none⟩ (.int .i64 ((M.length : Int) - (gone : Int)))) from by
      subst hc'
      obtain ⟨E, h1, h2⟩ := hm
      have gam : g ≠ am := by
        obtain ⟨E0, h0, _⟩ := h.mo
        exact h0.ne hg
      have hg2 : Fb wr g 3 cs := (hc.far g hg.lt gam).trans hg
      have hlen : ((D.drop ((D.map (·.t)).countP (· < before))).map (·.t)).length = n - (D.map (·.t)).countP (· < before) := by simp only [List.length_map, List.length_drop]; rw [hnD, List.length_map]
      have hret : (gone : Int) = (M.length : Int) - ((stayM before M).length : Int) := by rw [hgone, ← hCnt]; omega
      refine ⟨by rw [hret], _, _, exp_end h hc h1 h2 (.inr ⟨g, o', c - (D.map (·.t)).countP (· < before), cs, ?_, hg2, ?_, ?_, by omega, fun j x hj => ?_⟩) (fun q hq => by simpa [vB] using hq) (by omega)⟩
      · rw [hlen]
      · rw [hlen]; omega
      · rw [hlen]; omega
      · have hjl := (List.getElem?_eq_some_iff.1 hj).1
        rw [hlen] at hjl
        rw [List.map_drop, List.getElem?_drop] at hj
        obtain rfl : o' = off + (D.map (·.t)).countP (· < before) := by omega
        rw [Nat.add_assoc]
        exact hx _ _ hj)
  have hfd : ∀ wr : World, Ch (fun q => q = am) W wr → Fb wr d 48 #[.int .i64 room, .int .i64 M.length, .map (some am), .slice (some ⟨g, off, none⟩) n c] := fun wr hc => (hc.far d (h.lt d (.inl rfl)) (hE1.ne h.st)).trans h.st
  have hgl : ∀ i, i < n → ∃ z, D[i]? = some z := fun i hi => ⟨_, List.getElem?_eq_getElem (by rw [hnD, List.length_map] at hi; exact hi)⟩
  have c3 : W.cell? ⟨d, 3, none⟩ = some (.slice (some ⟨g, off, none⟩) n c) := h.st.cell 3
  have HER := Lib.hid hER
  have HSM := Lib.hid hSum
  have HCN := Lib.hid hCnt
  have HEN := Lib.hid hEnd
  have HFD := Lib.hid hfd
  have HGL := Lib.hid hgl
  have HST := Lib.hid (show ∀ q gk, (D.map (·.t)).countP (· < before) ≤ gk → ExR am D W ((D.map (·.t)).countP (· < before)) gk (.int .i64 0) (.int .i64 0) (W.drewN q) from fun q gk hgk => ⟨0, 0, rfl, rfl, Nat.zero_le _, by omega, rfl, Ch.of (below_drewP (Below.refl _ _) q), E, hE1.of rfl, hE2⟩)
  have HML := Lib.hid hM
  generalize (D.map (·.t)).contains before = bb at cB
  clear h hER hSum hEnd hfd hE1 hE2 hx hg hgl hCnt hM hnD
  generalize (D.map (·.t)).countP (· < before) = k at *
  have z1 : (0 : Int) ≤ (k : Int) := by omega
  have z2 : (k : Int) ≤ (n : Int) := by omega
  have z3 : (n : Int) ≤ (c : Int) := by omega
  have z4 : (k : Int) ≤ (c : Int) := by omega
  go_enter Try.func13, Try.ntmps13
  go_wp2_with (go_at_call 20; (with_reducible refine cB.mono ?_); rintro e w1 ⟨rfl, q, rfl⟩)
  go_loopg [7, 26] k (fun gk s7 s26 wr => ExR am D W k gk s7 s26 wr)
  case atStart => exact HST.out q k (Nat.le_refl _)
  case round =>
    obtain ⟨i, gone, rfl, rfl, hik, hgk, hgone, hch, hmm⟩ := hrel
    have y0 := (HFD.out wr hch).cell 3
    by_cases hlt : i < k
    · obtain ⟨z, hz⟩ := HGL.out i (by omega)
      obtain ⟨a1, a2, a3, a4, a5⟩ := HER.out k i gone wr hch hgone hmm z hz
      have hs1 : sumN z.l + gone ≤ 30000 := by
        have := HSM.out (i + 1)
        rw [List.take_add_one, hz] at this
        simp only [Option.toList_some, List.map_append, List.map_cons, List.map_nil, List.sum_append, List.sum_cons, List.sum_nil] at this
        omega
      have cS := gsum_any a4 (by omega)
      have HA5 := Lib.hid a5
      have hsn : (0 : Int) ≤ (sumN z.l : Int) := by omega
      have hsg : (gone : Int) + (sumN z.l : Int) ≤ 30000 := by omega
      have hi0 : (0 : Int) ≤ (i : Int) := by omega
      have hi1 : (i : Int) < (k : Int) := by omega
      have hi2 : (i : Int) + 1 ≤ 100000 := by omega
      have HLT := Lib.hid hlt
      have HGK := Lib.hid hgk
      clear a4 a5 hs1 hgone hmm hz hch hlt hgk y0
      go_wp2_with (first
        | (go_at_call 21; (with_reducible refine cS.mono ?_); rintro e w5 ⟨rfl, hb5⟩; obtain ⟨b1, o5, b2, b3⟩ := HA5.out w5 hb5; have HB3 := Lib.hid b3; clear b3 hb5))
      go_roundg (k - (i + 1))
      case measure => have := HGK.out; have := HLT.out; omega
      case rel => exact HB3.out _ (Nat.le_refl _) HLT.out
    · obtain rfl : i = k := by omega
      have y1 : wr.cell? ⟨d, 1, none⟩ = some (.int .i64 (M.length : Int)) := (HFD.out wr hch).cell 1
      have f1 := (HFD.out wr hch).free 1
      have f3 := (HFD.out wr hch).free 3
      have hgm := HSM.out i
      rw [← hgone] at hgm
      have hg0 : (0 : Int) ≤ (gone : Int) := by omega
      have hg1 : (gone : Int) ≤ 30000 := by omega
      have hm9 := HML.out
      have hm0 : (0 : Int) ≤ (M.length : Int) := by omega
      have hm1 : (M.length : Int) ≤ 30000 := by omega
      by_cases hci : c = i
      · have HZ := Lib.hid (HEN.out off 0 (by omega) (.inr (by omega)) wr hch hmm gone hgone)
        clear hch hmm hgone hgm hm9 hgk
        subst hci
        go_wp2
        go_ret
        have hZ := HZ.out
        rw [show n - c = 0 by omega] at hZ
        exact hZ
      · have HZ := Lib.hid (HEN.out (off + i) (c - i) rfl (.inl rfl) wr hch hmm gone hgone)
        clear hch hmm hgone hgm hm9 hgk
        go_wp2
        go_ret
        exact HZ.out
theorem gexp_any (h : Bk B d room v am D M W) (hM : M.length ≤ 30000) (before : Int) :
    Calls Try.prog 13 #[.pointer (some ⟨d, 0, none⟩), .int .i64 before] W (ExpP B d room am v D M W before) := by
  rcases id h.ts with ⟨rfl, _⟩ | ⟨g, off, c, cs, rfl, _⟩
  · exact gexp_nil h before
  · exact gexp_some h hM before
end
end Go.Proofs.Ytncnoilldlnpoaa
