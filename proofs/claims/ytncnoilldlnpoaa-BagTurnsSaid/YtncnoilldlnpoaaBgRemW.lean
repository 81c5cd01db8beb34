/-
  Bag.Remove, walked.
-/
import Derived.Test.YtncnoilldlnpoaaBgRem
import Derived.Deep.RegionHeld3
namespace Go.Proofs.Ytncnoilldlnpoaa
open Go.RowKit
set_option linter.unusedVariables false
set_option linter.unusedSimpArgs false
set_option maxRecDepth 100000

theorem lookNil (k : Ky) (w : World) : (Instr.lookup 51 (.map none) (kE k) false).run Try.prog w = .ok (.int .i64 0) w := by
  have hf := KLk.find nE k w [] [] rfl
  have hz := zeroI w
  have hc := KLk.check k
  simp [Instr.lookup, run_underlying mapI, hc, hf, hz, posM, Result.andThen, iE]
def RemP (B d : Nat) (room : Int) (am : Nat) (v : Value) (D : List Tz) (M : List (Int × Ky)) (W : World) (x : Int) (k : Ky) (e : Ending) (w' : World) : Prop :=
  (∃ c : Int, e = .returned (.int .i64 c)) ∧ ∃ v' D', Nx B d room am v D W v' D' (M.erase (x, k)) w'
section
variable {B d am : Nat} {room : Int} {v : Value} {D : List Tz} {M : List (Int × Ky)} {W : World}
/-- What the taking away of one meets. -/
structure Rl (B d : Nat) (room : Int) (am : Nat) (v : Value) (D : List Tz) (M : List (Int × Ky)) (W : World) (x : Int) (k : Ky) (kb : Nat) (w2 : World) (zb st n0 : Nat) (o1 o2 : Obj) : Prop where
  k0 : w2.cell? ⟨kb, 0, none⟩ = some (.int .i64 k.1)
  k1 : w2.cell? ⟨kb, 1, none⟩ = some (.int .i64 k.2.1)
  k2 : w2.cell? ⟨kb, 2, none⟩ = some (.int .i64 k.2.2)
  li : (Instr.lookup 51 (.map (some zb)) (.agg #[.int .i64 k.1, .int .i64 k.2.1, .int .i64 k.2.2]) false).run Try.prog w2 = .ok (.int .i64 (n0 : Int)) w2
  me : (Instr.mapEntry 51 (.map (some zb)) (.agg #[.int .i64 k.1, .int .i64 k.2.1, .int .i64 k.2.2])).run Try.prog w2 = .ok (.tuple #[.int .i64 (n0 : Int), .int .i64 (st : Int)]) (putBlock w2 zb o1)
  l2 : (Instr.lookup 51 (.map (some zb)) (.agg #[.int .i64 k.1, .int .i64 k.2.1, .int .i64 k.2.2]) false).run Try.prog (putBlock w2 zb o1) = .ok (.int .i64 (n0 : Int)) (putBlock w2 zb o1)
  es : (Instr.entryStore 51 (.map (some zb)) (.int .i64 (st : Int)) (.int .i64 ((n0 : Int) - 1))).run Try.prog (putBlock w2 zb o1) = .ok () (putBlock w2 zb o2)
  l4 : (Instr.lookup 51 (.map (some zb)) (.agg #[.int .i64 k.1, .int .i64 k.2.1, .int .i64 k.2.2]) false).run Try.prog (putBlock w2 zb o2) = .ok (.int .i64 ((n0 : Int) - 1)) (putBlock w2 zb o2)
  q0 : (putBlock w2 zb o2).cell? ⟨kb, 0, none⟩ = some (.int .i64 k.1)
  q1 : (putBlock w2 zb o2).cell? ⟨kb, 1, none⟩ = some (.int .i64 k.2.1)
  q2 : (putBlock w2 zb o2).cell? ⟨kb, 2, none⟩ = some (.int .i64 k.2.2)
/-- .. and behind it, so many being left at that time. -/
structure Rt (B d : Nat) (room : Int) (am : Nat) (v : Value) (D : List Tz) (M : List (Int × Ky)) (W : World) (x : Int) (k : Ky) (w5 : World) (zb n : Nat) : Prop where
  ln : (Builtin.len_ #[51] 3 #[.map (some zb)]).run Try.prog w5 = .ok (.int .i64 (n : Int)) w5
  kp : n ≠ 0 → w5.cell? ⟨d, 1, none⟩ = some (.int .i64 (M.length : Int)) ∧ w5.frozen? ⟨d, 1, none⟩ = false ∧ RemP B d room am v D M W x k (.returned (.int .i64 0)) (w5.setCell ⟨d, 1, none⟩ (.int .i64 ((M.length : Int) - 1)))
  dr : n = 0 → Calls Try.prog 19 #[.pointer (some ⟨d, 0, none⟩), .int .i64 x] w5 fun e w6 => e = .returned (.tuple #[]) ∧ w6.cell? ⟨d, 1, none⟩ = some (.int .i64 (M.length : Int)) ∧ w6.frozen? ⟨d, 1, none⟩ = false ∧ RemP B d room am v D M W x k (.returned (.int .i64 0)) (w6.setCell ⟨d, 1, none⟩ (.int .i64 ((M.length : Int) - 1)))
theorem rt_of (h : Bk B d room v am D M W) {z : Tz} (hz : z ∈ D) {k : Ky} (hm : (z.t, k) ∈ M) {w5 : World} (hc : Ch (fun q => q = z.b) W w5) (hq : Mq kE nE w5 z.b (lesL k z.l)) : Rt B d room am v D M W z.t k w5 z.b (lesL k z.l).length := by
  obtain ⟨D1, D2, hD⟩ := List.append_of_mem hz
  have dz : d ≠ z.b := (h.mi z hz).ne h.st
  have vz : vB v ≠ some z.b := fun e => by
    rcases h.ts with ⟨z1, _⟩ | ⟨g', off, c', cs', z1, z2, _⟩
    · rw [z1] at e; cases e
    · rw [z1] at e
      injection e with e
      have e' : g' = z.b := e
      exact (h.mi z hz).ne z2 e'
  have hf5 : Fb w5 d 48 #[.int .i64 room, .int .i64 M.length, .map (some am), v] := (hc.far d (h.lt d (.inl rfl)) dz).trans h.st
  obtain ⟨E, hE1, hE2⟩ := h.mo
  have hE5 : Mq iE mE w5 am E := hE1.of (hc.far am hE1.lt (fun e => h.ne z hz e.symm))
  have vam : vB v ≠ some am := fun e => by
    rcases h.ts with ⟨z1, _⟩ | ⟨g', off, c', cs', z1, z2, _⟩
    · rw [z1] at e; cases e
    · rw [z1] at e
      injection e with e
      have e' : g' = am := e
      exact hE1.ne z2 e'
  refine ⟨lenM hq 3, fun hn => ⟨hf5.cell 1, hf5.free 1, ⟨_, rfl⟩, v, _, rem_keep h hD hm hc hq rfl⟩, fun hn => ?_⟩
  have hl : lesL k z.l = [] := List.length_eq_zero_iff.1 hn
  have hp : E.Perm ((z.t, z.b) :: (D1 ++ D2).map fun y => (y.t, y.b)) := by
    refine hE2.trans ?_
    rw [hD]
    exact List.perm_middle.map (fun y : Tz => (y.t, y.b))
  have ht5 : TsA w5 v (D1.map (·.t) ++ z.t :: D2.map (·.t)) := by
    have := h.ts
    rw [hD, List.map_append, List.map_cons] at this
    exact this.of fun q hq => hc.far q (h.lt q (.inr (.inr (.inl hq)))) (fun (e : q = z.b) => vz (by rw [hq, e]))
  have hso := h.so
  rw [hD, List.map_append, List.map_cons] at hso
  refine (gend_any hf5 hE5 hp (h.getO hz hE2) ht5 hso h.vd vam).mono ?_
  rintro e w6 ⟨rfl, v', E', f6, m6, p6, t6, b6, c6⟩
  rw [← List.map_append] at t6
  exact ⟨rfl, f6.cell 1, f6.free 1, ⟨_, rfl⟩, v', _, rem_drop h hD hm hl hc f6 m6 p6 t6 b6 c6 rfl⟩
theorem rl_of (h : Bk B d room v am D M W) {z : Tz} (hz : z ∈ D) {k : Ky} (hm : (z.t, k) ∈ M) {w2 : World} (hc : Ch (fun q => q = z.b) W w2) (hq : Mq kE nE w2 z.b z.l) {kb : Nat} (hk : Fb w2 kb 39 #[.int .i64 k.1, .int .i64 k.2.1, .int .i64 k.2.2]) :
    ∃ st o1 o2, Rl B d room am v D M W z.t k kb w2 z.b st (cntK z.l k) o1 o2 ∧ (cntK z.l k ≠ 1 → 0 < (lesL k z.l).length ∧ Rt B d room am v D M W z.t k (putBlock w2 z.b o2) z.b (lesL k z.l).length) ∧
      (cntK z.l k = 1 → ∃ o3, (Builtin.delete_ #[51, 39] 0 #[.map (some z.b), .agg #[.int .i64 k.1, .int .i64 k.2.1, .int .i64 k.2.2]]).run Try.prog (putBlock w2 z.b o2) = .ok (.tuple #[]) (putBlock (putBlock w2 z.b o2) z.b o3) ∧ Rt B d room am v D M W z.t k (putBlock (putBlock w2 z.b o2) z.b o3) z.b (lesL k z.l).length) := by
  have hzl := hq.lt
  have kz : kb ≠ z.b := hq.ne hk
  have hpos : 0 < cntK z.l k := by rw [h.cn z hz]; exact List.count_pos_iff.2 hm
  obtain ⟨st, o1, e1, e2, e3⟩ := hq.entry KLk mapI (zb := 0) zeroN k
  obtain ⟨o2, s1, s2⟩ := e3 (cntK z.l k - 1)
  have hk2 : Fb (putBlock w2 z.b o2) kb 39 #[.int .i64 k.1, .int .i64 k.2.1, .int .i64 k.2.2] := (putBlock_far kz).trans hk
  have hq2 := s2 w2 hzl
  have hc2 : Ch (fun q => q = z.b) W (putBlock w2 z.b o2) := hc.trans (G := fun q => q = z.b) (Ch.put rfl) fun q hq => .inl hq
  have en : nE (cntK z.l k - 1) = .int .i64 ((cntK z.l k : Int) - 1) := by unfold nE; congr 1; omega
  refine ⟨st, o1, o2, ⟨hk.cell 0, hk.cell 1, hk.cell 2, ?_, ?_, ?_, ?_, ?_, hk2.cell 0, hk2.cell 1, hk2.cell 2⟩, fun hn => ?_, fun hn => ?_⟩
  · have := hq.look KLk mapI zeroN k
    have e : ((getM k z.l).map nE).getD (nE 0) = nE (cntK z.l k) := by unfold cntK; cases getM k z.l <;> rfl
    rw [e] at this
    exact this
  · have e : ((getM k z.l).map nE).getD (nE 0) = nE (cntK z.l k) := by unfold cntK; cases getM k z.l <;> rfl
    rw [e] at e1
    exact e1
  · have := (e2 w2 hzl).look KLk mapI zeroN k
    have e : ((getM k (putM k ((getM k z.l).getD 0) z.l)).map nE).getD (nE 0) = nE (cntK z.l k) := by
      have := cnt_put k k ((getM k z.l).getD 0) z.l
      rw [if_pos rfl] at this
      unfold cntK at this ⊢
      cases hq : getM k (putM k ((getM k z.l).getD 0) z.l) with
      | none => rw [hq] at this; rw [← this]; rfl
      | some y => rw [hq] at this; rw [← this]; rfl
    rw [e] at this
    exact this
  · have := s1 (putBlock w2 z.b o1) (putBlock_at (Array.getElem?_eq_getElem hzl))
    rw [put_put, en] at this
    exact this
  · have := hq2.look KLk mapI zeroN k
    have e : ((getM k (putM k (cntK z.l k - 1) z.l)).map nE).getD (nE 0) = nE (cntK z.l k - 1) := by
      have := cnt_put k k (cntK z.l k - 1) z.l
      rw [if_pos rfl] at this
      unfold cntK at this ⊢
      cases hq : getM k (putM k ((getM k z.l).getD 0 - 1) z.l) with
      | none => rw [hq] at this; rw [← this]; rfl
      | some y => rw [hq] at this; rw [← this]; rfl
    rw [e, en] at this
    exact this
  · have el : lesL k z.l = putM k (cntK z.l k - 1) z.l := by unfold lesL; rw [if_neg hn]
    refine ⟨?_, rt_of h hz hm hc2 (by rw [el]; exact hq2)⟩
    rcases Nat.eq_zero_or_pos (lesL k z.l).length with h0 | h0
    · have h1 : lesL k z.l = [] := List.length_eq_zero_iff.1 h0
      have h2 := les_cnt (k := k) (k' := k) (h.nd z hz)
      rw [h1, if_pos rfl] at h2
      have h3 : cntK [] k = 0 := rfl
      omega
    · exact h0
  · have el : lesL k z.l = delM k (putM k (cntK z.l k - 1) z.l) := by unfold lesL; rw [if_pos hn, hn]
    obtain ⟨o3, d1, d2⟩ := hq2.drop KLk mapI k 0
    refine ⟨o3, d1, rt_of h hz hm (hc2.trans (G := fun q => q = z.b) (Ch.put rfl) fun q hq => .inl hq) ?_⟩
    rw [el]
    exact d2 _ hq2.lt
set_option maxHeartbeats 8000000 in
theorem grem_any (h : Bk B d room v am D M W) (hM : M.length ≤ 30000) (x : Int) (k : Ky) :
    Calls Try.prog 12 #[.pointer (some ⟨d, 0, none⟩), .int .i64 x, kE k] W (RemP B d room am v D M W x k) := by
  obtain ⟨W1, hW1⟩ : ∃ W1, W1 = W.alloc (.cells #[.int .i64 k.1, .int .i64 k.2.1, .int .i64 k.2.2] 39) := ⟨_, rfl⟩
  have hB1 : Below W.heap.size W W1 := by rw [hW1]; exact (Below.refl _ _).alloc (Nat.le_refl _) _
  have hk : Fb W1 W.heap.size 39 #[.int .i64 k.1, .int .i64 k.2.1, .int .i64 k.2.2] := by rw [hW1]; exact Fb.new _ _ _
  have h1 := h.below hB1
  have k0 : W1.cell? ⟨W.heap.size, 0, none⟩ = some (.int .i64 k.1) := hk.cell 0
  have k1 : W1.cell? ⟨W.heap.size, 1, none⟩ = some (.int .i64 k.2.1) := hk.cell 1
  have k2 : W1.cell? ⟨W.heap.size, 2, none⟩ = some (.int .i64 k.2.2) := hk.cell 2
  have c2 : W1.cell? ⟨d, 2, none⟩ = some (.map (some am)) := h1.st.cell 2
  obtain ⟨E, hE1, hE2⟩ := h1.mo
  have stay : (x, k) ∉ M → RemP B d room am v D M W x k (.returned (.int .i64 4)) W1 := fun hn => by
    refine ⟨⟨_, rfl⟩, v, D, ?_⟩
    rw [List.erase_of_not_mem hn]
    exact ⟨h1, Ch.of hB1, fun q hq => .inl hq⟩
  have hlo := hE1.look KLi mapO zeroC x
  by_cases hx : x ∈ D.map (·.t)
  · obtain ⟨z, hz, rfl⟩ := List.mem_map.1 hx
    rw [h1.getO hz hE2] at hlo
    have hlo' : (Instr.lookup 45 (.map (some am)) (.int .i64 z.t) false).run Try.prog W1 = .ok (.map (some z.b)) W1 := hlo
    clear hlo
    by_cases hm : (z.t, k) ∈ M
    · have hpos : 0 < cntK z.l k := by rw [h.cn z hz]; exact List.count_pos_iff.2 hm
      have hle : cntK z.l k ≤ 30000 := by rw [h.cn z hz]; exact Nat.le_trans List.count_le_length hM
      obtain ⟨st, o1, o2, T, hkp, hdr⟩ := rl_of h hz hm (w2 := W1.drew) (Ch.of hB1.drew) ((h1.mi z hz).of (W' := W1.drew) rfl) (kb := W.heap.size) hk
      have hli := (h1.mi z hz).look KLk mapI zeroN k
      have e : ((getM k z.l).map nE).getD (nE 0) = .int .i64 (cntK z.l k : Int) := by unfold cntK nE; cases getM k z.l <;> rfl
      rw [e] at hli
      have hli' : (Instr.lookup 51 (.map (some z.b)) (.agg #[.int .i64 k.1, .int .i64 k.2.1, .int .i64 k.2.2]) false).run Try.prog W1 = .ok (.int .i64 (cntK z.l k : Int)) W1 := hli
      have t1 := T.k0
      have t2 := T.k1
      have t3 := T.k2
      have t4 := T.li
      have t5 := T.me
      have t6 := T.l2
      have t7 := T.es
      have t8 := T.l4
      have t9 := T.q0
      have ta := T.q1
      have tb := T.q2
      have HK := Lib.hid hkp
      have HD := Lib.hid hdr
      have hMz : (M.length : Int) ≤ 30000 := by omega
      have hMz0 : (0 : Int) ≤ (M.length : Int) := by omega
      clear T h h1 hB1 hk hE1 hE2 stay hli e hkp hdr hx hm
      generalize cntK z.l k = n0 at *
      generalize (lesL k z.l).length = ln at *
      have n1 : ((n0 : Int) == 0) = false := by rw [beq_eq_false_iff_ne]; omega
      have n2 : ¬ (n0 : Int) = 0 := by omega
      have n3 : (1 : Int) ≤ (n0 : Int) := by omega
      have n4 : (n0 : Int) ≤ 30000 := by omega
      unfold kE
      by_cases h1n : n0 = 1
      · obtain ⟨o3, hdel, hRt⟩ := HD.out h1n
        have hln := hRt.ln
        have HRt := Lib.hid hRt
        subst h1n
        clear hRt hpos hle
        simp only [Int.natCast_one] at *
        rw [show (1 : Int) - 1 = 0 from rfl] at t7 t8
        by_cases hl0 : ln = 0
        · have cE := HRt.out.dr hl0
          subst hl0
          subst hW1
          go_enter Try.func12, Try.ntmps12
          go_wp2
          go_region
          all_goals
            go_wp2_with (go_at_call 19; (with_reducible refine cE.mono ?_); rintro e w6 ⟨rfl, y1, y2, hR⟩; have HR := Lib.hid hR; clear hR)
            go_ret
            exact HR.out
        · obtain ⟨y1, y2, hR⟩ := HRt.out.kp hl0
          have HR := Lib.hid hR
          have m1 : ((ln : Int) == 0) = false := by rw [beq_eq_false_iff_ne]; omega
          have m2 : ¬ (ln : Int) = 0 := by omega
          clear hR hl0
          subst hW1
          go_enter Try.func12, Try.ntmps12
          go_wp2
          go_region
          all_goals
            go_wp2
            go_ret
            exact HR.out
      · obtain ⟨hl1, hRt⟩ := HK.out h1n
        have hln := hRt.ln
        obtain ⟨y1, y2, hR⟩ := hRt.kp (by omega)
        have HR := Lib.hid hR
        have m1 : ((ln : Int) == 0) = false := by rw [beq_eq_false_iff_ne]; omega
        have m2 : ¬ (ln : Int) = 0 := by omega
        have m3 : (((n0 : Int) - 1) == 0) = false := by rw [beq_eq_false_iff_ne]; omega
        have m4 : ¬ (n0 : Int) - 1 = 0 := by omega
        clear hR hRt hl1 h1n hpos hle
        subst hW1
        go_enter Try.func12, Try.ntmps12
        go_wp2
        go_region
        all_goals
          go_wp2
          go_ret
          exact HR.out
    · have hc0 : cntK z.l k = 0 := by rw [h.cn z hz]; exact List.count_eq_zero.2 hm
      have hli := (h1.mi z hz).look KLk mapI zeroN k
      have e : ((getM k z.l).map nE).getD (nE 0) = .int .i64 (cntK z.l k : Int) := by unfold cntK nE; cases getM k z.l <;> rfl
      rw [e, hc0] at hli
      have hli' : (Instr.lookup 51 (.map (some z.b)) (.agg #[.int .i64 k.1, .int .i64 k.2.1, .int .i64 k.2.2]) false).run Try.prog W1 = .ok (.int .i64 0) W1 := hli
      have HS := Lib.hid (stay hm)
      clear h h1 hB1 hk hE1 hE2 stay hli e hx hm hc0
      unfold kE
      subst hW1
      go_enter Try.func12, Try.ntmps12
      go_wp2
      go_ret
      exact HS.out
  · rw [getO_none hx hE2] at hlo
    have hlo' : (Instr.lookup 45 (.map (some am)) (.int .i64 x) false).run Try.prog W1 = .ok (.map none) W1 := hlo
    have hli := lookNil k W1
    unfold kE at hli
    have HS := Lib.hid (stay fun hm => hx (h.al _ hm))
    clear h h1 hB1 hk hE1 hE2 stay hlo hx
    unfold kE
    subst hW1
    go_enter Try.func12, Try.ntmps12
    go_wp2
    go_ret
    exact HS.out
end
end Go.Proofs.Ytncnoilldlnpoaa
