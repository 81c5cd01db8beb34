/-
  Bag.Content, walked.
-/
import Derived.Test.YtncnoilldlnpoaaBgCon
namespace Go.Proofs.Ytncnoilldlnpoaa
open Go.RowKit
set_option linter.unusedVariables false
set_option linter.unusedSimpArgs false
set_option maxRecDepth 100000

section
variable {B d am : Nat} {room : Int} {v : Value} {D : List Tz} {M : List (Int × Ky)} {W : World}
theorem gin_any (h : Bk B d room v am D M W) (a b : Int) :
    Calls Try.prog 17 #[.pointer (some ⟨d, 0, none⟩), spv a b] W (InPost W v ((D.map (·.t)).filter (hasB a b))) := by
  have hst := h.st
  have hso := h.so
  have hts := h.ts
  generalize D.map (·.t) = ts at *
  rcases hts with ⟨rfl, rfl⟩ | ⟨g, off, c, cs, rfl, hg, h1, h2, h3, h4⟩
  · exact gin_nil hst a b
  · exact gin_some hst hg h1 h2 h3 h4 hso a b
def ConP (W : World) (M : List (Int × Ky)) (a b : Int) (e : Ending) (w' : World) : Prop := ∃ v' L, e = .returned v' ∧ IsC L (cw M a b) ∧ EnA w' v' L ∧ Below W.heap.size W w'
def ConQ (W : World) (M : List (Int × Ky)) (a b : Int) (e : Ending) (w' : World) : Prop := ∃ v' L, e = .returned v' ∧ IsC L (cw M a b) ∧ EnA w' v' L ∧ Below W.heap.size W w' ∧ w'.ownsRow W.heap.size 41 4 v' L.length (L.flatMap entC)
theorem con_ts (h : Bk B d room v am D M W) {ts : List Int} {w1 : World} {v' : Value} (hT : TsA w1 v' ts) (hv : vB v' = none ∨ vB v' = vB v) (hb1 : Below W.heap.size W w1) :
    ∃ A c, v' = .slice A ts.length c ∧ ∀ w, Below W.heap.size W w → ∀ (i : Nat) (t : Int), ts[i]? = some t → ∃ g off, A = some ⟨g, off, none⟩ ∧ w.cell? ⟨g, off + i, none⟩ = some (.int .i64 t) := by
  rcases hT with ⟨rfl, rfl⟩ | ⟨g, off, c, cs, rfl, hg, h1, h2, h3, h4⟩
  · exact ⟨none, 0, rfl, fun w hb i t h => by simp at h⟩
  · refine ⟨_, c, rfl, fun w hb i t hi => ⟨g, off, rfl, ?_⟩⟩
    have hgl : g < W.heap.size := by
      rcases hv with e | e
      · cases e
      · exact h.lt g (.inr (.inr (.inl e.symm)))
    have : Fb w g 3 cs := (hb.block g hgl).trans ((hb1.block g hgl).symm.trans hg)
    rw [this.cell]
    exact h4 i t hi
/-- One time's round. -/
structure Cr (d am : Nat) (M : List (Int × Ky)) (W : World) (mb : Nat) (ts : List Int) (i : Nat) (z : Tz) (wr : World) (o : Obj) : Prop where
  a2 : wr.cell? ⟨d, 2, none⟩ = some (.map (some am))
  a3 : (Instr.lookup 45 (.map (some am)) (.int .i64 z.t) false).run Try.prog wr = .ok (.map (some z.b)) wr
  a4 : (Instr.range 51 (.map (some z.b))).run Try.prog wr = .ok (.pointer (some ⟨wr.heap.size, 0, none⟩)) (wr.alloc o)
  a5 : InR M W mb ts i z wr.heap.size z.l.length (wr.alloc o)
theorem cr_of (h : Bk B d room v am D M W) {mb : Nat} (hmb : W.heap.size ≤ mb) {ts : List Int} {i : Nat} {z : Tz} (hz : z ∈ D) {wr : World} {al : List (Ky × Nat)} (hal : Al W wr mb al) (hc : ∀ k, cntK al k = bK M ts i k) (hs : sumN al = bS M ts i) : ∃ o, Cr d am M W mb ts i z wr o := by
  have hd : Fb wr d 48 #[.int .i64 room, .int .i64 M.length, .map (some am), v] := (hal.bl.block d (h.lt d (.inl rfl))).trans h.st
  obtain ⟨E, hE1, hE2⟩ := h.mo
  have hE3 : Mq iE mE wr am E := hE1.of (hal.bl.block am (h.lt am (.inr (.inl rfl))))
  have hzl := h.lt z.b (.inr (.inr (.inr ⟨z, hz, rfl⟩)))
  have hi : Mq kE nE wr z.b z.l := (h.mi z hz).of (hal.bl.block z.b hzl)
  obtain ⟨o, hr, hR⟩ := hi.range (t := 51) mapI
  refine ⟨o, hd.cell 2, ?_, hr, al, z.l, ⟨hal.mp.of (Below.heap_alloc _ _ mb hal.mp.lt), hal.nd, hal.ps, hal.bl.alloc hal.bl.size o⟩, hR, Nat.le_refl _, h.ps z hz, fun k => ?_, ?_⟩
  · have := hE3.look KLi mapO zeroC z.t
    rw [h.getO hz hE2] at this
    exact this
  · rw [hc, cntL_K (h.nd z hz)]
  · rw [hs]
set_option maxHeartbeats 8000000 in
theorem gcon_own (h : Bk B d room v am D M W) (hM : M.length ≤ 30000) (a b : Int) :
    Calls Try.prog 10 #[.pointer (some ⟨d, 0, none⟩), spv a b] W (ConQ W M a b) := by
  obtain ⟨ts, hts⟩ : ∃ ts, ts = (D.map (·.t)).filter (hasB a b) := ⟨_, rfl⟩
  have hnd : ts.Nodup := by
    have : (D.map (·.t)).Nodup := h.so.imp fun hab e => by omega
    rw [hts]
    exact this.sublist List.filter_sublist
  have hmk := mkMap (W.alloc (.cells #[.int .i64 a, .int .i64 b] 24))
  rw [World.size_alloc] at hmk
  obtain ⟨W2, hW2⟩ : ∃ W2, W2 = (W.alloc (.cells #[.int .i64 a, .int .i64 b] 24)).alloc (.map #[] 0) := ⟨_, rfl⟩
  have hB2 : Below W.heap.size W W2 := by rw [hW2]; exact ((Below.refl _ _).alloc (Nat.le_refl _) _).alloc (by simp) _
  have hbx : Fb W2 W.heap.size 24 #[.int .i64 a, .int .i64 b] := by rw [hW2]; exact (Fb.new W _ _).alloc _
  have hmp : Mq kE nE W2 (W.heap.size + 1) [] := by
    rw [hW2]
    have := Mq.new (enc := kE) (encV := nE) (W.alloc (.cells #[.int .i64 a, .int .i64 b] 24))
    rw [World.size_alloc] at this
    exact this
  have cG := gin_any (h.below hB2) a b
  rw [← hts] at cG
  have c0 : W2.cell? ⟨W.heap.size, 0, none⟩ = some (.int .i64 a) := hbx.cell 0
  have c1 : W2.cell? ⟨W.heap.size, 1, none⟩ = some (.int .i64 b) := hbx.cell 1
  have HTA := Lib.hid (fun (w1 : World) (v' : Value) (hT : TsA w1 v' ts) (hv : vB v' = none ∨ vB v' = vB v) (hb : Below W2.heap.size W2 w1) => (show (∃ A c, v' = .slice A ts.length c ∧ ∀ w, Below W.heap.size W w → ∀ (i : Nat) (t : Int), ts[i]? = some t → ∃ g off, A = some ⟨g, off, none⟩ ∧ w.cell? ⟨g, off + i, none⟩ = some (.int .i64 t)) ∧ ConR M W (W.heap.size + 1) ts ts.length (.int .i64 0) w1 from
    ⟨con_ts h hT hv (hB2.trans (hb.mono hB2.size)), 0, [], rfl, Nat.zero_le _, by omega, ⟨hmp.of (hb.block _ hmp.lt), List.nodup_nil, fun p hp => (by cases hp), hB2.trans (hb.mono hB2.size)⟩, fun k => rfl, rfl⟩))
  have HZ := Lib.hid (fun (i : Nat) (hi : i < ts.length) => (show ∃ z, z ∈ D ∧ ts[i]? = some z.t from by
    have h1 : ts[i] ∈ (D.map (·.t)).filter (hasB a b) := by rw [← hts]; exact List.getElem_mem hi
    obtain ⟨z, hz, e⟩ := List.mem_map.1 (List.mem_filter.1 h1).1
    exact ⟨z, hz, by rw [e]; exact List.getElem?_eq_getElem hi⟩))
  have HCR := Lib.hid (fun (i : Nat) (z : Tz) (hz : z ∈ D) (wr : World) (al : List (Ky × Nat)) (hal : Al W wr (W.heap.size + 1) al) (hc : ∀ k, cntK al k = bK M ts i k) (hs : sumN al = bS M ts i) => cr_of h (mb := W.heap.size + 1) (by omega) (ts := ts) (i := i) hz hal hc hs)
  have HNX := Lib.hid (fun (i : Nat) (z : Tz) (hz : z ∈ D) (hi : ts[i]? = some z.t) (wr : World) (al : List (Ky × Nat)) (hal : Al W wr (W.heap.size + 1) al) (hc : ∀ k, cntK al k + cntL [] k = bK M ts i k + cntK z.l k) (hs : sumN al + sumN [] = bS M ts i + sumN z.l) => (show ConR M W (W.heap.size + 1) ts (ts.length - (i + 1)) (.int .i64 ((i : Int) + 1)) wr from
    ⟨i + 1, al, by rw [Int.natCast_add]; rfl, (List.getElem?_eq_some_iff.1 hi).1, Nat.le_refl _, hal, fun k => by
      have := hc k
      rw [bK_succ M hi, ← h.cn z hz k]
      simpa [cntL] using this, by
      rw [bS_succ M hi, ← h.sm z hz]
      simpa [sumN] using hs⟩))
  have HBD := Lib.hid (fun (i : Nat) (z : Tz) (hz : z ∈ D) (hi : ts[i]? = some z.t) (k : Ky) => (show bK M ts i k + cntK z.l k ≤ 30000 from by
    have := bK_le M hnd (i + 1) k
    rw [bK_succ M hi, ← h.cn z hz k] at this
    omega))
  have HZB := Lib.hid (fun (z : Tz) (hz : z ∈ D) => (show z.b ≠ W.heap.size + 1 from by
    have := h.lt z.b (.inr (.inr (.inr ⟨z, hz, rfl⟩)))
    omega))
  have HEN := Lib.hid (fun (wr : World) (al : List (Ky × Nat)) (hal : Al W wr (W.heap.size + 1) al) (hc : ∀ k, cntK al k = bK M ts ts.length k) (hs : sumN al = bS M ts ts.length) => (show Calls Try.prog 18 #[.map (some (W.heap.size + 1))] wr (ConQ W M a b) from by
    have hl : al.length ≤ 30000 := by
      have := len_le_sum hal.ps
      have := bS_le M hnd ts.length
      omega
    refine (gentries_own hal.mp hal.nd hal.ps hl).mono ?_
    rintro e w' ⟨v', L, rfl, h1, h2, h3, h9⟩
    exact ⟨v', L, rfl, ⟨h1.so, h1.ps, fun k => by rw [h1.cn, hc, hts]; exact cw_of h k⟩, h2, hal.bl.trans (h3.mono hal.bl.size), row_base h9 hal.bl.size⟩))
  have HLN := Lib.hid (show ts.length ≤ 100000 from by
    have := h.ts.len
    have : ts.length ≤ (D.map (·.t)).length := by rw [hts]; exact List.length_filter_le _ _
    omega)
  clear h hM hts hnd hB2 hbx hmp
  unfold spv at *
  subst hW2
  go_enter Try.func10, Try.ntmps10
  go_wp2_with (go_at_call 17; (with_reducible refine cG.mono ?_); rintro e w1 ⟨v', rfl, hT, hvb, hb1⟩
               obtain ⟨⟨A, c, rfl, hA⟩, hst⟩ := HTA.out w1 v' hT hvb hb1
               have HA := Lib.hid hA
               have HST := Lib.hid hst
               clear hT hvb hb1 hA hst)
  go_loopg [15] ts.length (fun gk s15 wr => ConR M W (W.heap.size + 1) ts gk s15 wr)
  case atStart => exact HST.out
  case round =>
    obtain ⟨i, al, rfl, hi, hgk, hal, hcn, hsm⟩ := hrel
    have hln := HLN.out
    have hi0 : (0 : Int) ≤ (i : Int) := by omega
    by_cases hlt : i < ts.length
    · obtain ⟨z, hz, hzt⟩ := HZ.out i hlt
      obtain ⟨g, off, rfl, hcell⟩ := HA.out wr hal.bl i z.t hzt
      obtain ⟨o, a2, a3, a4, a5⟩ := HCR.out i z hz wr al hal hcn hsm
      have hr9 : wr.heap.size ≠ W.heap.size + 1 := fun e => by have := hal.mp.lt; omega
      have hrB : W.heap.size ≤ wr.heap.size := hal.bl.size
      obtain ⟨R, hRR⟩ : ∃ R, R = wr.heap.size := ⟨_, rfl⟩
      rw [← hRR] at a4 a5 hr9 hrB
      have HI := Lib.hid a5
      have HR9 := Lib.hid hr9
      have HRB := Lib.hid hrB
      have HLT := Lib.hid hlt
      have HGK := Lib.hid hgk
      have HZZ := Lib.hid hz
      have HZT := Lib.hid hzt
      have hi1 : (i : Int) < (ts.length : Int) := by omega
      have hi2 : (i : Int) + 1 ≤ 100000 := by omega
      clear hal hcn hsm hgk hi a5 hr9 hrB hz hzt hlt hRR
      go_wp2
      go_loopg [9] z.l.length (fun gk2 s9 wr2 => InR M W (W.heap.size + 1) ts i z R gk2 wr2)
      case atStart => exact HI.out
      case round =>
        obtain ⟨al, left, hal, hRg, hg2, hps, hcn, hsm⟩ := hrel
        rcases hRg.next 0 with ⟨rfl, hnx⟩ | ⟨p, A, C, V, o2, rfl, hV, hnx, hL2, he⟩
        · have HX := Lib.hid (HNX.out i z HZZ.out HZT.out wr al hal hcn hsm)
          clear hal hRg hg2 hps hcn hsm
          go_wp2
          go_roundg (ts.length - (i + 1))
          case measure => have := HGK.out; have := HLT.out; omega
          case rel => exact HX.out
        · obtain ⟨W3, hW3⟩ : ∃ W3, W3 = putBlock V R o2 := ⟨_, rfl⟩
          rw [← hW3] at hnx hL2 he
          obtain ⟨k, n⟩ := p
          have hal3 : Al W W3 (W.heap.size + 1) al := by
            have hb : Below W.heap.size W V := by
              rcases hV with rfl | rfl
              · exact hal.bl
              · exact hal.bl.drew
            have hm : Mq kE nE V (W.heap.size + 1) al := by
              rcases hV with rfl | rfl
              · exact hal.mp
              · exact hal.mp
            rw [hW3]
            exact ⟨hm.of (putBlock_far (Ne.symm HR9.out)), hal.nd, hal.ps, below_put hb HRB.out _⟩
          obtain ⟨W5, hW5⟩ : ∃ W5, W5 = (W3.alloc (.cells #[.int .i64 k.1, .int .i64 k.2.1, .int .i64 k.2.2] 39)).drew := ⟨_, rfl⟩
          have hal5 : Al W W5 (W.heap.size + 1) al := by
            rw [hW5]
            exact ⟨Mq.of (W := W3) hal3.mp (Below.heap_alloc _ _ _ hal3.mp.lt), hal3.nd, hal3.ps, (hal3.bl.alloc hal3.bl.size _).drew⟩
          have hR5 : Rg kE nE W5 z.b R (A ++ C) := by
            rw [hW5]
            obtain ⟨es, ck, si, se, c0, q1, q2, _⟩ := id hL2
            exact hL2.of (Below.heap_alloc _ _ _ (Array.getElem?_eq_some_iff.1 q1).1) (Below.heap_alloc _ _ _ (Array.getElem?_eq_some_iff.1 q2).1)
          have hk5 : Fb W5 W3.heap.size 39 #[.int .i64 k.1, .int .i64 k.2.1, .int .i64 k.2.2] := by rw [hW5]; exact (Fb.new W3 _ _).drew
          obtain ⟨st, n0, q1, q2, t1, t2, t3, t4, t5, t6, t7, t8, t9⟩ := cl_of hal5 (by omega) HR9.out (HZB.out z HZZ.out) hk5 hR5 hps hcn hsm (HBD.out i z HZZ.out HZT.out k)
          have HT := Lib.hid t9
          have hlen : (A ++ C).length + 1 ≤ gk := by simpa [Nat.add_assoc] using hg2
          have HG := Lib.hid hlen
          have hn0 : (0 : Int) ≤ (n0 : Int) := by omega
          have hn1 : (0 : Int) ≤ (n : Int) := by omega
          have hn2 : (n0 : Int) + (n : Int) ≤ 30000 := by omega
          clear hal hRg hg2 hps hcn hsm hV hW3 hal3 hal5 hR5 hk5 hlen t9 hL2
          dsimp only at hnx he
          unfold nE kE at hnx he
          subst hW5
          go_wp2
          go_region
          all_goals
            go_wp2
            go_roundg ((A ++ C).length)
            case measure => have := HG.out; omega
            case rel => exact HT.out
    · obtain rfl : i = ts.length := by omega
      have cE := HEN.out wr al hal hcn hsm
      clear hal hcn hsm hgk hi
      go_wp2_with (go_at_call 18; (with_reducible refine cE.mono ?_); intro e w5 hz; obtain ⟨v5, L5, rfl, _⟩ := id hz; have HZ5 := Lib.hid hz; clear hz)
      go_ret
      exact HZ5.out
theorem gcon_any (h : Bk B d room v am D M W) (hM : M.length ≤ 30000) (a b : Int) :
    Calls Try.prog 10 #[.pointer (some ⟨d, 0, none⟩), spv a b] W (ConP W M a b) :=
  (gcon_own h hM a b).mono fun _ _ ⟨v, L, p, q, r, t, _⟩ => ⟨v, L, p, q, r, t⟩
end
end Go.Proofs.Ytncnoilldlnpoaa
