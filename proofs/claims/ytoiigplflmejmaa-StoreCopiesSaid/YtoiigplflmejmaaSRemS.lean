/-
  A STORE IN GENERAL: Remove. (Out of srems.py.)
-/
import Derived.Test.YtoiigplflmejmaaSRemL
namespace Go.Proofs.Ytoiigplflmejmaa
open Go.RowKit
set_option linter.unusedVariables false
set_option linter.unusedSimpArgs false
set_option maxRecDepth 100000

theorem slrem_lx {B : Nat} {W : World} {d o : Nat} {n : Int} {x : Value} {l : List Kt} {F : List Nat} {cs : Array Value} (hd : Fb W d 60 cs) (hox : cs[o + 1]? = some x) (h : Lx B W d o n x l F) (hl : l.length ≤ 1000) (k : Kt) (hk : k ∈ l) :
    Calls Try.prog 25 #[.pointer (some ⟨d, o, none⟩), .agg #[.int .i64 k.a, .int .i64 k.b, .int .i64 k.c]] W fun e w' => e = .returned (.tuple #[]) ∧ ∃ x' l' F', LremP B W d o n l F k x' l' F' w' := by
  have hlx := h
  obtain ⟨h0, h1, h⟩ := h
  rcases h with ⟨rfl, ⟨A0, c0', rfl⟩, rfl⟩ | ⟨gb, cb, v, g, rfl, hvg, rfl, hm, hp, hs, hge, hcb⟩
  · cases hk
  · have hvd : v.ownBlock ≠ some d := fun e => by
      obtain ⟨cur, hc⟩ := row_block hm.hr e
      unfold Fb at hd
      rw [hd] at hc
      injection hc with hc
      injection hc with _ hc
      exact store_ne_key hc
    have hdg : d ≠ gb := fun e => by
      obtain ⟨rs, this⟩ := hm.hb
      rw [← e] at this
      unfold Fb at this hd
      rw [hd] at this
      injection this with this
      injection this with _ this
      exact store_ne_keys this
    refine (slrem_any hm hl hp hs k hk hvd hdg hcb (fun i => hd.free i)).mono ?_
    rintro e w' ⟨rfl, l', hpm, hs', hw⟩
    refine ⟨rfl, ?_⟩
    rcases hw with ⟨hp', v', hm', ht, hown⟩ | ⟨rfl, wx, v', hm', ht, wy, hg, rfl⟩
    · have hdb : w'.heap[d]? = W.heap[d]? := ht.block d hd.lt hdg hvd
      refine ⟨_, l', [gb, g], ⟨hm'.h0, hm'.h1, .inr ⟨gb, cb, v', g, rfl, hown.trans hvg, rfl, hm', hp', hs', hge, hcb⟩⟩, hpm, fun {cs'} h => ?_, fun q hq hne hnf => ?_, fun q hq => hq, ht.size, ht.os, ht.tape, ht.output⟩
      · have e : cs'.setIfInBounds (o + 1) (.slice (some ⟨gb, 0, none⟩) 1 cb) = cs' := by
          have hc := hm.h1
          rw [h.cell (o + 1)] at hc
          obtain ⟨hlt, he⟩ := Array.getElem?_eq_some_iff.1 hc
          apply Array.ext_getElem?
          intro j
          rw [Array.getElem?_setIfInBounds]
          by_cases hj : o + 1 = j
          · subst hj; rw [if_pos rfl, if_pos hlt, hc]
          · rw [if_neg hj]
        rw [e]
        exact hdb.trans h
      · simp at hnf
        exact ht.block q hq hnf.1 (fun e => hnf.2 (by rw [hvg] at e; exact (Option.some.inj e).symm))
    · have hblk : ∀ q, q < W.heap.size → q ≠ gb → v.ownBlock ≠ some q → wy.heap[q]? = W.heap[q]? := fun q hq h1 h2 => (hg.block q (Nat.lt_of_lt_of_le hq ht.size) (fun e => h1 (Option.some.inj e))).trans (ht.block q hq h1 h2)
      have hdy : ∀ {cs' : Array Value}, Fb W d 60 cs' → Fb wy d 60 cs' := fun {cs'} h => (hblk d hd.lt hdg hvd).trans h
      have hsz : W.heap.size ≤ wy.heap.size := Nat.le_trans ht.size hg.size
      have ho : o + 1 < cs.size := (Array.getElem?_eq_some_iff.1 hox).1
      have c0 : (wy.setCell ⟨d, o + 1, none⟩ (.slice (some ⟨gb, 0, none⟩) 0 cb)).cell? ⟨d, o, none⟩ = some (.int .i64 n) := by
        rw [((hdy hd).set (o + 1) _).cell o]
        rw [hd.cell o] at h0
        rw [Array.getElem?_setIfInBounds, if_neg (by omega)]
        exact h0
      have c1 : (wy.setCell ⟨d, o + 1, none⟩ (.slice (some ⟨gb, 0, none⟩) 0 cb)).cell? ⟨d, o + 1, none⟩ = some (.slice (some ⟨gb, 0, none⟩) 0 cb) := by
        rw [((hdy hd).set (o + 1) _).cell (o + 1), Array.getElem?_setIfInBounds, if_pos rfl, if_pos ho]
      refine ⟨_, [], [], ⟨c0, c1, .inl ⟨rfl, ⟨_, _, rfl⟩, rfl⟩⟩, hpm, fun {cs'} h => (hdy h).set (o + 1) _, fun q hq hne hnf => ?_, fun q hq => (by cases hq), by simpa using hsz, hg.os.trans ht.os, hg.tape.trans ht.tape, hg.output.trans ht.output⟩
      simp at hnf
      exact (Below.heap_setCell _ _ _ _ hne).trans (hblk q hq hnf.1 (fun e => hnf.2 (by rw [hvg] at e; exact (Option.some.inj e).symm)))
theorem LremP.kp {B : Nat} {W w' : World} {d o : Nat} {n : Int} {x x' : Value} {l l' : List Kt} {F F' : List Nat} {k : Kt} {cs : Array Value} (h : LremP B W d o n l F k x' l' F' w') (ha : Lx B W d o n x l F) (hd : Fb W d 60 cs) (hB : B ≤ d) : Kp B W w' :=
  ⟨h.os, h.tape, h.output, h.size, fun q hq => h.block q (by have := hd.lt; omega) (by omega) (fun hm => by have := (ha.ge q hm).1; omega), fun {q t cs'} hf h1 h2 h3 => (h.block q hf.lt (fb_neS hf hd h1) (ha.far hf h2 h3)).trans hf⟩
theorem rem_pm {l l' m : List Kt} {k : Kt} (h : l.Perm (k :: l')) (hm : l.Perm m) (hk : k ∈ m) : l'.Perm (m.erase k) :=
  List.Perm.cons_inv ((h.symm.trans hm).trans (List.perm_cons_erase hk))
section
variable {B d : Nat} {room many : Int} {m0 m1 m2 : List Kt} {x0 x1 x2 : Value} {l0 l1 l2 : List Kt} {F0 F1 F2 : List Nat} {W w' : World} {x' : Value} {l' : List Kt} {F' : List Nat} {k : Kt}
theorem Sy.rem0 (h : Sy B d room many m0 m1 m2 x0 x1 x2 l0 l1 l2 F0 F1 F2 W) (hk : k ∈ m0) (hp : LremP B W d 2 0 l0 F0 k x' l' F' w') : Sy B d room many (m0.erase k) m1 m2 x' x1 x2 l' l1 l2 F' F1 F2 w' :=
  ⟨hp.own h.fb, h.hd, hp.lx, h.a1.keep (((hp.own h.fb).cell 4).trans (h.fb.cell 4).symm) (((hp.own h.fb).cell 5).trans (h.fb.cell 5).symm) (fun q hq => hp.block q (h.a1.ge q hq).2 (fun e => h.a1.far h.fb store_ne_keys store_ne_key (e ▸ hq)) (fun hm => h.d01 q hm hq)), h.a2.keep (((hp.own h.fb).cell 6).trans (h.fb.cell 6).symm) (((hp.own h.fb).cell 7).trans (h.fb.cell 7).symm) (fun q hq => hp.block q (h.a2.ge q hq).2 (fun e => h.a2.far h.fb store_ne_keys store_ne_key (e ▸ hq)) (fun hm => h.d02 q hm hq)), rem_pm hp.pm h.p0 hk, h.p1, h.p2, (fun q hq hm => h.d01 q (hp.far q hq) hm), (fun q hq hm => h.d02 q (hp.far q hq) hm), h.d12⟩
theorem Sy.rem1 (h : Sy B d room many m0 m1 m2 x0 x1 x2 l0 l1 l2 F0 F1 F2 W) (hk : k ∈ m1) (hp : LremP B W d 4 1 l1 F1 k x' l' F' w') : Sy B d room many m0 (m1.erase k) m2 x0 x' x2 l0 l' l2 F0 F' F2 w' :=
  ⟨hp.own h.fb, h.hd, h.a0.keep (((hp.own h.fb).cell 2).trans (h.fb.cell 2).symm) (((hp.own h.fb).cell 3).trans (h.fb.cell 3).symm) (fun q hq => hp.block q (h.a0.ge q hq).2 (fun e => h.a0.far h.fb store_ne_keys store_ne_key (e ▸ hq)) (h.d01 q hq)), hp.lx, h.a2.keep (((hp.own h.fb).cell 6).trans (h.fb.cell 6).symm) (((hp.own h.fb).cell 7).trans (h.fb.cell 7).symm) (fun q hq => hp.block q (h.a2.ge q hq).2 (fun e => h.a2.far h.fb store_ne_keys store_ne_key (e ▸ hq)) (fun hm => h.d12 q hm hq)), h.p0, rem_pm hp.pm h.p1 hk, h.p2, (fun q hq hm => h.d01 q hq (hp.far q hm)), h.d02, (fun q hq hm => h.d12 q (hp.far q hq) hm)⟩
theorem Sy.rem2 (h : Sy B d room many m0 m1 m2 x0 x1 x2 l0 l1 l2 F0 F1 F2 W) (hk : k ∈ m2) (hp : LremP B W d 6 2 l2 F2 k x' l' F' w') : Sy B d room many m0 m1 (m2.erase k) x0 x1 x' l0 l1 l' F0 F1 F' w' :=
  ⟨hp.own h.fb, h.hd, h.a0.keep (((hp.own h.fb).cell 2).trans (h.fb.cell 2).symm) (((hp.own h.fb).cell 3).trans (h.fb.cell 3).symm) (fun q hq => hp.block q (h.a0.ge q hq).2 (fun e => h.a0.far h.fb store_ne_keys store_ne_key (e ▸ hq)) (h.d02 q hq)), h.a1.keep (((hp.own h.fb).cell 4).trans (h.fb.cell 4).symm) (((hp.own h.fb).cell 5).trans (h.fb.cell 5).symm) (fun q hq => hp.block q (h.a1.ge q hq).2 (fun e => h.a1.far h.fb store_ne_keys store_ne_key (e ▸ hq)) (h.d12 q hq)), hp.lx, h.p0, h.p1, rem_pm hp.pm h.p2 hk, h.d01, (fun q hq hm => h.d02 q hq (hp.far q hm)), (fun q hq hm => h.d12 q hq (hp.far q hm))⟩
/-- While a key is taken out of the lists. -/
def SyQ (B : Nat) (W : World) (d bk : Nat) (room many : Int) (m : List Kt) (k : Kt) (g : Nat) (s : Value) (wr : World) : Prop :=
  Kp B W wr ∧ Fb wr bk 37 #[.int .i64 k.a, .int .i64 k.b, .int .i64 k.c] ∧
  ∃ y0 y1 y2 x0 x1 x2 l0 l1 l2 F0 F1 F2, Sy B d room many y0 y1 y2 x0 x1 x2 l0 l1 l2 F0 F1 F2 wr ∧ bk ∉ F0 ∧ bk ∉ F1 ∧ bk ∉ F2 ∧
  ((g = 3 ∧ s = .int .i64 0 ∧ Hid (y0 = m ∧ y1 = m ∧ y2 = m)) ∨ (g = 2 ∧ s = .int .i64 1 ∧ Hid (y0 = m.erase k ∧ y1 = m ∧ y2 = m)) ∨ (g = 1 ∧ s = .int .i64 2 ∧ Hid (y0 = m.erase k ∧ y1 = m.erase k ∧ y2 = m)) ∨ (g = 0 ∧ s = .int .i64 3 ∧ Hid (y0 = m.erase k ∧ y1 = m.erase k ∧ y2 = m.erase k)))
/-- Remove: the keys behind, the error. -/
noncomputable def remR (m : List Kt) (k : Kt) : List Kt × Int := if k ∈ m then (m.erase k, 0) else (m, 4)
end
set_option maxHeartbeats 16000000 in
theorem srem_sx {B d : Nat} {room : Int} {m : List Kt} {W : World} (h : Sx B d room (m.length : Int) m m m W) (hml : m.length ≤ 200) (k : Kt) :
    Calls Try.prog 13 #[.pointer (some ⟨d, 0, none⟩), .agg #[.int .i64 k.a, .int .i64 k.b, .int .i64 k.c]] W (SaddP B d room W (remR m k)) := by
  obtain ⟨W2, hW2⟩ : ∃ W2, W2 = W.alloc (.cells #[.int .i64 k.a, .int .i64 k.b, .int .i64 k.c] 37) := ⟨_, rfl⟩
  have hB1 : Below W.heap.size W W2 := by rw [hW2]; exact (Below.refl _ _).alloc (Nat.le_refl _) _
  have hk : Fb W2 W.heap.size 37 #[.int .i64 k.a, .int .i64 k.b, .int .i64 k.c] := by rw [hW2]; exact Fb.new _ _ _
  have hBW : B ≤ W.heap.size ∧ d < W.heap.size := by
    obtain ⟨_, _, _, _, _, _, _, _, _, q⟩ := h
    exact ⟨Nat.le_of_lt (Nat.lt_of_le_of_lt q.hd q.fb.lt), q.fb.lt⟩
  have h2 := h.below hB1
  have cH := shas_sx h2 (by omega) k
  have k0 : W2.cell? ⟨W.heap.size, 0, none⟩ = some (.int .i64 k.a) := hk.cell 0
  have k1 : W2.cell? ⟨W.heap.size, 1, none⟩ = some (.int .i64 k.b) := hk.cell 1
  have k2 : W2.cell? ⟨W.heap.size, 2, none⟩ = some (.int .i64 k.c) := hk.cell 2
  have HE := Lib.hid (fun (r : Int) (w : World) (hb : Below W.heap.size W w) (hr : remR m k = (m, r)) => (show SaddP B d room W (remR m k) (.returned (.int .i64 r)) w from by rw [hr]; exact ⟨rfl, h.below hb, Kp.of hb hBW.1⟩))
  have HB1 := Lib.hid hB1
  have HML := Lib.hid hml
  have HBW := Lib.hid hBW
  have H2 := Lib.hid h2
  have HK := Lib.hid hk
  by_cases hkm : k ∈ m
  · rw [decide_eq_true hkm] at cH
    have HKM := Lib.hid hkm
    have HR := Lib.hid (show remR m k = (m.erase k, 0) from by unfold remR; rw [if_pos hkm])
    have hst : ∀ w1 : World, Below W2.heap.size W2 w1 → SyQ B W d W.heap.size room m.length m k 3 (.int .i64 0) w1 := fun w1 hb => by
      obtain ⟨y0, y1, y2, t0, t1, t2, G0, G1, G2, p⟩ := h
      have hbb := HB1.out.trans (hb.mono HB1.out.size)
      exact ⟨Kp.of hbb HBW.out.1, HK.out.below hb, m, m, m, y0, y1, y2, t0, t1, t2, G0, G1, G2, p.below hbb, (fun hm => by have := (p.a0.ge _ hm).2; omega), (fun hm => by have := (p.a1.ge _ hm).2; omega), (fun hm => by have := (p.a2.ge _ hm).2; omega), .inl ⟨rfl, rfl, Lib.hid ⟨rfl, rfl, rfl⟩⟩⟩
    have HST := Lib.hid hst
    have HDW := Lib.hid hBW.2
    clear h hB1 hk h2 hml hBW hkm hst
    subst hW2
    go_enter Try.func13, Try.ntmps13
    go_wp2_with (go_at_call 15; (with_reducible refine cH.mono ?_); rintro e w1 ⟨rfl, hb1⟩; have HS := Lib.hid (HST.out _ hb1); clear hb1)
    clear cH k0 k1 k2 HST HE
    go_loopg [10] 3 (fun g s wr => SyQ B W d W.heap.size room m.length m k g s wr)
    case atStart => exact HS.out
    case round =>
      clear HS
      obtain ⟨hKP, hKB, y0, y1, y2, x0, x1, x2, l0, l1, l2, F0, F1, F2, hY, nb0, nb1, nb2, hw⟩ := hrel
      have k0 : wr.cell? ⟨W.heap.size, 0, none⟩ = some (.int .i64 k.a) := hKB.cell 0
      have k1 : wr.cell? ⟨W.heap.size, 1, none⟩ = some (.int .i64 k.b) := hKB.cell 1
      have k2 : wr.cell? ⟨W.heap.size, 2, none⟩ = some (.int .i64 k.c) := hKB.cell 2
      have HKP := Lib.hid hKP
      have HKB := Lib.hid hKB
      have HY := Lib.hid hY
      have HNB := Lib.hid (And.intro nb0 (And.intro nb1 nb2))
      have HBL := Lib.hid hKB.lt
      clear hKP hKB hY nb0 nb1 nb2
      rcases hw with ⟨hg, rfl, HZ⟩ | ⟨hg, rfl, HZ⟩ | ⟨hg, rfl, HZ⟩ | ⟨hg, rfl, HZ⟩
      · subst hg
        have hmi : k ∈ y0 := by rw [HZ.out.1]; exact HKM.out
        have hli : l0.length ≤ 1000 := by rw [HY.out.p0.length_eq, HZ.out.1]; have := HML.out; omega
        have hD := HY.out.below (Below.drew (Below.refl _ _))
        have cL := slrem_lx (W := wr.drew) (d := d) (o := 2) hD.fb rfl hD.a0 hli k (HY.out.p0.mem_iff.2 hmi)
        have HD := Lib.hid hD
        have HMI := Lib.hid hmi
        clear hD hmi hli
        go_wp2
        go_region_held3 (fun w => w.cell? ⟨W.heap.size, 0, none⟩ = some (.int .i64 k.a) ∧ w.cell? ⟨W.heap.size, 1, none⟩ = some (.int .i64 k.b) ∧ w.cell? ⟨W.heap.size, 2, none⟩ = some (.int .i64 k.c))
          (first | exact ⟨k0, k1, k2⟩ | exact ⟨Fb.cell HK6.out 0, Fb.cell HK6.out 1, Fb.cell HK6.out 2⟩)
          (first
            | (go_at_call 25; (with_reducible refine cL.mono ?_); rintro e w5 ⟨rfl, x', l', F', hP⟩; have HP := Lib.hid hP; have HK6 : Hid (Fb w5 W.heap.size 37 #[.int .i64 k.a, .int .i64 k.b, .int .i64 k.c]) := Lib.hid ((hP.block _ HBL.out (Nat.ne_of_lt (Nat.lt_of_lt_of_le HDW.out (Nat.le_refl _))).symm HNB.out.1).trans HKB.out); clear hP)
            | fail)
        all_goals
          go_wp2
          go_roundg 2
          case measure => exact Nat.lt_succ_self _
          case rel =>
            have HNX : Hid (W.heap.size ∉ F') := Lib.hid (fun hm => HNB.out.1 (HP.out.far _ hm))
            exact ⟨HKP.out.trans ((Kp.of (Below.drew (Below.refl _ _)) (by have := HY.out.fb.lt; have := HY.out.hd; omega)).trans (HP.out.kp HD.out.a0 HD.out.fb HD.out.hd)), HK6.out, _, _, _, _, _, _, _, _, _, _, _, _, HD.out.rem0 HMI.out HP.out, HNX.out, HNB.out.2.1, HNB.out.2.2, .inr (.inl ⟨rfl, rfl, Lib.hid ⟨by rw [HZ.out.1], HZ.out.2.1, HZ.out.2.2⟩⟩)⟩
      · subst hg
        have hmi : k ∈ y1 := by rw [HZ.out.2.1]; exact HKM.out
        have hli : l1.length ≤ 1000 := by rw [HY.out.p1.length_eq, HZ.out.2.1]; have := HML.out; omega
        have hD := HY.out.below (Below.drew (Below.refl _ _))
        have cL := slrem_lx (W := wr.drew) (d := d) (o := 4) hD.fb rfl hD.a1 hli k (HY.out.p1.mem_iff.2 hmi)
        have HD := Lib.hid hD
        have HMI := Lib.hid hmi
        clear hD hmi hli
        go_wp2
        go_region_held3 (fun w => w.cell? ⟨W.heap.size, 0, none⟩ = some (.int .i64 k.a) ∧ w.cell? ⟨W.heap.size, 1, none⟩ = some (.int .i64 k.b) ∧ w.cell? ⟨W.heap.size, 2, none⟩ = some (.int .i64 k.c))
          (first | exact ⟨k0, k1, k2⟩ | exact ⟨Fb.cell HK6.out 0, Fb.cell HK6.out 1, Fb.cell HK6.out 2⟩)
          (first
            | (go_at_call 25; (with_reducible refine cL.mono ?_); rintro e w5 ⟨rfl, x', l', F', hP⟩; have HP := Lib.hid hP; have HK6 : Hid (Fb w5 W.heap.size 37 #[.int .i64 k.a, .int .i64 k.b, .int .i64 k.c]) := Lib.hid ((hP.block _ HBL.out (Nat.ne_of_lt (Nat.lt_of_lt_of_le HDW.out (Nat.le_refl _))).symm HNB.out.2.1).trans HKB.out); clear hP)
            | fail)
        all_goals
          go_wp2
          go_roundg 1
          case measure => exact Nat.lt_succ_self _
          case rel =>
            have HNX : Hid (W.heap.size ∉ F') := Lib.hid (fun hm => HNB.out.2.1 (HP.out.far _ hm))
            exact ⟨HKP.out.trans ((Kp.of (Below.drew (Below.refl _ _)) (by have := HY.out.fb.lt; have := HY.out.hd; omega)).trans (HP.out.kp HD.out.a1 HD.out.fb HD.out.hd)), HK6.out, _, _, _, _, _, _, _, _, _, _, _, _, HD.out.rem1 HMI.out HP.out, HNB.out.1, HNX.out, HNB.out.2.2, .inr (.inr (.inl ⟨rfl, rfl, Lib.hid ⟨HZ.out.1, by rw [HZ.out.2.1], HZ.out.2.2⟩⟩))⟩
      · subst hg
        have hmi : k ∈ y2 := by rw [HZ.out.2.2]; exact HKM.out
        have hli : l2.length ≤ 1000 := by rw [HY.out.p2.length_eq, HZ.out.2.2]; have := HML.out; omega
        have hD := HY.out.below (Below.drew (Below.refl _ _))
        have cL := slrem_lx (W := wr.drew) (d := d) (o := 6) hD.fb rfl hD.a2 hli k (HY.out.p2.mem_iff.2 hmi)
        have HD := Lib.hid hD
        have HMI := Lib.hid hmi
        clear hD hmi hli
        go_wp2
        go_region_held3 (fun w => w.cell? ⟨W.heap.size, 0, none⟩ = some (.int .i64 k.a) ∧ w.cell? ⟨W.heap.size, 1, none⟩ = some (.int .i64 k.b) ∧ w.cell? ⟨W.heap.size, 2, none⟩ = some (.int .i64 k.c))
          (first | exact ⟨k0, k1, k2⟩ | exact ⟨Fb.cell HK6.out 0, Fb.cell HK6.out 1, Fb.cell HK6.out 2⟩)
          (first
            | (go_at_call 25; (with_reducible refine cL.mono ?_); rintro e w5 ⟨rfl, x', l', F', hP⟩; have HP := Lib.hid hP; have HK6 : Hid (Fb w5 W.heap.size 37 #[.int .i64 k.a, .int .i64 k.b, .int .i64 k.c]) := Lib.hid ((hP.block _ HBL.out (Nat.ne_of_lt (Nat.lt_of_lt_of_le HDW.out (Nat.le_refl _))).symm HNB.out.2.2).trans HKB.out); clear hP)
            | fail)
        all_goals
          go_wp2
          go_roundg 0
          case measure => exact Nat.lt_succ_self _
          case rel =>
            have HNX : Hid (W.heap.size ∉ F') := Lib.hid (fun hm => HNB.out.2.2 (HP.out.far _ hm))
            exact ⟨HKP.out.trans ((Kp.of (Below.drew (Below.refl _ _)) (by have := HY.out.fb.lt; have := HY.out.hd; omega)).trans (HP.out.kp HD.out.a2 HD.out.fb HD.out.hd)), HK6.out, _, _, _, _, _, _, _, _, _, _, _, _, HD.out.rem2 HMI.out HP.out, HNB.out.1, HNB.out.2.1, HNX.out, .inr (.inr (.inr ⟨rfl, rfl, Lib.hid ⟨HZ.out.1, HZ.out.2.1, by rw [HZ.out.2.2]⟩⟩))⟩
      · have c1 : wr.cell? ⟨d, 1, none⟩ = some (.int .i64 m.length) := HY.out.fb.cell 1
        have f1 := HY.out.fb.free 1
        have ld := HY.out.fb.lt
        have hml := List.length_pos_of_mem HKM.out
        have hwz : wrap64 ((m.length : Int) - 1) = (m.length : Int) - 1 := IntWalk.wrap64_in _ ⟨by omega, by have := HML.out; omega⟩
        have hwz2 : IntKind.i64.wrap ((m.length : Int) - 1) = (m.length : Int) - 1 := IntWalk.i64_in _ (by have := HML.out; omega)
        have hfin : SaddP B d room W (remR m k) (.returned (.int .i64 0)) (wr.setCell ⟨d, 1, none⟩ (.int .i64 ((m.length : Int) - 1))) := by
          rw [HR.out]
          have hq := HY.out.inc ((m.length : Int) - 1)
          rw [HZ.out.1, HZ.out.2.1, HZ.out.2.2] at hq
          have hle : ((m.erase k).length : Int) = (m.length : Int) - 1 := by rw [List.length_erase_of_mem HKM.out]; omega
          exact ⟨rfl, ⟨_, _, _, _, _, _, _, _, _, by rw [hle]; exact hq⟩, HKP.out.trans (HY.out.kpinc _)⟩
        have HF := Lib.hid hfin
        clear hfin hml
        subst hg
        go_wp2
        go_ret
        exact HF.out
  · rw [decide_eq_false hkm] at cH
    have HR := Lib.hid (show remR m k = (m, 4) from by unfold remR; rw [if_neg hkm])
    clear h hB1 hk h2 hml hBW hkm
    subst hW2
    go_enter Try.func13, Try.ntmps13
    go_wp2_with (go_at_call 15; (with_reducible refine cH.mono ?_); rintro e w1 ⟨rfl, hb1⟩)
    go_ret
    exact HE.out _ _ (HB1.out.trans (hb1.mono HB1.out.size)) HR.out
end Go.Proofs.Ytoiigplflmejmaa
