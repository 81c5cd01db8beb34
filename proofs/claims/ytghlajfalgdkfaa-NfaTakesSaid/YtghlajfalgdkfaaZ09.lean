/-
  MERGED (a claim has at most 60 files): NgLead, NgPth, NgMny.
-/
import Derived.Test.YtghlajfalgdkfaaZ08
import Derived.Deep.RegionHeld3
import Derived.Test.YtghlajfalgdkfaaZ01
import Derived.IntWalk
/-
  lead: moves given to states, each once: any.
-/
namespace Go.Proofs.Ytghlajfalgdkfaa
open Go.RowKit
set_option linter.unusedVariables false
set_option linter.unusedSimpArgs false
set_option maxRecDepth 100000

/-- A row of numbers of states. -/
def InR (B : Nat) (W : World) (v : Value) (l : List Nat) : Prop := W.ownsRow B 3 1 v l.length (l.map fun (q : Nat) => Value.int .i64 (q : Int))
theorem InR.shape {B : Nat} {W : World} {v : Value} {l : List Nat} (h : InR B W v l) : ∃ A c, v = .slice A l.length c ∧ (l = [] ∨ ∃ g, A = some ⟨g, 0, none⟩ ∧ B ≤ g ∧ g < W.heap.size) := by
  rcases id h.2 with ⟨hv, hl⟩ | ⟨g, cap, cur, hv, hB, hg, _⟩
  · exact ⟨none, 0, by rw [hv, hl], .inl (List.length_eq_zero_iff.1 hl)⟩
  · exact ⟨_, cap, hv, .inr ⟨g, rfl, hB, (Array.getElem?_eq_some_iff.1 hg).1⟩⟩
theorem InR.at {B g n c : Nat} {W : World} {l : List Nat} (h : InR B W (.slice (some ⟨g, 0, none⟩) n c) l) {j q : Nat} (hj : l[j]? = some q) : W.cell? ⟨g, j, none⟩ = some (.int .i64 (q : Int)) := by
  have := h.cells (g := g) rfl j _ (by rw [List.getElem?_map, hj]; rfl)
  rwa [at_add, Nat.zero_add] at this
/-- A machine, some moves more. -/
def LdS (B d : Nat) (T : List St) (W : World) (P : Nat → Mo → Prop) (wr : World) : Prop := ∃ T', Ma B d T' wr ∧ Fr B T T' W wr ∧ Lk T T' P
theorem LdS.congr {B d : Nat} {T : List St} {W wr : World} {P P' : Nat → Mo → Prop} (h : LdS B d T W P wr) (hp : ∀ j x, P j x ↔ P' j x) : LdS B d T W P' wr := by
  obtain ⟨T', h1, h2, h3⟩ := h
  exact ⟨T', h1, h2, h3.congr hp⟩
theorem LdS.below {B d : Nat} {T : List St} {W wr w : World} {P : Nat → Mo → Prop} (h : LdS B d T W P wr) (hb : Below wr.heap.size wr w) (hB : B ≤ wr.heap.size) : LdS B d T W P w := by
  obtain ⟨T', h1, h2, h3⟩ := h
  exact ⟨T', h1.below hb, h2.trans (Fr.below hb hB), h3⟩
def LdO (B d : Nat) (T : List St) (W : World) (l : List Nat) (F : List Mo) (gk : Nat) (s : Value) (wr : World) : Prop := ∃ a : Nat, a + gk = l.length ∧ s = .int .i64 (a : Int) ∧ LdS B d T W (PqA l F a) wr
def LdI (B d : Nat) (T : List St) (W : World) (l : List Nat) (F : List Mo) (a i : Nat) (gk : Nat) (s : Value) (wr : World) : Prop := ∃ b : Nat, b + gk = F.length ∧ s = .int .i64 (b : Int) ∧ LdS B d T W (PqI l F a i b) wr
def LdZ (B d : Nat) (T : List St) (W : World) (l : List Nat) (F : List Mo) (e : Ending) (w' : World) : Prop := e = .returned (.tuple #[]) ∧ LdS B d T W (fun j x => j ∈ l ∧ x ∈ F) w'
set_option maxHeartbeats 64000000 in
theorem lead_any {B B1 B2 d N : Nat} {T : List St} {l : List Nat} {F : List Mo} {lv fv : Value} {W : World} {sy : Nat → Sy} (hM : Ma B d T W) (hs : ∀ (j : Nat) (s : St), T[j]? = some s → s.2.1.Pairwise ltM ∧ Gm sy N s.2.1) (hF : Gm sy N F) (hN : N ≤ 1000)
    (hl : InR B1 W lv l) (hf : MvR B2 W fv F) (hd : ∀ q, fv.ownBlock = some q → ¬ OB T q) (hi : ∀ q ∈ l, q < T.length) (hll : l.length ≤ 1000) (hFl : F.length ≤ 1000) (hT : T.length ≤ 1000) (hB : B ≤ W.heap.size) :
    Calls Try.prog 31 #[.pointer (some ⟨d, 0, none⟩), lv, fv] W (LdZ B d T W l F) := by
  obtain ⟨Al, cl, rfl, hAl⟩ := hl.shape
  obtain ⟨Af, cf, rfl, hAf⟩ := hf.shape
  have H0 := Lib.hid (show LdS B d T W (PqA l F 0) W from ⟨T, hM, Fr.refl _ _ _, Lk.refl (fun j s hj => (hs j s hj).1) (fun j x h => by obtain ⟨h, _⟩ := h; simp at h)⟩)
  -- what stays: the two rows
  have HI : Hid (∀ (P : Nat → Mo → Prop) (w : World), LdS B d T W P w → ∀ (g : Nat), Al = some ⟨g, 0, none⟩ → ∀ (j q : Nat), l[j]? = some q → w.cell? ⟨g, j, none⟩ = some (.int .i64 (q : Int))) := Lib.hid (fun P w h g hg j q hj => by
    obtain ⟨T', h1, h2, h3⟩ := h
    rw [hg] at hl
    have : InR B1 w (.slice (some ⟨g, 0, none⟩) l.length cl) l := h2.row hl (by decide) (by decide) (fun k hk => by
      obtain ⟨cs, hc⟩ := row_type hl hk
      exact OB.not hM hc (by decide))
    exact this.at hj)
  have HV : Hid (∀ (P : Nat → Mo → Prop) (w : World), LdS B d T W P w → ∀ (g : Nat), Af = some ⟨g, 0, none⟩ → ∀ (j : Nat) (x : Mo), F[j]? = some x → MvA w g j x) := Lib.hid (fun P w h g hg j x hj => by
    obtain ⟨T', h1, h2, h3⟩ := h
    rw [hg] at hf
    have : MvR B2 w (.slice (some ⟨g, 0, none⟩) F.length cf) F := h2.row hf (by decide) (by decide) (by rw [hg] at hd; exact hd)
    exact MvR.at this hj)
  have HSz : Hid (∀ (P : Nat → Mo → Prop) (w : World), LdS B d T W P w → B ≤ w.heap.size) := Lib.hid (fun P w h => by
    obtain ⟨T', h1, h2, h3⟩ := h
    exact Nat.le_trans hB h2.b.size)
  have HAl := Lib.hid hAl
  have HAf := Lib.hid hAf
  have HIn := Lib.hid hi
  have HG := Lib.hid (fun (a i b : Nat) (T' : List St) (h : Lk T T' (PqI l F a i b)) (j : Nat) (s : St) (hj : T'[j]? = some s) => (h.gm (fun j s hj => (hs j s hj).2) (fun j x hp => pqI_gm hF j x hp) hj : s.2.1.Pairwise ltM ∧ Gm sy N s.2.1))
  have HN := Lib.hid hN
  have HT := Lib.hid hT
  have HLL := Lib.hid hll
  have HFL := Lib.hid hFl
  have l0 : (0 : Int) ≤ (l.length : Int) := by omega
  have l1 : (l.length : Int) ≤ 1000 := by omega
  have f0 : (0 : Int) ≤ (F.length : Int) := by omega
  have f1 : (F.length : Int) ≤ 1000 := by omega
  clear hM hs hF hN hl hf hd hi hll hFl hT hB hAl hAf
  go_enter Try.func31, Try.ntmps31
  go_wp2
  go_loopg [14] l.length (fun gk s wr => LdO B d T W l F gk s wr)
  case atStart => exact ⟨0, by omega, rfl, H0.out⟩
  case round =>
    obtain ⟨a, ha, rfl, hS⟩ := hrel
    have HA9 := Lib.hid ha
    by_cases hal : a < l.length
    · have hy := List.getElem?_eq_getElem hal
      obtain ⟨i, hI⟩ : ∃ i, i = l[a] := ⟨_, rfl⟩
      rw [← hI] at hy
      obtain ⟨gl, hgl, _, _⟩ := HAl.out.resolve_left (fun e => by rw [e] at hal; simp at hal)
      have li := HI.out _ _ hS gl hgl a i hy
      have hiT := HIn.out i (by rw [hI]; exact List.getElem_mem hal)
      subst hgl
      have a0 : (0 : Int) ≤ (a : Int) := by omega
      have a1 : (a : Int) < (l.length : Int) := by omega
      have HS0 := Lib.hid (hS.congr (pq_start (i := i)))
      have HY := Lib.hid hy
      have HIT := Lib.hid hiT
      have HAL := Lib.hid hal
      clear hS hy hI hal ha hiT
      go_wp2
      go_loopg [20] F.length (fun gk s wr => LdI B d T W l F a i gk s wr)
      case atStart => exact ⟨0, by omega, rfl, HS0.out⟩
      case round =>
        obtain ⟨b, hb, rfl, hS⟩ := hrel
        have HB9 := Lib.hid hb
        by_cases hbl : b < F.length
        · have hx := List.getElem?_eq_getElem hbl
          obtain ⟨x, hX⟩ : ∃ x, x = F[b] := ⟨_, rfl⟩
          rw [← hX] at hx
          obtain ⟨gf, hgf, _, _⟩ := HAf.out.resolve_left (fun e => by rw [e] at hbl; simp at hbl)
          have hv := HV.out _ _ hS gf hgf b x hx
          subst hgf
          have b0 : (0 : Int) ≤ (b : Int) := by omega
          have b1 : (b : Int) < (F.length : Int) := by omega
          obtain ⟨T2, hM2, hF2, hL2⟩ := id hS
          obtain ⟨t, ht⟩ : ∃ t, T2[i]? = some t := ⟨_, List.getElem?_eq_getElem (by rw [hL2.len]; exact HIT.out)⟩
          obtain ⟨hso, hgm⟩ := HG.out a i b T2 hL2 i t ht
          have hlen : t.2.1.length ≤ 1000 := Nat.le_trans (gm_len hso hgm) HN.out
          -- the copy's block
          obtain ⟨w1, hw1⟩ : ∃ w1, w1 = wr.alloc (.cells #[.int .i64 x.1.1, .bool x.1.2, .int .i64 (x.2 : Int)] 84) := ⟨_, rfl⟩
          have hbw : Below wr.heap.size wr w1 := by rw [hw1]; exact (Below.refl _ _).alloc (Nat.le_refl _) _
          have hXb : Fb w1 wr.heap.size 84 #[.int .i64 x.1.1, .bool x.1.2, .int .i64 (x.2 : Int)] := by rw [hw1]; exact Fb.new wr _ _
          have hBw := HSz.out _ _ hS
          have hM1 := hM2.below hbw
          have hFr1 := hF2.trans (Fr.below hbw hBw)
          obtain ⟨gs, c, cs, e1, e2, e3, e4, e5⟩ := hM1.at ht
          obtain ⟨A9, c9, hv9, hA9⟩ := (hM1.mv i t ht).shape
          have hR1 : MvR B w1 (.slice A9 t.2.1.length c9) t.2.1 := by rw [← hv9]; exact hM1.mv i t ht
          have hT2 : T2.length ≤ 1000 := by rw [hL2.len]; exact HT.out
          have hiT2 : i < T2.length := by rw [hL2.len]; exact HIT.out
          rw [hv9] at e4
          obtain ⟨nT, hnT⟩ : ∃ nT, nT = T2.length := ⟨_, rfl⟩
          have i0 : (0 : Int) ≤ (i : Int) := by omega
          have i1 : (i : Int) < (nT : Int) := by omega
          have i2 : (nT : Int) ≤ 1000 := by omega
          rw [← hnT] at e1
          have d1 := e1.cell 0
          have g1 := e4
          have x0 := hXb.cell 0
          have x1 := hXb.cell 1
          have x2 := hXb.cell 2
          have cB := bin_any (row_below hR1 (show Below w1.heap.size w1 w1.drew from (Below.refl _ _).drew)) hso hlen x.1.1 (x.2 : Int) x.1.2 x rfl (by omega)
          have m0 := hv.a
          have m1 := hv.b
          have m2 := hv.c
          have HS1 := Lib.hid (hS.below hbw hBw)
          have HM1 := Lib.hid hM1
          have HFr1 := Lib.hid hFr1
          have HLk := Lib.hid hL2
          have HTi := Lib.hid ht
          have HE1 := Lib.hid e1
          have HE2 := Lib.hid e2
          have HE3 := Lib.hid e3
          have HR1 := Lib.hid hR1
          have HV9 := Lib.hid hv9
          have HXb := Lib.hid hXb
          have HNB := Lib.hid (fun (q : Nat) (hq : Value.ownBlock (.slice A9 t.2.1.length c9) = some q) => ((row_lt (hM2.mv i t ht) q (by rw [hv9]; exact hq)).2 : q < wr.heap.size))
          have HX := Lib.hid hx
          have HBL := Lib.hid hbl
          have HNT := Lib.hid hnT
          have HLEN := Lib.hid hlen
          have HBW := Lib.hid (Nat.le_trans hBw hbw.size)
          clear hS hM2 hF2 hL2 ht hso hgm hbw hXb hBw hM1 hFr1 e1 e2 e3 e4 e5 hv9 hA9 hR1 hT2 hiT2 hx hX hbl hnT hv hlen hb
          go_wp2
          rw [← hw1]
          clear hw1 m0 m1 m2
          go_region_held3 (fun w => w.cell? ⟨d, 0, none⟩ = some (.slice (some ⟨gs, 0, none⟩) nT c) ∧ w.cell? ⟨gs, i * 2, none⟩ = some (.slice A9 t.2.1.length c9) ∧ w.cell? ⟨wr.heap.size, 0, none⟩ = some (.int .i64 x.1.1) ∧ w.cell? ⟨wr.heap.size, 1, none⟩ = some (.bool x.1.2) ∧ w.cell? ⟨wr.heap.size, 2, none⟩ = some (.int .i64 (x.2 : Int)))
            (first | exact ⟨d1, g1, x0, x1, x2⟩ | exact ⟨cell_below d1 hB, cell_below g1 hB, cell_below x0 hB, cell_below x1 hB, cell_below x2 hB⟩)
            (first
              | (go_at_call 53; (with_reducible refine cB.mono ?_); rintro e w5 ⟨k, bb, rfl, hbn, hB0⟩; have hB := (Below.drew (Below.refl w1.heap.size w1)).trans hB0)
              | fail)
          all_goals
            clear cB hB0 d1 g1 x0 x1 x2
            have HBn := Lib.hid hbn
            have HB5 := Lib.hid hB
            cases bb with
            | true =>
              have hxm : x ∈ t.2.1 := List.mem_of_getElem? (hbn.eq.1 rfl)
              have HE := Lib.hid (show LdS B d T W (PqI l F a i (b + 1)) w5 from ⟨T2, HM1.out.below hB, HFr1.out.trans (Fr.below hB HBW.out), HLk.out.same HTi.out hxm (pq_step HX.out)⟩)
              clear hbn hB hxm
              go_wp2
              go_roundg (F.length - (b + 1))
              case measure => have := HB9.out; have := HBL.out; omega
              case rel => exact ⟨b + 1, by have := HBL.out; omega, by rw [Int.natCast_add]; rfl, HE.out⟩
            | false =>
              have hk := hbn.le
              have k0 : (0 : Int) ≤ (k : Int) := by omega
              have k1 : (k : Int) ≤ (t.2.1.length : Int) := by omega
              -- the world in which Insert is called
              obtain ⟨w6, hw6⟩ : ∃ w6, w6 = w5.alloc (.cells #[.int .i64 x.1.1, .bool x.1.2, .int .i64 (x.2 : Int)] 84) := ⟨_, rfl⟩
              have hb56 : Below w5.heap.size w5 w6 := by rw [hw6]; exact (Below.refl _ _).alloc (Nat.le_refl _) _
              have hb16 := hB.trans (hb56.mono hB.size)
              have hV6 : Fb w6 w5.heap.size 84 #[.int .i64 x.1.1, .bool x.1.2, .int .i64 (x.2 : Int)] := by rw [hw6]; exact Fb.new w5 _ _
              have hR6 := row_below HR1.out hb16
              have hE1 := HE1.out.below hb16
              have hE2 := HE2.out.below hb16
              have hXb6 := HXb.out.below hb16
              have hB6 : B ≤ w6.heap.size := Nat.le_trans HBW.out hb16.size
              have hne : Value.ownBlock (.slice A9 t.2.1.length c9) ≠ some w5.heap.size := fun e => by
                have := (row_lt HR1.out _ e).2
                have := hB.size
                omega
              have cI := kins_any (vb := w5.heap.size) (vc := 1) (i := k) (x := x) (B := B) (W := w6.drew) hR6 (by have := HLEN.out; omega) hB6 hk hV6 hne rfl
              have d5 := (HE1.out.below hB).cell 0
              have y0 := (HXb.out.below hB).cell 0
              have y1 := (HXb.out.below hB).cell 1
              have y2 := (HXb.out.below hB).cell 2
              have r5 : w5.cell? ⟨gs, i * 2, none⟩ = some (.slice A9 t.2.1.length c9) := by
                have := (HM1.out.below hB).at HTi.out
                obtain ⟨gs', c', cs', e1, e2, e3, e4, e5⟩ := this
                have hE := HE1.out.below hB
                unfold Fb at e1 hE
                rw [hE] at e1
                injection e1 with e1
                injection e1 with e1
                have : gs = gs' := by
                  have := congrArg (fun a => a[0]?) e1
                  simp at this
                  exact this.1
                rw [this, e4, HV9.out]
              have r6 := cell_below r5 hb56
              have d6 := hE1.cell 0
              have v0 := hXb6.cell 0
              have v1 := hXb6.cell 1
              have v2 := hXb6.cell 2
              have HS5 := Lib.hid (show w5.drew.cell? ⟨d, 0, none⟩ = some (.slice (some ⟨gs, 0, none⟩) nT c) ∧ w5.drew.cell? ⟨wr.heap.size, 0, none⟩ = some (.int .i64 x.1.1) ∧ w5.drew.cell? ⟨wr.heap.size, 1, none⟩ = some (.bool x.1.2) ∧ w5.drew.cell? ⟨wr.heap.size, 2, none⟩ = some (.int .i64 (x.2 : Int)) from ⟨d5, y0, y1, y2⟩)
              have HS6 := Lib.hid (show w6.drew.cell? ⟨d, 0, none⟩ = some (.slice (some ⟨gs, 0, none⟩) nT c) ∧ w6.drew.cell? ⟨wr.heap.size, 0, none⟩ = some (.int .i64 x.1.1) ∧ w6.drew.cell? ⟨wr.heap.size, 1, none⟩ = some (.bool x.1.2) ∧ w6.drew.cell? ⟨wr.heap.size, 2, none⟩ = some (.int .i64 (x.2 : Int)) from ⟨d6, v0, v1, v2⟩)
              have hgk : ∀ (w7 : World), w6.drew.grownBy w7 (Value.ownBlock (.slice A9 t.2.1.length c9)) → ∀ g ty cs', Fb w6 g ty cs' → (ty ≠ 84 ∨ g = wr.heap.size) → Fb w7 g ty cs' := fun w7 hg g ty cs' hf ht => (hg.block g hf.lt (fun e => by
                rcases ht with ht | ht
                · obtain ⟨cs2, hc⟩ := row_type hR6 e.symm
                  unfold Fb at hf hc
                  rw [hf] at hc
                  injection hc with hc
                  injection hc with _ hc
                  exact ht hc
                · -- the copy's block is none of a state's
                  have h1 := HNB.out g e.symm
                  omega)).trans hf
              have HQ : Hid (∀ (w7 : World) (v' : Value), w6.drew.grownBy w7 (Value.ownBlock (.slice A9 t.2.1.length c9)) → w7.cell? ⟨d, 0, none⟩ = some (.slice (some ⟨gs, 0, none⟩) nT c) ∧ w7.cell? ⟨wr.heap.size, 0, none⟩ = some (.int .i64 x.1.1) ∧ w7.cell? ⟨wr.heap.size, 1, none⟩ = some (.bool x.1.2) ∧ w7.cell? ⟨wr.heap.size, 2, none⟩ = some (.int .i64 (x.2 : Int)) ∧ (w7.cell? ⟨gs, i * 2, none⟩ = some (.slice A9 t.2.1.length c9) ∧ w7.frozen? ⟨gs, i * 2, none⟩ = false)) := Lib.hid fun w7 v' hg => by
                have q1 := hgk w7 hg _ _ _ hE1 (.inl (by decide))
                have q2 := hgk w7 hg _ _ _ hE2 (.inl (by decide))
                have q3 := hgk w7 hg _ _ _ hXb6 (.inr rfl)
                exact ⟨q1.cell 0, q3.cell 0, q3.cell 1, q3.cell 2, ((q2.cell _).trans ((hE2.cell _).symm.trans r6)), q2.free _⟩
              have HZ : Hid (∀ (w7 : World) (v' : Value), w6.drew.grownBy w7 (Value.ownBlock (.slice A9 t.2.1.length c9)) → (w7.setCell ⟨gs, i * 2, none⟩ v').cell? ⟨d, 0, none⟩ = some (.slice (some ⟨gs, 0, none⟩) nT c) ∧ (w7.setCell ⟨gs, i * 2, none⟩ v').cell? ⟨wr.heap.size, 0, none⟩ = some (.int .i64 x.1.1) ∧ (w7.setCell ⟨gs, i * 2, none⟩ v').cell? ⟨wr.heap.size, 1, none⟩ = some (.bool x.1.2) ∧ (w7.setCell ⟨gs, i * 2, none⟩ v').cell? ⟨wr.heap.size, 2, none⟩ = some (.int .i64 (x.2 : Int))) := Lib.hid fun w7 v' hg => by
                have q1 := (hgk w7 hg _ _ _ hE1 (.inl (by decide))).far (i * 2) v' (hE1.nt hE2 (by decide))
                have q3 := (hgk w7 hg _ _ _ hXb6 (.inr rfl)).far (i * 2) v' (hXb6.nt hE2 (by decide))
                exact ⟨q1.cell 0, q3.cell 0, q3.cell 1, q3.cell 2⟩
              have HE : Hid (∀ (w7 : World) (v' : Value), MvR B w7 v' (t.2.1.take k ++ x :: t.2.1.drop k) → w6.drew.grownBy w7 (Value.ownBlock (.slice A9 t.2.1.length c9)) → (∀ q, v'.ownBlock = some q → Value.ownBlock (.slice A9 t.2.1.length c9) = some q ∨ w6.drew.heap.size ≤ q) → LdS B d T W (PqI l F a i (b + 1)) (w7.setCell ⟨gs, i * 2, none⟩ v')) := Lib.hid fun w7 v' hr hg hn => by
                have hM6 : Ma B d T2 w6.drew := HM1.out.below (hb16.trans ((Below.refl _ _).drew))
                have hp := hM6.put (w := w7) HTi.out (c := c) (by rw [← HNT.out]; exact hE1) hE2 hr (by rw [HV9.out]; exact hg) (by rw [HV9.out]; exact hn) hB6
                exact ⟨_, hp.1, (HFr1.out.trans (Fr.below (hb16.trans ((Below.refl _ _).drew)) HBW.out)).trans hp.2, HLk.out.put HTi.out HBn.out (pq_step HX.out)⟩
              have HW6 := Lib.hid hw6
              clear hw6 hbn hB hb56 hb16 hV6 hR6 hE1 hE2 hXb6 hB6 hne hgk hk
              go_wp2
              refine wp_region_noPanic ?_
              refine wp_region_held_drew (S := (fun W => W.cell? ⟨d, 0, none⟩ = some (.slice (some ⟨gs, 0, none⟩) nT c) ∧ W.cell? ⟨wr.heap.size, 0, none⟩ = some (.int .i64 x.1.1) ∧ W.cell? ⟨wr.heap.size, 1, none⟩ = some (.bool x.1.2) ∧ W.cell? ⟨wr.heap.size, 2, none⟩ = some (.int .i64 (x.2 : Int)))) (by kernel_rfl) HS5.out (fun hHeld => ?_)
              refine wpAnyH_take (i := 0) (oi := { dst := some 39, op := Go.Op.move (Go.Operand.tmp 0), type := 32, pos := "machine.go:171", after := #[], guard := none }) (v := ?_) rfl (by kernel_rfl) (by kernel_rfl) (by kernel_rfl) (fun _ _ _ h => h) (Or.inl ⟨by rfl, ?_⟩) (by assumption) ?_
              rotate_left
              · (intro w hSw; (try dsimp only at hSw); go_simp; try with_reducible rfl)
              try simp only [Act.put, List.setIfInBounds_toArray, List.set_cons_zero, List.set_cons_succ]
              refine wpAnyH_take (i := 1) (oi := { dst := some 40, op := Go.Op.nilCheck (Go.Operand.tmp 39), type := 0, pos := "machine.go:171", after := #[{ on := 0, ground := Go.Ground.data }], guard := none }) (v := ?_) rfl (by kernel_rfl) (by kernel_rfl) (by kernel_rfl) (fun _ _ _ h => h) (Or.inl ⟨by rfl, ?_⟩) (by assumption) ?_
              rotate_left
              · (intro w hSw; (try dsimp only at hSw); go_simp; try with_reducible rfl)
              try simp only [Act.put, List.setIfInBounds_toArray, List.set_cons_zero, List.set_cons_succ]
              refine wpAnyH_take (i := 2) (oi := { dst := some 41, op := Go.Op.fieldAddr 66 (Go.Operand.tmp 40) 0, type := 0, pos := "machine.go:171", after := #[{ on := 1, ground := Go.Ground.data }], guard := none }) (v := ?_) rfl (by kernel_rfl) (by kernel_rfl) (by kernel_rfl) (fun _ _ _ h => h) (Or.inl ⟨by rfl, ?_⟩) (by assumption) ?_
              rotate_left
              · (intro w hSw; (try dsimp only at hSw); go_simp; try with_reducible rfl)
              try simp only [Act.put, List.setIfInBounds_toArray, List.set_cons_zero, List.set_cons_succ]
              refine wpAnyH_take (i := 3) (oi := { dst := some 42, op := Go.Op.load 64 (Go.Operand.tmp 41), type := 64, pos := "machine.go:171", after := #[{ on := 2, ground := Go.Ground.data }], guard := none }) (v := ?_) rfl (by kernel_rfl) (by kernel_rfl) (by kernel_rfl) (fun _ _ _ h => h) (Or.inl ⟨by rfl, ?_⟩) (by assumption) ?_
              rotate_left
              · (intro w hSw; (try dsimp only at hSw); go_simp; try with_reducible rfl)
              try simp only [Act.put, List.setIfInBounds_toArray, List.set_cons_zero, List.set_cons_succ]
              refine wpAnyH_take (i := 4) (oi := { dst := some 43, op := Go.Op.move (Go.Operand.tmp 7), type := 3, pos := "machine.go:171", after := #[], guard := none }) (v := ?_) rfl (by kernel_rfl) (by kernel_rfl) (by kernel_rfl) (fun _ _ _ h => h) (Or.inl ⟨by rfl, ?_⟩) (by assumption) ?_
              rotate_left
              · (intro w hSw; (try dsimp only at hSw); go_simp; try with_reducible rfl)
              try simp only [Act.put, List.setIfInBounds_toArray, List.set_cons_zero, List.set_cons_succ]
              refine wpAnyH_take (i := 5) (oi := { dst := some 44, op := Go.Op.move (Go.Operand.tmp 0), type := 32, pos := "machine.go:171", after := #[], guard := none }) (v := ?_) rfl (by kernel_rfl) (by kernel_rfl) (by kernel_rfl) (fun _ _ _ h => h) (Or.inl ⟨by rfl, ?_⟩) (by assumption) ?_
              rotate_left
              · (intro w hSw; (try dsimp only at hSw); go_simp; try with_reducible rfl)
              try simp only [Act.put, List.setIfInBounds_toArray, List.set_cons_zero, List.set_cons_succ]
              refine wpAnyH_take (i := 6) (oi := { dst := some 45, op := Go.Op.nilCheck (Go.Operand.tmp 44), type := 0, pos := "machine.go:171", after := #[{ on := 5, ground := Go.Ground.data }], guard := none }) (v := ?_) rfl (by kernel_rfl) (by kernel_rfl) (by kernel_rfl) (fun _ _ _ h => h) (Or.inl ⟨by rfl, ?_⟩) (by assumption) ?_
              rotate_left
              · (intro w hSw; (try dsimp only at hSw); go_simp; try with_reducible rfl)
              try simp only [Act.put, List.setIfInBounds_toArray, List.set_cons_zero, List.set_cons_succ]
              refine wpAnyH_take (i := 7) (oi := { dst := some 46, op := Go.Op.fieldAddr 66 (Go.Operand.tmp 45) 0, type := 0, pos := "machine.go:171", after := #[{ on := 6, ground := Go.Ground.data }], guard := none }) (v := ?_) rfl (by kernel_rfl) (by kernel_rfl) (by kernel_rfl) (fun _ _ _ h => h) (Or.inl ⟨by rfl, ?_⟩) (by assumption) ?_
              rotate_left
              · (intro w hSw; (try dsimp only at hSw); go_simp; try with_reducible rfl)
              try simp only [Act.put, List.setIfInBounds_toArray, List.set_cons_zero, List.set_cons_succ]
              refine wpAnyH_take (i := 8) (oi := { dst := some 47, op := Go.Op.load 64 (Go.Operand.tmp 46), type := 64, pos := "machine.go:171", after := #[{ on := 7, ground := Go.Ground.data }], guard := none }) (v := ?_) rfl (by kernel_rfl) (by kernel_rfl) (by kernel_rfl) (fun _ _ _ h => h) (Or.inl ⟨by rfl, ?_⟩) (by assumption) ?_
              rotate_left
              · (intro w hSw; (try dsimp only at hSw); go_simp; try with_reducible rfl)
              try simp only [Act.put, List.setIfInBounds_toArray, List.set_cons_zero, List.set_cons_succ]
              refine wpAnyH_take (i := 9) (oi := { dst := some 48, op := Go.Op.move (Go.Operand.tmp 7), type := 3, pos := "machine.go:171", after := #[], guard := none }) (v := ?_) rfl (by kernel_rfl) (by kernel_rfl) (by kernel_rfl) (fun _ _ _ h => h) (Or.inl ⟨by rfl, ?_⟩) (by assumption) ?_
              rotate_left
              · (intro w hSw; (try dsimp only at hSw); go_simp; try with_reducible rfl)
              try simp only [Act.put, List.setIfInBounds_toArray, List.set_cons_zero, List.set_cons_succ]
              refine wpAnyH_take (i := 10) (oi := { dst := some 49, op := Go.Op.indexAddr 64 (Go.Operand.tmp 47) (Go.Operand.tmp 48), type := 0, pos := "machine.go:171", after := #[{ on := 8, ground := Go.Ground.data }, { on := 9, ground := Go.Ground.data }], guard := none }) (v := ?_) rfl (by kernel_rfl) (by kernel_rfl) (by kernel_rfl) (fun _ _ _ h => h) (Or.inl ⟨by rfl, ?_⟩) (by assumption) ?_
              rotate_left
              · (intro w hSw; (try dsimp only at hSw); go_simp; try with_reducible rfl)
              try simp only [Act.put, List.setIfInBounds_toArray, List.set_cons_zero, List.set_cons_succ]
              refine wpAnyH_take (i := 11) (oi := { dst := some 50, op := Go.Op.fieldAddr 73 (Go.Operand.tmp 49) 0, type := 0, pos := "machine.go:171", after := #[{ on := 10, ground := Go.Ground.data }], guard := none }) (v := ?_) rfl (by kernel_rfl) (by kernel_rfl) (by kernel_rfl) (fun _ _ _ h => h) (Or.inl ⟨by rfl, ?_⟩) (by assumption) ?_
              rotate_left
              · (intro w hSw; (try dsimp only at hSw); go_simp; try with_reducible rfl)
              try simp only [Act.put, List.setIfInBounds_toArray, List.set_cons_zero, List.set_cons_succ]
              refine wpAnyH_take (i := 13) (oi := { dst := some 52, op := Go.Op.move (Go.Operand.tmp 10), type := 3, pos := "machine.go:171", after := #[], guard := none }) (v := ?_) rfl (by kernel_rfl) (by kernel_rfl) (by kernel_rfl) (fun _ _ _ h => h) (Or.inl ⟨by rfl, ?_⟩) (by assumption) ?_
              rotate_left
              · (intro w hSw; (try dsimp only at hSw); go_simp; try with_reducible rfl)
              try simp only [Act.put, List.setIfInBounds_toArray, List.set_cons_zero, List.set_cons_succ]
              refine wpAnyH_take (i := 14) (oi := { dst := some 53, op := Go.Op.load 84 (Go.Operand.tmp 9), type := 84, pos := "machine.go:171", after := #[], guard := none }) (v := ?_) rfl (by kernel_rfl) (by kernel_rfl) (by kernel_rfl) (fun _ _ _ h => h) (Or.inl ⟨by rfl, ?_⟩) (by assumption) ?_
              rotate_left
              · (intro w hSw; (try dsimp only at hSw); go_simp; try with_reducible rfl)
              try simp only [Act.put, List.setIfInBounds_toArray, List.set_cons_zero, List.set_cons_succ]
              refine wpAnyH_ready (rs := [12, 15]) (by kernel_rfl) (by simp) ?_
              refine AllReadyH.cons (o := { dst := some 51, op := Go.Op.load 67 (Go.Operand.tmp 50), type := 67, pos := "machine.go:171", after := #[{ on := 11, ground := Go.Ground.data }], guard := none }) rfl (fun K hK => ?_) (AllReadyH.cons (o := { dst := some 54, op := Go.Op.buildSlice 67 1 #[(0, Go.Operand.tmp 53)], type := 67, pos := "machine.go:171", after := #[{ on := 14, ground := Go.Ground.data }], guard := none }) rfl (fun K hK => ?_) AllReadyH.nil)
              · go_simp
                refine hK.out _ _ hHeld (fun hHeld => ?_)
                clear hK K
                try simp only [Act.put, List.setIfInBounds_toArray, List.set_cons_zero, List.set_cons_succ]
                refine wpAnyH_ready (rs := [15]) (by kernel_rfl) (by simp) ?_
                refine AllReadyH.cons (o := { dst := some 54, op := Go.Op.buildSlice 67 1 #[(0, Go.Operand.tmp 53)], type := 67, pos := "machine.go:171", after := #[{ on := 14, ground := Go.Ground.data }], guard := none }) rfl (fun K hK => ?_) AllReadyH.nil
                go_simp
                rw [← HW6.out]
                refine hK.out _ _ HS6.out (fun hHeld => ?_)
                clear hK K
                try simp only [Act.put, List.setIfInBounds_toArray, List.set_cons_zero, List.set_cons_succ]
                refine wpAnyH_ready (rs := [16]) (by kernel_rfl) (by simp) ?_
                refine AllReadyH.cons (o := { dst := some 55, op := Go.Op.call { callee := Go.Callee.value (Go.Operand.func 55), args := #[Go.Operand.tmp 51, Go.Operand.tmp 52, Go.Operand.tmp 54], argTypes := #[67, 3, 67] }, type := 67, pos := "machine.go:171", after := #[{ on := 12, ground := Go.Ground.data }, { on := 13, ground := Go.Ground.data }, { on := 15, ground := Go.Ground.data }], guard := none }) rfl (fun K hK => ?_) AllReadyH.nil
                go_simp
                go_at_call 55
                (with_reducible refine cI.mono ?_)
                rintro e w7 ⟨v', rfl, hr7, hg7, hn7⟩
                obtain ⟨A7, c7, rfl, _⟩ := hr7.shape
                obtain ⟨n7, hn9⟩ : ∃ n7, n7 = (t.2.1.take k ++ x :: t.2.1.drop k).length := ⟨_, rfl⟩
                rw [← hn9] at hr7 hn7 ⊢
                have HZ7 := Lib.hid (HZ.out w7 (.slice A7 n7 c7) hg7)
                have HE7 := Lib.hid (HE.out w7 (.slice A7 n7 c7) hr7 hg7 hn7)
                obtain ⟨q1, q2, q3, q4, q5⟩ := HQ.out w7 (.slice A7 n7 c7) hg7
                clear hr7 hg7 hn7 hn9
                (try go_wp2_with fail)
                refine hK.out _ _ ⟨q1, q2, q3, q4⟩ (fun hHeld => ?_)
                clear hK K
                try simp only [Act.put, List.setIfInBounds_toArray, List.set_cons_zero, List.set_cons_succ]
                refine wpAnyH_take (i := 17) (oi := { dst := some 56, op := Go.Op.indexAddr 64 (Go.Operand.tmp 42) (Go.Operand.tmp 43), type := 0, pos := "machine.go:171", after := #[{ on := 3, ground := Go.Ground.data }, { on := 4, ground := Go.Ground.data }, { on := 0, ground := Go.Ground.phase }, { on := 1, ground := Go.Ground.phase }, { on := 2, ground := Go.Ground.phase }, { on := 3, ground := Go.Ground.phase }, { on := 4, ground := Go.Ground.phase }, { on := 5, ground := Go.Ground.phase }, { on := 6, ground := Go.Ground.phase }, { on := 7, ground := Go.Ground.phase }, { on := 8, ground := Go.Ground.phase }, { on := 9, ground := Go.Ground.phase }, { on := 10, ground := Go.Ground.phase }, { on := 11, ground := Go.Ground.phase }, { on := 12, ground := Go.Ground.phase }, { on := 13, ground := Go.Ground.phase }, { on := 14, ground := Go.Ground.phase }, { on := 15, ground := Go.Ground.phase }, { on := 16, ground := Go.Ground.phase }], guard := none }) (v := ?_) rfl (by kernel_rfl) (by kernel_rfl) (by kernel_rfl) (fun _ _ _ h => h) (Or.inl ⟨by rfl, ?_⟩) (by assumption) ?_
                rotate_left
                · (intro w hSw; (try dsimp only at hSw); go_simp; try with_reducible rfl)
                try simp only [Act.put, List.setIfInBounds_toArray, List.set_cons_zero, List.set_cons_succ]
                refine wpAnyH_take (i := 18) (oi := { dst := some 57, op := Go.Op.fieldAddr 73 (Go.Operand.tmp 56) 0, type := 0, pos := "machine.go:171", after := #[{ on := 17, ground := Go.Ground.data }, { on := 0, ground := Go.Ground.phase }, { on := 1, ground := Go.Ground.phase }, { on := 2, ground := Go.Ground.phase }, { on := 3, ground := Go.Ground.phase }, { on := 4, ground := Go.Ground.phase }, { on := 5, ground := Go.Ground.phase }, { on := 6, ground := Go.Ground.phase }, { on := 7, ground := Go.Ground.phase }, { on := 8, ground := Go.Ground.phase }, { on := 9, ground := Go.Ground.phase }, { on := 10, ground := Go.Ground.phase }, { on := 11, ground := Go.Ground.phase }, { on := 12, ground := Go.Ground.phase }, { on := 13, ground := Go.Ground.phase }, { on := 14, ground := Go.Ground.phase }, { on := 15, ground := Go.Ground.phase }, { on := 16, ground := Go.Ground.phase }], guard := none }) (v := ?_) rfl (by kernel_rfl) (by kernel_rfl) (by kernel_rfl) (fun _ _ _ h => h) (Or.inl ⟨by rfl, ?_⟩) (by assumption) ?_
                rotate_left
                · (intro w hSw; (try dsimp only at hSw); go_simp; try with_reducible rfl)
                try simp only [Act.put, List.setIfInBounds_toArray, List.set_cons_zero, List.set_cons_succ]
                refine wpAnyH_ready (rs := [19]) (by kernel_rfl) (by simp) ?_
                refine AllReadyH.cons (o := { dst := none, op := Go.Op.store 67 (Go.Operand.tmp 57) (Go.Operand.tmp 55), type := 0, pos := "machine.go:171", after := #[{ on := 18, ground := Go.Ground.data }, { on := 16, ground := Go.Ground.data }, { on := 16, ground := Go.Ground.chain }, { on := 0, ground := Go.Ground.phase }, { on := 1, ground := Go.Ground.phase }, { on := 2, ground := Go.Ground.phase }, { on := 3, ground := Go.Ground.phase }, { on := 4, ground := Go.Ground.phase }, { on := 5, ground := Go.Ground.phase }, { on := 6, ground := Go.Ground.phase }, { on := 7, ground := Go.Ground.phase }, { on := 8, ground := Go.Ground.phase }, { on := 9, ground := Go.Ground.phase }, { on := 10, ground := Go.Ground.phase }, { on := 11, ground := Go.Ground.phase }, { on := 12, ground := Go.Ground.phase }, { on := 13, ground := Go.Ground.phase }, { on := 14, ground := Go.Ground.phase }, { on := 15, ground := Go.Ground.phase }, { on := 16, ground := Go.Ground.phase }], guard := none }) rfl (fun K hK => ?_) AllReadyH.nil
                have s1 := q5.1
                have s2 := q5.2
                go_simp
                refine hK.out _ _ HZ7.out (fun hHeld => ?_)
                clear hK K
                refine wpAnyH_done (by kernel_rfl) ?_ _
                refine NoPanic.normal ?_
                go_wp2
                go_roundg (F.length - (b + 1))
                case measure => have := HB9.out; have := HBL.out; omega
                case rel => exact ⟨b + 1, by have := HBL.out; omega, by rw [Int.natCast_add]; rfl, HE7.out⟩
              · go_simp
                rw [← HW6.out]
                refine hK.out _ _ HS6.out (fun hHeld => ?_)
                clear hK K
                try simp only [Act.put, List.setIfInBounds_toArray, List.set_cons_zero, List.set_cons_succ]
                refine wpAnyH_ready (rs := [12]) (by kernel_rfl) (by simp) ?_
                refine AllReadyH.cons (o := { dst := some 51, op := Go.Op.load 67 (Go.Operand.tmp 50), type := 67, pos := "machine.go:171", after := #[{ on := 11, ground := Go.Ground.data }], guard := none }) rfl (fun K hK => ?_) AllReadyH.nil
                go_simp
                refine hK.out _ _ HS6.out (fun hHeld => ?_)
                clear hK K
                try simp only [Act.put, List.setIfInBounds_toArray, List.set_cons_zero, List.set_cons_succ]
                refine wpAnyH_ready (rs := [16]) (by kernel_rfl) (by simp) ?_
                refine AllReadyH.cons (o := { dst := some 55, op := Go.Op.call { callee := Go.Callee.value (Go.Operand.func 55), args := #[Go.Operand.tmp 51, Go.Operand.tmp 52, Go.Operand.tmp 54], argTypes := #[67, 3, 67] }, type := 67, pos := "machine.go:171", after := #[{ on := 12, ground := Go.Ground.data }, { on := 13, ground := Go.Ground.data }, { on := 15, ground := Go.Ground.data }], guard := none }) rfl (fun K hK => ?_) AllReadyH.nil
                go_simp
                go_at_call 55
                (with_reducible refine cI.mono ?_)
                rintro e w7 ⟨v', rfl, hr7, hg7, hn7⟩
                obtain ⟨A7, c7, rfl, _⟩ := hr7.shape
                obtain ⟨n7, hn9⟩ : ∃ n7, n7 = (t.2.1.take k ++ x :: t.2.1.drop k).length := ⟨_, rfl⟩
                rw [← hn9] at hr7 hn7 ⊢
                have HZ7 := Lib.hid (HZ.out w7 (.slice A7 n7 c7) hg7)
                have HE7 := Lib.hid (HE.out w7 (.slice A7 n7 c7) hr7 hg7 hn7)
                obtain ⟨q1, q2, q3, q4, q5⟩ := HQ.out w7 (.slice A7 n7 c7) hg7
                clear hr7 hg7 hn7 hn9
                (try go_wp2_with fail)
                refine hK.out _ _ ⟨q1, q2, q3, q4⟩ (fun hHeld => ?_)
                clear hK K
                try simp only [Act.put, List.setIfInBounds_toArray, List.set_cons_zero, List.set_cons_succ]
                refine wpAnyH_take (i := 17) (oi := { dst := some 56, op := Go.Op.indexAddr 64 (Go.Operand.tmp 42) (Go.Operand.tmp 43), type := 0, pos := "machine.go:171", after := #[{ on := 3, ground := Go.Ground.data }, { on := 4, ground := Go.Ground.data }, { on := 0, ground := Go.Ground.phase }, { on := 1, ground := Go.Ground.phase }, { on := 2, ground := Go.Ground.phase }, { on := 3, ground := Go.Ground.phase }, { on := 4, ground := Go.Ground.phase }, { on := 5, ground := Go.Ground.phase }, { on := 6, ground := Go.Ground.phase }, { on := 7, ground := Go.Ground.phase }, { on := 8, ground := Go.Ground.phase }, { on := 9, ground := Go.Ground.phase }, { on := 10, ground := Go.Ground.phase }, { on := 11, ground := Go.Ground.phase }, { on := 12, ground := Go.Ground.phase }, { on := 13, ground := Go.Ground.phase }, { on := 14, ground := Go.Ground.phase }, { on := 15, ground := Go.Ground.phase }, { on := 16, ground := Go.Ground.phase }], guard := none }) (v := ?_) rfl (by kernel_rfl) (by kernel_rfl) (by kernel_rfl) (fun _ _ _ h => h) (Or.inl ⟨by rfl, ?_⟩) (by assumption) ?_
                rotate_left
                · (intro w hSw; (try dsimp only at hSw); go_simp; try with_reducible rfl)
                try simp only [Act.put, List.setIfInBounds_toArray, List.set_cons_zero, List.set_cons_succ]
                refine wpAnyH_take (i := 18) (oi := { dst := some 57, op := Go.Op.fieldAddr 73 (Go.Operand.tmp 56) 0, type := 0, pos := "machine.go:171", after := #[{ on := 17, ground := Go.Ground.data }, { on := 0, ground := Go.Ground.phase }, { on := 1, ground := Go.Ground.phase }, { on := 2, ground := Go.Ground.phase }, { on := 3, ground := Go.Ground.phase }, { on := 4, ground := Go.Ground.phase }, { on := 5, ground := Go.Ground.phase }, { on := 6, ground := Go.Ground.phase }, { on := 7, ground := Go.Ground.phase }, { on := 8, ground := Go.Ground.phase }, { on := 9, ground := Go.Ground.phase }, { on := 10, ground := Go.Ground.phase }, { on := 11, ground := Go.Ground.phase }, { on := 12, ground := Go.Ground.phase }, { on := 13, ground := Go.Ground.phase }, { on := 14, ground := Go.Ground.phase }, { on := 15, ground := Go.Ground.phase }, { on := 16, ground := Go.Ground.phase }], guard := none }) (v := ?_) rfl (by kernel_rfl) (by kernel_rfl) (by kernel_rfl) (fun _ _ _ h => h) (Or.inl ⟨by rfl, ?_⟩) (by assumption) ?_
                rotate_left
                · (intro w hSw; (try dsimp only at hSw); go_simp; try with_reducible rfl)
                try simp only [Act.put, List.setIfInBounds_toArray, List.set_cons_zero, List.set_cons_succ]
                refine wpAnyH_ready (rs := [19]) (by kernel_rfl) (by simp) ?_
                refine AllReadyH.cons (o := { dst := none, op := Go.Op.store 67 (Go.Operand.tmp 57) (Go.Operand.tmp 55), type := 0, pos := "machine.go:171", after := #[{ on := 18, ground := Go.Ground.data }, { on := 16, ground := Go.Ground.data }, { on := 16, ground := Go.Ground.chain }, { on := 0, ground := Go.Ground.phase }, { on := 1, ground := Go.Ground.phase }, { on := 2, ground := Go.Ground.phase }, { on := 3, ground := Go.Ground.phase }, { on := 4, ground := Go.Ground.phase }, { on := 5, ground := Go.Ground.phase }, { on := 6, ground := Go.Ground.phase }, { on := 7, ground := Go.Ground.phase }, { on := 8, ground := Go.Ground.phase }, { on := 9, ground := Go.Ground.phase }, { on := 10, ground := Go.Ground.phase }, { on := 11, ground := Go.Ground.phase }, { on := 12, ground := Go.Ground.phase }, { on := 13, ground := Go.Ground.phase }, { on := 14, ground := Go.Ground.phase }, { on := 15, ground := Go.Ground.phase }, { on := 16, ground := Go.Ground.phase }], guard := none }) rfl (fun K hK => ?_) AllReadyH.nil
                have s1 := q5.1
                have s2 := q5.2
                go_simp
                refine hK.out _ _ HZ7.out (fun hHeld => ?_)
                clear hK K
                refine wpAnyH_done (by kernel_rfl) ?_ _
                refine NoPanic.normal ?_
                go_wp2
                go_roundg (F.length - (b + 1))
                case measure => have := HB9.out; have := HBL.out; omega
                case rel => exact ⟨b + 1, by have := HBL.out; omega, by rw [Int.natCast_add]; rfl, HE7.out⟩
        · obtain rfl : b = F.length := by omega
          have b1 : ¬ ((F.length : Int) < (F.length : Int)) := by omega
          have HE := Lib.hid (hS.congr (pq_end HY.out))
          clear hS hb hbl
          go_wp2
          go_roundg (l.length - (a + 1))
          case measure => have := HA9.out; have := HAL.out; omega
          case rel => exact ⟨a + 1, by have := HAL.out; omega, by rw [Int.natCast_add]; rfl, HE.out⟩
    · obtain rfl : a = l.length := by omega
      have a1 : ¬ ((l.length : Int) < (l.length : Int)) := by omega
      have HE := Lib.hid (hS.congr (fun j x => by unfold PqA; rw [List.take_length] : ∀ j x, PqA l F l.length j x ↔ (j ∈ l ∧ x ∈ F)))
      clear hS ha hal
      go_wp2
      go_end0
      exact ⟨rfl, HE.out⟩
end Go.Proofs.Ytghlajfalgdkfaa

/-
  PATHS IN MEMORY, any; more and symbol of any.
-/
namespace Go.Proofs.Ytghlajfalgdkfaa
open Go.RowKit
set_option linter.unusedVariables false
set_option linter.unusedSimpArgs false
set_option maxRecDepth 100000

theorem PT.ind {motive : PT → Prop} (h : ∀ k n ts, (∀ t ∈ ts, motive t) → motive (.mk k n ts)) : ∀ t, motive t
  | .mk k n ts => h k n ts (fun t ht => PT.ind h t)
termination_by t => SizeOf.sizeOf t
decreasing_by
  have := List.sizeOf_lt_of_mem ht
  simp only [PT.mk.sizeOf_spec]
  omega
/-- A row of paths. -/
def RowP (W : World) (s : Value) (ps : List Pa) : Prop := (ps = [] ∧ ∃ A c, s = .slice A 0 c) ∨ ∃ g c cs, s = .slice (some ⟨g, 0, none⟩) ps.length c ∧ Fb W g 28 cs ∧ ∀ (j : Nat) (p : Pa), ps[j]? = some p → cs[j * 3]? = some (.int .i64 p.kd) ∧ cs[j * 3 + 1]? = some (.int .i64 p.n) ∧ cs[j * 3 + 2]? = some p.s
mutual
/-- A path, where it lies. -/
def Pth (W : World) : PT → Pa → Prop
  | .mk k n ts, p => p.kd = k ∧ p.n = n ∧ ∃ ps, RowP W p.s ps ∧ Pths W ts ps
def Pths (W : World) : List PT → List Pa → Prop
  | [], ps => ps = []
  | t :: ts, ps => ∃ p ps', ps = p :: ps' ∧ Pth W t p ∧ Pths W ts ps'
end
theorem RowP.keep {W W' : World} (hk : ∀ g cs, Fb W g 28 cs → Fb W' g 28 cs) {s : Value} {ps : List Pa} (h : RowP W s ps) : RowP W' s ps := by
  rcases h with h | ⟨g, c, cs, h1, h2, h3⟩
  · exact .inl h
  · exact .inr ⟨g, c, cs, h1, hk g cs h2, h3⟩
theorem Pths.of {W : World} : ∀ {ts : List PT} {ps : List Pa}, Pths W ts ps → ts.length = ps.length ∧ ∀ (j : Nat) (t : PT) (p : Pa), ts[j]? = some t → ps[j]? = some p → Pth W t p
  | [], ps, h => by
    unfold Pths at h
    subst h
    exact ⟨rfl, fun j t p h => by simp at h⟩
  | t :: ts, ps, h => by
    unfold Pths at h
    obtain ⟨p, ps', rfl, h1, h2⟩ := h
    obtain ⟨h3, h4⟩ := Pths.of h2
    refine ⟨by simp [h3], fun j t' p' hj hp => ?_⟩
    cases j with
    | zero => simp at hj hp; subst hj hp; exact h1
    | succ j => exact h4 j t' p' (by simpa using hj) (by simpa using hp)
theorem Pths.mk {W : World} : ∀ {ts : List PT} {ps : List Pa}, ts.length = ps.length → (∀ (j : Nat) (t : PT) (p : Pa), ts[j]? = some t → ps[j]? = some p → Pth W t p) → Pths W ts ps
  | [], ps, h, _ => by
    unfold Pths
    exact List.length_eq_zero_iff.1 h.symm
  | t :: ts, [], h, _ => by simp at h
  | t :: ts, p :: ps, h, hj => by
    unfold Pths
    exact ⟨p, ps, rfl, hj 0 t p rfl rfl, Pths.mk (by simpa using h) fun j t' p' h1 h2 => hj (j + 1) t' p' (by simpa using h1) (by simpa using h2)⟩
theorem Pth.keep {W W' : World} (hk : ∀ g cs, Fb W g 28 cs → Fb W' g 28 cs) : ∀ (t : PT) (p : Pa), Pth W t p → Pth W' t p := by
  refine PT.ind fun k n ts ih p h => ?_
  unfold Pth at h ⊢
  obtain ⟨h1, h2, ps, h3, h4⟩ := h
  obtain ⟨e, h5⟩ := Pths.of h4
  exact ⟨h1, h2, ps, h3.keep hk, Pths.mk e fun j t' p' hj hp => ih t' (List.mem_of_getElem? hj) p' (h5 j t' p' hj hp)⟩
theorem Pth.below {W W' : World} {t : PT} {p : Pa} (h : Pth W t p) (hb : Below W.heap.size W W') : Pth W' t p := Pth.keep (fun g cs hf => hf.below hb) t p h
theorem Fr.pth {B : Nat} {T T' : List St} {W W' : World} {d : Nat} (h : Fr B T T' W W') (hM : Ma B d T W) {t : PT} {p : Pa} (hp : Pth W t p) : Pth W' t p := Pth.keep (fun g cs hf => h.k g _ cs hf (by decide) (by decide) (OB.not hM hf (by decide))) t p hp
theorem RowP.shape {W : World} {s : Value} {ps : List Pa} (h : RowP W s ps) : ∃ A c, s = .slice A ps.length c ∧ (ps = [] ∨ ∃ g, A = some ⟨g, 0, none⟩) := by
  rcases h with ⟨rfl, A, c, rfl⟩ | ⟨g, c, cs, h1, _⟩
  · exact ⟨A, c, rfl, .inl rfl⟩
  · exact ⟨_, c, h1, .inr ⟨g, rfl⟩⟩
theorem Pth.slice {W : World} {t : PT} {p : Pa} (h : Pth W t p) : ∃ A n c, p.s = .slice A n c := by
  cases t with
  | mk k n ts =>
    unfold Pth at h
    obtain ⟨_, _, ps, h3, _⟩ := h
    obtain ⟨A, c, e, _⟩ := h3.shape
    exact ⟨A, _, c, e⟩
mutual
/-- How many symbols stand in it. -/
def lv : PT → Nat
  | .mk k _ ts => if k = 0 ∨ k = 1 then 1 else lvs ts
def lvs : List PT → Nat
  | [] => 0
  | t :: ts => lv t + lvs ts
end
mutual
/-- Has it the form of a path? -/
def Vf : PT → Prop
  | .mk k _ ts => ((k = 0 ∨ k = 1) ∧ ts = []) ∨ ((k = 2 ∨ k = 3) ∧ ts.length ≤ 1000 ∧ Vfs ts) ∨ ((k = 4 ∨ k = 5 ∨ k = 6) ∧ ts.length = 1 ∧ Vfs ts)
def Vfs : List PT → Prop
  | [] => True
  | t :: ts => Vf t ∧ Vfs ts
end
theorem Vfs.mem : ∀ {ts : List PT}, Vfs ts → ∀ t ∈ ts, Vf t
  | [], _, t, h => by cases h
  | s :: ts, h, t, ht => by
    unfold Vfs at h
    rcases List.mem_cons.1 ht with rfl | ht
    · exact h.1
    · exact Vfs.mem h.2 t ht
theorem lvs_take : ∀ (ts : List PT) (j : Nat) (t : PT), ts[j]? = some t → lvs (ts.take (j + 1)) = lvs (ts.take j) + lv t
  | [], j, t, h => by simp at h
  | s :: ts, 0, t, h => by
    simp at h
    subst h
    simp [lvs]
  | s :: ts, j + 1, t, h => by
    have := lvs_take ts j t (by simpa using h)
    rw [List.take_succ_cons, lvs, this, List.take_succ_cons, lvs]
    omega
theorem lvs_take_le : ∀ (ts : List PT) (j : Nat), lvs (ts.take j) ≤ lvs ts
  | [], j => by simp
  | s :: ts, 0 => by simp [lvs]
  | s :: ts, j + 1 => by
    rw [List.take_succ_cons, lvs, lvs]
    have := lvs_take_le ts j
    omega
theorem langs_take : ∀ (ts : List PT) (j : Nat) (t : PT), ts[j]? = some t → langs (ts.take (j + 1)) = langs (ts.take j) ++ [lang t]
  | [], j, t, h => by simp at h
  | s :: ts, 0, t, h => by
    simp at h
    subst h
    simp [langs]
  | s :: ts, j + 1, t, h => by
    have := langs_take ts j t (by simpa using h)
    rw [List.take_succ_cons, langs, this, List.take_succ_cons, langs]
    rfl
theorem catL_assoc (A B C : Lg) (w : List Sy) : CatL (CatL A B) C w ↔ CatL A (CatL B C) w := by
  constructor
  · rintro ⟨u, v, rfl, ⟨u1, u2, rfl, h1, h2⟩, h3⟩
    exact ⟨u1, u2 ++ v, by simp, h1, u2, v, rfl, h2, h3⟩
  · rintro ⟨u, v, rfl, h1, ⟨u1, u2, rfl, h2, h3⟩⟩
    exact ⟨u ++ u1, u2, by simp, ⟨u, u1, rfl, h1, h2⟩, h3⟩
theorem seql_snoc : ∀ (As : List Lg) (A : Lg) (w : List Sy), Seql (As ++ [A]) w ↔ CatL (Seql As) A w
  | [], A, w => by
    rw [List.nil_append, seql_one]
    constructor
    · intro h; exact ⟨[], w, rfl, rfl, h⟩
    · rintro ⟨u, v, rfl, rfl, h⟩; simpa using h
  | B :: As, A, w => by
    rw [List.cons_append]
    show CatL B (Seql (As ++ [A])) w ↔ CatL (CatL B (Seql As)) A w
    rw [catL_assoc]
    exact catL_congr (fun _ => Iff.rfl) (fun v => seql_snoc As A v) w
theorem altl_snoc : ∀ (As : List Lg) (A : Lg) (w : List Sy), Altl (As ++ [A]) w ↔ Altl As w ∨ A w
  | [], A, w => by
    show (A w ∨ False) ↔ (False ∨ A w)
    constructor
    · rintro (h | h)
      · exact .inr h
      · exact .inl h
    · rintro (h | h)
      · exact .inr h
      · exact .inl h
  | B :: As, A, w => by
    show (B w ∨ Altl (As ++ [A]) w) ↔ ((B w ∨ Altl As w) ∨ A w)
    rw [altl_snoc As A w, or_assoc]
/-- One state more. -/
theorem ng_more {B d : Nat} {T : List St} {W : World} (h : Ma B d T W) (hT : T.length ≤ 1000) (hB : B ≤ W.heap.size) :
    Calls Try.prog 29 #[.pointer (some ⟨d, 0, none⟩)] W fun e w' => e = .returned (.int .i64 (T.length : Int)) ∧ Ma B d (T ++ [(.slice none 0 0, [], false)]) w' ∧ Fr B T (T ++ [(.slice none 0 0, [], false)]) W w' := by
  obtain ⟨⟨A, c, h1, h2⟩, h3, h4, h5⟩ := h
  refine (more_any (n := T.length) (xs := T.flatMap stc) ⟨A, c, h1, h2, h5⟩ hT hB).mono ?_
  rintro e w' ⟨rfl, ⟨A', c', k1, k2, k3⟩, hk⟩
  have hget : ∀ (j : Nat) (s : St), (T ++ [((.slice none 0 0, [], false) : St)])[j]? = some s → T[j]? = some s ∨ s = (.slice none 0 0, [], false) := fun j s hj => by
    rw [List.getElem?_append] at hj
    split at hj
    · exact .inl hj
    · right
      have := List.mem_of_getElem? hj
      simpa using this
  have hnil : Value.ownBlock (.slice none 0 0) = none := rfl
  have hob : ∀ q, OB (T ++ [((.slice none 0 0, [], false) : St)]) q → OB T q := fun q hq => by
    obtain ⟨j, s, hj, e⟩ := hq
    rcases hget j s hj with hj | rfl
    · exact ⟨j, s, hj, e⟩
    · cases e
  refine ⟨rfl, ⟨⟨A', c', by rw [List.length_append]; exact k1, ?_⟩, fun j s hj => ?_, fun i j s t hi hj hij q hs ht => ?_, h5⟩, ⟨hk.b, fun g t cs hf t1 t2 _ => hk.k g t cs hf t1 t2, fun q hq => .inl (hob q hq)⟩⟩
  · rw [List.length_append, List.flatMap_append]; exact k2
  · rcases hget j s hj with hj | rfl
    · exact row_keep (h3 j s hj) fun k hk' => by
        obtain ⟨cs, hc⟩ := row_type (h3 j s hj) hk'
        exact (hk.k k _ cs hc (by decide) (by decide)).trans hc.symm
    · exact World.ownsRow_nil _ _ _ _
  · by_cases hi' : i < T.length <;> by_cases hj' : j < T.length
    · rw [List.getElem?_append_left hi'] at hi
      rw [List.getElem?_append_left hj'] at hj
      exact h4 i j s t hi hj hij q hs ht
    · rcases hget j t hj with hj2 | rfl
      · exact hj' (List.getElem?_eq_some_iff.1 hj2).1
      · cases ht
    · rcases hget i s hi with hi2 | rfl
      · exact hi' (List.getElem?_eq_some_iff.1 hi2).1
      · cases hs
    · rcases hget i s hi with hi2 | rfl
      · exact hi' (List.getElem?_eq_some_iff.1 hi2).1
      · cases hs
def SmQ (W : World) (k N : Int) (e : Ending) (w' : World) : Prop := e = .returned (.agg #[.int .i64 N, .bool (decide (k = 1))]) ∧ Below W.heap.size W w'
set_option maxHeartbeats 8000000 in
theorem symbol_any (W : World) (k N : Int) (A : Option Addr) (m c : Nat) : Calls Try.prog 52 #[.agg #[.int .i64 k, .int .i64 N, .slice A m c]] W (SmQ W k N) := by
  unfold SmQ
  generalize hr : decide (k = 1) = r
  have hY9 : Fb ((W.alloc (.cells #[.int .i64 k, .int .i64 N, .slice A m c] 28)).alloc (.cells #[.int .i64 N, .bool r] 44)) (W.heap.size + 1) 44 #[.int .i64 N, .bool r] := by
    have := Fb.new (W.alloc (.cells #[.int .i64 k, .int .i64 N, .slice A m c] 28)) 44 #[.int .i64 N, .bool r]
    rw [World.size_alloc] at this
    exact this
  have hb9 : Below W.heap.size W ((W.alloc (.cells #[.int .i64 k, .int .i64 N, .slice A m c] 28)).alloc (.cells #[.int .i64 N, .bool r] 44)) := ((Below.refl _ _).alloc (Nat.le_refl _) _).alloc (by simp) _
  have HY9 := Lib.hid hY9
  have HB9 := Lib.hid hb9
  clear hY9 hb9
  by_cases h : k = 1
  · subst h
    rw [decide_eq_true rfl] at hr
    subst hr
    go_enter Try.func52, Try.ntmps52
    go_wp2
    try simp only [Exit.inBlock, Exit.then]
    refine bodyPost_ret (results_cell_row (P := Try.prog) rfl _ _ (W.heap.size + 1) 44 _ (0, 0) _ rfl HY9.out Try.underlying44 rfl (by kernel_rfl)) rfl ?_
    exact ⟨rfl, HB9.out⟩
  · rw [decide_eq_false h] at hr
    subst hr
    have hb : (k == 1) = false := by simpa using h
    go_enter Try.func52, Try.ntmps52
    go_wp2
    try simp only [Exit.inBlock, Exit.then]
    refine bodyPost_ret (results_cell_row (P := Try.prog) rfl _ _ (W.heap.size + 1) 44 _ (0, 0) _ rfl HY9.out Try.underlying44 rfl (by kernel_rfl)) rfl ?_
    exact ⟨rfl, HB9.out⟩
end Go.Proofs.Ytghlajfalgdkfaa

/-
  A path's parts; how many paths are in one: any.
-/
namespace Go.Proofs.Ytghlajfalgdkfaa
open Go.RowKit
set_option linter.unusedVariables false
set_option linter.unusedSimpArgs false
set_option maxRecDepth 100000

theorem pth_part {W : World} {k n : Int} {ts : List PT} {kd nn : Int} {A : Option Addr} {m c : Nat} (h : Pth W (.mk k n ts) ⟨kd, nn, .slice A m c⟩) :
    kd = k ∧ nn = n ∧ m = ts.length ∧ ∀ (j : Nat) (t : PT), ts[j]? = some t → ∃ g kd' nn' A' m' c', A = some ⟨g, 0, none⟩ ∧ Pth W t ⟨kd', nn', .slice A' m' c'⟩ ∧ W.cell? ⟨g, j * 3, none⟩ = some (.int .i64 kd') ∧ W.cell? ⟨g, j * 3 + 1, none⟩ = some (.int .i64 nn') ∧ W.cell? ⟨g, j * 3 + 2, none⟩ = some (.slice A' m' c') := by
  unfold Pth at h
  obtain ⟨h1, h2, ps, h3, h4⟩ := h
  obtain ⟨e, hof⟩ := Pths.of h4
  simp only at h1 h2 h3
  have hm : m = ts.length := by
    obtain ⟨A', c', e', _⟩ := h3.shape
    rw [(Value.slice.inj e').2.1, e]
  refine ⟨h1, h2, hm, fun j t hj => ?_⟩
  have hlt : j < ps.length := by rw [← e]; exact (List.getElem?_eq_some_iff.1 hj).1
  have hp := List.getElem?_eq_getElem hlt
  obtain ⟨p, hpe⟩ : ∃ p, p = ps[j] := ⟨_, rfl⟩
  rw [← hpe] at hp
  have hpt := hof j t p hj hp
  obtain ⟨A', m', c', hs⟩ := hpt.slice
  obtain ⟨kd', nn', sv⟩ := p
  simp only at hs
  subst hs
  rcases h3 with ⟨rfl, _⟩ | ⟨g, c2, cs, e1, e2, e3⟩
  · simp at hlt
  · obtain ⟨k1, k2, k3⟩ := e3 j _ hp
    exact ⟨g, kd', nn', A', m', c', (Value.slice.inj e1).1, hpt, (e2.cell _).trans k1, (e2.cell _).trans k2, (e2.cell _).trans k3⟩
mutual
/-- How many paths are in it, it too. -/
def sz : PT → Nat
  | .mk _ _ ts => 1 + szs ts
def szs : List PT → Nat
  | [] => 0
  | t :: ts => sz t + szs ts
end
theorem szs_take : ∀ (ts : List PT) (j : Nat) (t : PT), ts[j]? = some t → szs (ts.take (j + 1)) = szs (ts.take j) + sz t
  | [], j, t, h => by simp at h
  | s :: ts, 0, t, h => by
    simp at h
    subst h
    simp [szs]
  | s :: ts, j + 1, t, h => by
    have := szs_take ts j t (by simpa using h)
    rw [List.take_succ_cons, szs, this, List.take_succ_cons, szs]
    omega
theorem szs_take_le : ∀ (ts : List PT) (j : Nat), szs (ts.take j) ≤ szs ts
  | [], j => by simp
  | s :: ts, 0 => by simp [szs]
  | s :: ts, j + 1 => by
    rw [List.take_succ_cons, szs, szs]
    have := szs_take_le ts j
    omega
theorem sz_pos (t : PT) : 1 ≤ sz t := by cases t; rw [sz]; omega
theorem szs_len : ∀ ts : List PT, ts.length ≤ szs ts
  | [] => Nat.zero_le _
  | t :: ts => by
    rw [szs, List.length_cons]
    have := szs_len ts
    have := sz_pos t
    omega
/-- Counted as far as is asked. -/
def Cnt (x : Nat) (most r : Int) : Prop := ((x : Int) ≤ most → r = x) ∧ (most < x → most < r) ∧ r ≤ most + 1 ∧ 1 ≤ r
def MnR (W : World) (ts : List PT) (most : Int) (gk : Nat) (s5 s11 : Value) (wr : World) : Prop := ∃ (j : Nat) (r : Int), j + gk = ts.length ∧ s5 = .int .i64 r ∧ s11 = .int .i64 (j : Int) ∧ Cnt (1 + szs (ts.take j)) most r ∧ Below W.heap.size W wr
def MnQ (W : World) (t : PT) (most : Int) (e : Ending) (w' : World) : Prop := ∃ r, e = .returned (.int .i64 r) ∧ Cnt (sz t) most r ∧ Below W.heap.size W w'
mutual
/-- No path has too many parts. -/
def Wd : PT → Prop
  | .mk _ _ ts => ts.length ≤ 1000 ∧ Wds ts
def Wds : List PT → Prop
  | [] => True
  | t :: ts => Wd t ∧ Wds ts
end
theorem Wds.mem : ∀ {ts : List PT}, Wds ts → ∀ t ∈ ts, Wd t
  | [], _, t, h => by cases h
  | s :: ts, h, t, ht => by
    unfold Wds at h
    rcases List.mem_cons.1 ht with rfl | ht
    · exact h.1
    · exact Wds.mem h.2 t ht
theorem cnt_step {x y : Nat} {most r r' : Int} (h : Cnt x most r) (hr : ¬ most < r) (h' : Cnt y (most - r) r') : Cnt (x + y) most (r + r') := by
  obtain ⟨a1, a2, a3, a4⟩ := h
  obtain ⟨b1, b2, b3, b4⟩ := h'
  have hx : (x : Int) ≤ most := by
    rcases Int.lt_or_le most x with h | h
    · exact absurd (a2 h) hr
    · exact h
  have e := a1 hx
  refine ⟨fun h => ?_, fun h => ?_, by omega, by omega⟩
  · have := b1 (by omega)
    omega
  · have := b2 (by omega)
    omega
set_option maxHeartbeats 16000000 in
theorem many_gen : ∀ t : PT, Wd t → ∀ (kd nn : Int) (A : Option Addr) (m c : Nat) (W : World) (most : Int), Pth W t ⟨kd, nn, .slice A m c⟩ → 0 ≤ most → most ≤ 1000 →
    Calls Try.prog 39 #[.agg #[.int .i64 kd, .int .i64 nn, .slice A m c], .int .i64 most] W (MnQ W t most) := by
  refine PT.ind fun k n ts ih hw kd nn A m c W most hp h0 h1 => ?_
  unfold Wd at hw
  obtain ⟨hl, hws⟩ := hw
  have hm := (pth_part hp).2.2.1
  have hB1 : Below W.heap.size W (W.alloc (.cells #[.int .i64 kd, .int .i64 nn, .slice A m c] 28)) := (Below.refl _ _).alloc (Nat.le_refl _) _
  have H0 := Lib.hid (show MnR W ts most ts.length (.int .i64 1) (.int .i64 0) (W.alloc (.cells #[.int .i64 kd, .int .i64 nn, .slice A m c] 28)) from ⟨0, 1, by omega, rfl, rfl, ⟨fun h => by simp [szs], fun h => by simp [szs] at h; omega, by omega, by omega⟩, hB1⟩)
  have HPart := Lib.hid (fun (w : World) (hb : Below W.heap.size W w) => (pth_part (hp.below hb)).2.2.2)
  have HIH := Lib.hid (fun (t : PT) (ht : t ∈ ts) => ih t ht (Wds.mem hws t ht))
  have HM := Lib.hid hm
  have HL := Lib.hid hl
  have m1 : (m : Int) ≤ 1000 := by omega
  have m0 : (0 : Int) ≤ (m : Int) := by omega
  have hse : sz (.mk k n ts) = 1 + szs ts := by rw [sz]
  have HS := Lib.hid hse
  clear ih hws hl hp hm hB1 hse
  go_enter Try.func39, Try.ntmps39
  go_wp2
  go_loopg [5, 11] ts.length (fun gk s5 s11 wr => MnR W ts most gk s5 s11 wr)
  case atStart => exact H0.out
  case round =>
    obtain ⟨j, r, hj, rfl, rfl, hc, hb⟩ := hrel
    have hmm := HM.out
    have hll := HL.out
    have hc4 := hc.2.2.2
    have hc3 := hc.2.2.1
    by_cases hlt : j < ts.length
    · obtain ⟨t, ht⟩ : ∃ t, ts[j]? = some t := ⟨_, List.getElem?_eq_getElem hlt⟩
      obtain ⟨g, kd', nn', A', m', c', hA, hpt, x0, x1, x2⟩ := HPart.out wr hb j t ht
      subst hA
      have j0 : (0 : Int) ≤ (j : Int) := by omega
      have j1 : (j : Int) < (m : Int) := by omega
      have hb2 : Below wr.heap.size wr (wr.alloc (.cells #[.int .i64 kd', .int .i64 nn', .slice A' m' c'] 28)) := (Below.refl _ _).alloc (Nat.le_refl _) _
      by_cases hr : most < r
      · have HE := Lib.hid (show MnQ W (.mk k n ts) most (.returned (.int .i64 r)) (wr.alloc (.cells #[.int .i64 kd', .int .i64 nn', .slice A' m' c'] 28)) from ⟨r, rfl, by
          rw [HS.out]
          have h5 : most < ((1 + szs (ts.take j) : Nat) : Int) := by
            rcases Int.lt_or_le most ((1 + szs (ts.take j) : Nat) : Int) with h | h
            · exact h
            · have := hc.1 h; omega
          have h6 := szs_take_le ts j
          exact ⟨fun h => by omega, fun _ => hr, hc3, hc4⟩, hb.trans (hb2.mono hb.size)⟩)
        clear hj hc hb hmm hll hlt ht hpt hb2
        go_wp2
        go_ret
        exact HE.out
      · have cM := HIH.out t (List.mem_of_getElem? ht) kd' nn' A' m' c' _ (most - r) (hpt.below hb2) (by omega) (by omega)
        have HC := Lib.hid (And.intro hc (And.intro hr (And.intro ht (And.intro hj hlt))))
        have HB := Lib.hid (hb.trans (hb2.mono hb.size))
        have e1 : IntKind.i64.wrap (most - r) = most - r := IntWalk.i64_in _ (by omega)
        have r1 : r ≤ 1000 := by omega
        clear hj hc hb hmm hll hlt ht hpt hb2
        go_wp2_with (go_at_call 39; (with_reducible refine cM.mono ?_); rintro e w5 ⟨r', rfl, hc', hb5⟩; have r2 : r' ≤ 1001 := (by have := hc'.2.2.1; omega); have r3 : (1 : Int) ≤ r' := hc'.2.2.2; have HC' := Lib.hid hc'; have HB5 := Lib.hid hb5; clear hc' hb5 cM)
        go_roundg (ts.length - (j + 1))
        case measure => obtain ⟨_, _, _, h4, h5⟩ := HC.out; omega
        case rel =>
          obtain ⟨a1, a2, a3, a4, a5⟩ := HC.out
          refine ⟨j + 1, r + r', by omega, rfl, by rw [Int.natCast_add]; rfl, ?_, HB.out.trans (HB5.out.mono HB.out.size)⟩
          rw [szs_take ts j t a3, ← Nat.add_assoc]
          exact cnt_step a1 (by omega) HC'.out
    · have hje : j = ts.length := by omega
      have j1 : ¬ ((j : Int) < (m : Int)) := by omega
      have HE := Lib.hid (show MnQ W (.mk k n ts) most (.returned (.int .i64 r)) wr from ⟨r, rfl, by rw [HS.out]; rw [hje, List.take_length] at hc; exact hc, hb⟩)
      clear hj hc hb hmm hll hlt hje
      go_wp2
      go_ret
      exact HE.out
end Go.Proofs.Ytghlajfalgdkfaa
