/-
  MERGED (a claim has at most 60 files): DTri.
-/
import Derived.Test.YtehechbiajbobaaZ23
import Derived.Deep.RegionHeld3
/-
  A DICTIONARY's CALL Triple.
-/
namespace Go.Proofs.Ytehechbiajbobaa
open Go.RowKit
set_option linter.unusedVariables false
set_option linter.unusedSimpArgs false
set_option maxRecDepth 100000

/-- The term of a number. -/
def atN (L : List Tm) (n : Int) : Tm := (L[n.toNat]?).getD .none
/-- A key's triple, as three terms or none; the error. -/
noncomputable def tripD (L : List Tm) (n0 n1 n2 : Int) : (Tm × Tm × Tm) × Int :=
  if hasB L n0 = true ∧ hasB L n1 = true ∧ hasB L n2 = true then (if okR (atN L n0) (atN L n1) (atN L n2) 0 = true then ((atN L n0, atN L n1, atN L n2), 0) else ((.none, .none, .none), 3)) else ((.none, .none, .none), 4)
theorem atN_of {L : List Tm} {n : Int} (h : hasB L n = true) : ∃ i : Nat, n = i ∧ L[i]? = some (atN L n) := by
  obtain ⟨h0, h1⟩ := hasB_iff.1 h
  refine ⟨n.toNat, by omega, ?_⟩
  unfold atN
  rw [List.getElem?_eq_getElem (by omega)]
  rfl
theorem trip_free {W : World} {g : Nat} {cs : Array Value} (h : Fb W g 57 cs) (i : Nat) : W.frozen? ⟨g, i, none⟩ = false := d_free h i
def TriPost (W : World) (r : (Tm × Tm × Tm) × Int) (e : Ending) (w' : World) : Prop := e = .returned (.tuple #[.agg #[r.1.1.val, r.1.2.1.val, r.1.2.2.val], .int .i64 r.2]) ∧ Below W.heap.size W w'
def TyI (W2 : World) (b0 b1 b2 : Bool) (g : Nat) (s10 : Value) (wr : World) : Prop :=
  (g = 3 ∧ s10 = .int .i64 0 ∧ wr = W2) ∨ (g = 2 ∧ s10 = .int .i64 1 ∧ Hid (b0 = true) ∧ wr = W2) ∨ (g = 1 ∧ s10 = .int .i64 2 ∧ Hid (b0 = true ∧ b1 = true) ∧ wr = W2) ∨ (g = 0 ∧ s10 = .int .i64 3 ∧ Hid (b0 = true ∧ b1 = true ∧ b2 = true) ∧ wr = W2)
theorem set3_below {W W2 : World} {g : Nat} (hb : Below W.heap.size W W2) (hg : W.heap.size ≤ g) (x y z : Value) : Below W.heap.size W (((W2.setCell ⟨g, 0, none⟩ x).setCell ⟨g, 1, none⟩ y).setCell ⟨g, 2, none⟩ z) :=
  Below.setCell (Below.setCell (Below.setCell hb hg _) hg _) hg _
section
variable {B d m : Nat} {room : Int} {v : Value} {L : List Tm}
set_option maxHeartbeats 64000000 in
theorem dtriple_any {W : World} (h : Dc B d m room v L W) (hl : L.length ≤ 90000) (hf : ∀ t ∈ L, t.few) (n0 n1 n2 : Int) :
    Calls Try.prog 19 #[.pointer (some ⟨d, 0, none⟩), .agg #[.int .i64 n0, .int .i64 n1, .int .i64 n2]] W (TriPost W (tripD L n0 n1 n2)) := by
  obtain ⟨W2, hW2⟩ : ∃ W2, W2 = (W.alloc (.cells #[.int .i64 n0, .int .i64 n1, .int .i64 n2] 53)).alloc (.cells #[.nilIface, .nilIface, .nilIface] 57) := ⟨_, rfl⟩
  have hb2 : Below W.heap.size W W2 := by rw [hW2]; exact ((Below.refl _ _).alloc (Nat.le_refl _) _).alloc (by simp) _
  have hx3 : Fb W2 W.heap.size 53 #[.int .i64 n0, .int .i64 n1, .int .i64 n2] := by rw [hW2]; exact (Fb.new _ _ _).alloc _
  have hx4 : Fb W2 (W.heap.size + 1) 57 #[.nilIface, .nilIface, .nilIface] := by
    have := Fb.new (W.alloc (.cells #[.int .i64 n0, .int .i64 n1, .int .i64 n2] 53)) 57 #[.nilIface, .nilIface, .nilIface]
    rw [hW2]
    simpa using this
  have hD2 := h.below hb2
  have cH := fun (n : Int) => dhas_any hD2 (by omega) n
  obtain ⟨r, hr⟩ : ∃ r, r = tripD L n0 n1 n2 := ⟨_, rfl⟩
  rw [← hr]
  unfold tripD at hr
  have c0 := cH n0
  have c1 := cH n1
  have c2 := cH n2
  have hpres := fun (h : hasB L n0 = true ∧ hasB L n1 = true ∧ hasB L n2 = true) => (⟨atN_of h.1, atN_of h.2.1, atN_of h.2.2⟩ : (∃ i : Nat, n0 = i ∧ L[i]? = some (atN L n0)) ∧ (∃ i : Nat, n1 = i ∧ L[i]? = some (atN L n1)) ∧ (∃ i : Nat, n2 = i ∧ L[i]? = some (atN L n2)))
  generalize hasB L n0 = b0 at c0 hr hpres
  generalize hasB L n1 = b1 at c1 hr hpres
  generalize hasB L n2 = b2 at c2 hr hpres
  have HR := Lib.hid hr
  have HP := Lib.hid hpres
  have HD := Lib.hid hD2
  have HF := Lib.hid hf
  have HB2 := Lib.hid hb2
  have HX3 := Lib.hid hx3
  have HX4 := Lib.hid hx4
  have HL := Lib.hid hl
  obtain ⟨g4, hg4⟩ : ∃ g, g = W.heap.size + 1 := ⟨_, rfl⟩
  have HG4 := Lib.hid hg4
  have y0 := hx4.cell 0
  have y1 := hx4.cell 1
  have y2 := hx4.cell 2
  have f0 := d_free hx4 0
  have f1 := d_free hx4 1
  have f2 := d_free hx4 2
  have hlt := hx4.lt
  rw [← hg4] at y0 y1 y2 f0 f1 f2 hlt
  clear hr hpres h cH hD2 hf hl hb2 hx3 hx4
  go_enter Try.func19, Try.ntmps19
  go_wp2
  rw [← hg4, ← hW2]
  clear hg4 hW2
  go_loopg [10] 3 (fun g s10 wr => TyI W2 b0 b1 b2 g s10 wr)
  case atStart => exact .inl ⟨rfl, rfl, rfl⟩
  case round =>
    rcases hrel with ⟨rfl, rfl, rfl⟩ | ⟨rfl, rfl, HZ, rfl⟩ | ⟨rfl, rfl, HZ, rfl⟩ | ⟨rfl, rfl, HZ, rfl⟩
    · have hix : ∀ w', (Instr.index 53 (.agg #[.int .i64 n0, .int .i64 n1, .int .i64 n2]) (.int .i64 0)).run Try.prog w' = .ok (.int .i64 n0) w' := fun _ => by kernel_rfl
      cases hb : b0 with
      | true =>
        rw [hb] at c0
        have HE := Lib.hid hb
        clear hb
        go_wp2_with (go_at_call 29; (with_reducible refine c0.mono ?_); rintro e w6 ⟨rfl, rfl⟩)
        go_roundg 2
        case measure => exact (by decide : 2 < 3)
        case rel => exact .inr (.inl ⟨rfl, rfl, Lib.hid HE.out, rfl⟩)
      | false =>
        rw [hb] at c0
        have HE := Lib.hid hb
        clear hb
        go_wp2_with (go_at_call 29; (with_reducible refine c0.mono ?_); rintro e w6 ⟨rfl, rfl⟩)
        (try rw [Exit.noGoto_ret])
        have hr2 : r = ((.none, .none, .none), 4) := by rw [HR.out, if_neg (fun h => by have := h.1; rw [HE.out] at this; cases this)]
        exact bodyPost_ret (v := .tuple #[.agg #[.nilIface, .nilIface, .nilIface], .int .i64 4]) (by simp [results, Try.results19, go_sem, y0, y1, y2, hlt]) rfl ⟨by rw [hr2]; rfl, set3_below HB2.out (by have := HG4.out; omega) _ _ _⟩
    · have hix : ∀ w', (Instr.index 53 (.agg #[.int .i64 n0, .int .i64 n1, .int .i64 n2]) (.int .i64 1)).run Try.prog w' = .ok (.int .i64 n1) w' := fun _ => by kernel_rfl
      cases hb : b1 with
      | true =>
        rw [hb] at c1
        have HE := Lib.hid hb
        clear hb
        go_wp2_with (go_at_call 29; (with_reducible refine c1.mono ?_); rintro e w6 ⟨rfl, rfl⟩)
        go_roundg 1
        case measure => exact (by decide : 1 < 2)
        case rel => exact .inr (.inr (.inl ⟨rfl, rfl, Lib.hid ⟨HZ.out, HE.out⟩, rfl⟩))
      | false =>
        rw [hb] at c1
        have HE := Lib.hid hb
        clear hb
        go_wp2_with (go_at_call 29; (with_reducible refine c1.mono ?_); rintro e w6 ⟨rfl, rfl⟩)
        (try rw [Exit.noGoto_ret])
        have hr2 : r = ((.none, .none, .none), 4) := by rw [HR.out, if_neg (fun h => by have := h.2.1; rw [HE.out] at this; cases this)]
        exact bodyPost_ret (v := .tuple #[.agg #[.nilIface, .nilIface, .nilIface], .int .i64 4]) (by simp [results, Try.results19, go_sem, y0, y1, y2, hlt]) rfl ⟨by rw [hr2]; rfl, set3_below HB2.out (by have := HG4.out; omega) _ _ _⟩
    · have hix : ∀ w', (Instr.index 53 (.agg #[.int .i64 n0, .int .i64 n1, .int .i64 n2]) (.int .i64 2)).run Try.prog w' = .ok (.int .i64 n2) w' := fun _ => by kernel_rfl
      cases hb : b2 with
      | true =>
        rw [hb] at c2
        have HE := Lib.hid hb
        clear hb
        go_wp2_with (go_at_call 29; (with_reducible refine c2.mono ?_); rintro e w6 ⟨rfl, rfl⟩)
        go_roundg 0
        case measure => exact (by decide : 0 < 1)
        case rel => exact .inr (.inr (.inr ⟨rfl, rfl, Lib.hid ⟨HZ.out.1, HZ.out.2, HE.out⟩, rfl⟩))
      | false =>
        rw [hb] at c2
        have HE := Lib.hid hb
        clear hb
        go_wp2_with (go_at_call 29; (with_reducible refine c2.mono ?_); rintro e w6 ⟨rfl, rfl⟩)
        (try rw [Exit.noGoto_ret])
        have hr2 : r = ((.none, .none, .none), 4) := by rw [HR.out, if_neg (fun h => by have := h.2.2; rw [HE.out] at this; cases this)]
        exact bodyPost_ret (v := .tuple #[.agg #[.nilIface, .nilIface, .nilIface], .int .i64 4]) (by simp [results, Try.results19, go_sem, y0, y1, y2, hlt]) rfl ⟨by rw [hr2]; rfl, set3_below HB2.out (by have := HG4.out; omega) _ _ _⟩
    · have hall := HZ.out
      obtain ⟨⟨i0, hn0, hi0⟩, ⟨i1, hn1, hi1⟩, ⟨i2, hn2, hi2⟩⟩ := HP.out hall
      have hr := HR.out
      rw [if_pos hall] at hr
      generalize atN L n0 = a at hi0 hr
      generalize atN L n1 = b at hi1 hr
      generalize atN L n2 = c at hi2 hr
      subst hn0 hn1 hn2
      have hD := HD.out
      have hf := HF.out
      have ka := hD.ks a (List.mem_of_getElem? hi0)
      have kb := hD.ks b (List.mem_of_getElem? hi1)
      have kc := hD.ks c (List.mem_of_getElem? hi2)
      have cG := ngood_any a b c (hf a (List.mem_of_getElem? hi0)) (hf b (List.mem_of_getElem? hi1)) (hf c (List.mem_of_getElem? hi2)) ka kb kc
      obtain ⟨ta, va, hva⟩ := iface_of ka
      obtain ⟨tb, vb, hvb⟩ := iface_of kb
      obtain ⟨tc, vc, hvc⟩ := iface_of kc
      obtain ⟨gr, cp, rfl, q0⟩ := hD.term hi0
      obtain ⟨gr1, cp1, e1, q1⟩ := hD.term hi1
      obtain ⟨gr2, cp2, e2, q2⟩ := hD.term hi2
      injection e1 with e1 _ _
      injection e1 with e1
      injection e1 with e1
      injection e2 with e2 _ _
      injection e2 with e2
      injection e2 with e2
      subst e1 e2
      rw [hva] at q0 cG
      rw [hvb] at q1 cG
      rw [hvc] at q2 cG
      have l0 := (List.getElem?_eq_some_iff.1 hi0).1
      have l1 := (List.getElem?_eq_some_iff.1 hi1).1
      have l2 := (List.getElem?_eq_some_iff.1 hi2).1
      have hl := HL.out
      obtain ⟨N, hN⟩ : ∃ N, N = L.length := ⟨_, rfl⟩
      have k0 : (0 : Int) ≤ (i0 : Int) := by omega
      have k1 : (0 : Int) ≤ (i1 : Int) := by omega
      have k2 : (0 : Int) ≤ (i2 : Int) := by omega
      have m0 : (i0 : Int) < (N : Int) := by omega
      have m1 : (i1 : Int) < (N : Int) := by omega
      have m2 : (i2 : Int) < (N : Int) := by omega
      have hdc := hD.cells.2.1
      have hx3 := HX3.out
      have hgl := (hD.row_ge (k := gr) rfl).2
      have hdl := hD.st.lt
      have h3l := hx3.lt
      have K : ∀ w, Below wr.heap.size wr w → w.cell? ⟨d, 1, none⟩ = some (.slice (some ⟨gr, 0, none⟩) L.length cp) ∧ w.cell? ⟨W.heap.size, 0, none⟩ = some (.int .i64 i0) ∧ w.cell? ⟨W.heap.size, 1, none⟩ = some (.int .i64 i1) ∧ w.cell? ⟨W.heap.size, 2, none⟩ = some (.int .i64 i2) ∧ w.cell? ⟨gr, i0, none⟩ = some (.iface ta va) ∧ w.cell? ⟨gr, i1, none⟩ = some (.iface tb vb) ∧ w.cell? ⟨gr, i2, none⟩ = some (.iface tc vc) := fun w hb =>
        ⟨(hb.cell (p := ⟨d, 1, none⟩) hdl).trans hdc, (hb.cell (p := ⟨W.heap.size, 0, none⟩) h3l).trans (hx3.cell 0), (hb.cell (p := ⟨W.heap.size, 1, none⟩) h3l).trans (hx3.cell 1), (hb.cell (p := ⟨W.heap.size, 2, none⟩) h3l).trans (hx3.cell 2), (hb.cell (p := ⟨gr, i0, none⟩) hgl).trans q0, (hb.cell (p := ⟨gr, i1, none⟩) hgl).trans q1, (hb.cell (p := ⟨gr, i2, none⟩) hgl).trans q2⟩
      rw [← hN] at K
      obtain ⟨ok, hok⟩ : ∃ ok, ok = okR a b c 0 := ⟨_, rfl⟩
      rw [← hok] at cG hr
      have HR2 := Lib.hid hr
      have HV := Lib.hid (show a.val = .iface ta va ∧ b.val = .iface tb vb ∧ c.val = .iface tc vc from ⟨hva, hvb, hvc⟩)
      have hB0 : Below wr.heap.size wr wr := Below.refl _ _
      have HM := Lib.hid (show ∀ w, Below wr.heap.size wr w → (w.cell? ⟨g4, 0, none⟩ = some .nilIface ∧ w.cell? ⟨g4, 1, none⟩ = some .nilIface ∧ w.cell? ⟨g4, 2, none⟩ = some .nilIface ∧ w.frozen? ⟨g4, 0, none⟩ = false ∧ w.frozen? ⟨g4, 1, none⟩ = false ∧ w.frozen? ⟨g4, 2, none⟩ = false ∧ g4 < w.heap.size) ∧ Below W.heap.size W w from fun w hb => by
        have h4 := HX4.out.below hb
        rw [← HG4.out] at h4
        exact ⟨⟨h4.cell 0, h4.cell 1, h4.cell 2, d_free h4 0, d_free h4 1, d_free h4 2, h4.lt⟩, HB2.out.trans (hb.mono HB2.out.size)⟩)
      clear hall hi0 hi1 hi2 hr hD hf ka kb kc hva hvb hvc q0 q1 q2 l0 l1 l2 hl hN hdc hx3 hgl hdl h3l hok c0 c1 c2 y0 y1 y2 f0 f1 f2 hlt HZ HP HR
      go_wp2
      go_region_held3 (fun w => w.cell? ⟨d, 1, none⟩ = some (.slice (some ⟨gr, 0, none⟩) N cp) ∧ w.cell? ⟨W.heap.size, 0, none⟩ = some (.int .i64 i0) ∧ w.cell? ⟨W.heap.size, 1, none⟩ = some (.int .i64 i1) ∧ w.cell? ⟨W.heap.size, 2, none⟩ = some (.int .i64 i2) ∧ w.cell? ⟨gr, i0, none⟩ = some (.iface ta va) ∧ w.cell? ⟨gr, i1, none⟩ = some (.iface tb vb) ∧ w.cell? ⟨gr, i2, none⟩ = some (.iface tc vc))
        (first | (refine K _ ?_; repeat (first | assumption | refine Below.drew ?_ | refine Below.setCell ?_ (by first | exact Nat.le_refl _ | simp) _ | refine Below.alloc ?_ (by first | exact Nat.le_refl _ | simp) _)))
        (fail)
      all_goals
        cases ok with
        | false =>
          go_wp2_with (go_at_call 31; (with_reducible refine (cG _).mono ?_); rintro e w8 ⟨rfl, hb8⟩; obtain ⟨⟨y0, y1, y2, f0, f1, f2, hlt⟩, hBW⟩ := HM.out w8 (by refine Below.trans ?_ (hb8.mono (by simp)); repeat (first | assumption | refine Below.drew ?_ | refine Below.alloc ?_ (by first | exact Nat.le_refl _ | simp) _)))
          have hr2 : r = ((.none, .none, .none), 3) := by rw [HR2.out]; simp
          exact bodyPost_ret (v := .tuple #[.agg #[.nilIface, .nilIface, .nilIface], .int .i64 3]) (by simp [results, Try.results19, go_sem, y0, y1, y2, hlt]) rfl ⟨by rw [hr2]; rfl, set3_below hBW (by have := HG4.out; omega) _ _ _⟩
        | true =>
          go_wp2_with (go_at_call 31; (with_reducible refine (cG _).mono ?_); rintro e w8 ⟨rfl, hb8⟩; obtain ⟨⟨y0, y1, y2, f0, f1, f2, hlt⟩, hBW⟩ := HM.out w8 (by refine Below.trans ?_ (hb8.mono (by simp)); repeat (first | assumption | refine Below.drew ?_ | refine Below.alloc ?_ (by first | exact Nat.le_refl _ | simp) _)); have hbx : Fb w8 wr.heap.size 57 #[.iface ta va, .iface tb vb, .iface tc vc] := Fb.below (by first | exact Fb.new _ _ _ | exact Fb.drew (Fb.new _ _ _)) hb8; have z0 := hbx.cell 0; have z1 := hbx.cell 1; have z2 := hbx.cell 2)
          have hr2 : r = ((a, b, c), 0) := by rw [HR2.out]; simp
          exact bodyPost_ret (v := .tuple #[.agg #[.iface ta va, .iface tb vb, .iface tc vc], .int .i64 0]) (by simp [results, Try.results19, go_sem, y0, y1, y2, hlt]) rfl ⟨by rw [hr2]; show _ = Ending.returned (.tuple #[.agg #[a.val, b.val, c.val], .int .i64 0]); rw [HV.out.1, HV.out.2.1, HV.out.2.2], set3_below hBW (by have := HG4.out; omega) _ _ _⟩
end
end Go.Proofs.Ytehechbiajbobaa
