/-
  MERGED (a claim has at most 60 files): NTri, NPrs, NParse.
-/
import Derived.Test.YtjalhcbomjgkoaaGreatDoorZ18
/-
  A LINE's TRIPLE (package nt): all ways.
-/
namespace Go.Proofs.YtjalhcbomjgkoaaGreatDoor
open Go.RowKit
set_option linter.unusedVariables false
set_option linter.unusedSimpArgs false

/-- May a term stand in a part of a triple? -/
def mayB (t : Tm) (part : Nat) : Bool := (t.kind == 1) || (((t.kind == 0) && !(part == 1)) || ((t.kind == 2) && (part == 2)))
/-- A part of a triple, blanks ahead: the term and the place behind it, or the error's place and the error. -/
noncomputable def partP (sl : List Int) (k part : Nat) : Option Tm × Nat × Int :=
  match (readP sl (gapP sl k)).1 with
  | none => readP sl (gapP sl k)
  | some t => if mayB t part = true then (some t, (readP sl (gapP sl k)).2.1, 0) else (none, gapP sl k, 3)
/-- g parts are to come, ts are there. -/
noncomputable def triC (sl : List Int) : Nat → Nat → Nat → List Tm → Option (List Tm) × Nat × Int
  | 0, _, p, ts => if sl[gapP sl p]? = some 46 then (some ts, gapP sl p + 1, 0) else (none, gapP sl p, 1)
  | g + 1, part, p, ts => match (partP sl p part).1 with
    | none => (none, (partP sl p part).2.1, (partP sl p part).2.2)
    | some t => triC sl g (part + 1) (partP sl p part).2.1 (ts ++ [t])
noncomputable def triP (sl : List Int) (k : Nat) : Option (List Tm) × Nat × Int := triC sl 3 0 k []
theorem partP_le (sl : List Int) (k part : Nat) (h : k ≤ sl.length) (hs : AllS sl) : (partP sl k part).2.1 ≤ sl.length ∧ k ≤ (partP sl k part).2.1 ∧ ∀ t, (partP sl k part).1 = some t → t.soft sl.length ∧ k < (partP sl k part).2.1 ∧ goodT t = true ∧ mayB t part = true := by
  have hg := gapP_le sl k h
  have hr := readP_le sl (gapP sl k) hg.1 hs
  unfold partP
  cases ho : (readP sl (gapP sl k)).1 with
  | none => exact ⟨hr.1, by dsimp only; omega, fun t ht => by rw [ho] at ht; cases ht⟩
  | some t =>
    dsimp only
    by_cases hm : mayB t part = true
    · rw [if_pos hm]
      refine ⟨hr.1, by dsimp only; omega, fun u hu => ?_⟩
      simp at hu
      subst hu
      have := hr.2.2 t ho
      exact ⟨this.1, by dsimp only; omega, this.2.2.1, hm⟩
    · rw [if_neg hm]
      exact ⟨hg.1, hg.2, fun u hu => by cases hu⟩
/-- What a triple is made of. -/
def Tri (N : Nat) (ts : List Tm) : Prop := ∀ (j : Nat) t, ts[j]? = some t → t.soft N ∧ goodT t = true ∧ mayB t j = true
theorem tri_snoc {N : Nat} {ts : List Tm} {t : Tm} (h : Tri N ts) (h1 : t.soft N) (h2 : goodT t = true) (h3 : mayB t ts.length = true) : Tri N (ts ++ [t]) := fun j u hu => by
  by_cases hj : j < ts.length
  · rw [List.getElem?_append_left hj] at hu
    exact h j u hu
  · rw [List.getElem?_append_right (by omega)] at hu
    have : j = ts.length := by have := (List.getElem?_eq_some_iff.1 hu).1; simp at this; omega
    subst this
    simp at hu
    subst hu
    exact ⟨h1, h2, h3⟩
theorem triC_le (sl : List Int) (hs : AllS sl) : ∀ (g part p : Nat) (ts : List Tm), p ≤ sl.length → ts.length = part → Tri sl.length ts →
    (triC sl g part p ts).2.1 ≤ sl.length ∧ p ≤ (triC sl g part p ts).2.1 ∧ ∀ us, (triC sl g part p ts).1 = some us → us.length = part + g ∧ Tri sl.length us ∧ p < (triC sl g part p ts).2.1
  | 0, part, p, ts, h, hl, ht => by
    have hg := gapP_le sl p h
    unfold triC
    split
    · rename_i hx
      have := (List.getElem?_eq_some_iff.1 hx).1
      exact ⟨by dsimp only; omega, by dsimp only; omega, fun us hu => by simp at hu; subst hu; exact ⟨hl, ht, by dsimp only; omega⟩⟩
    · exact ⟨hg.1, hg.2, fun us hu => by cases hu⟩
  | g + 1, part, p, ts, h, hl, ht => by
    have hp := partP_le sl p part h hs
    unfold triC
    cases ho : (partP sl p part).1 with
    | none => exact ⟨hp.1, hp.2.1, fun us hu => by cases hu⟩
    | some t =>
      have ho2 := hp.2.2 t ho
      have ih := triC_le sl hs g (part + 1) (partP sl p part).2.1 (ts ++ [t]) hp.1 (by simp [hl]) (tri_snoc ht ho2.1 ho2.2.2.1 (by rw [hl]; exact ho2.2.2.2))
      exact ⟨ih.1, by dsimp only; omega, fun us hu => by
        obtain ⟨a, b, c⟩ := ih.2.2 us hu
        exact ⟨by omega, b, by dsimp only; omega⟩⟩
theorem triP_le (sl : List Int) (hs : AllS sl) (k : Nat) (h : k ≤ sl.length) : (triP sl k).2.1 ≤ sl.length ∧ k ≤ (triP sl k).2.1 ∧ ∀ us, (triP sl k).1 = some us → us.length = 3 ∧ Tri sl.length us ∧ k < (triP sl k).2.1 :=
  triC_le sl hs 3 0 k [] h rfl (fun j t ht => by simp at ht)
theorem readP_code {sl : List Int} {k : Nat} (h : (readP sl k).1 = none) : ¬ (readP sl k).2.2 = 0 := by
  unfold readP at *
  cases ho : (formP sl k).2 with
  | none => exact (by decide : ¬ (1 : Int) = 0)
  | some t =>
    rw [ho] at h
    dsimp only at h ⊢
    by_cases hg : goodT t = true
    · rw [if_pos hg] at h; cases h
    · rw [if_neg hg]; exact (by decide : ¬ (3 : Int) = 0)
/-! ### mayStand -/
set_option maxRecDepth 100000 in
set_option maxHeartbeats 2000000 in
theorem nmay_any (t : Tm) (part : Nat) (w : World) : Calls Tryz.prog 52 #[t.val, .int .i64 part] w fun e w' => e = .returned (.bool (mayB t part)) ∧ Below w.heap.size w w' := by
  have cK := kind_any t
  obtain ⟨r, hr⟩ : ∃ r, r = mayB t part := ⟨_, rfl⟩
  rw [← hr]
  unfold mayB at hr
  have hk : t.kind = 0 ∨ t.kind = 1 ∨ t.kind = 2 ∨ t.kind = 3 := by cases t <;> simp [Tm.kind]
  obtain ⟨k, hkk⟩ : ∃ k, k = t.kind := ⟨_, rfl⟩
  obtain ⟨v, hv⟩ : ∃ k, k = t.val := ⟨_, rfl⟩
  rw [← hkk] at cK hr hk
  rw [← hv] at cK ⊢
  have e1 : ((part : Int) != 1) = !(part == 1) := by rw [Bool.eq_iff_iff, bne_iff_ne, Bool.not_eq_true', beq_eq_false_iff_ne]; omega
  have e2 : ((part : Int) == 2) = (part == 2) := by rw [Bool.eq_iff_iff, beq_iff_eq, beq_iff_eq]; omega
  obtain ⟨p1, hp1⟩ : ∃ p, p = (part == 1) := ⟨_, rfl⟩
  obtain ⟨p2, hp2⟩ : ∃ p, p = (part == 2) := ⟨_, rfl⟩
  rw [← hp1] at e1 hr
  rw [← hp2] at e2 hr
  clear hkk hv hp1 hp2
  rcases hk with rfl | rfl | rfl | rfl
  all_goals
    have HR : Hid (r = _) := Lib.hid hr
    clear hr
    go_enter Tryz.func52, Tryz.ntmps52
    go_wp2_with (go_at_call 17; (with_reducible refine (cK _).mono ?_); rintro e w1 ⟨rfl, hb1⟩)
    go_ret
    exact ⟨ret_bool (by rw [HR.out]; simp), hb1⟩
/-! ### readTriple -/
/-- A scanner that moves, the result's box, the parts'. -/
def Mt (B : Nat) (w : World) (b : Nat) (v : Value) (sl : List Int) (k : Nat) (ps : Array Value) (W : World) : Prop :=
  Moves B w b v sl k W ∧ Fb W w.heap.size 59 #[.nilIface, .nilIface, .nilIface] ∧ Fb W (w.heap.size + 1) 99 ps ∧ b < w.heap.size ∧ (∀ g, v.ownBlock = some g → g < w.heap.size)
section
variable {w : World} {B b : Nat} {v : Value} {sl : List Int} {k : Nat} {ps : Array Value}
theorem Mt.start (h : Sc B w b v sl k) (ps : Array Value) : Mt B w b v sl k ps ((w.alloc (.cells #[.nilIface, .nilIface, .nilIface] 59)).alloc (.cells ps 99)) :=
  have hb : Below w.heap.size w ((w.alloc (.cells #[.nilIface, .nilIface, .nilIface] 59)).alloc (.cells ps 99)) := ((Below.refl _ _).alloc (Nat.le_refl _) _).alloc (by simp) _
  ⟨⟨h.below3 hb, below_grown hb _⟩, (Fb.new _ _ _).alloc _, by simpa using Fb.new (w.alloc (.cells #[.nilIface, .nilIface, .nilIface] 59)) 99 ps, (Array.getElem?_eq_some_iff.1 h.blk).1, fun g hg => (World.ownsRow.lt h.row g hg).2⟩
theorem Mt.to {k' : Nat} {W W' : World} (h : Mt B w b v sl k ps W) (m : Moves B W b v sl k' W') : Mt B w b v sl k' ps W' :=
  ⟨h.1.to m, (m.2.block _ h.2.1.lt (fun e => by have := Option.some.inj e; have := h.2.2.2.1; omega)).trans h.2.1, (m.2.block _ h.2.2.1.lt (fun e => by have := Option.some.inj e; have := h.2.2.2.1; omega)).trans h.2.2.1, h.2.2.2⟩
theorem Mt.setm {W : World} (h : Mt B w b v sl k ps W) (g i : Nat) (hg : w.heap.size ≤ g) (y : Value) : Moves B w b v sl k (W.setCell ⟨g, i, none⟩ y) := by
  have hgr := grown_set W g i y
  refine ⟨⟨(Below.heap_setCell _ _ _ _ (by have := h.2.2.2.1; dsimp only; omega)).trans h.1.1.blk, ?_, h.1.1.ge⟩, ⟨hgr.os.trans h.1.2.os, hgr.tape.trans h.1.2.tape, hgr.output.trans h.1.2.output, Nat.le_trans h.1.2.size hgr.size, fun j hj hr => ?_⟩⟩
  · refine h.1.1.row.kept hgr (Or.inr (fun e => ?_))
    have := h.2.2.2.2 _ e
    omega
  · exact (Below.heap_setCell _ _ _ _ (by dsimp only; omega)).trans (h.1.2.block j hj hr)
theorem Mt.put {W : World} (h : Mt B w b v sl k ps W) (i : Nat) (y : Value) : Mt B w b v sl k (ps.setIfInBounds i y) (W.setCell ⟨w.heap.size + 1, i, none⟩ y) :=
  ⟨h.setm _ i (by omega) y, (Below.heap_setCell _ _ _ _ (by dsimp only; omega)).trans h.2.1, heap_setCell_same _ _ i _ _ y h.2.2.1, h.2.2.2⟩
theorem Mt.store {W : World} (h : Mt B w b v sl k ps W) (x y z : Value) : Moves B w b v sl k (((W.setCell ⟨w.heap.size, 0, none⟩ x).setCell ⟨w.heap.size, 1, none⟩ y).setCell ⟨w.heap.size, 2, none⟩ z) := by
  have h1 : Moves B w b v sl k (W.setCell ⟨w.heap.size, 0, none⟩ x) := h.setm _ 0 (Nat.le_refl _) x
  have key : ∀ {W : World} (i : Nat) (y : Value), Moves B w b v sl k W → b < w.heap.size → (∀ g, v.ownBlock = some g → g < w.heap.size) → Moves B w b v sl k (W.setCell ⟨w.heap.size, i, none⟩ y) := fun {W} i y m hb hv => by
    have hgr := grown_set W w.heap.size i y
    refine ⟨⟨(Below.heap_setCell _ _ _ _ (by dsimp only; omega)).trans m.1.blk, ?_, m.1.ge⟩, ⟨hgr.os.trans m.2.os, hgr.tape.trans m.2.tape, hgr.output.trans m.2.output, Nat.le_trans m.2.size hgr.size, fun j hj hr => ?_⟩⟩
    · refine m.1.row.kept hgr (Or.inr (fun e => ?_))
      have := hv _ e
      omega
    · exact (Below.heap_setCell _ _ _ _ (by dsimp only; omega)).trans (m.2.block j hj hr)
  exact key 2 z (key 1 y h1 h.2.2.2.1 h.2.2.2.2) h.2.2.2.1 h.2.2.2.2
theorem Mt.res {W : World} (h : Mt B w b v sl k ps W) : W.cell? ⟨w.heap.size, 0, none⟩ = some .nilIface ∧ W.cell? ⟨w.heap.size, 1, none⟩ = some .nilIface ∧ W.cell? ⟨w.heap.size, 2, none⟩ = some .nilIface ∧ W.frozen? ⟨w.heap.size, 0, none⟩ = false ∧ W.frozen? ⟨w.heap.size, 1, none⟩ = false ∧ W.frozen? ⟨w.heap.size, 2, none⟩ = false ∧ w.heap.size < W.heap.size :=
  ⟨h.2.1.cell 0, h.2.1.cell 1, h.2.1.cell 2, h.2.1.free 0, h.2.1.free 1, h.2.1.free 2, h.2.1.lt⟩
theorem Mt.part {W : World} {x y z : Value} (h : Mt B w b v sl k #[x, y, z] W) : W.cell? ⟨w.heap.size + 1, 0, none⟩ = some x ∧ W.cell? ⟨w.heap.size + 1, 1, none⟩ = some y ∧ W.cell? ⟨w.heap.size + 1, 2, none⟩ = some z ∧ W.frozen? ⟨w.heap.size + 1, 0, none⟩ = false ∧ W.frozen? ⟨w.heap.size + 1, 1, none⟩ = false ∧ W.frozen? ⟨w.heap.size + 1, 2, none⟩ = false ∧ w.heap.size + 1 < W.heap.size :=
  ⟨h.2.2.1.cell 0, h.2.2.1.cell 1, h.2.2.1.cell 2, h.2.2.1.free 0, h.2.2.1.free 1, h.2.2.1.free 2, h.2.2.1.lt⟩
end
theorem iface_of {t : Tm} (h : t.kind < 3) : ∃ ty x, t.val = .iface ty x := by
  cases t with
  | blank s => exact ⟨_, _, rfl⟩
  | iri s => exact ⟨_, _, rfl⟩
  | lit a b c => exact ⟨_, _, rfl⟩
  | odd n => exact ⟨_, _, rfl⟩
  | none => exact absurd h (by decide)
/-- The parts' cells. -/
def padT (ts : List Tm) : Array Value := (ts.map Tm.val ++ List.replicate (3 - ts.length) Value.nilIface).toArray
def TrPost (B : Nat) (w : World) (b : Nat) (v : Value) (sl : List Int) (r : Option (List Tm) × Nat × Int) (e : Ending) (w' : World) : Prop :=
  match r.1 with
  | some ts => e = .returned (.tuple #[.agg (ts.map Tm.val).toArray, .int .i64 0, .int .i64 0]) ∧ Moves B w b v sl r.2.1 w'
  | none => e = .returned (.tuple #[.agg #[.nilIface, .nilIface, .nilIface], .int .i64 r.2.1, .int .i64 r.2.2]) ∧ ∃ j, Moves B w b v sl j w'
def TrI (B : Nat) (w : World) (b : Nat) (v : Value) (sl : List Int) (r : Option (List Tm) × Nat × Int) (g : Nat) (s11 : Value) (wr : World) : Prop :=
  ∃ (i p : Nat) (ts : List Tm), i + g = 3 ∧ s11 = .int .i64 i ∧ ts.length = i ∧ p ≤ sl.length ∧ Hid (r = triC sl g i p ts) ∧ (∀ t ∈ ts, t.kind < 3) ∧ Mt B w b v sl p (padT ts) wr
set_option maxHeartbeats 16000000 in
set_option maxRecDepth 100000 in
theorem ntriple_any {B : Nat} {w : World} {b : Nat} {v : Value} {sl : List Int} {k : Nat} (h : Sc B w b v sl k) (hk : k ≤ sl.length) (hl : sl.length ≤ 100000) (hall : AllS sl) (t : TypeId) (fr : Nat × Nat) (htab : w.heap[0]? = some (.cells escCells t fr)) :
    Calls Tryz.prog 61 #[.pointer (some ⟨b, 0, none⟩)] w (TrPost B w b v sl (triP sl k)) := by
  have h0 : Mt B w b v sl k (padT []) _ := Mt.start h _
  obtain ⟨r, hr⟩ : ∃ r, r = triP sl k := ⟨_, rfl⟩
  have HR := Lib.hid hr
  have H0 := Lib.hid h0
  have HALL := Lib.hid hall
  have htb : ∀ W, w.grownBy W (some b) → W.heap[0]? = some (.cells escCells t fr) := fun W g => tab_grown h htab g
  have HTB := Lib.hid htb
  rw [← hr]
  clear h htab hr h0 hall htb
  go_enter Tryz.func61, Tryz.ntmps61
  go_wp2
  go_loopg [11] 3 (fun g s11 wr => TrI B w b v sl r g s11 wr)
  case atStart => exact ⟨0, k, [], rfl, rfl, rfl, hk, Lib.hid HR.out, (fun t ht => by cases ht), H0.out⟩
  case round =>
    clear H0
    obtain ⟨i, p, ts, hig, rfl, hts, hpl, HC, hkd, hM⟩ := hrel
    have hgp := gapP_le sl p hpl
    have cS : ∀ {W : World}, Mt B w b v sl p (padT ts) W → Calls Tryz.prog 85 #[.pointer (some ⟨b, 0, none⟩)] W fun e w' => e = .returned (.tuple #[]) ∧ Mt B w b v sl (gapP sl p) (padT ts) w' := fun {W} x => (nskip_any x.1.1 hpl (by omega)).mono fun _ _ ⟨a, y⟩ => ⟨a, x.to y⟩
    obtain ⟨q, hq⟩ : ∃ q, q = gapP sl p := ⟨_, rfl⟩
    rw [← hq] at cS hgp
    have cPl : ∀ {W : World}, Mt B w b v sl q (padT ts) W → Calls Tryz.prog 62 #[.pointer (some ⟨b, 0, none⟩)] W fun e w' => e = .returned (.int .i64 q) ∧ Mt B w b v sl q (padT ts) w' := fun {W} x => (place_any x.1.1).mono fun _ _ ⟨a, y⟩ => ⟨a, x.to ⟨y.sc x.1.1, same_grown y _⟩⟩
    cases gk with
    | zero =>
      have hi : i = 3 := by omega
      subst hi
      obtain ⟨t0, t1, t2, rfl⟩ : ∃ a b c, ts = [a, b, c] := by
        match ts, hts with
        | [a, b, c], _ => exact ⟨a, b, c, rfl⟩
      have hpad : padT [t0, t1, t2] = #[t0.val, t1.val, t2.val] := rfl
      rw [hpad] at cS cPl hM
      have hc := HC.out
      unfold triC at hc
      rw [← hq] at hc
      have cD : ∀ {W : World}, Mt B w b v sl q #[t0.val, t1.val, t2.val] W → Calls Tryz.prog 88 #[.pointer (some ⟨b, 0, none⟩), .string ⟨#[46]⟩] W fun e w' => e = .returned (.bool (decide (sl[q]? = some 46))) ∧ Mt B w b v sl (q + if sl[q]? = some 46 then 1 else 0) #[t0.val, t1.val, t2.val] w' := fun {W} x => (is_one x.1.1 hgp.1 (by omega) 46 _ p46 (by decide)).mono fun _ _ ⟨a, y⟩ => ⟨a, x.to y⟩
      obtain ⟨ty0, wv0, hv0⟩ := iface_of (hkd t0 (by simp))
      obtain ⟨ty1, wv1, hv1⟩ := iface_of (hkd t1 (by simp))
      obtain ⟨ty2, wv2, hv2⟩ := iface_of (hkd t2 (by simp))
      have HV0 := Lib.hid hv0
      have HV1 := Lib.hid hv1
      have HV2 := Lib.hid hv2
      rw [hv0, hv1, hv2] at cS cPl hM cD
      clear hv0 hv1 hv2 hpad hts hig hkd
      by_cases hd : sl[q]? = some 46
      · rw [if_pos hd] at hc
        rw [if_pos hd, decide_eq_true hd] at cD
        have HE := Lib.hid hc
        clear hc hd hq HC
        go_wp2_with (first
          | (go_at_call 85; (with_reducible refine (cS hM).mono ?_); rintro e w1 ⟨rfl, m1⟩; clear hM)
          | (go_at_call 88; (with_reducible refine (cD m1).mono ?_); rintro e w2 ⟨rfl, m2⟩; obtain ⟨x0, x1, x2, f0, f1, f2, hz⟩ := m2.res; obtain ⟨y0, y1, y2, _, _, _, hz2⟩ := m2.part))
        refine bodyPost_ret (v := .tuple #[.agg #[.iface ty0 wv0, .iface ty1 wv1, .iface ty2 wv2], .int .i64 0, .int .i64 0]) (by simp [results, Tryz.results61, go_sem, x0, x1, x2, hz]) rfl ?_
        rw [HE.out]
        refine ⟨?_, m2.store _ _ _⟩
        show _ = Ending.returned (.tuple #[.agg #[t0.val, t1.val, t2.val], .int .i64 0, .int .i64 0])
        rw [HV0.out, HV1.out, HV2.out]
      · rw [if_neg hd] at hc
        rw [if_neg hd, decide_eq_false hd, Nat.add_zero] at cD
        have HE := Lib.hid hc
        clear hc hd hq HC
        go_wp2_with (first
          | (go_at_call 85; (with_reducible refine (cS hM).mono ?_); rintro e w1 ⟨rfl, m1⟩; clear hM)
          | (go_at_call 88; (with_reducible refine (cD m1).mono ?_); rintro e w2 ⟨rfl, m2⟩)
          | (go_at_call 62; (with_reducible refine (cPl m2).mono ?_); rintro e w3 ⟨rfl, m3⟩; obtain ⟨x0, x1, x2, f0, f1, f2, hz⟩ := m3.res))
        refine bodyPost_ret (v := .tuple #[.agg #[.nilIface, .nilIface, .nilIface], .int .i64 q, .int .i64 1]) (by simp [results, Tryz.results61, go_sem, x0, x1, x2, hz]) rfl ?_
        rw [HE.out]
        exact ⟨rfl, _, m3.store _ _ _⟩
    | succ g =>
      obtain rfl | rfl | rfl : i = 0 ∨ i = 1 ∨ i = 2 := by omega
      · obtain rfl : ts = [] := List.length_eq_zero_iff.1 hts
        have hpad : padT [] = #[.nilIface, .nilIface, .nilIface] := rfl
        rw [hpad] at cS cPl hM
        clear hpad
        obtain rfl : g = 2 := by omega
        have hp := partP_le sl p 0 hpl HALL.out
        have hc := HC.out
        unfold triC at hc
        have hpp : partP sl p 0 = match (readP sl q).1 with
          | none => readP sl q
          | some t => if mayB t 0 = true then (some t, (readP sl q).2.1, 0) else (none, q, 3) := by rw [hq]; rfl
        have cR : ∀ {W : World}, Mt B w b v sl q #[.nilIface, .nilIface, .nilIface] W → Calls Tryz.prog 89 #[.pointer (some ⟨b, 0, none⟩)] W (RePost B W b v sl q (readP sl q)) := fun {W} x => nread_any x.1.1 hgp.1 hl HALL.out t fr (HTB.out _ x.1.2)
        unfold RePost at cR
        have HKD := Lib.hid hkd
        clear hkd
        cases ho : (readP sl q).1 with
        | none =>
          rw [ho] at cR hpp
          dsimp only at cR hpp
          have hcode : ¬ (readP sl q).2.2 = 0 := readP_code ho
          rw [hpp, ho] at hc
          dsimp only at hc
          obtain ⟨code, hcd⟩ : ∃ c, c = (readP sl q).2.2 := ⟨_, rfl⟩
          obtain ⟨pl, hpl2⟩ : ∃ c, c = (readP sl q).2.1 := ⟨_, rfl⟩
          rw [← hcd] at cR hc hcode
          rw [← hpl2] at cR hc
          have hcb : (code != 0) = true := by rw [bne_iff_ne]; exact hcode
          have HE := Lib.hid hc
          clear hc hpp ho hcd hpl2 hcode hp hq HC hts hig
          go_wp2_with (first
            | (go_at_call 85; (with_reducible refine (cS hM).mono ?_); rintro e w1 ⟨rfl, m1⟩; clear hM)
            | (go_at_call 62; (with_reducible refine (cPl m1).mono ?_); rintro e w2 ⟨rfl, m2⟩; clear m1)
            | (go_at_call 89; (with_reducible refine (cR m2).mono ?_); rintro e w3 ⟨rfl, m3⟩; have m3' := m2.to m3; obtain ⟨x0, x1, x2, f0, f1, f2, hz⟩ := m3'.res))
          (try rw [Exit.noGoto_ret])
          refine bodyPost_ret (v := .tuple #[.agg #[.nilIface, .nilIface, .nilIface], .int .i64 pl, .int .i64 code]) (by simp [results, Tryz.results61, go_sem, x0, x1, x2, hz]) rfl ?_
          rw [HE.out]
          exact ⟨rfl, _, m3'.store _ _ _⟩
        | some u =>
          rw [ho] at cR hpp
          dsimp only at cR hpp
          obtain ⟨pl, hpl2⟩ : ∃ c, c = (readP sl q).2.1 := ⟨_, rfl⟩
          rw [← hpl2] at cR hpp
          have cMy : ∀ {W : World}, Mt B w b v sl pl #[.nilIface, .nilIface, .nilIface] W → Calls Tryz.prog 52 #[u.val, .int .i64 0] W fun e w' => e = .returned (.bool (mayB u 0)) ∧ Mt B w b v sl pl #[.nilIface, .nilIface, .nilIface] w' := fun {W} x => (nmay_any u 0 W).mono fun _ _ ⟨a, y⟩ => ⟨a, x.to ⟨x.1.1.below3 y, below_grown y _⟩⟩
          have hk3 : u.kind < 3 := ((readP_le sl q hgp.1 HALL.out).2.2 u ho).1.2
          obtain ⟨ty, uw, huv⟩ := iface_of hk3
          rw [huv] at cR cMy
          have HUV := Lib.hid huv
          by_cases hm : mayB u 0 = true
          · rw [if_pos hm] at hpp
            rw [hm] at cMy
            rw [hpp] at hc hp
            dsimp only at hc hp
            have hfin : ∀ W, Mt B w b v sl pl #[.nilIface, .nilIface, .nilIface] W → TrI B w b v sl r 2 (.int .i64 ((0 : Int) + 1)) (W.setCell ⟨w.heap.size + 1, 0, none⟩ (.iface ty uw)) := fun W x => by
              refine ⟨0 + 1, pl, [] ++ [u], rfl, by first | rfl | go_num, rfl, hp.1, Lib.hid hc, fun t ht => ?_, ?_⟩
              · rcases List.mem_append.1 ht with ht | ht
                · exact HKD.out t ht
                · simp at ht; subst ht; exact hk3
              · have := x.put 0 (.iface ty uw)
                rw [← huv] at this ⊢
                exact this
            have HF := Lib.hid hfin
            clear hc hpp ho hpl2 hp hq HC hts hig hm huv hfin hk3
            go_wp2_with (first
              | (go_at_call 85; (with_reducible refine (cS hM).mono ?_); rintro e w1 ⟨rfl, m1⟩; clear hM)
              | (go_at_call 62; (with_reducible refine (cPl m1).mono ?_); rintro e w2 ⟨rfl, m2⟩; clear m1)
              | (go_at_call 89; (with_reducible refine (cR m2).mono ?_); rintro e w3 ⟨rfl, m3⟩; have m3' := m2.to m3; clear m2 m3)
              | (go_at_call 52; (with_reducible refine (cMy m3').mono ?_); rintro e w4 ⟨rfl, m4⟩; clear m3'; obtain ⟨y0, y1, y2, g0, g1, g2, hz2⟩ := m4.part))
            go_roundg 2
            case measure => exact Nat.lt_succ_self _
            case rel => exact HF.out _ m4
          · have hm' : mayB u 0 = false := by simpa using hm
            rw [if_neg hm] at hpp
            rw [hm'] at cMy
            rw [hpp] at hc
            dsimp only at hc
            have HE := Lib.hid hc
            clear hc hpp ho hpl2 hp hq HC hts hig hm hm' huv hk3
            go_wp2_with (first
              | (go_at_call 85; (with_reducible refine (cS hM).mono ?_); rintro e w1 ⟨rfl, m1⟩; clear hM)
              | (go_at_call 62; (with_reducible refine (cPl m1).mono ?_); rintro e w2 ⟨rfl, m2⟩; clear m1)
              | (go_at_call 89; (with_reducible refine (cR m2).mono ?_); rintro e w3 ⟨rfl, m3⟩; have m3' := m2.to m3; clear m2 m3)
              | (go_at_call 52; (with_reducible refine (cMy m3').mono ?_); rintro e w4 ⟨rfl, m4⟩; clear m3'; obtain ⟨x0, x1, x2, f0, f1, f2, hz⟩ := m4.res))
            (try rw [Exit.noGoto_ret])
            refine bodyPost_ret (v := .tuple #[.agg #[.nilIface, .nilIface, .nilIface], .int .i64 q, .int .i64 3]) (by simp [results, Tryz.results61, go_sem, x0, x1, x2, hz]) rfl ?_
            rw [HE.out]
            exact ⟨rfl, _, m4.store _ _ _⟩
      · obtain ⟨t0, rfl⟩ : ∃ t0 : Tm, ts = [t0] := by
          match ts, hts with
          | [t0], _ => exact ⟨t0, rfl⟩
        have hpad : padT [t0] = #[t0.val, .nilIface, .nilIface] := rfl
        rw [hpad] at cS cPl hM
        clear hpad
        obtain rfl : g = 1 := by omega
        have hp := partP_le sl p 1 hpl HALL.out
        have hc := HC.out
        unfold triC at hc
        have hpp : partP sl p 1 = match (readP sl q).1 with
          | none => readP sl q
          | some t => if mayB t 1 = true then (some t, (readP sl q).2.1, 0) else (none, q, 3) := by rw [hq]; rfl
        have cR : ∀ {W : World}, Mt B w b v sl q #[t0.val, .nilIface, .nilIface] W → Calls Tryz.prog 89 #[.pointer (some ⟨b, 0, none⟩)] W (RePost B W b v sl q (readP sl q)) := fun {W} x => nread_any x.1.1 hgp.1 hl HALL.out t fr (HTB.out _ x.1.2)
        unfold RePost at cR
        have HKD := Lib.hid hkd
        clear hkd
        cases ho : (readP sl q).1 with
        | none =>
          rw [ho] at cR hpp
          dsimp only at cR hpp
          have hcode : ¬ (readP sl q).2.2 = 0 := readP_code ho
          rw [hpp, ho] at hc
          dsimp only at hc
          obtain ⟨code, hcd⟩ : ∃ c, c = (readP sl q).2.2 := ⟨_, rfl⟩
          obtain ⟨pl, hpl2⟩ : ∃ c, c = (readP sl q).2.1 := ⟨_, rfl⟩
          rw [← hcd] at cR hc hcode
          rw [← hpl2] at cR hc
          have hcb : (code != 0) = true := by rw [bne_iff_ne]; exact hcode
          have HE := Lib.hid hc
          clear hc hpp ho hcd hpl2 hcode hp hq HC hts hig
          go_wp2_with (first
            | (go_at_call 85; (with_reducible refine (cS hM).mono ?_); rintro e w1 ⟨rfl, m1⟩; clear hM)
            | (go_at_call 62; (with_reducible refine (cPl m1).mono ?_); rintro e w2 ⟨rfl, m2⟩; clear m1)
            | (go_at_call 89; (with_reducible refine (cR m2).mono ?_); rintro e w3 ⟨rfl, m3⟩; have m3' := m2.to m3; obtain ⟨x0, x1, x2, f0, f1, f2, hz⟩ := m3'.res))
          (try rw [Exit.noGoto_ret])
          refine bodyPost_ret (v := .tuple #[.agg #[.nilIface, .nilIface, .nilIface], .int .i64 pl, .int .i64 code]) (by simp [results, Tryz.results61, go_sem, x0, x1, x2, hz]) rfl ?_
          rw [HE.out]
          exact ⟨rfl, _, m3'.store _ _ _⟩
        | some u =>
          rw [ho] at cR hpp
          dsimp only at cR hpp
          obtain ⟨pl, hpl2⟩ : ∃ c, c = (readP sl q).2.1 := ⟨_, rfl⟩
          rw [← hpl2] at cR hpp
          have cMy : ∀ {W : World}, Mt B w b v sl pl #[t0.val, .nilIface, .nilIface] W → Calls Tryz.prog 52 #[u.val, .int .i64 1] W fun e w' => e = .returned (.bool (mayB u 1)) ∧ Mt B w b v sl pl #[t0.val, .nilIface, .nilIface] w' := fun {W} x => (nmay_any u 1 W).mono fun _ _ ⟨a, y⟩ => ⟨a, x.to ⟨x.1.1.below3 y, below_grown y _⟩⟩
          have hk3 : u.kind < 3 := ((readP_le sl q hgp.1 HALL.out).2.2 u ho).1.2
          obtain ⟨ty, uw, huv⟩ := iface_of hk3
          rw [huv] at cR cMy
          have HUV := Lib.hid huv
          by_cases hm : mayB u 1 = true
          · rw [if_pos hm] at hpp
            rw [hm] at cMy
            rw [hpp] at hc hp
            dsimp only at hc hp
            have hfin : ∀ W, Mt B w b v sl pl #[t0.val, .nilIface, .nilIface] W → TrI B w b v sl r 1 (.int .i64 ((1 : Int) + 1)) (W.setCell ⟨w.heap.size + 1, 1, none⟩ (.iface ty uw)) := fun W x => by
              refine ⟨1 + 1, pl, [t0] ++ [u], rfl, by first | rfl | go_num, rfl, hp.1, Lib.hid hc, fun t ht => ?_, ?_⟩
              · rcases List.mem_append.1 ht with ht | ht
                · exact HKD.out t ht
                · simp at ht; subst ht; exact hk3
              · have := x.put 1 (.iface ty uw)
                rw [← huv] at this ⊢
                exact this
            have HF := Lib.hid hfin
            clear hc hpp ho hpl2 hp hq HC hts hig hm huv hfin hk3
            go_wp2_with (first
              | (go_at_call 85; (with_reducible refine (cS hM).mono ?_); rintro e w1 ⟨rfl, m1⟩; clear hM)
              | (go_at_call 62; (with_reducible refine (cPl m1).mono ?_); rintro e w2 ⟨rfl, m2⟩; clear m1)
              | (go_at_call 89; (with_reducible refine (cR m2).mono ?_); rintro e w3 ⟨rfl, m3⟩; have m3' := m2.to m3; clear m2 m3)
              | (go_at_call 52; (with_reducible refine (cMy m3').mono ?_); rintro e w4 ⟨rfl, m4⟩; clear m3'; obtain ⟨y0, y1, y2, g0, g1, g2, hz2⟩ := m4.part))
            go_roundg 1
            case measure => exact Nat.lt_succ_self _
            case rel => exact HF.out _ m4
          · have hm' : mayB u 1 = false := by simpa using hm
            rw [if_neg hm] at hpp
            rw [hm'] at cMy
            rw [hpp] at hc
            dsimp only at hc
            have HE := Lib.hid hc
            clear hc hpp ho hpl2 hp hq HC hts hig hm hm' huv hk3
            go_wp2_with (first
              | (go_at_call 85; (with_reducible refine (cS hM).mono ?_); rintro e w1 ⟨rfl, m1⟩; clear hM)
              | (go_at_call 62; (with_reducible refine (cPl m1).mono ?_); rintro e w2 ⟨rfl, m2⟩; clear m1)
              | (go_at_call 89; (with_reducible refine (cR m2).mono ?_); rintro e w3 ⟨rfl, m3⟩; have m3' := m2.to m3; clear m2 m3)
              | (go_at_call 52; (with_reducible refine (cMy m3').mono ?_); rintro e w4 ⟨rfl, m4⟩; clear m3'; obtain ⟨x0, x1, x2, f0, f1, f2, hz⟩ := m4.res))
            (try rw [Exit.noGoto_ret])
            refine bodyPost_ret (v := .tuple #[.agg #[.nilIface, .nilIface, .nilIface], .int .i64 q, .int .i64 3]) (by simp [results, Tryz.results61, go_sem, x0, x1, x2, hz]) rfl ?_
            rw [HE.out]
            exact ⟨rfl, _, m4.store _ _ _⟩
      · obtain ⟨t0, t1, rfl⟩ : ∃ t0 t1 : Tm, ts = [t0, t1] := by
          match ts, hts with
          | [t0, t1], _ => exact ⟨t0, t1, rfl⟩
        have hpad : padT [t0, t1] = #[t0.val, t1.val, .nilIface] := rfl
        rw [hpad] at cS cPl hM
        clear hpad
        obtain rfl : g = 0 := by omega
        have hp := partP_le sl p 2 hpl HALL.out
        have hc := HC.out
        unfold triC at hc
        have hpp : partP sl p 2 = match (readP sl q).1 with
          | none => readP sl q
          | some t => if mayB t 2 = true then (some t, (readP sl q).2.1, 0) else (none, q, 3) := by rw [hq]; rfl
        have cR : ∀ {W : World}, Mt B w b v sl q #[t0.val, t1.val, .nilIface] W → Calls Tryz.prog 89 #[.pointer (some ⟨b, 0, none⟩)] W (RePost B W b v sl q (readP sl q)) := fun {W} x => nread_any x.1.1 hgp.1 hl HALL.out t fr (HTB.out _ x.1.2)
        unfold RePost at cR
        have HKD := Lib.hid hkd
        clear hkd
        cases ho : (readP sl q).1 with
        | none =>
          rw [ho] at cR hpp
          dsimp only at cR hpp
          have hcode : ¬ (readP sl q).2.2 = 0 := readP_code ho
          rw [hpp, ho] at hc
          dsimp only at hc
          obtain ⟨code, hcd⟩ : ∃ c, c = (readP sl q).2.2 := ⟨_, rfl⟩
          obtain ⟨pl, hpl2⟩ : ∃ c, c = (readP sl q).2.1 := ⟨_, rfl⟩
          rw [← hcd] at cR hc hcode
          rw [← hpl2] at cR hc
          have hcb : (code != 0) = true := by rw [bne_iff_ne]; exact hcode
          have HE := Lib.hid hc
          clear hc hpp ho hcd hpl2 hcode hp hq HC hts hig
          go_wp2_with (first
            | (go_at_call 85; (with_reducible refine (cS hM).mono ?_); rintro e w1 ⟨rfl, m1⟩; clear hM)
            | (go_at_call 62; (with_reducible refine (cPl m1).mono ?_); rintro e w2 ⟨rfl, m2⟩; clear m1)
            | (go_at_call 89; (with_reducible refine (cR m2).mono ?_); rintro e w3 ⟨rfl, m3⟩; have m3' := m2.to m3; obtain ⟨x0, x1, x2, f0, f1, f2, hz⟩ := m3'.res))
          (try rw [Exit.noGoto_ret])
          refine bodyPost_ret (v := .tuple #[.agg #[.nilIface, .nilIface, .nilIface], .int .i64 pl, .int .i64 code]) (by simp [results, Tryz.results61, go_sem, x0, x1, x2, hz]) rfl ?_
          rw [HE.out]
          exact ⟨rfl, _, m3'.store _ _ _⟩
        | some u =>
          rw [ho] at cR hpp
          dsimp only at cR hpp
          obtain ⟨pl, hpl2⟩ : ∃ c, c = (readP sl q).2.1 := ⟨_, rfl⟩
          rw [← hpl2] at cR hpp
          have cMy : ∀ {W : World}, Mt B w b v sl pl #[t0.val, t1.val, .nilIface] W → Calls Tryz.prog 52 #[u.val, .int .i64 2] W fun e w' => e = .returned (.bool (mayB u 2)) ∧ Mt B w b v sl pl #[t0.val, t1.val, .nilIface] w' := fun {W} x => (nmay_any u 2 W).mono fun _ _ ⟨a, y⟩ => ⟨a, x.to ⟨x.1.1.below3 y, below_grown y _⟩⟩
          have hk3 : u.kind < 3 := ((readP_le sl q hgp.1 HALL.out).2.2 u ho).1.2
          obtain ⟨ty, uw, huv⟩ := iface_of hk3
          rw [huv] at cR cMy
          have HUV := Lib.hid huv
          by_cases hm : mayB u 2 = true
          · rw [if_pos hm] at hpp
            rw [hm] at cMy
            rw [hpp] at hc hp
            dsimp only at hc hp
            have hfin : ∀ W, Mt B w b v sl pl #[t0.val, t1.val, .nilIface] W → TrI B w b v sl r 0 (.int .i64 ((2 : Int) + 1)) (W.setCell ⟨w.heap.size + 1, 2, none⟩ (.iface ty uw)) := fun W x => by
              refine ⟨2 + 1, pl, [t0, t1] ++ [u], rfl, by first | rfl | go_num, rfl, hp.1, Lib.hid hc, fun t ht => ?_, ?_⟩
              · rcases List.mem_append.1 ht with ht | ht
                · exact HKD.out t ht
                · simp at ht; subst ht; exact hk3
              · have := x.put 2 (.iface ty uw)
                rw [← huv] at this ⊢
                exact this
            have HF := Lib.hid hfin
            clear hc hpp ho hpl2 hp hq HC hts hig hm huv hfin hk3
            go_wp2_with (first
              | (go_at_call 85; (with_reducible refine (cS hM).mono ?_); rintro e w1 ⟨rfl, m1⟩; clear hM)
              | (go_at_call 62; (with_reducible refine (cPl m1).mono ?_); rintro e w2 ⟨rfl, m2⟩; clear m1)
              | (go_at_call 89; (with_reducible refine (cR m2).mono ?_); rintro e w3 ⟨rfl, m3⟩; have m3' := m2.to m3; clear m2 m3)
              | (go_at_call 52; (with_reducible refine (cMy m3').mono ?_); rintro e w4 ⟨rfl, m4⟩; clear m3'; obtain ⟨y0, y1, y2, g0, g1, g2, hz2⟩ := m4.part))
            go_roundg 0
            case measure => exact Nat.lt_succ_self _
            case rel => exact HF.out _ m4
          · have hm' : mayB u 2 = false := by simpa using hm
            rw [if_neg hm] at hpp
            rw [hm'] at cMy
            rw [hpp] at hc
            dsimp only at hc
            have HE := Lib.hid hc
            clear hc hpp ho hpl2 hp hq HC hts hig hm hm' huv hk3
            go_wp2_with (first
              | (go_at_call 85; (with_reducible refine (cS hM).mono ?_); rintro e w1 ⟨rfl, m1⟩; clear hM)
              | (go_at_call 62; (with_reducible refine (cPl m1).mono ?_); rintro e w2 ⟨rfl, m2⟩; clear m1)
              | (go_at_call 89; (with_reducible refine (cR m2).mono ?_); rintro e w3 ⟨rfl, m3⟩; have m3' := m2.to m3; clear m2 m3)
              | (go_at_call 52; (with_reducible refine (cMy m3').mono ?_); rintro e w4 ⟨rfl, m4⟩; clear m3'; obtain ⟨x0, x1, x2, f0, f1, f2, hz⟩ := m4.res))
            (try rw [Exit.noGoto_ret])
            refine bodyPost_ret (v := .tuple #[.agg #[.nilIface, .nilIface, .nilIface], .int .i64 q, .int .i64 3]) (by simp [results, Tryz.results61, go_sem, x0, x1, x2, hz]) rfl ?_
            rw [HE.out]
            exact ⟨rfl, _, m4.store _ _ _⟩
end Go.Proofs.YtjalhcbomjgkoaaGreatDoor

/-
  LINES OF TRIPLES: plain; a slice of triples; the world in which they are parsed.
-/
namespace Go.Proofs.YtjalhcbomjgkoaaGreatDoor
open Go.RowKit
set_option linter.unusedVariables false

/-- From place k on, acc being read; at most g signs are to come. -/
noncomputable def prsC (sl : List Int) : Nat → Nat → List (List Tm) → List (List Tm) × Nat × Int
  | 0, _, acc => (acc, 0, 0)
  | g + 1, k, acc =>
    if k = sl.length then (acc, 0, 0)
    else if (overP sl k).2 = true then prsC sl g (overP sl k).1 acc
    else match (triP sl (overP sl k).1).1 with
      | none => ([], (triP sl (overP sl k).1).2.1, (triP sl (overP sl k).1).2.2)
      | some ts => if (overP sl (triP sl (overP sl k).1).2.1).2 = true then prsC sl g (overP sl (triP sl (overP sl k).1).2.1).1 (acc ++ [ts]) else ([], (overP sl (triP sl (overP sl k).1).2.1).1, 1)
/-- Of any bytes, their signs and what is none's behind them. -/
noncomputable def prsB (sl : List Int) (rest : List UInt8) : List (List Tm) × Nat × Int := if rest = [] then prsC sl sl.length 0 [] else ([], sl.length, 1)
/-- Triples that are ones. -/
def Trs (N : Nat) (l : List (List Tm)) : Prop := ∀ ts ∈ l, ts.length = 3 ∧ Tri N ts
theorem trs_snoc {N : Nat} {l : List (List Tm)} {ts : List Tm} (h : Trs N l) (h1 : ts.length = 3) (h2 : Tri N ts) : Trs N (l ++ [ts]) := fun x hx => by
  rcases List.mem_append.1 hx with hx | hx
  · exact h x hx
  · simp at hx; subst hx; exact ⟨h1, h2⟩
theorem trs_nil (N : Nat) : Trs N [] := fun x hx => by cases hx
theorem prsC_trs (sl : List Int) (hs : AllS sl) : ∀ (g k : Nat) (acc : List (List Tm)), k ≤ sl.length → Trs sl.length acc → Trs sl.length (prsC sl g k acc).1 ∧ (prsC sl g k acc).1.length ≤ acc.length + g
  | 0, k, acc, h, ha => ⟨ha, Nat.le_refl _⟩
  | g + 1, k, acc, h, ha => by
    have ho := overP_le sl k h
    have ht := triP_le sl hs (overP sl k).1 ho.1
    unfold prsC
    split
    · exact ⟨ha, by dsimp only; omega⟩
    split
    · have := prsC_trs sl hs g (overP sl k).1 acc ho.1 ha
      exact ⟨this.1, by omega⟩
    · cases hu : (triP sl (overP sl k).1).1 with
      | none => exact ⟨trs_nil _, Nat.zero_le _⟩
      | some ts =>
        obtain ⟨a, b, c⟩ := ht.2.2 ts hu
        have ho2 := overP_le sl _ ht.1
        dsimp only
        split
        · have := prsC_trs sl hs g _ (acc ++ [ts]) ho2.1 (trs_snoc ha a b)
          exact ⟨this.1, by have := this.2; simp at this; omega⟩
        · exact ⟨trs_nil _, Nat.zero_le _⟩
/-! ### Slices of triples -/
def cellsT (l : List (List Tm)) : List Value := l.flatMap fun ts => ts.map Tm.val
theorem cellsT_snoc (l : List (List Tm)) (ts : List Tm) : cellsT (l ++ [ts]) = cellsT l ++ ts.map Tm.val := by simp [cellsT]
def TrsV (B : Nat) (W : World) (v : Value) (l : List (List Tm)) : Prop := W.ownsRow B 59 3 v l.length (cellsT l)
theorem trsV_nil (B : Nat) (W : World) : TrsV B W (.slice none 0 0) [] := World.ownsRow_nil _ _ _ _
theorem TrsV.shape {B : Nat} {W : World} {v : Value} {l : List (List Tm)} (h : TrsV B W v l) : ∃ A c, v = .slice A l.length c := by
  rcases id h.2 with ⟨hv, hl⟩ | ⟨g, cap, cur, hv, _⟩
  · exact ⟨none, 0, by rw [hv, hl]⟩
  · exact ⟨_, cap, hv⟩
theorem TrsV.ne {B B' : Nat} {W : World} {v v' : Value} {l : List (List Tm)} {sl : List Int} {b k : Nat} (h : TrsV B W v l) (hs : Sc B' W b v' sl k) : v.ownBlock ≠ some b := by
  intro e
  rcases id h.2 with ⟨hv, _⟩ | ⟨g, cap, cur, hv, _, hg, _⟩
  · rw [hv] at e; cases e
  · rw [hv] at e
    simp [Value.ownBlock] at e
    subst e
    rw [hs.blk] at hg
    cases hg
theorem TrsV.apart {B B' : Nat} {W : World} {v v' : Value} {l : List (List Tm)} {sl : List Int} {b k : Nat} (h : TrsV B W v l) (hs : Sc B' W b v' sl k) : v'.ownBlock = none ∨ v'.ownBlock ≠ v.ownBlock := by
  rcases hs.row.2 with ⟨hv', _⟩ | ⟨g', cap', cur', hv', _, hg', _⟩
  · left; rw [hv']; rfl
  · right
    intro e
    rcases id h.2 with ⟨hv, _⟩ | ⟨g, cap, cur, hv, _, hg, _⟩
    · rw [hv, hv'] at e; cases e
    · rw [hv, hv'] at e
      simp [Value.ownBlock] at e
      subst e
      rw [hg'] at hg
      cases hg
theorem TrsV.below {B : Nat} {w w' : World} {v : Value} {l : List (List Tm)} (h : TrsV B w v l) (hb : Below w.heap.size w w') : TrsV B w' v l := by
  refine ⟨h.1, ?_⟩
  rcases id h.2 with x | ⟨g, cap, cur, hv, hg, hh, rest⟩
  · exact .inl x
  · exact .inr ⟨g, cap, cur, hv, hg, (hb.block g (Array.getElem?_eq_some_iff.1 hh).1).trans hh, rest⟩
/-- While lines are parsed. -/
def Ps (w : World) (b : Nat) (v : Value) (sl : List Int) (k : Nat) (vL : Value) (acc : List (List Tm)) (W : World) : Prop := Sc w.heap.size W b v sl k ∧ TrsV w.heap.size W vL acc ∧ Below w.heap.size w W
section
variable {w : World} {b : Nat} {v : Value} {sl : List Int} {k : Nat} {vL : Value} {acc : List (List Tm)}
theorem Ps.moves {k' : Nat} {W W' : World} (h : Ps w b v sl k vL acc W) (m : Moves w.heap.size W b v sl k' W') : Ps w b v sl k' vL acc W' :=
  ⟨m.1, World.ownsRow.kept h.2.1 m.2 (Or.inr (h.2.1.ne h.1)), h.2.2.grown m.2 h.2.2.size (fun j hj => by cases hj; exact h.1.ge)⟩
theorem Ps.below {W W' : World} (h : Ps w b v sl k vL acc W) (hb : Below W.heap.size W W') : Ps w b v sl k vL acc W' := ⟨h.1.below3 hb, h.2.1.below hb, h.2.2.trans (hb.mono h.2.2.size)⟩
theorem Ps.alloc {W : World} (h : Ps w b v sl k vL acc W) (o : Obj) : Ps w b v sl k vL acc (W.alloc o) := h.below ((Below.refl _ _).alloc (Nat.le_refl _) o)
theorem Ps.app {W w5 : World} {v' : Value} {ts : List Tm} {n : Nat} {news : List Value} (h : Ps w b v sl k vL acc W) (hn : n = acc.length + 1) (hw : news = ts.map Tm.val) (hown : w5.ownsRow w.heap.size 59 3 v' n (cellsT acc ++ news)) (hg : W.grownBy w5 vL.ownBlock) : Ps w b v sl k v' (acc ++ [ts]) w5 := by
  subst hn hw
  refine ⟨⟨(hg.block b (Array.getElem?_eq_some_iff.1 h.1.blk).1 (fun e => h.2.1.ne h.1 e.symm)).trans h.1.blk, h.1.row.kept hg (h.2.1.apart h.1), h.1.ge⟩, ?_, h.2.2.grown hg h.2.2.size (fun j hj => (World.ownsRow.lt h.2.1 j hj).1)⟩
  unfold TrsV
  rw [cellsT_snoc, List.length_append]
  exact hown
theorem ps_end (hk : k ≤ sl.length) (hl : sl.length ≤ 4294967296) {W : World} (h : Ps w b v sl k vL acc W) : Calls Tryz.prog 59 #[.pointer (some ⟨b, 0, none⟩)] W fun e w' => e = .returned (.bool (decide (k = sl.length))) ∧ Ps w b v sl k vL acc w' :=
  (mv_end hk hl (Moves.start h.1)).mono fun _ _ ⟨x, y⟩ => ⟨x, h.moves y⟩
theorem ps_over (hk : k ≤ sl.length) (hl : sl.length ≤ 4294967296) {W : World} (h : Ps w b v sl k vL acc W) : Calls Tryz.prog 60 #[.pointer (some ⟨b, 0, none⟩)] W fun e w' => e = .returned (.bool (overP sl k).2) ∧ Ps w b v sl (overP sl k).1 vL acc w' :=
  (nend_any h.1 hk hl).mono fun _ _ ⟨x, y⟩ => ⟨x, h.moves y⟩
theorem ps_place {W : World} (h : Ps w b v sl k vL acc W) : Calls Tryz.prog 62 #[.pointer (some ⟨b, 0, none⟩)] W fun e w' => e = .returned (.int .i64 k) ∧ Ps w b v sl k vL acc w' :=
  (place_any h.1).mono fun _ _ ⟨x, y⟩ => ⟨x, h.moves ⟨y.sc h.1, same_grown y _⟩⟩
theorem ps_triple (hk : k ≤ sl.length) (hl : sl.length ≤ 100000) (hall : AllS sl) (t : TypeId) (fr : Nat × Nat) (htab : w.heap[0]? = some (.cells escCells t fr)) {W : World} (h : Ps w b v sl k vL acc W) :
    Calls Tryz.prog 61 #[.pointer (some ⟨b, 0, none⟩)] W fun e w' => match (triP sl k).1 with
      | some ts => e = .returned (.tuple #[.agg (ts.map Tm.val).toArray, .int .i64 0, .int .i64 0]) ∧ Ps w b v sl (triP sl k).2.1 vL acc w'
      | none => e = .returned (.tuple #[.agg #[.nilIface, .nilIface, .nilIface], .int .i64 (triP sl k).2.1, .int .i64 (triP sl k).2.2]) ∧ ∃ j, Ps w b v sl j vL acc w' := by
  have h0 : W.heap[0]? = some (.cells escCells t fr) := (h.2.2.block 0 (Array.getElem?_eq_some_iff.1 htab).1).trans htab
  refine (ntriple_any h.1 hk hl hall t fr h0).mono fun e w' hp => ?_
  unfold TrPost at hp
  cases ho : (triP sl k).1 with
  | none => rw [ho] at hp; exact ⟨hp.1, by obtain ⟨j, hj⟩ := hp.2; exact ⟨j, h.moves hj⟩⟩
  | some ts => rw [ho] at hp; exact ⟨hp.1, h.moves hp.2⟩
end
theorem triP_code {sl : List Int} (hs : AllS sl) {k : Nat} (hk : k ≤ sl.length) (h : (triP sl k).1 = none) : ¬ (triP sl k).2.2 = 0 := by
  have key : ∀ (g part p : Nat) (ts : List Tm), (triC sl g part p ts).1 = none → ¬ (triC sl g part p ts).2.2 = 0 := by
    intro g
    induction g with
    | zero =>
      intro part p ts h
      unfold triC at *
      split
      · rename_i hx; rw [if_pos hx] at h; cases h
      · exact (by decide : ¬ (1 : Int) = 0)
    | succ g ih =>
      intro part p ts h
      unfold triC at h ⊢
      cases ho : (partP sl p part).1 with
      | none =>
        dsimp only
        unfold partP at ho ⊢
        cases hr : (readP sl (gapP sl p)).1 with
        | none => exact readP_code hr
        | some t =>
          rw [hr] at ho
          dsimp only at ho ⊢
          by_cases hm : mayB t part = true
          · rw [if_pos hm] at ho; cases ho
          · rw [if_neg hm]; exact (by decide : ¬ (3 : Int) = 0)
      | some t =>
        rw [ho] at h
        dsimp only at h ⊢
        exact ih _ _ _ h
  exact key 3 0 k [] h
theorem tripInfo : (Tryz.prog.info? 59).map (fun i => (i.zero, i.size, i.bytes)) = some (some (.agg #[.nilIface, .nilIface, .nilIface]), 3, 48) := by kernel_rfl
end Go.Proofs.YtjalhcbomjgkoaaGreatDoor

/-
  'Parse' (package nt), whatever the bytes.
-/
namespace Go.Proofs.YtjalhcbomjgkoaaGreatDoor
open Go.RowKit
set_option linter.unusedVariables false
set_option linter.unusedSimpArgs false

def PaPost (w : World) (r : List (List Tm) × Nat × Int) (e : Ending) (w' : World) : Prop :=
  ∃ v, e = .returned (.tuple #[v, .int .i64 r.2.1, .int .i64 r.2.2]) ∧ TrsV w.heap.size w' v r.1 ∧ Below w.heap.size w w'
def PaI (w : World) (b : Nat) (v : Value) (sl : List Int) (r : List (List Tm) × Nat × Int) (g : Nat) (s8 : Value) (wr : World) : Prop :=
  ∃ (k : Nat) (acc : List (List Tm)) (A : Option Addr) (c : Nat), Hid (r = prsC sl g k acc) ∧ k ≤ sl.length ∧ sl.length - k ≤ g ∧ acc.length + g ≤ 100000 ∧ s8 = .slice A acc.length c ∧ Ps w b v sl k (.slice A acc.length c) acc wr
theorem tri3 {N : Nat} {ts : List Tm} (h3 : ts.length = 3) (h : Tri N ts) : ∃ ty0 x0 ty1 x1 ty2 x2, ts.map Tm.val = [.iface ty0 x0, .iface ty1 x1, .iface ty2 x2] := by
  match ts, h3 with
  | [a, b, c], _ =>
    obtain ⟨ty0, x0, e0⟩ := iface_of (h 0 a rfl).1.2
    obtain ⟨ty1, x1, e1⟩ := iface_of (h 1 b rfl).1.2
    obtain ⟨ty2, x2, e2⟩ := iface_of (h 2 c rfl).1.2
    exact ⟨ty0, x0, ty1, x1, ty2, x2, by simp [e0, e1, e2]⟩
set_option maxHeartbeats 16000000 in
set_option maxRecDepth 100000 in
theorem nparse_good (s : ByteArray) (sl : List Int) (hp : Parts s.data.toList sl []) (hs : s.size ≤ 100000) (w : World) (t : TypeId) (fr : Nat × Nat) (htab : w.heap[0]? = some (.cells escCells t fr)) :
    Calls Tryz.prog 33 #[.string s] w (PaPost w (prsC sl sl.length 0 [])) := by
  have hlen : sl.length ≤ 100000 := by
    have h1 := (encL_len sl).1
    have h2 := len_of s _ hp.eq
    simp at h2
    omega
  have cN := new_good s sl hp (by omega) w
  have hall := hp.all
  obtain ⟨i0, hi, hz0, hz1, hz2⟩ := info_parts tripInfo
  obtain ⟨r, hr⟩ : ∃ r, r = prsC sl sl.length 0 [] := ⟨_, rfl⟩
  have HR := Lib.hid hr
  have HALL := Lib.hid hall
  have HTB := Lib.hid htab
  rw [← hr]
  clear hr hall htab hp hs
  go_enter Tryz.func33, Tryz.ntmps33
  go_wp2_with (go_at_call 58; (with_reducible refine cN.mono ?_); rintro e w1 ⟨b, v, rfl, hsc, hb1⟩)
  have h0 : Ps w b v sl 0 (.slice none 0 0) [] w1 := ⟨hsc, trsV_nil _ _, hb1⟩
  have H0 := Lib.hid h0
  clear hsc hb1 h0 cN
  go_loopg [8] sl.length (fun g s8 wr => PaI w b v sl r g s8 wr)
  case atStart => exact ⟨0, [], none, 0, Lib.hid HR.out, Nat.zero_le _, by omega, by simp; omega, rfl, H0.out⟩
  case round =>
    clear H0
    obtain ⟨k, acc, A, c, HC, hk, hkg, hag, rfl, hP⟩ := hrel
    have cE : ∀ {W : World}, Ps w b v sl k (.slice A acc.length c) acc W → Calls Tryz.prog 59 #[.pointer (some ⟨b, 0, none⟩)] W _ := fun {W} x => ps_end hk (by omega) x
    by_cases hke : k = sl.length
    · have hrr : r = (acc, 0, 0) := by
        rw [HC.out]
        cases gk with
        | zero => rfl
        | succ g => unfold prsC; rw [if_pos hke]
      rw [decide_eq_true hke] at cE
      have HE := Lib.hid hrr
      clear hrr hke HC
      go_wp2_with (go_at_call 59; (with_reducible refine (cE hP).mono ?_); rintro e w2 ⟨rfl, h2⟩)
      (try rw [Exit.noGoto_ret])
      go_ret3
      rw [HE.out]
      exact ⟨_, rfl, h2.2.1, h2.2.2⟩
    · rw [decide_eq_false hke] at cE
      obtain ⟨g, rfl⟩ : ∃ g, gk = g + 1 := ⟨gk - 1, by omega⟩
      have cO : ∀ {W : World}, Ps w b v sl k (.slice A acc.length c) acc W → Calls Tryz.prog 60 #[.pointer (some ⟨b, 0, none⟩)] W _ := fun {W} x => ps_over hk (by omega) x
      have ho := overP_le sl k hk
      have hc := HC.out
      unfold prsC at hc
      rw [if_neg hke] at hc
      obtain ⟨q, hq⟩ : ∃ q, q = (overP sl k).1 := ⟨_, rfl⟩
      rw [← hq] at cO ho hc
      by_cases he : (overP sl k).2 = true
      · rw [if_pos he] at hc
        rw [he] at cO
        have hkq := ho.2.2 he (by omega)
        have hfin : ∀ W, Ps w b v sl q (.slice A acc.length c) acc W → PaI w b v sl r g (.slice A acc.length c) W := fun W x => ⟨q, acc, A, c, Lib.hid hc, ho.1, by omega, by omega, rfl, x⟩
        have HF := Lib.hid hfin
        clear hfin hc he hke HC hkq hq ho
        go_wp2_with (first
          | (go_at_call 59; (with_reducible refine (cE hP).mono ?_); rintro e w2 ⟨rfl, h2⟩; clear hP)
          | (go_at_call 60; (with_reducible refine (cO h2).mono ?_); rintro e w3 ⟨rfl, h3⟩; clear h2))
        go_roundg g
        case measure => exact Nat.lt_succ_self g
        case rel => exact HF.out _ h3
      · have he' : (overP sl k).2 = false := by simpa using he
        rw [if_neg he] at hc
        rw [he'] at cO
        have cT : ∀ {W : World}, Ps w b v sl q (.slice A acc.length c) acc W → Calls Tryz.prog 61 #[.pointer (some ⟨b, 0, none⟩)] W _ := fun {W} x => ps_triple ho.1 hlen HALL.out t fr HTB.out x
        have ht := triP_le sl HALL.out q ho.1
        obtain ⟨p, hp⟩ : ∃ p, p = (triP sl q).2.1 := ⟨_, rfl⟩
        rw [← hp] at cT hc ht
        cases hu : (triP sl q).1 with
        | none =>
          have hcode := triP_code HALL.out ho.1 hu
          rw [hu] at cT hc
          dsimp only at cT hc
          obtain ⟨code, hcd⟩ : ∃ c, c = (triP sl q).2.2 := ⟨_, rfl⟩
          rw [← hcd] at cT hc hcode
          have hcb : (code != 0) = true := by rw [bne_iff_ne]; exact hcode
          have HE := Lib.hid hc
          clear hc he he' hke HC hq ho ht hu hp hcd hcode
          go_wp2_with (first
            | (go_at_call 59; (with_reducible refine (cE hP).mono ?_); rintro e w2 ⟨rfl, h2⟩; clear hP)
            | (go_at_call 60; (with_reducible refine (cO h2).mono ?_); rintro e w3 ⟨rfl, h3⟩; clear h2)
            | (go_at_call 61; (with_reducible refine (cT h3).mono ?_); rintro e w4 ⟨rfl, j, h4⟩; clear h3))
          (try rw [Exit.noGoto_ret])
          go_ret3
          rw [HE.out]
          exact ⟨_, rfl, trsV_nil _ _, (h4.alloc _).2.2⟩
        | some ts =>
          obtain ⟨h3s, htri, hqp⟩ := ht.2.2 ts hu
          obtain ⟨ty0, x0, ty1, x1, ty2, x2, hts⟩ := tri3 h3s htri
          rw [hu] at cT hc
          dsimp only at cT hc
          rw [hts] at cT
          have ho2 := overP_le sl p ht.1
          have HTS := Lib.hid hts
          have hag2 : acc.length + 1 ≤ 100000 := by omega
          obtain ⟨q2, hq2⟩ : ∃ q, q = (overP sl p).1 := ⟨_, rfl⟩
          rw [← hq2] at hc ho2
          have hpl := ht.1
          have cO2 : ∀ {v' : Value} {W : World}, Ps w b v sl p v' (acc ++ [ts]) W → Calls Tryz.prog 60 #[.pointer (some ⟨b, 0, none⟩)] W fun e w' => e = .returned (.bool (overP sl p).2) ∧ Ps w b v sl q2 v' (acc ++ [ts]) w' := fun {v'} {W} x => by rw [hq2]; exact ps_over hpl (by omega) x
          have cPl : ∀ {v' : Value} {W : World}, Ps w b v sl q2 v' (acc ++ [ts]) W → Calls Tryz.prog 62 #[.pointer (some ⟨b, 0, none⟩)] W _ := fun {v'} {W} x => ps_place x
          by_cases he2 : (overP sl p).2 = true
          · rw [if_pos he2] at hc
            rw [he2] at cO2
            have hfin : ∀ A' c' W, Ps w b v sl q2 (.slice A' (acc.length + 1) c') (acc ++ [ts]) W → PaI w b v sl r g (.slice A' (acc.length + 1) c') W := fun A' c' W x => ⟨q2, acc ++ [ts], A', c', Lib.hid hc, ho2.1, by omega, by simp; omega, by rw [List.length_append]; rfl, by rw [List.length_append]; exact x⟩
            have HF := Lib.hid hfin
            clear hfin hc he he' he2 hke HC hq ho ht hu hp hq2 ho2 hts h3s htri hqp hpl hkg hag
            go_wp2_with (first
              | (go_at_call 59; (with_reducible refine (cE hP).mono ?_); rintro e w2 ⟨rfl, h2⟩; clear hP)
              | (go_at_call 60; (with_reducible refine (cO h2).mono ?_); rintro e w3 ⟨rfl, h3⟩; clear h2)
              | (go_at_call 61; (with_reducible refine (cT h3).mono ?_); rintro e w4 ⟨rfl, h4⟩; clear h3)
              | (at_builtin; refine wpList_append_own _ rfl _ _ 55 rfl w.heap.size 59 i0 (.agg #[.nilIface, .nilIface, .nilIface]) 3 48 Tryz.underlying55 hi hz0 hz1 hz2 rfl (by decide) _ _ _ rfl (((h4.alloc _).alloc _).2.1) ⟨w4.heap.size + 1, 0, none⟩ 1 1 [.iface ty0 x0, .iface ty1 x1, .iface ty2 x2] rfl rfl ?c1 ?c2 ?c3 ?c4 ?c5 ?_))
            case c1 =>
              intro j u hj
              match j, hj with
              | 0, hj => simp at hj; subst hj; simp [Addr.add]
              | 1, hj => simp at hj; subst hj; simp [Addr.add]
              | 2, hj => simp at hj; subst hj; simp [Addr.add]
            case c2 => intro u hu; simp at hu; rcases hu with rfl | rfl | rfl <;> rfl
            case c3 => unfold maxLen; omega
            case c4 => omega
            case c5 => have := ((h4.alloc (.cells #[.iface ty0 x0, .iface ty1 x1, .iface ty2 x2] 59)).alloc (.cells #[.iface ty0 x0, .iface ty1 x1, .iface ty2 x2] 59)).2.2.size; simpa using this
            intro v' w5 hown hgrow _
            have h5 := ((h4.alloc (.cells #[.iface ty0 x0, .iface ty1 x1, .iface ty2 x2] 59)).alloc (.cells #[.iface ty0 x0, .iface ty1 x1, .iface ty2 x2] 59)).app (v' := v') (ts := ts) rfl HTS.out.symm hown hgrow
            obtain ⟨A', c', rfl⟩ : ∃ A' c', v' = .slice A' (acc.length + 1) c' := by
              obtain ⟨A', c', e⟩ := h5.2.1.shape
              exact ⟨A', c', by rw [e, List.length_append]; rfl⟩
            clear hown hgrow h4
            go_wp2_with (go_at_call 60; (with_reducible refine (cO2 h5).mono ?_); rintro e w6 ⟨rfl, h6⟩; clear h5)
            go_roundg g
            case measure => exact Nat.lt_succ_self g
            case rel => exact HF.out _ _ _ h6
          · have he2' : (overP sl p).2 = false := by simpa using he2
            rw [if_neg he2] at hc
            rw [he2'] at cO2
            have HE := Lib.hid hc
            clear hc he he' he2 he2' hke HC hq ho ht hu hp hq2 ho2 hts h3s htri hqp hpl hkg hag
            go_wp2_with (first
              | (go_at_call 59; (with_reducible refine (cE hP).mono ?_); rintro e w2 ⟨rfl, h2⟩; clear hP)
              | (go_at_call 60; (with_reducible refine (cO h2).mono ?_); rintro e w3 ⟨rfl, h3⟩; clear h2)
              | (go_at_call 61; (with_reducible refine (cT h3).mono ?_); rintro e w4 ⟨rfl, h4⟩; clear h3)
              | (at_builtin; refine wpList_append_own _ rfl _ _ 55 rfl w.heap.size 59 i0 (.agg #[.nilIface, .nilIface, .nilIface]) 3 48 Tryz.underlying55 hi hz0 hz1 hz2 rfl (by decide) _ _ _ rfl (((h4.alloc _).alloc _).2.1) ⟨w4.heap.size + 1, 0, none⟩ 1 1 [.iface ty0 x0, .iface ty1 x1, .iface ty2 x2] rfl rfl ?d1 ?d2 ?d3 ?d4 ?d5 ?_))
            case d1 =>
              intro j u hj
              match j, hj with
              | 0, hj => simp at hj; subst hj; simp [Addr.add]
              | 1, hj => simp at hj; subst hj; simp [Addr.add]
              | 2, hj => simp at hj; subst hj; simp [Addr.add]
            case d2 => intro u hu; simp at hu; rcases hu with rfl | rfl | rfl <;> rfl
            case d3 => unfold maxLen; omega
            case d4 => omega
            case d5 => have := ((h4.alloc (.cells #[.iface ty0 x0, .iface ty1 x1, .iface ty2 x2] 59)).alloc (.cells #[.iface ty0 x0, .iface ty1 x1, .iface ty2 x2] 59)).2.2.size; simpa using this
            intro v' w5 hown hgrow _
            have h5 := ((h4.alloc (.cells #[.iface ty0 x0, .iface ty1 x1, .iface ty2 x2] 59)).alloc (.cells #[.iface ty0 x0, .iface ty1 x1, .iface ty2 x2] 59)).app (v' := v') (ts := ts) rfl HTS.out.symm hown hgrow
            obtain ⟨A', c', rfl⟩ : ∃ A' c', v' = .slice A' (acc.length + 1) c' := by
              obtain ⟨A', c', e⟩ := h5.2.1.shape
              exact ⟨A', c', by rw [e, List.length_append]; rfl⟩
            clear hown hgrow h4
            go_wp2_with (first
              | (go_at_call 60; (with_reducible refine (cO2 h5).mono ?_); rintro e w6 ⟨rfl, h6⟩; clear h5)
              | (go_at_call 62; (with_reducible refine (cPl h6).mono ?_); rintro e w7 ⟨rfl, h7⟩; clear h6))
            (try rw [Exit.noGoto_ret])
            go_ret3
            rw [HE.out]
            exact ⟨_, rfl, trsV_nil _ _, h7.2.2⟩
theorem nparse_any (s : ByteArray) (sl : List Int) (rest : List UInt8) (hp : Parts s.data.toList sl rest) (hs : s.size ≤ 100000) (w : World) (t : TypeId) (fr : Nat × Nat) (htab : w.heap[0]? = some (.cells escCells t fr)) :
    Calls Tryz.prog 33 #[.string s] w (PaPost w (prsB sl rest)) := by
  unfold prsB
  by_cases hr : rest = []
  · rw [if_pos hr]
    subst hr
    exact nparse_good s sl hp hs w t fr htab
  · rw [if_neg hr]
    have cN := new_bad s sl rest hp hr (by omega) w
    obtain ⟨n, hn⟩ : ∃ n, n = sl.length := ⟨_, rfl⟩
    rw [← hn] at cN ⊢
    clear hp hs htab hr hn
    go_enter Tryz.func33, Tryz.ntmps33
    go_wp2_with (go_at_call 58; (with_reducible refine cN.mono ?_); rintro e w1 ⟨rfl, hb1⟩)
    go_ret3
    exact ⟨_, rfl, trsV_nil _ _, hb1⟩
end Go.Proofs.YtjalhcbomjgkoaaGreatDoor
