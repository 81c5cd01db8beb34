/-
  MERGED (a claim has at most 60 files): EIs, TOrd.
-/
import Derived.Test.YtpnfjjgihkmjmaaZ31
import Derived.Test.YtpnfjjgihkmjmaaZ03
import Derived.Test.YtpnfjjgihkmjmaaZ33
import Derived.Test.YtpnfjjgihkmjmaaZ26
import Derived.Deep.RegionHeld3
import Derived.IntWalk
import Derived.Test.YtpnfjjgihkmjmaaZ01
/-
  IS A DICTIONARY THE DOCUMENT's: the law's own question.
-/
namespace Go.Proofs.Ytpnfjjgihkmjmaa
open Go.RowKit
set_option linter.unusedVariables false
set_option linter.unusedSimpArgs false
set_option maxRecDepth 100000

theorem nm_at {L : List Tm} (hnd : L.Nodup) {t : Tm} (hk : t.kind < 3) {i : Nat} (hi : L[i]? = some t) : nm t L = some i := by
  have hm := List.mem_of_getElem? hi
  cases h : nm t L with
  | none =>
    have := nm_none h t hm
    rw [d_refl hk] at this
    cases this
  | some j =>
    have hj := (nm_some h).1
    obtain ⟨hj1, hj2⟩ := List.getElem?_eq_some_iff.1 hj
    obtain ⟨hi1, hi2⟩ := List.getElem?_eq_some_iff.1 hi
    congr 1
    exact Option.some.inj (by rw [(List.getElem?_inj hj1 hnd).1 (hj.trans hi.symm)])
def EsI (w : World) (n : Nat) (g : Nat) (s18 : Value) (wr : World) : Prop := ∃ i : Nat, i + g = n ∧ s18 = .int .i64 i ∧ Below w.heap.size w wr
set_option maxHeartbeats 16000000 in
theorem dis_any {B B' d m : Nat} {room : Int} {v u : Value} {L : List Tm} {W : World} (hD : Dc B d m room v L W) (hM : DtL B' W u L) (hg : ∀ t ∈ L, goodT t = true) (hf : ∀ t ∈ L, t.few) (hl : L.length ≤ 100000) (r0 : Int) :
    Calls Try.prog 27 #[.pointer (some ⟨d, 0, none⟩), .agg #[.int .i64 r0, u]] W fun e w' => e = .returned (.bool true) ∧ Below W.heap.size W w' := by
  obtain ⟨A, c, rfl⟩ := hM.shape
  obtain ⟨W2, hW2⟩ : ∃ W2, W2 = W.alloc (.cells #[.int .i64 r0, .slice A L.length c] 30) := ⟨_, rfl⟩
  have hb2 : Below W.heap.size W W2 := by rw [hW2]; exact (Below.refl _ _).alloc (Nat.le_refl _) _
  have hx2 : Fb W2 W.heap.size 30 #[.int .i64 r0, .slice A L.length c] := by rw [hW2]; exact Fb.new _ _ _
  have hD2 : Dc B d m room v L W2 := hD.below ⟨hb2.os, hb2.tape, hb2.output, hb2.size, hb2.block⟩
  have hM2 : DtL B' W2 (.slice A L.length c) L := hM.below ⟨hb2.os, hb2.tape, hb2.output, hb2.size, hb2.block⟩
  have HB2 := Lib.hid hb2
  have HX2 := Lib.hid hx2
  have HD2 := Lib.hid hD2
  have HM2 := Lib.hid hM2
  have HG := Lib.hid hg
  have HF := Lib.hid hf
  have HN := Lib.hid hl
  have y1 := hx2.cell 1
  have hno : hasB L L.length = false := by
    cases h : hasB L (L.length : Int) with
    | false => rfl
    | true => have := hasB_iff.1 h; omega
  have hno2 : hasB L (-1) = false := by
    cases h : hasB L (-1) with
    | false => rfl
    | true => have := hasB_iff.1 h; omega
  have cN1 : ∀ {w : World}, Below W2.heap.size W2 w → Calls Try.prog 17 #[.pointer (some ⟨d, 0, none⟩), .int .i64 L.length] w fun e w' => e = .returned (.tuple #[.nilIface, .int .i64 4]) ∧ w' = w := fun {w} hb => dterm_none (hD2.below hb) hl _ hno
  have cN2 : ∀ {w : World}, Below W2.heap.size W2 w → Calls Try.prog 17 #[.pointer (some ⟨d, 0, none⟩), .int .i64 (-1)] w fun e w' => e = .returned (.tuple #[.nilIface, .int .i64 4]) ∧ w' = w := fun {w} hb => dterm_none (hD2.below hb) hl _ hno2
  have cL : ∀ {w : World}, Below W2.heap.size W2 w → Calls Try.prog 31 #[.pointer (some ⟨d, 0, none⟩)] w fun e w' => e = .returned (.int .i64 L.length) ∧ w' = w := fun {w} hb => dlen_any (hD2.below hb) hl
  clear hg hf hl hD hM hb2 hx2 hD2 hM2 hno hno2
  go_enter Try.func27, Try.ntmps27
  go_wp2
  rw [← hW2]
  clear hW2
  go_loopg [18] L.length (fun gk s18 wr => EsI W2 L.length gk s18 wr)
  case atStart => exact ⟨0, by omega, rfl, Below.refl _ _⟩
  case round =>
    clear y1
    obtain ⟨i, hig, rfl, hbw⟩ := hrel
    cases gk with
    | zero =>
      have hin : ¬ (i : Int) < (L.length : Int) := by omega
      have y1 := (HX2.out.below hbw).cell 1
      have hln : ((L.length : Int) == (L.length : Int)) = true := by simp
      have K : ∀ w, Below W2.heap.size W2 w → w.cell? ⟨W.heap.size, 1, none⟩ = some (.slice A L.length c) := fun w hb => (HX2.out.below hb).cell 1
      clear hig
      go_wp2_with (first
        | (go_at_call 17; (with_reducible refine (cN1 hbw).mono ?_); rintro e w5 ⟨rfl, rfl⟩)
        | (go_at_call 17; (with_reducible refine (cN2 hbw).mono ?_); rintro e w5 ⟨rfl, rfl⟩))
      first
        | (go_region_held3 (fun w => w.cell? ⟨W.heap.size, 1, none⟩ = some (.slice A L.length c))
            (first | exact K _ (by assumption) | exact K _ (Below.drew (by assumption)))
            (first | (go_at_call 31; (with_reducible refine (cL (by first | assumption | exact Below.drew (by assumption))).mono ?_); rintro e wa ⟨rfl, rfl⟩)))
        | fail
      all_goals
        (try go_wp2)
        (try rw [Exit.noGoto_ret])
        go_ret
        exact ⟨rfl, HB2.out.trans ((show Below W2.heap.size W2 _ from by repeat (first | assumption | refine Below.drew ?_)).mono HB2.out.size)⟩
    | succ gg =>
      have hin : (i : Int) < (L.length : Int) := by omega
      have hiz : (0 : Int) ≤ (i : Int) := by omega
      obtain ⟨t, hu⟩ : ∃ t, L[i]? = some t := ⟨_, List.getElem?_eq_getElem (by omega)⟩
      obtain ⟨gb, cb, ev, hgb, q0, q1, q2, q3⟩ := dtL_at HM2.out hu
      injection ev with ev1 ev2 ev3
      subst ev1
      clear ev2 ev3
      have hmem := List.mem_of_getElem? hu
      have hgt := HG.out t hmem
      have hkt := d_good_kind hgt
      have hft := HF.out t hmem
      have hfd : findP L t = some i := by
        unfold findP
        rw [if_pos hgt, nm_at HD2.out.nd hkt hu]
      obtain ⟨W3, hW3⟩ : ∃ W3, W3 = wr.alloc (.cells #[.int .i64 t.kind, .string t.ta, .string t.tb, .string t.tc] 32) := ⟨_, rfl⟩
      have hb3 : Below W2.heap.size W2 W3 := by rw [hW3]; exact hbw.alloc hbw.size _
      have hx3 : Fb W3 wr.heap.size 32 #[.int .i64 t.kind, .string t.ta, .string t.tb, .string t.tc] := by rw [hW3]; exact Fb.new _ _ _
      have cT : ∀ {w : World}, Below W3.heap.size W3 w → Calls Try.prog 17 #[.pointer (some ⟨d, 0, none⟩), .int .i64 i] w fun e w' => e = .returned (.tuple #[t.val, .int .i64 0]) ∧ w' = w := fun {w} hb => dterm_some (HD2.out.below (hb3.trans (hb.mono hb3.size))) HN.out i t hu
      have cF : ∀ {w : World}, Below W3.heap.size W3 w → Calls Try.prog 15 #[.pointer (some ⟨d, 0, none⟩), t.val] w fun e w' => e = .returned (.tuple #[.int .i64 i, .int .i64 0]) ∧ Below W3.heap.size W3 w' := fun {w} hb => by
        have := dfind_any (HD2.out.below (hb3.trans (hb.mono hb3.size))) HN.out t hft
        rw [hfd] at this
        exact this.mono fun _ _ ⟨x, y⟩ => ⟨x, hb.trans (y.mono hb.size)⟩
      have cR : ∀ {w : World}, Below W3.heap.size W3 w → Calls Try.prog 12 #[T4 t] w fun e w' => e = .returned t.val ∧ Below W3.heap.size W3 w' := fun {w} hb => (real_kind t hkt w).mono fun _ _ ⟨x, y⟩ => ⟨x, hb.trans (y.mono hb.size)⟩
      have cQ : ∀ {w : World}, Below W3.heap.size W3 w → Calls Try.prog 18 #[t.val] w fun e w' => e = .returned (F4 t.kind t.ta t.tb t.tc) ∧ Below W3.heap.size W3 w' := fun {w} hb => (lref_any t w).mono fun _ _ ⟨x, y⟩ => ⟨x, hb.trans (y.mono hb.size)⟩
      unfold T4 at cR
      obtain ⟨ty, x, hv⟩ := val_iface t hkt
      rw [hv] at cT cF cR cQ
      have q0 : wr.cell? ⟨gb, i * 4, none⟩ = some (.int .i64 t.kind) := (hbw.cell (p := ⟨gb, i * 4, none⟩) hgb).trans q0
      have q1 : wr.cell? ⟨gb, i * 4 + 1, none⟩ = some (.string t.ta) := (hbw.cell (p := ⟨gb, i * 4 + 1, none⟩) hgb).trans q1
      have q2 : wr.cell? ⟨gb, i * 4 + 2, none⟩ = some (.string t.tb) := (hbw.cell (p := ⟨gb, i * 4 + 2, none⟩) hgb).trans q2
      have q3 : wr.cell? ⟨gb, i * 4 + 3, none⟩ = some (.string t.tc) := (hbw.cell (p := ⟨gb, i * 4 + 3, none⟩) hgb).trans q3
      generalize t.kind = tk at *
      generalize t.ta = ta at *
      generalize t.tb = tb at *
      generalize t.tc = tc at *
      have hne := neqT4s tk ta tb tc
      have hii : ((i : Int) != (i : Int)) = false := by simp
      have K : ∀ w, Below W3.heap.size W3 w → w.cell? ⟨wr.heap.size, 0, none⟩ = some (.int .i64 tk) ∧ w.cell? ⟨wr.heap.size, 1, none⟩ = some (.string ta) ∧ w.cell? ⟨wr.heap.size, 2, none⟩ = some (.string tb) ∧ w.cell? ⟨wr.heap.size, 3, none⟩ = some (.string tc) := fun w hb =>
        have h3 := hx3.below hb
        ⟨h3.cell 0, h3.cell 1, h3.cell 2, h3.cell 3⟩
      obtain ⟨x0, x1, x2, x3⟩ := K W3 (Below.refl _ _)
      have hb33 : Below W3.heap.size W3 W3 := Below.refl _ _
      have HI := Lib.hid (show i + 1 + gg = L.length from by omega)
      have HI9 := Lib.hid (show i < 100000 from by have := HN.out; omega)
      have HB3 := Lib.hid hb3
      rw [hW3] at x0 x1 x2 x3 hb33
      have HW3 := Lib.hid hW3
      clear hu hmem hgt hkt hft hfd hv hx3 hgb hig hbw hb3 cN1 cN2 cL hW3
      go_wp2_with (first
        | (go_at_call 17; rw [← HW3.out]; (with_reducible refine (cT (Below.refl _ _)).mono ?_); rintro e w5 ⟨rfl, rfl⟩; obtain ⟨x0, x1, x2, x3⟩ := K _ (Below.refl _ _))
        | (go_at_call 12; (with_reducible refine (cR (Below.refl _ _)).mono ?_); rintro e w6 ⟨rfl, hb6⟩)
        | (go_at_call 15; (with_reducible refine (cF hb6).mono ?_); rintro e w7 ⟨rfl, hb7⟩))
      first
        | (go_region_held3 (fun w => w.cell? ⟨wr.heap.size, 0, none⟩ = some (.int .i64 tk) ∧ w.cell? ⟨wr.heap.size, 1, none⟩ = some (.string ta) ∧ w.cell? ⟨wr.heap.size, 2, none⟩ = some (.string tb) ∧ w.cell? ⟨wr.heap.size, 3, none⟩ = some (.string tc))
            (first | exact K _ (by assumption) | exact K _ (Below.drew (by assumption)))
            (first | (go_at_call 18; (with_reducible refine (cQ (by first | assumption | exact Below.drew (by assumption))).mono ?_); rintro e wa ⟨rfl, hBa⟩)))
        | fail
      all_goals
        (try go_wp2)
        go_roundg gg
        case measure => exact Nat.lt_succ_self gg
        case rel => exact ⟨i + 1, HI.out, by have := HI9.out; first | rfl | (rw [IntWalk.wrap64_in _ ⟨by omega, by omega⟩, Int.natCast_succ]), HB3.out.trans ((show Below _ _ _ from by repeat (first | assumption | refine Below.drew ?_)).mono HB3.out.size)⟩
end Go.Proofs.Ytpnfjjgihkmjmaa

/-
  THE ORDER OF TERMS.
-/
namespace Go.Proofs.Ytpnfjjgihkmjmaa
open Go.RowKit
set_option linter.unusedVariables false

/-- The world behind both, both terms' fields at hand. -/
def Sy (w : World) (g h : Nat) (u v : Array Value) (W : World) : Prop := Below w.heap.size w W ∧ Fb W g 109 u ∧ Fb W h 109 v
theorem Sy.drew {w : World} {g h : Nat} {u v : Array Value} {W : World} (s : Sy w g h u v W) : Sy w g h u v W.drew := ⟨Below.drew s.1, s.2⟩
theorem Sy.alloc {w : World} {g h : Nat} {u v : Array Value} {W : World} (s : Sy w g h u v W) (o : Obj) : Sy w g h u v (W.alloc o) := ⟨s.1.alloc s.1.size _, s.2.1.alloc _, s.2.2.alloc _⟩
abbrev C4 (k : Int) (a b c : ByteArray) : Array Value := #[.int .i64 k, .string a, .string b, .string c]
theorem Sy.all {w : World} {g h : Nat} {k k' : Int} {a b c a' b' c' : ByteArray} {W : World} (s : Sy w g h (C4 k a b c) (C4 k' a' b' c') W) :
    W.cell? ⟨g, 0, none⟩ = some (.int .i64 k) ∧ W.cell? ⟨h, 0, none⟩ = some (.int .i64 k') ∧ Sy w g h (C4 k a b c) (C4 k' a' b' c') W := ⟨s.2.1.cell 0, s.2.2.cell 0, s⟩
theorem slcmp_y {w : World} {g h : Nat} {k k' : Int} {a b c a' b' c' : ByteArray} {W : World} (n m : Nat) (s : Sy w g h (C4 k a b c) (C4 k' a' b' c') W) :
    Calls Try.prog 50 #[.slice (some ⟨g, 1, none⟩) 3 n, .slice (some ⟨h, 1, none⟩) 3 m] W fun e w' => e = .returned (.int .i64 (ord3 a b c a' b' c')) ∧ W = w' :=
  slcmp_any a b c a' b' c' W g h n m (s.2.1.cell 1) (s.2.1.cell 2) (s.2.1.cell 3) (s.2.2.cell 1) (s.2.2.cell 2) (s.2.2.cell 3)
def ordB (x y : Tm) : Int := orT (ordT x.kind y.kind) (ord3 x.ta x.tb x.tc y.ta y.tb y.tc)
set_option maxRecDepth 100000 in
set_option maxHeartbeats 4000000 in
theorem order_any (x y : Tm) (w : World) : Calls Try.prog 40 #[x.val, y.val] w fun e w' => e = .returned (.int .i64 (ordB x y)) ∧ Below w.heap.size w w' := by
  have cx := fieldsOf_any x
  have cy := fieldsOf_any y
  obtain ⟨r, hr⟩ : ∃ r, r = ordB x y := ⟨_, rfl⟩
  rw [← hr]
  unfold ordB at hr
  obtain ⟨k, hk⟩ : ∃ k, k = x.kind := ⟨_, rfl⟩
  obtain ⟨a, ha⟩ : ∃ k, k = x.ta := ⟨_, rfl⟩
  obtain ⟨b, hb⟩ : ∃ k, k = x.tb := ⟨_, rfl⟩
  obtain ⟨c, hc⟩ : ∃ k, k = x.tc := ⟨_, rfl⟩
  obtain ⟨k', hk'⟩ : ∃ k, k = y.kind := ⟨_, rfl⟩
  obtain ⟨a', ha'⟩ : ∃ k, k = y.ta := ⟨_, rfl⟩
  obtain ⟨b', hb'⟩ : ∃ k, k = y.tb := ⟨_, rfl⟩
  obtain ⟨c', hc'⟩ : ∃ k, k = y.tc := ⟨_, rfl⟩
  obtain ⟨vx, hvx⟩ : ∃ k, k = x.val := ⟨_, rfl⟩
  obtain ⟨vy, hvy⟩ : ∃ k, k = y.val := ⟨_, rfl⟩
  rw [← hk, ← ha, ← hb, ← hc, ← hvx] at cx
  rw [← hk', ← ha', ← hb', ← hc', ← hvy] at cy
  rw [← hk, ← ha, ← hb, ← hc, ← hk', ← ha', ← hb', ← hc'] at hr
  rw [← hvx, ← hvy]
  have cK := cmpInt_any k k'
  obtain ⟨p, hp⟩ : ∃ p, p = ordT k k' := ⟨_, rfl⟩
  rw [← hp] at cK hr
  have cS : ∀ {g h n m : Nat} {W : World}, Sy w g h (C4 k a b c) (C4 k' a' b' c') W → Calls Try.prog 50 #[.slice (some ⟨g, 1, none⟩) 3 n, .slice (some ⟨h, 1, none⟩) 3 m] W fun e w' => e = .returned (.int .i64 (ord3 a b c a' b' c')) ∧ W = w' := fun s => slcmp_y _ _ s
  obtain ⟨q, hq⟩ : ∃ p, p = ord3 a b c a' b' c' := ⟨_, rfl⟩
  rw [← hq] at cS hr
  have cO := orInt_any p q
  rw [← hr] at cO
  clear hk ha hb hc hk' ha' hb' hc' hvx hvy hp hq hr
  go_enter Try.func40, Try.ntmps40
  go_wp2_with (first
    | (go_at_call 48; (with_reducible refine (cx _).mono ?_); rintro e w1 ⟨rfl, hb1⟩)
    | (go_at_call 48; (with_reducible refine (cy _).mono ?_); rintro e w2 ⟨rfl, hb2⟩))
  have hb3 := hb1.trans (hb2.mono hb1.size)
  have hS : Sy w w2.heap.size (w2.heap.size + 1) (C4 k a b c) (C4 k' a' b' c') ((w2.alloc (.cells (C4 k a b c) 109)).alloc (.cells (C4 k' a' b' c') 109)) :=
    ⟨(hb3.alloc hb3.size _).alloc (by have := hb3.size; simp; omega) _, (Fb.new _ _ _).alloc _, by simpa using Fb.new (w2.alloc (.cells (C4 k a b c) 109)) 109 (C4 k' a' b' c')⟩
  clear hb1 hb2 hb3 cx cy
  first
    | (go_region_held (fun W => W.cell? ⟨w2.heap.size, 0, none⟩ = some (.int .i64 k) ∧ W.cell? ⟨w2.heap.size + 1, 0, none⟩ = some (.int .i64 k') ∧ Sy w w2.heap.size (w2.heap.size + 1) (C4 k a b c) (C4 k' a' b' c') W)
        (first | exact Sy.all (by assumption) | exact Sy.all (Sy.drew (by assumption)) | exact Sy.all (Sy.alloc (by assumption) _) | exact Sy.all (Sy.alloc (Sy.drew (by assumption)) _))
        (first
          | (go_at_call 41; (with_reducible refine (cK _).mono ?_); rintro e w' ⟨rfl, rfl⟩)
          | (go_at_call 50; (with_reducible refine (cS (by first | assumption | exact Sy.drew (by assumption))).mono ?_); rintro e w' ⟨rfl, rfl⟩)
          | (go_at_call 49; (with_reducible refine (cO _ _ _ (by simp [go_sem]) (by simp [go_sem])).mono ?_); rintro e w' ⟨rfl, rfl⟩)))
    | fail
  have HB := Lib.hid (Below.drew (Sy.alloc hS (.cells #[.int .i64 p, .int .i64 q] 3)).1)
  clear hS
  go_wp2
  go_ret
  exact ⟨rfl, HB.out⟩
end Go.Proofs.Ytpnfjjgihkmjmaa
