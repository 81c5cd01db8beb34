/-
  A BUFFER's CALLS: Push.
-/
import Derived.Test.YtagidmghmbfnpaaIBuf
import Derived.Deep.RegionHeld3
namespace Go.Proofs.Ytagidmghmbfnpaa
open Go.RowKit
set_option linter.unusedVariables false
set_option linter.unusedSimpArgs false
set_option maxRecDepth 100000

section
variable {B d : Nat} {s : Bs} {v : Value} {l : List It}
theorem Bc.put {W : World} (h : Bc B d s v l W) (i : Nat) (x : Value) {s' : Bs} (hs : (s.cells v).setIfInBounds i x = s'.cells v) : Bc B d s' v l (W.setCell ⟨d, i, none⟩ x) := by
  refine ⟨?_, ?_, h.gd⟩
  · have := h.st.set i x
    rw [hs] at this
    exact this
  · refine ⟨h.row.1, ?_⟩
    rcases id h.row.2 with hn | ⟨g, cap, cur, hv, hge, hg, rest⟩
    · exact .inl hn
    · exact .inr ⟨g, cap, cur, hv, hge, (Below.heap_setCell _ _ _ _ (fun e => h.ne (by rw [hv, show d = g from e.symm]; rfl))).trans hg, rest⟩
theorem Tn.put {v' : Value} {W W' : World} (h : Tn d v v' W W') (i : Nat) (u : Value) : Tn d v v' W (W'.setCell ⟨d, i, none⟩ u) := h.store6 h.far u i
def Bs.see (s : Bs) (x : Int) : Bs := { s with mt := if behB s.mq s.mt x = true then s.mt else x, mq := true }
def Bs.seec (s : Bs) (x : Int) : Bs := { s with ct := if behB s.ck s.ct x = true then s.ct else x, ck := true }
theorem Bs.see_same {s : Bs} {x : Int} (h : behB s.mq s.mt x = true) : s.see x = s := by
  unfold Bs.see
  rw [if_pos h]
  have : s.mq = true := by unfold behB at h; simp at h; exact h.1
  cases s; simp_all
theorem Bs.seec_same {s : Bs} {x : Int} (h : behB s.ck s.ct x = true) : s.seec x = s := by
  unfold Bs.seec
  rw [if_pos h]
  have : s.ck = true := by unfold behB at h; simp at h; exact h.1
  cases s; simp_all
theorem bsee_any {W : World} (h : Bc B d s v l W) (x : Int) : Calls Try.prog 21 #[.pointer (some ⟨d, 4, none⟩), .int .i64 x] W fun e w' => e = .returned (.tuple #[]) ∧ Bc B d (s.see x) v l w' ∧ Tn d v v W w' := by
  refine (isee_any h.st s.mq s.mt x rfl rfl).mono ?_
  rintro e w' ⟨h1, w1, h2, rfl⟩
  refine ⟨h1, ?_⟩
  have hb := h.below h2
  by_cases hh : behB s.mq s.mt x = true
  · rw [if_pos hh, Bs.see_same hh]
    exact ⟨hb, Tn.of h2⟩
  · rw [if_neg hh]
    refine ⟨(hb.put 4 _ (s' := { s with mt := x }) rfl).put 5 _ ?_, ((Tn.of h2).put _ _).put _ _⟩
    unfold Bs.see
    rw [if_neg hh]
    rfl
theorem bseec_any {W : World} (h : Bc B d s v l W) (x : Int) : Calls Try.prog 21 #[.pointer (some ⟨d, 2, none⟩), .int .i64 x] W fun e w' => e = .returned (.tuple #[]) ∧ Bc B d (s.seec x) v l w' ∧ Tn d v v W w' := by
  refine (isee_any h.st s.ck s.ct x rfl rfl).mono ?_
  rintro e w' ⟨h1, w1, h2, rfl⟩
  refine ⟨h1, ?_⟩
  have hb := h.below h2
  by_cases hh : behB s.ck s.ct x = true
  · rw [if_pos hh, Bs.seec_same hh]
    exact ⟨hb, Tn.of h2⟩
  · rw [if_neg hh]
    refine ⟨(hb.put 2 _ (s' := { s with ct := x }) rfl).put 3 _ ?_, ((Tn.of h2).put _ _).put _ _⟩
    unfold Bs.seec
    rw [if_neg hh]
    rfl
end
/-- An item comes: the state behind, the error. -/
def Bs.push (s : Bs) (n : Nat) (t : Int) : Bs × Int :=
  if s.closed = true then (s, 14) else if instB t = false then (s, 2) else if s.tl t = true then ({ s with late := s.late + 1 }, 7) else if s.room ≤ (n : Int) then (s, 6) else (({ s with next := s.next + 1 } : Bs).see t, 0)
theorem Bs.push_closed {s : Bs} {n : Nat} {t : Int} (hc : s.closed = true) : s.push n t = (s, 14) := by unfold Bs.push; rw [if_pos hc]
theorem Bs.push_range {s : Bs} {n : Nat} {t : Int} (hc : s.closed = false) (hi : instB t = false) : s.push n t = (s, 2) := by unfold Bs.push; rw [if_neg (by rw [hc]; decide), if_pos hi]
theorem Bs.push_late {s : Bs} {n : Nat} {t : Int} (hc : s.closed = false) (hi : instB t = true) (ht : s.tl t = true) : s.push n t = ({ s with late := s.late + 1 }, 7) := by unfold Bs.push; rw [if_neg (by rw [hc]; decide), if_neg (by rw [hi]; decide), if_pos ht]
theorem Bs.push_full {s : Bs} {n : Nat} {t : Int} (hc : s.closed = false) (hi : instB t = true) (ht : s.tl t = false) (hr : s.room ≤ (n : Int)) : s.push n t = (s, 6) := by unfold Bs.push; rw [if_neg (by rw [hc]; decide), if_neg (by rw [hi]; decide), if_neg (by rw [ht]; decide), if_pos hr]
theorem Bs.push_ok {s : Bs} {n : Nat} {t : Int} (hc : s.closed = false) (hi : instB t = true) (ht : s.tl t = false) (hr : ¬ s.room ≤ (n : Int)) : s.push n t = (({ s with next := s.next + 1 } : Bs).see t, 0) := by unfold Bs.push; rw [if_neg (by rw [hc]; decide), if_neg (by rw [hi]; decide), if_neg (by rw [ht]; decide), if_neg hr]
def PushPost (B d : Nat) (s : Bs) (v : Value) (l : List It) (W : World) (t k0 k1 k2 : Int) (e : Ending) (w' : World) : Prop :=
  e = .returned (.int .i64 (s.push l.length t).2) ∧ ∃ v' l', Bc B d (s.push l.length t).1 v' l' w' ∧ Tn d v v' W w' ∧ Hp l' l'.length ∧ l'.Perm (if (s.push l.length t).2 = 0 then l ++ [⟨t, s.next, k0, k1, k2⟩] else l)
abbrev kv (k0 k1 k2 : Int) : Value := .agg #[.int .i64 k0, .int .i64 k1, .int .i64 k2]
abbrev kc (k0 k1 k2 : Int) : Obj := .cells #[.int .i64 k0, .int .i64 k1, .int .i64 k2] 48
section
variable {B d : Nat} {s : Bs} {v : Value} {l : List It}
set_option maxHeartbeats 4000000 in
theorem ipush_early {W : World} (h : Bc B d s v l W) (hl : l.length ≤ 5000) (hp : Hp l l.length) (ho : s.ok) (t k0 k1 k2 : Int) (hc : s.closed = true ∨ s.closed = false ∧ instB t = false) :
    Calls Try.prog 7 #[.pointer (some ⟨d, 0, none⟩), .int .i64 t, kv k0 k1 k2] W (PushPost B d s v l W t k0 k1 k2) := by
  have c9 := h.c9
  have hd := h.lt
  rcases hc with hc | ⟨hc, hi⟩
  · have HE := Lib.hid (show PushPost B d s v l W t k0 k1 k2 (.returned (.int .i64 14)) (W.alloc (kc k0 k1 k2)) from by
      unfold PushPost
      rw [Bs.push_closed hc]
      exact ⟨rfl, v, l, h.alloc _, (Tn.refl W).alloc _, hp, List.Perm.refl _⟩)
    rw [hc] at c9
    clear h hl hp ho hc
    go_enter Try.func7, Try.ntmps7
    go_wp2
    go_ret
    exact HE.out
  · have HE := Lib.hid (show PushPost B d s v l W t k0 k1 k2 (.returned (.int .i64 2)) (W.alloc (kc k0 k1 k2)) from by
      unfold PushPost
      rw [Bs.push_range hc hi]
      exact ⟨rfl, v, l, h.alloc _, (Tn.refl W).alloc _, hp, List.Perm.refl _⟩)
    have cI := iinst_any t
    rw [hc] at c9
    rw [hi] at cI
    clear h hl hp ho hc hi
    go_enter Try.func7, Try.ntmps7
    go_wp2_with (go_at_call 18; (with_reducible refine (cI _).mono ?_); rintro e w1 ⟨rfl, rfl⟩)
    go_ret
    exact HE.out
set_option maxHeartbeats 4000000 in
theorem ipush_late {W : World} (h : Bc B d s v l W) (hl : l.length ≤ 5000) (hp : Hp l l.length) (ho : s.ok) (t k0 k1 k2 : Int) (hc : s.closed = false) (hi : instB t = true) (ht : s.tl t = true) :
    Calls Try.prog 7 #[.pointer (some ⟨d, 0, none⟩), .int .i64 t, kv k0 k1 k2] W (PushPost B d s v l W t k0 k1 k2) := by
  have c9 := h.c9
  have c8 := h.c8
  have f8 := h.free 8
  have hd := h.lt
  have b0 := ho.t0
  have b1 := ho.t1
  have HE := Lib.hid (show ∀ q, PushPost B d s v l W t k0 k1 k2 (.returned (.int .i64 7)) (((W.alloc (kc k0 k1 k2)).drewN q).setCell ⟨d, 8, none⟩ (.int .i64 (s.late + 1))) from fun q => by
    unfold PushPost
    rw [Bs.push_late hc hi ht]
    exact ⟨rfl, v, l, ((h.alloc _).drewN q).put 8 _ (s' := { s with late := s.late + 1 }) rfl, (((Tn.refl W).alloc _).drewN q).put _ _, hp, List.Perm.refl _⟩)
  have cI := iinst_any t
  have cT := itl_any (h.alloc (kc k0 k1 k2)) ho t
  rw [hc] at c9
  rw [hi] at cI
  rw [ht] at cT
  clear h hl hp ho hc hi ht
  go_enter Try.func7, Try.ntmps7
  go_wp2_with (first
    | (go_at_call 18; (with_reducible refine (cI _).mono ?_); rintro e w1 ⟨rfl, rfl⟩)
    | (go_at_call 19; (with_reducible refine cT.mono ?_); rintro e w1 ⟨rfl, q, rfl⟩))
  go_ret
  exact HE.out q
set_option maxHeartbeats 4000000 in
theorem ipush_full {W : World} (h : Bc B d s v l W) (hl : l.length ≤ 5000) (hp : Hp l l.length) (ho : s.ok) (t k0 k1 k2 : Int) (hc : s.closed = false) (hi : instB t = true) (ht : s.tl t = false) (hr : s.room ≤ l.length) :
    Calls Try.prog 7 #[.pointer (some ⟨d, 0, none⟩), .int .i64 t, kv k0 k1 k2] W (PushPost B d s v l W t k0 k1 k2) := by
  have c9 := h.c9
  have c1 := h.c1
  have c6 := h.c6
  obtain ⟨A, c, hv⟩ := h.row.shape
  rw [hv] at c6
  have HE := Lib.hid (show ∀ q, PushPost B d s v l W t k0 k1 k2 (.returned (.int .i64 6)) ((W.alloc (kc k0 k1 k2)).drewN q) from fun q => by
    unfold PushPost
    rw [Bs.push_full hc hi ht hr]
    exact ⟨rfl, v, l, (h.alloc _).drewN q, ((Tn.refl W).alloc _).drewN q, hp, List.Perm.refl _⟩)
  have cI := iinst_any t
  have cT := itl_any (h.alloc (kc k0 k1 k2)) ho t
  rw [hc] at c9
  rw [hi] at cI
  rw [ht] at cT
  have hd := h.lt
  clear h hl hp ho hc hi ht hv
  go_enter Try.func7, Try.ntmps7
  go_wp2_with (first
    | (go_at_call 18; (with_reducible refine (cI _).mono ?_); rintro e w1 ⟨rfl, rfl⟩)
    | (go_at_call 19; (with_reducible refine cT.mono ?_); rintro e w1 ⟨rfl, q, rfl⟩))
  go_quiet (fail)
  go_wp2
  go_ret
  rw [World.drewN_drewN]
  exact HE.out _
set_option maxHeartbeats 8000000 in
theorem ipush_ok {W : World} (h : Bc B d s v l W) (hB : B ≤ W.heap.size) (hl : l.length ≤ 4000) (hp : Hp l l.length) (ho : s.ok) (t k0 k1 k2 : Int) (hc : s.closed = false) (hi : instB t = true) (ht : s.tl t = false) (hr : ¬ s.room ≤ l.length) :
    Calls Try.prog 7 #[.pointer (some ⟨d, 0, none⟩), .int .i64 t, kv k0 k1 k2] W (PushPost B d s v l W t k0 k1 k2) := by
  have c9 := h.c9
  have c1 := h.c1
  have c6 := h.c6
  have hd := h.lt
  obtain ⟨A, c, hv⟩ := h.row.shape
  subst hv
  have HK := Lib.hid (show ∀ q, Bc B d s (.slice A l.length c) l ((W.alloc (kc k0 k1 k2)).drewN q) ∧ Fb ((W.alloc (kc k0 k1 k2)).drewN q) W.heap.size 48 #[.int .i64 k0, .int .i64 k1, .int .i64 k2] ∧ Tn d (.slice A l.length c) (.slice A l.length c) W ((W.alloc (kc k0 k1 k2)).drewN q) from fun q => ⟨(h.alloc _).drewN q, Fb.new W 48 _, ((Tn.refl W).alloc _).drewN q⟩)
  have HP := Lib.hid (show ∀ W9 : World, Bc B d s (.slice A l.length c) l W9 → W.heap.size ≤ W9.heap.size → Calls Try.prog 20 #[wi d, .iface 63 (itv ⟨t, s.next, k0, k1, k2⟩)] W9 (HPushPost B d s (.slice A l.length c) l W9 ⟨t, s.next, k0, k1, k2⟩) from fun W9 hb hz => hpush_any hb (Nat.le_trans hB hz) (by omega) hp ⟨t, s.next, k0, k1, k2⟩)
  have HE := Lib.hid (show ∀ (W9 w3 w4 : World) (v3 : Value) (l3 : List It), Tn d (.slice A l.length c) (.slice A l.length c) W W9 → Tn d (.slice A l.length c) v3 W9 w3 → Bc B d (({ s with next := s.next + 1 } : Bs).see t) v3 l3 w4 → Tn d v3 v3 (w3.setCell ⟨d, 7, none⟩ (.int .i64 (s.next + 1))) w4 → l3.Perm (l ++ [⟨t, s.next, k0, k1, k2⟩]) → Hp l3 l3.length → PushPost B d s (.slice A l.length c) l W t k0 k1 k2 (.returned (.int .i64 0)) w4 from fun W9 w3 w4 v3 l3 h0 h1 h2 h3 h4 h5 => by
    unfold PushPost
    rw [Bs.push_ok hc hi ht hr]
    exact ⟨rfl, v3, l3, h2, (h0.trans (h1.put 7 _)).trans h3, h5, h4⟩)
  have hN : ∀ {w3 : World} {v3 : Value} {l3 : List It}, Bc B d s v3 l3 w3 → Bc B d { s with next := s.next + 1 } v3 l3 (w3.setCell ⟨d, 7, none⟩ (.int .i64 (s.next + 1))) := fun {w3 v3 l3} hb => hb.put 7 _ rfl
  have cS : ∀ {w3 : World} {v3 : Value} {l3 : List It}, Bc B d s v3 l3 w3 → Calls Try.prog 21 #[.pointer (some ⟨d, 4, none⟩), .int .i64 t] (w3.setCell ⟨d, 7, none⟩ (.int .i64 (s.next + 1))) fun e w' => e = .returned (.tuple #[]) ∧ Bc B d (({ s with next := s.next + 1 } : Bs).see t) v3 l3 w' ∧ Tn d v3 v3 (w3.setCell ⟨d, 7, none⟩ (.int .i64 (s.next + 1))) w' := fun {w3 v3 l3} hb => bsee_any (hN hb) t
  have b0 := ho.n0
  have b1 := ho.n1
  have cI := iinst_any t
  have cT := itl_any (h.alloc (kc k0 k1 k2)) ho t
  rw [hc] at c9
  rw [hi] at cI
  rw [ht] at cT
  clear h hl hp ho hc hi ht hB hN
  go_enter Try.func7, Try.ntmps7
  go_wp2_with (first
    | (go_at_call 18; (with_reducible refine (cI _).mono ?_); rintro e w1 ⟨rfl, rfl⟩)
    | (go_at_call 19; (with_reducible refine cT.mono ?_); rintro e w1 ⟨rfl, q, rfl⟩))
  go_quiet (fail)
  go_wp2
  obtain ⟨W9, hW9⟩ : ∃ W9, W9 = ((W.alloc (kc k0 k1 k2)).drewN q).drewN nq := ⟨_, rfl⟩
  rw [← hW9]
  obtain ⟨hB9, hX9, hT9⟩ := HK.out (q + nq)
  rw [← World.drewN_drewN, ← hW9] at hB9 hX9 hT9
  have x0 := hB9.c7
  have x1 := hX9.cell 0
  have x2 := hX9.cell 1
  have x3 := hX9.cell 2
  have cP9 := HP.out W9.drew hB9.drew hT9.size
  have HX := Lib.hid hX9
  have HB9 := Lib.hid hB9
  have HT9 := Lib.hid hT9
  have hd9 := hB9.lt
  clear hW9 hB9 hX9 hT9 c9 c1 c6 hd cT cI
  go_region_held3 (fun w => w.cell? ⟨d, 7, none⟩ = some (.int .i64 s.next) ∧ w.cell? ⟨W.heap.size, 0, none⟩ = some (.int .i64 k0) ∧ w.cell? ⟨W.heap.size, 1, none⟩ = some (.int .i64 k1) ∧ w.cell? ⟨W.heap.size, 2, none⟩ = some (.int .i64 k2))
    (first | exact ⟨x0, x1, x2, x3⟩ | exact ⟨y0, y1, y2, y3⟩)
    ((go_at_call 20; (with_reducible refine cP9.mono ?_); rintro e w3 ⟨rfl, v3, l3, hB3, hT3, hP3, hH3⟩; have y0 := hB3.c7; have f7 := hB3.free 7; have hd3 := hB3.lt; have hX3 := hT3.cells HB9.out.drew HX.out.drew (by decide) (by decide); have y1 := Fb.cell hX3 0; have y2 := Fb.cell hX3 1; have y3 := Fb.cell hX3 2))
  all_goals
    have HB3 := Lib.hid hB3
    have HT3 := Lib.hid hT3
    have HP3 := Lib.hid hP3
    have HH3 := Lib.hid hH3
    have cS3 := cS hB3
    clear hB3 hT3 hP3 hH3 hX3 y1 y2 y3 cS
    go_wp2_with (go_at_call 21; (with_reducible refine cS3.mono ?_); rintro e w4 ⟨rfl, hB4, hT4⟩; have HB4 := Lib.hid hB4; have HT4 := Lib.hid hT4; clear hB4 hT4)
    go_ret
    exact HE.out W9 _ _ _ _ HT9.out ((Tn.of (Below.drew (Below.refl _ _))).trans HT3.out) HB4.out HT4.out HP3.out HH3.out
theorem ipush_any {W : World} (h : Bc B d s v l W) (hB : B ≤ W.heap.size) (hl : l.length ≤ 4000) (hp : Hp l l.length) (ho : s.ok) (t k0 k1 k2 : Int) :
    Calls Try.prog 7 #[.pointer (some ⟨d, 0, none⟩), .int .i64 t, kv k0 k1 k2] W (PushPost B d s v l W t k0 k1 k2) := by
  cases hc : s.closed with
  | true => exact ipush_early h (by omega) hp ho t k0 k1 k2 (.inl hc)
  | false =>
    cases hi : instB t with
    | false => exact ipush_early h (by omega) hp ho t k0 k1 k2 (.inr ⟨hc, hi⟩)
    | true =>
      cases ht : s.tl t with
      | true => exact ipush_late h (by omega) hp ho t k0 k1 k2 hc hi ht
      | false =>
        by_cases hr : s.room ≤ (l.length : Int)
        · exact ipush_full h (by omega) hp ho t k0 k1 k2 hc hi ht hr
        · exact ipush_ok h hB hl hp ho t k0 k1 k2 hc hi ht hr
end
end Go.Proofs.Ytagidmghmbfnpaa
