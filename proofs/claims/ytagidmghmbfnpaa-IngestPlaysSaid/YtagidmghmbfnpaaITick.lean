/-
  A BUFFER's CALLS: Tick, Take, Flush.
-/
import Derived.Test.YtagidmghmbfnpaaIPush
namespace Go.Proofs.Ytagidmghmbfnpaa
open Go.RowKit
set_option linter.unusedVariables false
set_option linter.unusedSimpArgs false
set_option maxRecDepth 100000

/-- The clock shows a time: the state behind, the error. -/
def Bs.tick (s : Bs) (t : Int) : Bs × Int :=
  if s.closed = true then (s, 14) else if instB t = false then (s, 2) else if behB s.ck s.ct t = true then (s, 8) else ((s.seec t).see t, 0)
theorem Bs.tick_closed {s : Bs} {t : Int} (hc : s.closed = true) : s.tick t = (s, 14) := by unfold Bs.tick; rw [if_pos hc]
theorem Bs.tick_range {s : Bs} {t : Int} (hc : s.closed = false) (hi : instB t = false) : s.tick t = (s, 2) := by unfold Bs.tick; rw [if_neg (by rw [hc]; decide), if_pos hi]
theorem Bs.tick_clock {s : Bs} {t : Int} (hc : s.closed = false) (hi : instB t = true) (ht : behB s.ck s.ct t = true) : s.tick t = (s, 8) := by unfold Bs.tick; rw [if_neg (by rw [hc]; decide), if_neg (by rw [hi]; decide), if_pos ht]
theorem Bs.tick_ok {s : Bs} {t : Int} (hc : s.closed = false) (hi : instB t = true) (ht : behB s.ck s.ct t = false) : s.tick t = ((s.seec t).see t, 0) := by unfold Bs.tick; rw [if_neg (by rw [hc]; decide), if_neg (by rw [hi]; decide), if_neg (by rw [ht]; decide)]
def TickPost (B d : Nat) (s : Bs) (v : Value) (l : List It) (W : World) (t : Int) (e : Ending) (w' : World) : Prop :=
  e = .returned (.int .i64 (s.tick t).2) ∧ Bc B d (s.tick t).1 v l w' ∧ Tn d v v W w'
section
variable {B d : Nat} {s : Bs} {v : Value} {l : List It}
set_option maxHeartbeats 4000000 in
theorem itick_any {W : World} (h : Bc B d s v l W) (t : Int) : Calls Try.prog 9 #[.pointer (some ⟨d, 0, none⟩), .int .i64 t] W (TickPost B d s v l W t) := by
  have c9 := h.c9
  have c2 := h.c2
  have c3 := h.c3
  have hd := h.lt
  have cI := iinst_any t
  cases hc : s.closed with
  | true =>
    have HE := Lib.hid (show TickPost B d s v l W t (.returned (.int .i64 14)) W from by
      unfold TickPost
      rw [Bs.tick_closed hc]
      exact ⟨rfl, h, Tn.refl W⟩)
    rw [hc] at c9
    clear h hc
    go_enter Try.func9, Try.ntmps9
    go_wp2
    go_ret
    exact HE.out
  | false =>
    rw [hc] at c9
    cases hi : instB t with
    | false =>
      have HE := Lib.hid (show TickPost B d s v l W t (.returned (.int .i64 2)) W from by
        unfold TickPost
        rw [Bs.tick_range hc hi]
        exact ⟨rfl, h, Tn.refl W⟩)
      rw [hi] at cI
      clear h hc hi
      go_enter Try.func9, Try.ntmps9
      go_wp2_with (go_at_call 18; (with_reducible refine (cI _).mono ?_); rintro e w1 ⟨rfl, rfl⟩)
      go_ret
      exact HE.out
    | true =>
      rw [hi] at cI
      have cB := ibeh_any s.ck s.ct t W
      cases hb : behB s.ck s.ct t with
      | true =>
        have HE := Lib.hid (show ∀ w1, Below W.heap.size W w1 → TickPost B d s v l W t (.returned (.int .i64 8)) w1 from fun w1 hw => by
          unfold TickPost
          rw [Bs.tick_clock hc hi hb]
          exact ⟨rfl, h.below hw, Tn.of hw⟩)
        rw [hb] at cB
        clear h hc hi hb
        go_enter Try.func9, Try.ntmps9
        go_wp2_with (first
          | (go_at_call 18; (with_reducible refine (cI _).mono ?_); rintro e w1 ⟨rfl, rfl⟩)
          | (go_at_call 22; (with_reducible refine cB.mono ?_); rintro e w1 ⟨rfl, hb1⟩))
        go_ret
        exact HE.out _ hb1
      | false =>
        have HE := Lib.hid (show ∀ w1 w2 w3, Below W.heap.size W w1 → Tn d v v w1 w2 → Bc B d ((s.seec t).see t) v l w3 → Tn d v v w2 w3 → TickPost B d s v l W t (.returned (.int .i64 0)) w3 from fun w1 w2 w3 hw h2 h3 h4 => by
          unfold TickPost
          rw [Bs.tick_ok hc hi hb]
          exact ⟨rfl, h3, ((Tn.of hw).trans h2).trans h4⟩)
        rw [hb] at cB
        have cC : ∀ w1, Below W.heap.size W w1 → Calls Try.prog 21 #[.pointer (some ⟨d, 2, none⟩), .int .i64 t] w1 fun e w' => e = .returned (.tuple #[]) ∧ Bc B d (s.seec t) v l w' ∧ Tn d v v w1 w' := fun w1 hw => bseec_any (h.below hw) t
        have cS : ∀ w2, Bc B d (s.seec t) v l w2 → Calls Try.prog 21 #[.pointer (some ⟨d, 4, none⟩), .int .i64 t] w2 fun e w' => e = .returned (.tuple #[]) ∧ Bc B d ((s.seec t).see t) v l w' ∧ Tn d v v w2 w' := fun w2 hw => bsee_any hw t
        clear h hc hi hb
        go_enter Try.func9, Try.ntmps9
        go_wp2_with (first
          | (go_at_call 18; (with_reducible refine (cI _).mono ?_); rintro e w1 ⟨rfl, rfl⟩)
          | (go_at_call 22; (with_reducible refine cB.mono ?_); rintro e w1 ⟨rfl, hb1⟩)
          | (go_at_call 21; (with_reducible refine (cC _ hb1).mono ?_); rintro e w2 ⟨rfl, hB2, hT2⟩; have HT2 := Lib.hid hT2; clear hT2)
          | (go_at_call 21; (with_reducible refine (cS _ hB2).mono ?_); rintro e w3 ⟨rfl, hB3, hT3⟩))
        go_ret
        exact HE.out _ _ _ hb1 HT2.out hB3 hT3
/-- Taken. -/
structure Tks (B d : Nat) (s : Bs) (v : Value) (l : List It) (W : World) (u : Value) (out : List It) (v' : Value) (rest : List It) (w' : World) : Prop where
  bc : Bc B d s v' rest w'
  tn : Tn d v v' W w'
  own : v'.ownBlock = v.ownBlock
  row : ItR W.heap.size w' u out
  pm : (out ++ rest).Perm l
  hp : Hp rest rest.length
  ord : Ord out
  lo : ∀ x ∈ out, s.tl x.t = true
  hi : ∀ x ∈ rest, s.tl x.t = false
def TkPost (B d : Nat) (s : Bs) (v : Value) (l : List It) (W : World) (e : Ending) (w' : World) : Prop := ∃ u out v' rest, e = .returned u ∧ Tks B d s v l W u out v' rest w'
theorem Bc.same {v' : Value} {l' : List It} {W W' : World} (h : Bc B d s v l W) (hq : ∃ q, W' = W.drewN q) : Bc B d s v l W' := by
  obtain ⟨q, rfl⟩ := hq
  exact h.drewN q
set_option maxHeartbeats 4000000 in
theorem itk_any {W : World} (h : Bc B d s v l W) (hl : l.length ≤ 5000) (hp : Hp l l.length) (ho : s.ok) : Calls Try.prog 12 #[.pointer (some ⟨d, 0, none⟩)] W (TkPost B d s v l W) := by
  have cM := imark_any h ho
  have hd := h.lt
  cases hq : s.mq with
  | false =>
    rw [hq] at cM
    have HE := Lib.hid (show ∀ q, TkPost B d s v l W (.returned (.slice none 0 0)) (W.drewN q) from fun q => ⟨_, [], v, l, rfl, h.drewN q, (Tn.refl W).drewN q, rfl, itR_nil _ _, List.Perm.refl _, hp, List.Pairwise.nil, fun x hx => (by cases hx), fun x hx => (by unfold Bs.tl; rw [hq]; rfl)⟩)
    clear h hp ho hq
    generalize s.mark = m at *
    go_enter Try.func12, Try.ntmps12
    go_wp2_with (go_at_call 23; (with_reducible refine cM.mono ?_); rintro e w1 ⟨rfl, q, rfl⟩)
    go_ret
    exact HE.out q
  | true =>
    rw [hq] at cM
    have cT : ∀ q, Calls Try.prog 24 #[.pointer (some ⟨d, 6, none⟩), .int .i64 s.mark] (W.drewN q) (TakePost B d s v l (W.drewN q) s.mark) := fun q => itake_any (h.drewN q) hl hp s.mark
    have HE := Lib.hid (show ∀ q e w', TakePost B d s v l (W.drewN q) s.mark e w' → TkPost B d s v l W e w' from fun q e w' hh => by
      obtain ⟨u, out, v', rest, h1, h2, h3⟩ := hh
      refine ⟨u, out, v', rest, h1, h2.bc, ((Tn.refl W).drewN q).trans h2.tn, h2.own, h2.row, h2.pm, h2.hp, h2.ord, fun x hx => ?_, fun x hx => ?_⟩
      · unfold Bs.tl
        rw [hq]
        have := h2.lo x hx
        simpa using this
      · unfold Bs.tl
        rw [hq]
        have := h3 x hx
        simpa using this)
    clear h hp ho hq
    generalize s.mark = m at *
    go_enter Try.func12, Try.ntmps12
    go_wp2_with (first
      | (go_at_call 23; (with_reducible refine cM.mono ?_); rintro e w1 ⟨rfl, q, rfl⟩)
      | (go_at_call 24; (with_reducible refine (cT q).mono ?_); intro e w2 hh; have HH := Lib.hid (HE.out q _ _ hh); obtain ⟨u, out, v', rest, rfl, _⟩ := hh))
    go_ret
    exact HH.out
/-- Flushed. -/
structure Fls (B d : Nat) (s : Bs) (v : Value) (l : List It) (W : World) (u : Value) (out : List It) (v' : Value) (w' : World) : Prop where
  bc : Bc B d { s with closed := true } v' [] w'
  tn : Tn d v v' W w'
  own : v'.ownBlock = v.ownBlock
  row : ItR W.heap.size w' u out
  pm : out.Perm l
  ord : Ord out
def FlPost (B d : Nat) (s : Bs) (v : Value) (l : List It) (W : World) (e : Ending) (w' : World) : Prop := ∃ u out v', e = .returned u ∧ Fls B d s v l W u out v' w'
set_option maxHeartbeats 4000000 in
theorem ifl_any {W : World} (h : Bc B d s v l W) (hl : l.length ≤ 5000) (hp : Hp l l.length) (hi : ∀ x ∈ l, x.t ≤ 1152921504606846976) : Calls Try.prog 13 #[.pointer (some ⟨d, 0, none⟩)] W (FlPost B d s v l W) := by
  have c9 := h.c9
  have f9 := h.free 9
  have hd := h.lt
  have hB : Bc B d { s with closed := true } v l (W.setCell ⟨d, 9, none⟩ (.bool true)) := h.put 9 _ rfl
  have cT : Calls Try.prog 24 #[.pointer (some ⟨d, 6, none⟩), .int .i64 1152921504606846977] (W.setCell ⟨d, 9, none⟩ (.bool true)) (TakePost B d { s with closed := true } v l (W.setCell ⟨d, 9, none⟩ (.bool true)) 1152921504606846977) := itake_any hB hl hp 1152921504606846977
  have HE := Lib.hid (show ∀ e w', TakePost B d { s with closed := true } v l (W.setCell ⟨d, 9, none⟩ (.bool true)) 1152921504606846977 e w' → FlPost B d s v l W e w' from fun e w' hh => by
    obtain ⟨u, out, v', rest, h1, h2, h3⟩ := hh
    have hr : rest = [] := by
      cases rest with
      | nil => rfl
      | cons x rest =>
        have h4 := h3 x List.mem_cons_self
        have h5 := hi x (h2.pm.mem_iff.1 (List.mem_append_right _ List.mem_cons_self))
        omega
    subst hr
    have hpm := h2.pm
    rw [List.append_nil] at hpm
    have hrow := h2.row
    rw [show (W.setCell ⟨d, 9, none⟩ (.bool true)).heap.size = W.heap.size by simp [World.setCell]] at hrow
    exact ⟨u, out, v', h1, h2.bc, ((Tn.refl W).put 9 _).trans h2.tn, h2.own, hrow, hpm, h2.ord⟩)
  clear h hp hi hB
  go_enter Try.func13, Try.ntmps13
  go_wp2_with (go_at_call 24; (with_reducible refine cT.mono ?_); intro e w2 hh; have HH := Lib.hid (HE.out _ _ hh); obtain ⟨u, out, v', rest, rfl, _⟩ := hh)
  go_ret
  exact HH.out
end
end Go.Proofs.Ytagidmghmbfnpaa
