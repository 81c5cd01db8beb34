/-
  IngestRises: what holds behind each act.
-/
import Derived.Test.YtophgpmjalpmaaaIRz
namespace Go.Proofs.Ytophgpmjalpmaaa
open Go.RowKit
set_option linter.unusedVariables false
set_option linter.unusedSimpArgs false
set_option maxRecDepth 100000

/-- The items that times make, as they come in. -/
def itK (t : Int) (k : Nat) : It := ⟨t, k, k, 0, 0⟩
def mkI (came : List Int) : List It := came.zipIdx.map fun p => itK p.1 p.2
theorem mkI_snoc (came : List Int) (t : Int) : mkI (came ++ [t]) = mkI came ++ [itK t came.length] := by
  unfold mkI
  rw [List.zipIdx_append]
  simp
theorem mkI_len (came : List Int) : (mkI came).length = came.length := by unfold mkI; simp
theorem mkI_mem {came : List Int} {x : It} (h : x ∈ mkI came) : ∃ k : Nat, came[k]? = some x.t ∧ x = itK x.t k := by
  unfold mkI at h
  obtain ⟨⟨t, k⟩, h1, rfl⟩ := List.mem_map.1 h
  exact ⟨k, List.mem_zipIdx_iff_getElem?.1 h1, rfl⟩
theorem mkI_nums (came : List Int) : ((mkI came).map It.s) = (List.range came.length).map fun (k : Nat) => (k : Int) := by
  apply List.ext_getElem?
  intro i
  unfold mkI
  by_cases h : i < came.length
  · simp [h, itK]
  · simp [h, List.getElem?_eq_none (Nat.le_of_not_lt h)]
theorem mkI_nodup (came : List Int) : ((mkI came).map It.s).Nodup := by
  rw [mkI_nums]
  refine List.Pairwise.map _ ?_ List.nodup_range
  intro a b h e
  exact h (by omega)
structure Ri (a : Int) (i : Nat) (s : Bs) (l out : List It) (came : List Int) : Prop where
  lat : s.lat = a
  room : s.room = 1000
  closed : s.closed = false
  m0 : -1152921504606846976 ≤ s.mt
  m1 : s.mt ≤ 1152921504606846976
  nx : s.next = came.length
  l0 : 0 ≤ s.late
  sum : came.length + s.late ≤ i
  pm : (out ++ l).Perm (mkI came)
  ord : Ord out
  le : ∀ x ∈ out, ∀ y ∈ l, LeI x y
  tl : ∀ x ∈ out, s.tl x.t = true
  tm : ∀ x ∈ l, x.t ≤ 1152921504606846976
section
variable {a : Int} {i : Nat} {s : Bs} {l out : List It} {came : List Int}
theorem Ri.ok (h : Ri a i s l out came) (hi : i ≤ 200) (q0 : 0 ≤ a) (q1 : a ≤ 255) : s.ok := by
  obtain ⟨h1, h2, h3, h4, h5, h6, h7, h8, _, _, _, _, _⟩ := h
  exact ⟨by omega, by omega, by omega, by omega, by omega, by omega, by omega, by omega⟩
theorem Ri.lens (h : Ri a i s l out came) : out.length + l.length = came.length ∧ came.length ≤ i := by
  have h1 := h.pm.length_eq
  have h2 := h.sum
  have h3 := h.l0
  rw [List.length_append, mkI_len] at h1
  exact ⟨h1, by omega⟩
theorem tl_see {s : Bs} {x t : Int} (h : s.tl x = true) : (s.see t).tl x = true := by
  unfold Bs.tl at h ⊢
  simp only [Bool.and_eq_true, decide_eq_true_eq] at h ⊢
  obtain ⟨h1, h2⟩ := h
  have h3 : s.mark ≤ (s.see t).mark := by
    show s.mark ≤ (if true = true then (if behB s.mq s.mt t = true then s.mt else t) - s.lat else 0)
    unfold Bs.mark behB
    rw [h1, if_pos rfl, if_pos rfl, Bool.true_and]
    by_cases h : t < s.mt
    · rw [decide_eq_true h, if_pos rfl]; exact Int.le_refl _
    · rw [decide_eq_false h, if_neg (by decide)]; omega
  exact ⟨rfl, by omega⟩
theorem mt_see (s : Bs) (t : Int) (ht : instB t = true) (m0 : -1152921504606846976 ≤ s.mt) (m1 : s.mt ≤ 1152921504606846976) : -1152921504606846976 ≤ (s.see t).mt ∧ (s.see t).mt ≤ 1152921504606846976 := by
  have hi := instB_iff.1 ht
  show _ ≤ (if behB s.mq s.mt t = true then s.mt else t) ∧ (if behB s.mq s.mt t = true then s.mt else t) ≤ _
  split <;> omega
theorem Ri.same (h : Ri a i s l out came) {l' : List It} (hp : l'.Perm l) : Ri a (i + 1) s l' out came :=
  ⟨h.lat, h.room, h.closed, h.m0, h.m1, h.nx, h.l0, by have := h.sum; omega, (hp.append_left out).trans h.pm, h.ord, fun x hx y hy => h.le x hx y (hp.mem_iff.1 hy), h.tl, fun x hx => h.tm x (hp.mem_iff.1 hx)⟩
theorem Ri.late (h : Ri a i s l out came) {l' : List It} (hp : l'.Perm l) : Ri a (i + 1) { s with late := s.late + 1 } l' out came :=
  ⟨h.lat, h.room, h.closed, h.m0, h.m1, h.nx, by have := h.l0; show 0 ≤ s.late + 1; omega, by have := h.sum; show (came.length : Int) + (s.late + 1) ≤ ((i + 1 : Nat) : Int); omega, (hp.append_left out).trans h.pm, h.ord, fun x hx y hy => h.le x hx y (hp.mem_iff.1 hy), h.tl, fun x hx => h.tm x (hp.mem_iff.1 hx)⟩
theorem Ri.push (h : Ri a i s l out came) {t : Int} (ht : s.tl t = false) (hi : instB t = true) {l' : List It} (hp : l'.Perm (l ++ [⟨t, s.next, came.length, 0, 0⟩])) : Ri a (i + 1) (({ s with next := s.next + 1 } : Bs).see t) l' out (came ++ [t]) := by
  have hx : (⟨t, s.next, came.length, 0, 0⟩ : It) = itK t came.length := by unfold itK; rw [h.nx]
  rw [hx] at hp
  obtain ⟨b1, b2⟩ := mt_see { s with next := s.next + 1 } t hi h.m0 h.m1
  have hit := instB_iff.1 hi
  refine ⟨h.lat, h.room, h.closed, b1, b2, ?_, h.l0, ?_, ?_, h.ord, fun x hx y hy => ?_, fun x hx => tl_see (s := { s with next := s.next + 1 }) (h.tl x hx), fun x hx => ?_⟩
  · show s.next + 1 = _
    rw [List.length_append, h.nx]; simp
  · show _ + s.late ≤ ((i + 1 : Nat) : Int)
    have := h.sum
    rw [List.length_append, List.length_singleton]; omega
  · rw [mkI_snoc]
    refine (hp.append_left out).trans ?_
    rw [← List.append_assoc]
    exact h.pm.append_right _
  · rcases List.mem_append.1 (hp.mem_iff.1 hy) with hy | hy
    · exact h.le x hx y hy
    · rw [List.mem_singleton.1 hy]
      have h1 := h.tl x hx
      unfold Bs.tl at h1 ht
      simp only [Bool.and_eq_true, decide_eq_true_eq] at h1
      rw [h1.1, Bool.true_and] at ht
      have ht := of_decide_eq_false ht
      left
      show x.t < t
      omega
  · rcases List.mem_append.1 (hp.mem_iff.1 hx) with hx | hx
    · exact h.tm x hx
    · rw [List.mem_singleton.1 hx]; exact hit.2
theorem Ri.tick (h : Ri a i s l out came) {t : Int} (hi : instB t = true) : Ri a (i + 1) ((s.seec t).see t) l out came := by
  obtain ⟨b1, b2⟩ := mt_see (s.seec t) t hi h.m0 h.m1
  exact ⟨h.lat, h.room, h.closed, b1, b2, h.nx, h.l0, by have := h.sum; show _ + s.late ≤ ((i + 1 : Nat) : Int); omega, h.pm, h.ord, h.le, fun x hx => tl_see (s := s.seec t) (h.tl x hx), h.tm⟩
theorem Ri.take (h : Ri a i s l out came) {out2 rest : List It} (hp : (out2 ++ rest).Perm l) (ho : Ord out2) (h1 : ∀ x ∈ out2, s.tl x.t = true) (h2 : ∀ x ∈ rest, s.tl x.t = false) : Ri a (i + 1) s rest (out ++ out2) came := by
  refine ⟨h.lat, h.room, h.closed, h.m0, h.m1, h.nx, h.l0, by have := h.sum; omega, ?_, ?_, fun x hx y hy => ?_, fun x hx => ?_, fun x hx => h.tm x (hp.mem_iff.1 (List.mem_append_right _ hx))⟩
  · rw [List.append_assoc]
    exact (hp.append_left out).trans h.pm
  · exact List.pairwise_append.2 ⟨h.ord, ho, fun x hx y hy => h.le x hx y (hp.mem_iff.1 (List.mem_append_left _ hy))⟩
  · rcases List.mem_append.1 hx with hx | hx
    · exact h.le x hx y (hp.mem_iff.1 (List.mem_append_right _ hy))
    · have e1 := h1 x hx
      have e2 := h2 y hy
      unfold Bs.tl at e1 e2
      simp only [Bool.and_eq_true, decide_eq_true_eq] at e1
      rw [e1.1, Bool.true_and] at e2
      have e2 := of_decide_eq_false e2
      left; omega
  · rcases List.mem_append.1 hx with hx | hx
    · exact h.tl x hx
    · exact h1 x hx
end
/-! ### The calls -/
def RsN (w1 : World) (d : Nat) (a : Int) (i : Nat) (vo : Value) (out : List It) (vc : Value) (came came' : List Int) (W : World) : Prop := ∃ s v l, Rz w1 d s v l vo out vc came W ∧ Ri a i s l out came'
section
variable {w1 W : World} {d : Nat} {a : Int} {i : Nat} {vo : Value} {out : List It} {vc : Value} {came : List Int}
theorem RsN.below {W' : World} {came' : List Int} (h : RsN w1 d a i vo out vc came came' W) (hb : Below W.heap.size W W') : RsN w1 d a i vo out vc came came' W' := by
  obtain ⟨s, v, l, h1, h2⟩ := h
  exact ⟨s, v, l, h1.below hb, h2⟩
theorem RsN.b {came' : List Int} (h : RsN w1 d a i vo out vc came came' W) : Below w1.heap.size w1 W := by
  obtain ⟨s, v, l, h1, h2⟩ := h
  exact h1.rn.b
theorem RsN.lens (h : RsN w1 d a i vo out vc came came W) : out.length ≤ i ∧ came.length ≤ i := by
  obtain ⟨s, v, l, h1, h2⟩ := h
  obtain ⟨h3, h4⟩ := h2.lens
  exact ⟨by omega, h4⟩
theorem RsN.ro {came' : List Int} (h : RsN w1 d a i vo out vc came came' W) : ItR w1.heap.size W vo out := by
  obtain ⟨s, v, l, h1, h2⟩ := h
  exact h1.ro
theorem RsN.rc {came' : List Int} (h : RsN w1 d a i vo out vc came came' W) : TmR w1.heap.size W vc came := by
  obtain ⟨s, v, l, h1, h2⟩ := h
  exact h1.rc
theorem RsN.tick (h : RsN w1 d a i vo out vc came came W) (t : Int) : Calls Try.prog 14 #[.pointer (some ⟨d, 0, none⟩), .int .i64 t] W fun e w' => (∃ c, e = .returned (.int .i64 c)) ∧ RsN w1 d a (i + 1) vo out vc came came w' := by
  obtain ⟨s, v, l, h1, h2⟩ := h
  refine (itick_any h1.rn.bc t).mono ?_
  rintro e w' ⟨h3, h4, h5⟩
  refine ⟨⟨_, h3⟩, _, v, l, h1.turn h5 ⟨h4, h5.below h1.rn.bc h1.rn.b, h1.rn.hp⟩, ?_⟩
  unfold Bs.tick
  split
  · exact h2.same (List.Perm.refl _)
  · split
    · exact h2.same (List.Perm.refl _)
    · split
      · exact h2.same (List.Perm.refl _)
      · rename_i hi _
        exact h2.tick (by simpa using hi)
theorem RsN.push (h : RsN w1 d a i vo out vc came came W) (hi : i ≤ 199) (q0 : 0 ≤ a) (q1 : a ≤ 255) (t : Int) :
    (∃ c : Int, (c == 0) = false ∧ Calls Try.prog 12 #[.pointer (some ⟨d, 0, none⟩), .int .i64 t, kv came.length 0 0] W fun e w' => e = .returned (.int .i64 c) ∧ RsN w1 d a (i + 1) vo out vc came came w') ∨
    Calls Try.prog 12 #[.pointer (some ⟨d, 0, none⟩), .int .i64 t, kv came.length 0 0] W fun e w' => e = .returned (.int .i64 0) ∧ RsN w1 d a (i + 1) vo out vc came (came ++ [t]) w' ∧ ∀ (k : Nat) (cs : Array Value), Fb W k 35 cs → Fb w' k 35 cs := by
  have hln := h.lens
  obtain ⟨s, v, l, h1, h2⟩ := h
  obtain ⟨l1, l2⟩ := h2.lens
  have hP := ipush_any h1.rn.bc h1.rn.b.size (by omega) h1.rn.hp (h2.ok (by omega) q0 q1) t came.length 0 0
  unfold PushPost at hP
  have a3 := h2.closed
  cases hins : instB t with
  | false =>
    rw [Bs.push_range a3 hins] at hP
    refine .inl ⟨2, by decide, hP.mono ?_⟩
    rintro e w' ⟨h3, v', l', h4, h5, h6, h7⟩
    exact ⟨h3, s, v', l', h1.turn h5 ⟨h4, h5.below h1.rn.bc h1.rn.b, h6⟩, h2.same h7⟩
  | true =>
    cases htl : s.tl t with
    | true =>
      rw [Bs.push_late a3 hins htl] at hP
      refine .inl ⟨7, by decide, hP.mono ?_⟩
      rintro e w' ⟨h3, v', l', h4, h5, h6, h7⟩
      exact ⟨h3, _, v', l', h1.turn h5 ⟨h4, h5.below h1.rn.bc h1.rn.b, h6⟩, h2.late h7⟩
    | false =>
      by_cases hr : s.room ≤ (l.length : Int)
      · rw [Bs.push_full a3 hins htl hr] at hP
        refine .inl ⟨6, by decide, hP.mono ?_⟩
        rintro e w' ⟨h3, v', l', h4, h5, h6, h7⟩
        exact ⟨h3, s, v', l', h1.turn h5 ⟨h4, h5.below h1.rn.bc h1.rn.b, h6⟩, h2.same h7⟩
      · rw [Bs.push_ok a3 hins htl hr] at hP
        refine .inr (hP.mono ?_)
        rintro e w' ⟨h3, v', l', h4, h5, h6, h7⟩
        exact ⟨h3, ⟨_, v', l', h1.turn h5 ⟨h4, h5.below h1.rn.bc h1.rn.b, h6⟩, h2.push htl hins h7⟩, fun k cs hk => h5.cells h1.rn.bc hk (by decide) (by decide)⟩
/-- Taken, not appended yet. -/
def RsT (w1 : World) (d : Nat) (a : Int) (i : Nat) (vo : Value) (out : List It) (vc : Value) (came : List Int) (N : Nat) (A : Option Addr) (c : Nat) (out2 : List It) (w' : World) : Prop := ∃ s v l, Rz w1 d s v l vo out vc came w' ∧ ItR N w' (.slice A out2.length c) out2 ∧ Ri a i s l (out ++ out2) came
theorem RsN.take (h : RsN w1 d a i vo out vc came came W) (hi : i ≤ 199) (q0 : 0 ≤ a) (q1 : a ≤ 255) : Calls Try.prog 17 #[.pointer (some ⟨d, 0, none⟩)] W fun e w' => ∃ A c out2, e = .returned (.slice A (List.length (α := It) out2) c) ∧ RsT w1 d a (i + 1) vo out vc came W.heap.size A c out2 w' := by
  have hln := h.lens
  obtain ⟨s, v, l, h1, h2⟩ := h
  obtain ⟨l1, l2⟩ := h2.lens
  refine (itk_any h1.rn.bc (by omega) h1.rn.hp (h2.ok (by omega) q0 q1)).mono ?_
  rintro e w' ⟨u, out2, v', rest, h3, h4⟩
  obtain ⟨A, c, rfl⟩ := h4.row.shape
  exact ⟨A, c, out2, h3, s, v', rest, h1.turn h4.tn ⟨h4.bc, h4.tn.below h1.rn.bc h1.rn.b, h4.hp⟩, h4.row, h2.take h4.pm h4.ord h4.lo h4.hi⟩
theorem RsT.lens {N : Nat} {A : Option Addr} {c : Nat} {out2 : List It} (h : RsT w1 d a i vo out vc came N A c out2 W) : out.length + out2.length ≤ i := by
  obtain ⟨s, v, l, h1, h2, h3⟩ := h
  obtain ⟨l1, l2⟩ := h3.lens
  rw [List.length_append] at l1
  omega
theorem RsT.more {N : Nat} {A : Option Addr} {c : Nat} {out2 : List It} (h : RsT w1 d a i vo out vc came N A c out2 W) {vo' : Value} {W' : World} (hr : ItR w1.heap.size W' vo' (out ++ out2)) (hg : W.grownBy W' vo.ownBlock) (hf : ∀ k, vo'.ownBlock = some k → vo.ownBlock = some k ∨ W.heap.size ≤ k) : RsN w1 d a i vo' (out ++ out2) vc came came W' := by
  obtain ⟨s, v, l, h1, h2, h3⟩ := h
  exact ⟨s, v, l, h1.more hr hg hf, h3⟩
theorem RsN.time {came' : List Int} (h : RsN w1 d a i vo out vc came came' W) {vc' : Value} {W0 W' : World} (h0 : Below W.heap.size W W0) (hr : TmR w1.heap.size W' vc' came') (hg : W0.grownBy W' vc.ownBlock) : RsN w1 d a i vo out vc' came' came' W' := by
  obtain ⟨s, v, l, h1, h2⟩ := h
  exact ⟨s, v, l, h1.time h0 hr hg, h2⟩
/-- Flushed. -/
structure Fz (w1 : World) (d : Nat) (s : Bs) (v : Value) (vo : Value) (o : List It) (vc : Value) (came : List Int) (W : World) : Prop where
  rz : Rz w1 d s v [] vo o vc came W
  closed : s.closed = true
  ok : s.ok
  ord : Ord o
  pm : o.Perm (mkI came)
  len : came.length ≤ 100
def RsF (w1 : World) (d : Nat) (vo : Value) (out : List It) (vc : Value) (came : List Int) (N : Nat) (A : Option Addr) (c : Nat) (out2 : List It) (w' : World) : Prop := ∃ s v, Rz w1 d s v [] vo out vc came w' ∧ ItR N w' (.slice A out2.length c) out2 ∧ s.closed = true ∧ s.ok ∧ Ord (out ++ out2) ∧ (out ++ out2).Perm (mkI came) ∧ came.length ≤ 100
theorem RsN.flush (h : RsN w1 d a i vo out vc came came W) (hi : i ≤ 100) (q0 : 0 ≤ a) (q1 : a ≤ 255) : Calls Try.prog 18 #[.pointer (some ⟨d, 0, none⟩)] W fun e w' => ∃ A c out2, e = .returned (.slice A (List.length (α := It) out2) c) ∧ RsF w1 d vo out vc came W.heap.size A c out2 w' := by
  obtain ⟨s, v, l, h1, h2⟩ := h
  obtain ⟨l1, l2⟩ := h2.lens
  refine (ifl_any h1.rn.bc (by omega) h1.rn.hp h2.tm).mono ?_
  rintro e w' ⟨u, out2, v', h3, h4⟩
  obtain ⟨A, c, rfl⟩ := h4.row.shape
  refine ⟨A, c, out2, h3, _, v', h1.turn h4.tn ⟨h4.bc, h4.tn.below h1.rn.bc h1.rn.b, Hp.nil⟩, h4.row, rfl, ?_, ?_, (h4.pm.append_left out).trans h2.pm, by omega⟩
  · obtain ⟨k1, k2, k3, k4, k5, k6, k7, k8⟩ := h2.ok (by omega) q0 q1
    exact ⟨k1, k2, k3, k4, k5, k6, k7, k8⟩
  · exact List.pairwise_append.2 ⟨h2.ord, h4.ord, fun x hx y hy => h2.le x hx y (h4.pm.mem_iff.1 hy)⟩
theorem RsF.lens {N : Nat} {A : Option Addr} {c : Nat} {out2 : List It} (h : RsF w1 d vo out vc came N A c out2 W) : out.length + out2.length ≤ 100 := by
  obtain ⟨s, v, h1, h2, h3, h4, h5, h6, h7⟩ := h
  have := h6.length_eq
  rw [List.length_append, mkI_len] at this
  omega
theorem RsF.more {N : Nat} {A : Option Addr} {c : Nat} {out2 : List It} (h : RsF w1 d vo out vc came N A c out2 W) {vo' : Value} {W' : World} (hr : ItR w1.heap.size W' vo' (out ++ out2)) (hg : W.grownBy W' vo.ownBlock) (hf : ∀ k, vo'.ownBlock = some k → vo.ownBlock = some k ∨ W.heap.size ≤ k) : ∃ s v, Fz w1 d s v vo' (out ++ out2) vc came W' := by
  obtain ⟨s, v, h1, h2, h3, h4, h5, h6, h7⟩ := h
  exact ⟨s, v, h1.more hr hg hf, h3, h4, h5, h6, h7⟩
end
end Go.Proofs.Ytophgpmjalpmaaa
