/-
  IngestMarks's walk. (The walk out of imarks.py.)
-/
import Derived.Test.YtophgpmjalpmaaaIRun
import Derived.Deep.LoopGhost
namespace Go.Proofs.Ytophgpmjalpmaaa
open Go.RowKit
set_option linter.unusedVariables false
set_option linter.unusedSimpArgs false
set_option maxRecDepth 100000

structure Mi (a : Int) (i : Nat) (s : Bs) (l : List It) : Prop where
  lat : s.lat = a
  room : s.room = 1000
  closed : s.closed = false
  m0 : -1152921504606846976 ≤ s.mt
  m1 : s.mt ≤ 1152921504606846976
  n0 : 0 ≤ s.next
  l0 : 0 ≤ s.late
  sum : s.next + s.late ≤ i
  le : l.length ≤ i
  em : s.mq = false → l = []
  tm : ∀ x ∈ l, x.t ≤ 1152921504606846976
theorem Mi.ok {a : Int} {i : Nat} {s : Bs} {l : List It} (h : Mi a i s l) (hi : i ≤ 200) (q0 : 0 ≤ a) (q1 : a ≤ 255) : s.ok := by
  obtain ⟨h1, h2, h3, h4, h5, h6, h7, h8, h9, h10, h11⟩ := h
  exact ⟨by omega, by omega, by omega, by omega, by omega, by omega, by omega, by omega⟩
def MSt (w1 : World) (d : Nat) (a : Int) (i : Nat) (M : Int) (K : Bool) (W : World) : Prop := ∃ s v l, Rn w1 d s v l W ∧ Mi a i s l ∧ s.mark = M ∧ s.mq = K
def MHd (w1 : World) (d : Nat) (a : Int) (i : Nat) (M : Int) (K : Bool) (W : World) : Prop := ∃ s v l, Rn w1 d s v l W ∧ Mi a i s l ∧ s.mark = M ∧ s.mq = K ∧ ∀ x ∈ l, s.tl x.t = false
section
variable {w1 : World} {d : Nat} {a : Int} {i : Nat} {M : Int} {K : Bool} {W : World}
theorem MHd.st (h : MHd w1 d a i M K W) : MSt w1 d a i M K W := by
  obtain ⟨s, v, l, h1, h2, h3, h4, h5⟩ := h
  exact ⟨s, v, l, h1, h2, h3, h4⟩
theorem MSt.below {W' : World} (h : MSt w1 d a i M K W) (hb : Below W.heap.size W W') : MSt w1 d a i M K W' := by
  obtain ⟨s, v, l, h1, h2⟩ := h
  exact ⟨s, v, l, h1.below hb, h2⟩
theorem MHd.below {W' : World} (h : MHd w1 d a i M K W) (hb : Below W.heap.size W W') : MHd w1 d a i M K W' := by
  obtain ⟨s, v, l, h1, h2⟩ := h
  exact ⟨s, v, l, h1.below hb, h2⟩
theorem MHd.b (h : MHd w1 d a i M K W) : Below w1.heap.size w1 W := by
  obtain ⟨s, v, l, h1, h2⟩ := h
  exact h1.b
/-- The mark goes on. -/
theorem see_mark (s : Bs) (t : Int) : s.mq = true → (s.see t).mq = true ∧ s.mark ≤ (s.see t).mark := fun hq => by
  refine ⟨rfl, ?_⟩
  show s.mark ≤ (if true = true then (if behB s.mq s.mt t = true then s.mt else t) - s.lat else 0)
  unfold Bs.mark behB
  rw [hq, if_pos rfl, if_pos rfl, Bool.true_and]
  by_cases h : t < s.mt
  · rw [decide_eq_true h, if_pos rfl]; exact Int.le_refl _
  · rw [decide_eq_false h, if_neg (by decide)]; omega
theorem see_mt (s : Bs) (t : Int) (ht : instB t = true) (m0 : -1152921504606846976 ≤ s.mt) (m1 : s.mt ≤ 1152921504606846976) : -1152921504606846976 ≤ (s.see t).mt ∧ (s.see t).mt ≤ 1152921504606846976 := by
  have hi := instB_iff.1 ht
  show _ ≤ (if behB s.mq s.mt t = true then s.mt else t) ∧ (if behB s.mq s.mt t = true then s.mt else t) ≤ _
  split <;> omega
theorem MSt.tick (h : MSt w1 d a i M K W) (t : Int) : ∃ M' K', (K = true → K' = true ∧ M ≤ M') ∧ Calls Try.prog 14 #[.pointer (some ⟨d, 0, none⟩), .int .i64 t] W fun e w' => (∃ c, e = .returned (.int .i64 c)) ∧ MSt w1 d a (i + 1) M' K' w' := by
  obtain ⟨s, v, l, h1, h2, rfl, rfl⟩ := h
  have hT := h1.tick t
  obtain ⟨a1, a2, a3, a4, a5, a6, a7, a8, a9, a10, a11⟩ := h2
  have hsum : s.next + s.late ≤ ((i + 1 : Nat) : Int) := by omega
  have same : Mi a (i + 1) s l := ⟨a1, a2, a3, a4, a5, a6, a7, hsum, by omega, a10, a11⟩
  refine ⟨(s.tick t).1.mark, (s.tick t).1.mq, ?_, hT.mono ?_⟩
  · intro hq
    unfold Bs.tick
    split
    · exact ⟨hq, Int.le_refl _⟩
    · split
      · exact ⟨hq, Int.le_refl _⟩
      · split
        · exact ⟨hq, Int.le_refl _⟩
        · exact see_mark (s.seec t) t hq
  · rintro e w' ⟨h3, h4⟩
    refine ⟨⟨_, h3⟩, _, v, l, h4, ?_, rfl, rfl⟩
    unfold Bs.tick
    split
    · exact same
    · split
      · exact same
      · split
        · exact same
        · rename_i hi _
          have hi : instB t = true := by simpa using hi
          obtain ⟨b1, b2⟩ := see_mt (s.seec t) t hi a4 a5
          exact ⟨a1, a2, a3, b1, b2, a6, a7, hsum, by omega, (fun hq => by cases hq), a11⟩
theorem MSt.push (h : MSt w1 d a i M K W) (hi : i ≤ 199) (q0 : 0 ≤ a) (q1 : a ≤ 255) (t k0 k1 k2 : Int) : ∃ M' K', (K = true → K' = true ∧ M ≤ M') ∧ Calls Try.prog 12 #[.pointer (some ⟨d, 0, none⟩), .int .i64 t, kv k0 k1 k2] W fun e w' => (∃ c, e = .returned (.int .i64 c)) ∧ MSt w1 d a (i + 1) M' K' w' := by
  obtain ⟨s, v, l, h1, h2, rfl, rfl⟩ := h
  have hok := h2.ok (by omega) q0 q1
  have hlen := h2.le
  have hP := h1.push (by omega) hok t k0 k1 k2
  obtain ⟨a1, a2, a3, a4, a5, a6, a7, a8, a9, a10, a11⟩ := h2
  have hsum : s.next + s.late ≤ ((i + 1 : Nat) : Int) := by omega
  unfold RPush at hP
  refine ⟨(s.push l.length t).1.mark, (s.push l.length t).1.mq, ?_, hP.mono ?_⟩
  · intro hq
    unfold Bs.push
    split
    · exact ⟨hq, Int.le_refl _⟩
    · split
      · exact ⟨hq, Int.le_refl _⟩
      · split
        · exact ⟨hq, Int.le_refl _⟩
        · split
          · exact ⟨hq, Int.le_refl _⟩
          · exact see_mark { s with next := s.next + 1 } t hq
  · rintro e w' ⟨h3, v', l', h4, h5⟩
    refine ⟨⟨_, h3⟩, _, v', l', h4, ?_, rfl, rfl⟩
    have stay : l'.Perm l → l'.length ≤ i + 1 ∧ (s.mq = false → l' = []) ∧ ∀ x ∈ l', x.t ≤ 1152921504606846976 := fun hp => ⟨by rw [hp.length_eq]; omega, fun hq => by have := a10 hq; rw [this] at hp; exact List.perm_nil.1 hp, fun x hx => a11 x (hp.mem_iff.1 hx)⟩
    cases hins : instB t with
    | false =>
      rw [Bs.push_range a3 hins] at h5 ⊢
      obtain ⟨b1, b2, b3⟩ := stay h5
      exact ⟨a1, a2, a3, a4, a5, a6, a7, hsum, b1, b2, b3⟩
    | true =>
      have hit := instB_iff.1 hins
      cases htl : s.tl t with
      | true =>
        rw [Bs.push_late a3 hins htl] at h5 ⊢
        obtain ⟨b1, b2, b3⟩ := stay h5
        refine ⟨a1, a2, a3, a4, a5, a6, ?_, ?_, b1, b2, b3⟩
        · show 0 ≤ s.late + 1
          omega
        · show s.next + (s.late + 1) ≤ ((i + 1 : Nat) : Int)
          omega
      | false =>
        by_cases hr : s.room ≤ (l.length : Int)
        · rw [Bs.push_full a3 hins htl hr] at h5 ⊢
          obtain ⟨b1, b2, b3⟩ := stay h5
          exact ⟨a1, a2, a3, a4, a5, a6, a7, hsum, b1, b2, b3⟩
        · rw [Bs.push_ok a3 hins htl hr] at h5 ⊢
          have h5 : l'.Perm (l ++ [⟨t, s.next, k0, k1, k2⟩]) := h5
          have hle := h5.length_eq
          rw [List.length_append, List.length_singleton] at hle
          obtain ⟨b1, b2⟩ := see_mt { s with next := s.next + 1 } t hins a4 a5
          refine ⟨a1, a2, a3, b1, b2, ?_, a7, ?_, by omega, (fun hq => by cases hq), fun x hx => ?_⟩
          · show 0 ≤ s.next + 1
            omega
          · show s.next + 1 + s.late ≤ ((i + 1 : Nat) : Int)
            omega
          · rcases List.mem_append.1 (h5.mem_iff.1 hx) with hx | hx
            · exact a11 x hx
            · rw [List.mem_singleton.1 hx]; exact hit.2
theorem MSt.mark (h : MSt w1 d a i M K W) (hi : i ≤ 200) (q0 : 0 ≤ a) (q1 : a ≤ 255) : Calls Try.prog 22 #[.pointer (some ⟨d, 0, none⟩)] W fun e w' => e = .returned (.tuple #[.int .i64 M, .bool K]) ∧ MSt w1 d a i M K w' := by
  obtain ⟨s, v, l, h1, h2, rfl, rfl⟩ := h
  refine (h1.mark (h2.ok hi q0 q1)).mono ?_
  rintro e w' ⟨h3, h4⟩
  exact ⟨h3, s, v, l, h4, h2, rfl, rfl⟩
/-- Taken: the row of what was taken. -/
def MTk (w1 : World) (d : Nat) (a : Int) (i : Nat) (M : Int) (K : Bool) (B : Nat) (A : Option Addr) (c : Nat) (out : List It) (w' : World) : Prop := out.length ≤ 1000 ∧ ItR B w' (.slice A out.length c) out ∧ MHd w1 d a i M K w' ∧ ∀ x ∈ out, K = true ∧ x.t < M
theorem MSt.take (h : MSt w1 d a i M K W) (hi : i ≤ 200) (q0 : 0 ≤ a) (q1 : a ≤ 255) : Calls Try.prog 17 #[.pointer (some ⟨d, 0, none⟩)] W fun e w' => ∃ A c out, e = .returned (.slice A (List.length (α := It) out) c) ∧ MTk w1 d a i M K W.heap.size A c out w' := by
  obtain ⟨s, v, l, h1, h2, rfl, rfl⟩ := h
  have hle := h2.le
  refine (h1.take (by omega) (h2.ok hi q0 q1)).mono ?_
  rintro e w' ⟨u, out, v', rest, h3, h4⟩
  obtain ⟨A, c, rfl⟩ := h4.row.shape
  have hl := h4.pm.length_eq
  rw [List.length_append] at hl
  refine ⟨A, c, out, h3, by omega, h4.row, ⟨s, v', rest, h4.rn, ?_, rfl, rfl, h4.hi⟩, fun x hx => ?_⟩
  · obtain ⟨a1, a2, a3, a4, a5, a6, a7, a8, a9, a10, a11⟩ := h2
    refine ⟨a1, a2, a3, a4, a5, a6, a7, a8, by omega, fun hq => ?_, fun x hx => a11 x (h4.pm.mem_iff.1 (List.mem_append_right _ hx))⟩
    have hp := h4.pm
    rw [a10 hq] at hp
    exact (List.append_eq_nil_iff.1 (List.perm_nil.1 hp)).2
  · have := h4.lo x hx
    unfold Bs.tl at this
    simp only [Bool.and_eq_true, decide_eq_true_eq] at this
    exact this
/-- Flushed. -/
def MFk (w1 : World) (d : Nat) (M : Int) (K : Bool) (B : Nat) (A : Option Addr) (c : Nat) (out : List It) (w' : World) : Prop := out.length ≤ 1000 ∧ ItR B w' (.slice A out.length c) out ∧ (∃ s v, Rn w1 d s v [] w') ∧ ∀ x ∈ out, K = true ∧ M ≤ x.t
theorem MHd.flush (h : MHd w1 d a i M K W) (hi : i ≤ 200) : Calls Try.prog 18 #[.pointer (some ⟨d, 0, none⟩)] W fun e w' => ∃ A c out, e = .returned (.slice A (List.length (α := It) out) c) ∧ MFk w1 d M K W.heap.size A c out w' := by
  obtain ⟨s, v, l, h1, h2, rfl, rfl, h5⟩ := h
  have hle := h2.le
  refine (h1.flush (by omega) h2.tm).mono ?_
  rintro e w' ⟨u, out, v', h3, h4⟩
  obtain ⟨A, c, rfl⟩ := h4.row.shape
  have hl := h4.pm.length_eq
  refine ⟨A, c, out, h3, by omega, h4.row, ⟨_, v', h4.rn⟩, fun x hx => ?_⟩
  have hxl := h4.pm.mem_iff.1 hx
  have hq : s.mq = true := by
    cases hq : s.mq with
    | true => rfl
    | false => rw [h2.em hq] at hxl; cases hxl
  have := h5 x hxl
  unfold Bs.tl at this
  rw [hq, Bool.true_and] at this
  have := of_decide_eq_false this
  exact ⟨hq, by omega⟩
theorem rn_none {s : Bs} {v : Value} (h : Rn w1 d s v [] W) : Calls Try.prog 20 #[.pointer (some ⟨d, 0, none⟩)] W fun e w' => e = .returned (.int .i64 0) ∧ W = w' := h.len (by simp)
end
def MkRel (w1 : World) (d : Nat) (a : Int) (n g : Nat) (s7 s8 s33 : Value) (wr : World) : Prop := ∃ (i : Nat) (M : Int) (K : Bool), i + g = n ∧ s33 = .int .i64 i ∧ s7 = .int .i64 M ∧ s8 = .bool K ∧ MHd w1 d a i M K wr
def MoRel (w5 : World) (n g : Nat) (s : Value) (wr : World) : Prop := ∃ (j : Nat), j + g = n ∧ s = .int .i64 j ∧ Below w5.heap.size w5 wr
/-! ### The walk -/
set_option maxHeartbeats 64000000 in
theorem marks_walk (a : Int) (a0 : 0 ≤ a) (a1 : a ≤ 255) (l : List Ax) (hl : ∀ a ∈ l, a.ok) (A : Option Addr) (cap : Nat) (hc : l.length ≤ cap) (hm : cap ≤ maxLen) (w : World) (hs : SlAt w A 5 (l.map Ax.cells)) :
    Calls Try.prog 6 #[.int .u8 a, .slice A l.length cap] w fun e w' => e = .returned (.bool true) ∧ Below w.heap.size w w' := by
  have cA : ∀ {W : World}, Below w.heap.size w W → Calls Try.prog 9 #[] W fun e w' => e = .returned (.bool true) ∧ Below w.heap.size w w' := fun {W} hb => (iawake_ok W).mono fun _ _ ⟨x, y⟩ => ⟨x, hb.trans (y.mono hb.size)⟩
  have hB0 : Below w.heap.size w w := Below.refl _ _
  by_cases hz : 60 < l.length
  · have hzI : (60 : Int) < (l.length : Int) := by omega
    clear hz hl hc hm hs a0 a1
    go_enter Try.func6, Try.ntmps6
    go_wp2_with (first
      | (go_at_call 9; (with_reducible refine (cA hB0).mono ?_); rintro e w1 ⟨rfl, hB1⟩)
      | (go_at_call 9; (with_reducible refine (cA hB1).mono ?_); rintro e w2 ⟨rfl, hB2⟩))
    go_ret
    exact ⟨rfl, by assumption⟩
  have hzI : ¬ (60 : Int) < (l.length : Int) := by omega
  obtain ⟨n, hn⟩ : ∃ n, n = l.length := ⟨_, rfl⟩
  have hn60 : n ≤ 60 := by omega
  have hel : ∀ i, i < n → ∃ r : Ax, r.ok ∧ ∀ {W : World}, Below w.heap.size w W → ∃ g o, A = some ⟨g, o, none⟩ ∧ W.cell? ⟨g, o + i * 5, none⟩ = some (.int .u8 r.k) ∧ W.cell? ⟨g, o + i * 5 + 1, none⟩ = some (.int .i64 r.t) ∧ W.cell? ⟨g, o + i * 5 + 2, none⟩ = some (.int .i64 r.a) ∧ W.cell? ⟨g, o + i * 5 + 3, none⟩ = some (.int .i64 r.b) ∧ W.cell? ⟨g, o + i * 5 + 4, none⟩ = some (.int .i64 r.c) := fun i hi => by
    obtain ⟨r, hr⟩ : ∃ r, l[i]? = some r := ⟨_, List.getElem?_eq_getElem (by omega)⟩
    exact ⟨r, hl r (List.mem_of_getElem? hr), fun {W} hb => sl_at5 (hs.below hb) hr⟩
  have cN := fun W => inew_ok a 1000 a0 (by omega) (by decide) (by decide) W
  rw [← hn] at hzI ⊢
  have HEL := Lib.hid hel
  have HN := Lib.hid hn60
  have HA := Lib.hid (And.intro a0 a1)
  clear hz hl hc hm hs hel hn60 hn
  go_enter Try.func6, Try.ntmps6
  go_wp2_with (first
    | (go_at_call 9; (with_reducible refine (cA hB0).mono ?_); rintro e w1 ⟨rfl, hB1⟩)
    | (go_at_call 10; (with_reducible refine (cN _).mono ?_); rintro e w2 ⟨d, rfl, hD2, hb2⟩))
  have HB1 := Lib.hid hB1
  have HST := Lib.hid (show MkRel w1 d a n n (.int .i64 0) (.bool false) (.int .i64 0) w2 from ⟨0, 0, false, by omega, rfl, rfl, rfl, _, _, _, rn_new hD2 hb2, ⟨rfl, rfl, rfl, (by show (-1152921504606846976 : Int) ≤ 0; decide), (by show (0 : Int) ≤ 1152921504606846976; decide), Int.le_refl 0, Int.le_refl 0, (by show (0 : Int) + 0 ≤ ((0 : Nat) : Int); decide), Nat.le_refl 0, fun _ => rfl, fun x hx => (by cases hx)⟩, rfl, rfl, fun x hx => (by cases hx)⟩)
  clear hB0 hB1 hD2 hb2 cA cN a0 a1
  go_loopg [7, 8, 33] n (fun g s7 s8 s33 wr => MkRel w1 d a n g s7 s8 s33 wr)
  case atStart => exact HST.out
  case round =>
    clear HST
    obtain ⟨i, M, K, hig, rfl, rfl, rfl, hK⟩ := hrel
    have hi9 : (i : Int) ≤ 60 := by have := HN.out; omega
    have HI9 := Lib.hid (show i + 1 ≤ 200 by have := HN.out; omega)
    cases gk with
    | zero =>
      obtain rfl : i = n := by omega
      have hin : ¬ (i : Int) < (i : Int) := by omega
      have cF := hK.flush (by have := HN.out; omega)
      have HWR := Lib.hid hK.b
      clear hK hig
      go_wp2_with (go_at_call 18; (with_reducible refine cF.mono ?_); rintro e w3 ⟨A3, c3, out, rfl, hF3⟩; have ho3 := hF3.1; have HF3 := Lib.hid hF3; clear hF3)
      go_loopg [88] out.length (fun g s88 wr => MoRel w3 out.length g s88 wr)
      case atStart => exact ⟨0, by omega, rfl, Below.refl _ _⟩
      case round =>
        obtain ⟨j, hjg, rfl, hB⟩ := hrel
        have hj9 : (j : Int) ≤ 1000 := by have := HF3.out.1; omega
        cases gk with
        | zero =>
          obtain rfl : j = out.length := by omega
          have hjn : ¬ (out.length : Int) < (out.length : Int) := by omega
          obtain ⟨s5, v5, hR5⟩ := HF3.out.2.2.1
          have hR := hR5.below hB
          have cL := rn_none hR
          have HRB := Lib.hid hR.b
          clear hR hR5 hB hjg
          go_wp2_with (go_at_call 20; (with_reducible refine cL.mono ?_); rintro e w4 ⟨rfl, rfl⟩)
          go_ret
          exact ⟨rfl, HB1.out.trans (HRB.out.mono HB1.out.size)⟩
        | succ g2 =>
          have hjn : (j : Int) < (out.length : Int) := by omega
          have hjz : (0 : Int) ≤ (j : Int) := by omega
          obtain ⟨x, hx⟩ : ∃ x, out[j]? = some x := ⟨_, List.getElem?_eq_getElem (by omega)⟩
          have hrow := HF3.out.2.1.below hB
          obtain ⟨g6, c6, e6, _, _, _⟩ := hrow.full (by omega)
          injection e6 with e6 _ e7
          subst e6
          subst e7
          obtain ⟨q0, q1, q2, q3, q4⟩ := hrow.at hx
          obtain ⟨hKt, hge⟩ := HF3.out.2.2.2 x (List.mem_of_getElem? hx)
          have hlt : ¬ x.t < M := by omega
          have HJ := Lib.hid (show j + 1 + g2 = out.length from by omega)
          have HBB := Lib.hid hB
          subst hKt
          generalize x.t = xt at *
          generalize x.s = xs at *
          generalize x.a = xa at *
          generalize x.b = xb at *
          generalize x.c = xc at *
          clear hx hrow hjg hB hge
          go_wp2
          go_roundg g2
          case measure => exact Nat.lt_succ_self g2
          case rel => exact ⟨j + 1, HJ.out, by go_num, HBB.out.alloc HBB.out.size _⟩
    | succ g =>
      have hin : (i : Int) < (n : Int) := by omega
      have hiz : (0 : Int) ≤ (i : Int) := by omega
      obtain ⟨⟨k, t, ka, kb, kc⟩, ⟨⟨k0, k1⟩, ht, hka, hkb, hkc⟩, hcell⟩ := HEL.out i (by omega)
      obtain ⟨gg, og, rfl, c0, c1, c2, c3, c4⟩ := hcell (HB1.out.trans (hK.b.mono HB1.out.size))
      have HI := Lib.hid (show i + 1 + g = n from by omega)
      dsimp only at *
      have hX := hK.st.below ((Below.refl _ _).alloc (Nat.le_refl _) (.cells #[.int .u8 k, .int .i64 t, .int .i64 ka, .int .i64 kb, .int .i64 kc] 35))
      have cM := fun {W : World} {M : Int} {K : Bool} (h : MSt w1 d a (i + 1) M K W) => h.mark HI9.out HA.out.1 HA.out.2
      have cK := fun {W : World} {M : Int} {K : Bool} (h : MSt w1 d a (i + 1) M K W) => h.take HI9.out HA.out.1 HA.out.2
      obtain ⟨m, hkm⟩ : ∃ m, k % 8 = m := ⟨_, rfl⟩
      have m0 : 0 ≤ m := by omega
      have m1 : m ≤ 7 := by omega
      by_cases h4 : m = 4
      · subst h4
        obtain ⟨M', K', hMK, cT⟩ := hX.tick t
        clear hK hcell hig ht hka hkb hkc hX m0 m1
        rcases (show (K = false ∧ K' = false) ∨ (K = false ∧ K' = true) ∨ (K = true ∧ K' = true ∧ ¬ M' < M) from by
          cases K with
          | false => cases K' with
            | false => exact .inl ⟨rfl, rfl⟩
            | true => exact .inr (.inl ⟨rfl, rfl⟩)
          | true =>
            obtain ⟨e1, e2⟩ := hMK rfl
            exact .inr (.inr ⟨rfl, e1, by omega⟩)) with ⟨rfl, rfl⟩ | ⟨rfl, rfl⟩ | ⟨rfl, rfl, hlm⟩
        · clear hMK
          go_wp2_with (first
            | (go_at_call 14; (with_reducible refine cT.mono ?_); rintro e w3 ⟨⟨c, rfl⟩, hN3⟩)
            | (go_at_call 22; (with_reducible refine (cM hN3).mono ?_); rintro e w4 ⟨rfl, hN4⟩)
            | (go_at_call 17; (with_reducible refine (cK hN4).mono ?_); rintro e w5 ⟨A5, c5, out, rfl, hT5⟩; have ho5 := hT5.1; have HT5 := Lib.hid hT5; clear hT5))
          clear hN3 hN4 cM cK cT
          go_loopg [71] out.length (fun g s71 wr => MoRel w5 out.length g s71 wr)
          case atStart => exact ⟨0, by omega, rfl, Below.refl _ _⟩
          case round =>
            obtain ⟨j, hjg, rfl, hB⟩ := hrel
            have hj9 : (j : Int) ≤ 1000 := by have := HT5.out.1; omega
            cases gk with
            | zero =>
              obtain rfl : j = out.length := by omega
              have hjn : ¬ (out.length : Int) < (out.length : Int) := by omega
              have HE := Lib.hid (HT5.out.2.2.1.below hB)
              clear hB hjg
              go_wp2
              go_roundg g
              case measure => exact Nat.lt_succ_self g
              case rel => exact ⟨i + 1, M', false, HI.out, by go_num, rfl, rfl, HE.out⟩
            | succ g2 =>
              obtain ⟨x, hx⟩ : ∃ x, out[j]? = some x := ⟨_, List.getElem?_eq_getElem (by omega)⟩
              obtain ⟨hKt, hlt⟩ := HT5.out.2.2.2 x (List.mem_of_getElem? hx)
              cases hKt
        · clear hMK
          go_wp2_with (first
            | (go_at_call 14; (with_reducible refine cT.mono ?_); rintro e w3 ⟨⟨c, rfl⟩, hN3⟩)
            | (go_at_call 22; (with_reducible refine (cM hN3).mono ?_); rintro e w4 ⟨rfl, hN4⟩)
            | (go_at_call 17; (with_reducible refine (cK hN4).mono ?_); rintro e w5 ⟨A5, c5, out, rfl, hT5⟩; have ho5 := hT5.1; have HT5 := Lib.hid hT5; clear hT5))
          clear hN3 hN4 cM cK cT
          go_loopg [71] out.length (fun g s71 wr => MoRel w5 out.length g s71 wr)
          case atStart => exact ⟨0, by omega, rfl, Below.refl _ _⟩
          case round =>
            obtain ⟨j, hjg, rfl, hB⟩ := hrel
            have hj9 : (j : Int) ≤ 1000 := by have := HT5.out.1; omega
            cases gk with
            | zero =>
              obtain rfl : j = out.length := by omega
              have hjn : ¬ (out.length : Int) < (out.length : Int) := by omega
              have HE := Lib.hid (HT5.out.2.2.1.below hB)
              clear hB hjg
              go_wp2
              go_roundg g
              case measure => exact Nat.lt_succ_self g
              case rel => exact ⟨i + 1, M', true, HI.out, by go_num, rfl, rfl, HE.out⟩
            | succ g2 =>
              obtain ⟨x, hx⟩ : ∃ x, out[j]? = some x := ⟨_, List.getElem?_eq_getElem (by omega)⟩
              obtain ⟨hKt, hlt⟩ := HT5.out.2.2.2 x (List.mem_of_getElem? hx)
              have hjn : (j : Int) < (out.length : Int) := by omega
              have hjz : (0 : Int) ≤ (j : Int) := by omega
              have hrow := HT5.out.2.1.below hB
              obtain ⟨g6, c6, e6, _, _, _⟩ := hrow.full (by omega)
              injection e6 with e6 _ e7
              subst e6
              subst e7
              obtain ⟨q0, q1, q2, q3, q4⟩ := hrow.at hx
              have hge : ¬ M' ≤ x.t := by omega
              have HJ := Lib.hid (show j + 1 + g2 = out.length from by omega)
              have HBB := Lib.hid hB
              generalize x.t = xt at *
              generalize x.s = xs at *
              generalize x.a = xa at *
              generalize x.b = xb at *
              generalize x.c = xc at *
              clear hx hrow hjg hB hlt hKt
              go_wp2
              go_roundg g2
              case measure => exact Nat.lt_succ_self g2
              case rel => exact ⟨j + 1, HJ.out, by go_num, HBB.out.alloc HBB.out.size _⟩
        · clear hMK
          go_wp2_with (first
            | (go_at_call 14; (with_reducible refine cT.mono ?_); rintro e w3 ⟨⟨c, rfl⟩, hN3⟩)
            | (go_at_call 22; (with_reducible refine (cM hN3).mono ?_); rintro e w4 ⟨rfl, hN4⟩)
            | (go_at_call 17; (with_reducible refine (cK hN4).mono ?_); rintro e w5 ⟨A5, c5, out, rfl, hT5⟩; have ho5 := hT5.1; have HT5 := Lib.hid hT5; clear hT5))
          clear hN3 hN4 cM cK cT
          go_loopg [71] out.length (fun g s71 wr => MoRel w5 out.length g s71 wr)
          case atStart => exact ⟨0, by omega, rfl, Below.refl _ _⟩
          case round =>
            obtain ⟨j, hjg, rfl, hB⟩ := hrel
            have hj9 : (j : Int) ≤ 1000 := by have := HT5.out.1; omega
            cases gk with
            | zero =>
              obtain rfl : j = out.length := by omega
              have hjn : ¬ (out.length : Int) < (out.length : Int) := by omega
              have HE := Lib.hid (HT5.out.2.2.1.below hB)
              clear hB hjg
              go_wp2
              go_roundg g
              case measure => exact Nat.lt_succ_self g
              case rel => exact ⟨i + 1, M', true, HI.out, by go_num, rfl, rfl, HE.out⟩
            | succ g2 =>
              obtain ⟨x, hx⟩ : ∃ x, out[j]? = some x := ⟨_, List.getElem?_eq_getElem (by omega)⟩
              obtain ⟨hKt, hlt⟩ := HT5.out.2.2.2 x (List.mem_of_getElem? hx)
              have hjn : (j : Int) < (out.length : Int) := by omega
              have hjz : (0 : Int) ≤ (j : Int) := by omega
              have hrow := HT5.out.2.1.below hB
              obtain ⟨g6, c6, e6, _, _, _⟩ := hrow.full (by omega)
              injection e6 with e6 _ e7
              subst e6
              subst e7
              obtain ⟨q0, q1, q2, q3, q4⟩ := hrow.at hx
              have hge : ¬ M' ≤ x.t := by omega
              have HJ := Lib.hid (show j + 1 + g2 = out.length from by omega)
              have HBB := Lib.hid hB
              generalize x.t = xt at *
              generalize x.s = xs at *
              generalize x.a = xa at *
              generalize x.b = xb at *
              generalize x.c = xc at *
              clear hx hrow hjg hB hlt hKt
              go_wp2
              go_roundg g2
              case measure => exact Nat.lt_succ_self g2
              case rel => exact ⟨j + 1, HJ.out, by go_num, HBB.out.alloc HBB.out.size _⟩
      · have e4 : (m == 4) = false := by rw [beq_eq_false_iff_ne]; exact h4
        obtain ⟨M', K', hMK, cT⟩ := hX.push (by have := HN.out; omega) HA.out.1 HA.out.2 t ka kb kc
        clear hK hcell hig ht hka hkb hkc hX h4
        rcases (show (K = false ∧ K' = false) ∨ (K = false ∧ K' = true) ∨ (K = true ∧ K' = true ∧ ¬ M' < M) from by
          cases K with
          | false => cases K' with
            | false => exact .inl ⟨rfl, rfl⟩
            | true => exact .inr (.inl ⟨rfl, rfl⟩)
          | true =>
            obtain ⟨e1, e2⟩ := hMK rfl
            exact .inr (.inr ⟨rfl, e1, by omega⟩)) with ⟨rfl, rfl⟩ | ⟨rfl, rfl⟩ | ⟨rfl, rfl, hlm⟩
        · clear hMK
          go_wp2_with (first
            | (go_at_call 12; (with_reducible refine cT.mono ?_); rintro e w3 ⟨⟨c, rfl⟩, hN3⟩)
            | (go_at_call 22; (with_reducible refine (cM hN3).mono ?_); rintro e w4 ⟨rfl, hN4⟩)
            | (go_at_call 17; (with_reducible refine (cK hN4).mono ?_); rintro e w5 ⟨A5, c5, out, rfl, hT5⟩; have ho5 := hT5.1; have HT5 := Lib.hid hT5; clear hT5))
          clear hN3 hN4 cM cK cT
          go_loopg [71] out.length (fun g s71 wr => MoRel w5 out.length g s71 wr)
          case atStart => exact ⟨0, by omega, rfl, Below.refl _ _⟩
          case round =>
            obtain ⟨j, hjg, rfl, hB⟩ := hrel
            have hj9 : (j : Int) ≤ 1000 := by have := HT5.out.1; omega
            cases gk with
            | zero =>
              obtain rfl : j = out.length := by omega
              have hjn : ¬ (out.length : Int) < (out.length : Int) := by omega
              have HE := Lib.hid (HT5.out.2.2.1.below hB)
              clear hB hjg
              go_wp2
              go_roundg g
              case measure => exact Nat.lt_succ_self g
              case rel => exact ⟨i + 1, M', false, HI.out, by go_num, rfl, rfl, HE.out⟩
            | succ g2 =>
              obtain ⟨x, hx⟩ : ∃ x, out[j]? = some x := ⟨_, List.getElem?_eq_getElem (by omega)⟩
              obtain ⟨hKt, hlt⟩ := HT5.out.2.2.2 x (List.mem_of_getElem? hx)
              cases hKt
        · clear hMK
          go_wp2_with (first
            | (go_at_call 12; (with_reducible refine cT.mono ?_); rintro e w3 ⟨⟨c, rfl⟩, hN3⟩)
            | (go_at_call 22; (with_reducible refine (cM hN3).mono ?_); rintro e w4 ⟨rfl, hN4⟩)
            | (go_at_call 17; (with_reducible refine (cK hN4).mono ?_); rintro e w5 ⟨A5, c5, out, rfl, hT5⟩; have ho5 := hT5.1; have HT5 := Lib.hid hT5; clear hT5))
          clear hN3 hN4 cM cK cT
          go_loopg [71] out.length (fun g s71 wr => MoRel w5 out.length g s71 wr)
          case atStart => exact ⟨0, by omega, rfl, Below.refl _ _⟩
          case round =>
            obtain ⟨j, hjg, rfl, hB⟩ := hrel
            have hj9 : (j : Int) ≤ 1000 := by have := HT5.out.1; omega
            cases gk with
            | zero =>
              obtain rfl : j = out.length := by omega
              have hjn : ¬ (out.length : Int) < (out.length : Int) := by omega
              have HE := Lib.hid (HT5.out.2.2.1.below hB)
              clear hB hjg
              go_wp2
              go_roundg g
              case measure => exact Nat.lt_succ_self g
              case rel => exact ⟨i + 1, M', true, HI.out, by go_num, rfl, rfl, HE.out⟩
            | succ g2 =>
              obtain ⟨x, hx⟩ : ∃ x, out[j]? = some x := ⟨_, List.getElem?_eq_getElem (by omega)⟩
              obtain ⟨hKt, hlt⟩ := HT5.out.2.2.2 x (List.mem_of_getElem? hx)
              have hjn : (j : Int) < (out.length : Int) := by omega
              have hjz : (0 : Int) ≤ (j : Int) := by omega
              have hrow := HT5.out.2.1.below hB
              obtain ⟨g6, c6, e6, _, _, _⟩ := hrow.full (by omega)
              injection e6 with e6 _ e7
              subst e6
              subst e7
              obtain ⟨q0, q1, q2, q3, q4⟩ := hrow.at hx
              have hge : ¬ M' ≤ x.t := by omega
              have HJ := Lib.hid (show j + 1 + g2 = out.length from by omega)
              have HBB := Lib.hid hB
              generalize x.t = xt at *
              generalize x.s = xs at *
              generalize x.a = xa at *
              generalize x.b = xb at *
              generalize x.c = xc at *
              clear hx hrow hjg hB hlt hKt
              go_wp2
              go_roundg g2
              case measure => exact Nat.lt_succ_self g2
              case rel => exact ⟨j + 1, HJ.out, by go_num, HBB.out.alloc HBB.out.size _⟩
        · clear hMK
          go_wp2_with (first
            | (go_at_call 12; (with_reducible refine cT.mono ?_); rintro e w3 ⟨⟨c, rfl⟩, hN3⟩)
            | (go_at_call 22; (with_reducible refine (cM hN3).mono ?_); rintro e w4 ⟨rfl, hN4⟩)
            | (go_at_call 17; (with_reducible refine (cK hN4).mono ?_); rintro e w5 ⟨A5, c5, out, rfl, hT5⟩; have ho5 := hT5.1; have HT5 := Lib.hid hT5; clear hT5))
          clear hN3 hN4 cM cK cT
          go_loopg [71] out.length (fun g s71 wr => MoRel w5 out.length g s71 wr)
          case atStart => exact ⟨0, by omega, rfl, Below.refl _ _⟩
          case round =>
            obtain ⟨j, hjg, rfl, hB⟩ := hrel
            have hj9 : (j : Int) ≤ 1000 := by have := HT5.out.1; omega
            cases gk with
            | zero =>
              obtain rfl : j = out.length := by omega
              have hjn : ¬ (out.length : Int) < (out.length : Int) := by omega
              have HE := Lib.hid (HT5.out.2.2.1.below hB)
              clear hB hjg
              go_wp2
              go_roundg g
              case measure => exact Nat.lt_succ_self g
              case rel => exact ⟨i + 1, M', true, HI.out, by go_num, rfl, rfl, HE.out⟩
            | succ g2 =>
              obtain ⟨x, hx⟩ : ∃ x, out[j]? = some x := ⟨_, List.getElem?_eq_getElem (by omega)⟩
              obtain ⟨hKt, hlt⟩ := HT5.out.2.2.2 x (List.mem_of_getElem? hx)
              have hjn : (j : Int) < (out.length : Int) := by omega
              have hjz : (0 : Int) ≤ (j : Int) := by omega
              have hrow := HT5.out.2.1.below hB
              obtain ⟨g6, c6, e6, _, _, _⟩ := hrow.full (by omega)
              injection e6 with e6 _ e7
              subst e6
              subst e7
              obtain ⟨q0, q1, q2, q3, q4⟩ := hrow.at hx
              have hge : ¬ M' ≤ x.t := by omega
              have HJ := Lib.hid (show j + 1 + g2 = out.length from by omega)
              have HBB := Lib.hid hB
              generalize x.t = xt at *
              generalize x.s = xs at *
              generalize x.a = xa at *
              generalize x.b = xb at *
              generalize x.c = xc at *
              clear hx hrow hjg hB hlt hKt
              go_wp2
              go_roundg g2
              case measure => exact Nat.lt_succ_self g2
              case rel => exact ⟨j + 1, HJ.out, by go_num, HBB.out.alloc HBB.out.size _⟩
end Go.Proofs.Ytophgpmjalpmaaa
