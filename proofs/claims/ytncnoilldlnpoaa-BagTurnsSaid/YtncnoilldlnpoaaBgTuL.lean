/-
  BagTurns: what is added in two orders, and taken away again.
-/
import Derived.Test.YtncnoilldlnpoaaBgAw
import Derived.Test.YtncnoilldlnpoaaBgSame
import Derived.Test.YtncnoilldlnpoaaBgRemW
import Derived.Test.YtncnoilldlnpoaaBgArg
namespace Go.Proofs.Ytncnoilldlnpoaa
open Go.RowKit
set_option linter.unusedVariables false
set_option linter.unusedSimpArgs false
set_option maxRecDepth 100000

/-- What of acts is taken in. -/
def acc : List Ga → List (Int × Ky)
  | [] => []
  | r :: l => if negY r.key then acc l else (r.t, r.key) :: acc l
theorem acc_cons (r : Ga) (l : List Ga) : acc (r :: l) = if negY r.key then acc l else (r.t, r.key) :: acc l := rfl
theorem acc_len : ∀ l : List Ga, (acc l).length ≤ l.length
  | [] => Nat.le_refl _
  | r :: l => by
    have := acc_len l
    unfold acc
    split
    · simp; omega
    · simp; omega
theorem acc_app : ∀ a b : List Ga, acc (a ++ b) = acc a ++ acc b
  | [], _ => rfl
  | r :: a, b => by
    rw [List.cons_append, acc_cons, acc_cons, acc_app a b]
    split <;> rfl
theorem acc_good : ∀ {l : List Ga} {x : Int × Ky}, x ∈ acc l → ¬ negY x.2
  | [], x, h => by cases h
  | r :: l, x, h => by
    unfold acc at h
    split at h
    · exact acc_good h
    · rename_i hn
      rcases List.mem_cons.1 h with rfl | h
      · exact hn
      · exact acc_good h
theorem acc_take {l : List Ga} {i : Nat} {r : Ga} (h : l[i]? = some r) : acc (l.take (i + 1)) = acc (l.take i) ++ (if negY r.key then [] else [(r.t, r.key)]) := by
  rw [List.take_add_one, h, Option.toList_some, acc_app]
  congr 1
theorem acc_drop {l : List Ga} {i : Nat} {r : Ga} (h : l[i]? = some r) : acc (l.drop i) = if negY r.key then acc (l.drop (i + 1)) else (r.t, r.key) :: acc (l.drop (i + 1)) := by
  obtain ⟨hi, e⟩ := List.getElem?_eq_some_iff.1 h
  rw [List.drop_eq_getElem_cons hi, e]
  rfl
theorem acc_perm {a b : List Ga} (h : a.Perm b) : (acc a).Perm (acc b) := by
  induction h with
  | nil => exact List.Perm.refl _
  | cons x _ ih =>
    rw [acc_cons, acc_cons]
    split
    · exact ih
    · exact ih.cons _
  | swap x y l =>
    rw [acc_cons, acc_cons, acc_cons, acc_cons]
    by_cases h1 : negY x.key <;> by_cases h2 : negY y.key <;> simp only [h1, h2, if_true, if_false]
    · exact List.Perm.refl _
    · exact List.Perm.refl _
    · exact List.Perm.refl _
    · exact List.Perm.swap _ _ _
  | trans _ _ ih1 ih2 => exact ih1.trans ih2
theorem add_perm {M : List (Int × Ky)} {l : List Ga} {i : Nat} {r : Ga} (h : M.Perm (acc (l.take i))) (hr : l[i]? = some r) (hM : M.length < 100) : (addM 100 M r.t r.key).1.Perm (acc (l.take (i + 1))) := by
  rw [acc_take hr]
  unfold addM
  by_cases hn : negY r.key
  · rw [if_pos hn, if_pos hn, List.append_nil]
    exact h
  · rw [if_neg hn, if_neg hn, if_neg (by omega)]
    exact (h.cons _).trans (List.perm_append_comm (l₁ := [(r.t, r.key)]))
theorem del_perm2 {M : List (Int × Ky)} {l : List Ga} {i : Nat} {r : Ga} (h : M.Perm (acc (l.drop i))) (hr : l[i]? = some r) : (M.erase (r.t, r.key)).Perm (acc (l.drop (i + 1))) := by
  rw [acc_drop hr] at h
  by_cases hn : negY r.key
  · rw [if_pos hn] at h
    rw [List.erase_of_not_mem (fun hm => acc_good (h.mem_iff.1 hm) hn)]
    exact h
  · rw [if_neg hn] at h
    have := h.erase (r.t, r.key)
    rw [List.erase_cons_head] at this
    exact this
/-- Acts turned round by so many. -/
def rot (l : List Ga) (t : Nat) : List Ga := l.drop (t % l.length) ++ l.take (t % l.length)
theorem rot_perm (l : List Ga) (t : Nat) : (rot l t).Perm l := by
  unfold rot
  exact List.perm_append_comm.trans (by rw [List.take_append_drop])
theorem rot_len (l : List Ga) (t : Nat) : (rot l t).length = l.length := (rot_perm l t).length_eq
theorem rot_at (l : List Ga) (t i : Nat) (hi : i < l.length) : (rot l t)[i]? = l[(i + t) % l.length]? := by
  have hn : 0 < l.length := by omega
  have hr := Nat.mod_lt t hn
  unfold rot
  have e1 : (i + t) % l.length = (i + t % l.length) % l.length := by rw [Nat.add_mod, Nat.mod_eq_of_lt hi]
  rw [e1]
  generalize t % l.length = r at *
  by_cases h : i + r < l.length
  · rw [List.getElem?_append_left (by simp; omega), List.getElem?_drop, Nat.mod_eq_of_lt h, Nat.add_comm r i]
  · rw [List.getElem?_append_right (by simp; omega), List.length_drop]
    have e2 : (i + r) % l.length = i + r - l.length := by
      rw [Nat.mod_eq_sub_mod (by omega), Nat.mod_eq_of_lt (by omega)]
    rw [e2, List.getElem?_take_of_lt (by omega)]
    congr 1
    omega
/-- Both bags. -/
structure Tr (w1 : World) (da db : Nat) (l l2 : List Ga) (i : Nat) (Ma Mc : List (Int × Ky)) (Fa Fc : Nat → Prop) (wr : World) : Prop where
  a : Bo w1.heap.size da 100 i Ma Fa wr
  b : Bo w1.heap.size db 100 i Mc Fc wr
  ab : ∀ q, Fa q → ¬ Fc q
  pa : Ma.Perm (acc (l.take i))
  pb : Mc.Perm (acc (l2.take i))
  bl : Below w1.heap.size w1 wr
def TrS (w1 : World) (da db : Nat) (l l2 : List Ga) (i : Nat) (wr : World) : Prop := ∃ Ma Mc Fa Fc, Tr w1 da db l l2 i Ma Mc Fa Fc wr
section
variable {w1 wr : World} {da db i : Nat} {l l2 : List Ga} {Ma Mc : List (Int × Ky)} {Fa Fc : Nat → Prop}
theorem Tr.below {w' : World} (h : Tr w1 da db l l2 i Ma Mc Fa Fc wr) (hb : Below wr.heap.size wr w') : Tr w1 da db l l2 i Ma Mc Fa Fc w' :=
  ⟨h.a.below hb, h.b.below hb, h.ab, h.pa, h.pb, h.bl.trans (hb.mono h.bl.size)⟩
theorem Tr.la (h : Tr w1 da db l l2 i Ma Mc Fa Fc wr) : Ma.length ≤ i ∧ Mc.length ≤ i := by
  have h1 := acc_len (l.take i)
  have h2 := acc_len (l2.take i)
  have := h.pa.length_eq
  have := h.pb.length_eq
  simp only [List.length_take] at *
  omega
theorem tr_start (w1 : World) (l l2 : List Ga) : TrS w1 (w1.heap.size + 1) ((newW w1 100).heap.size + 1) l l2 0 (newW (newW w1 100) 100) := by
  obtain ⟨Fa, a1, a2⟩ := new_bo (B := w1.heap.size) (W := w1) (room := 100) (Nat.le_refl _)
  have hb := new_below w1 100
  have hb2 := new_below (newW w1 100) 100
  obtain ⟨Fc, b1, b2⟩ := new_bo (B := w1.heap.size) (W := newW w1 100) (room := 100) hb.size
  exact ⟨[], [], Fa, Fc, a1.below hb2, b1, fun q h1 h2 => by have := a1.lt q h1; have := b2 q h2; omega, List.Perm.refl _, List.Perm.refl _, hb.trans (hb2.mono hb.size)⟩
theorem tr_round (h : Tr w1 da db l l2 i Ma Mc Fa Fc wr) (hi : i ≤ 40) {r r2 : Ga} (hr : l[i]? = some r) (hr2 : l2[i]? = some r2) {bx : Nat} {cs : Array Value} (hbx : Fb wr bx 32 cs) (hxa : ¬ Fa bx) :
    Calls Try.prog 8 #[.pointer (some ⟨da, 0, none⟩), .int .i64 r.t, kE r.key] wr fun e w5 => (∃ c : Int, e = .returned (.int .i64 c)) ∧ Fb w5 bx 32 cs ∧
      Calls Try.prog 8 #[.pointer (some ⟨db, 0, none⟩), .int .i64 r2.t, kE r2.key] w5 fun e w6 => (∃ c : Int, e = .returned (.int .i64 c)) ∧ TrS w1 da db l l2 (i + 1) w6 := by
  obtain ⟨la, lb⟩ := h.la
  refine (bo_add h.a h.bl.size (by omega) (by omega) r.t r.key).mono ?_
  rintro e w5 ⟨rfl, Fa', a1, a2, a3⟩
  have hb5 : Below w1.heap.size w1 w5 := a2.below h.a.ge h.bl.size h.bl
  have b5 : Bo w1.heap.size db 100 i Mc Fc w5 := h.b.of fun q hq => a2.far q (h.b.lt q hq) (fun e => h.ab q e hq)
  have ab5 : ∀ q, Fa' q → ¬ Fc q := fun q h1 h2 => (a3 q h1).elim (fun e => h.ab q e h2) (fun e => by have := h.b.lt q h2; omega)
  refine ⟨⟨_, rfl⟩, (a2.far bx hbx.lt hxa).trans hbx, ?_⟩
  refine (bo_add b5 hb5.size (by omega) (by omega) r2.t r2.key).mono ?_
  rintro e w6 ⟨rfl, Fc', c1, c2, c3⟩
  have a6 := a1.of (W' := w6) fun q hq => c2.far q (a1.lt q hq) (fun e => ab5 q hq e)
  exact ⟨⟨_, rfl⟩, _, _, Fa', Fc', a6, c1, fun q h1 h2 => (c3 q h2).elim (fun e => ab5 q h1 e) (fun e => by have := a1.lt q h1; omega), add_perm h.pa hr (by omega), add_perm h.pb hr2 (by omega), c2.below b5.ge hb5.size hb5⟩
/-- One bag, some of it taken away. -/
def RmS (w1 : World) (d : Nat) (l : List Ga) (i : Nat) (wr : World) : Prop := ∃ M am v D, Bk w1.heap.size d 100 v am D M wr ∧ M.Perm (acc (l.drop i)) ∧ M.length ≤ 40 ∧ Below w1.heap.size w1 wr
theorem RmS.bl {w1 wr : World} {d : Nat} (h : RmS w1 d l i wr) : Below w1.heap.size w1 wr := by
  obtain ⟨_, _, _, _, _, _, _, h⟩ := h
  exact h
theorem rm_round {d : Nat} (h : RmS w1 d l i wr) {r : Ga} (hr : l[i]? = some r) (o : Obj) :
    Calls Try.prog 12 #[.pointer (some ⟨d, 0, none⟩), .int .i64 r.t, kE r.key] (wr.alloc o) fun e w5 => (∃ c : Int, e = .returned (.int .i64 c)) ∧ RmS w1 d l (i + 1) w5 := by
  obtain ⟨M, am, v, D, h1, h2, h3, h4⟩ := h
  have hb : Below wr.heap.size wr (wr.alloc o) := (Below.refl _ _).alloc (Nat.le_refl _) o
  have h5 : Below w1.heap.size w1 (wr.alloc o) := h4.alloc h4.size o
  refine (grem_any (h1.below hb) (by omega) r.t r.key).mono ?_
  rintro e w5 ⟨hc, v', D', hN⟩
  exact ⟨hc, _, am, v', D', hN.bk, del_perm2 h2 hr, Nat.le_trans (List.length_erase_le) h3, hN.ch.below (fun q hq => h1.ge q hq) h5.size h5⟩
/-- What both tell, all having been added. -/
theorem tr_end (h : Tr w1 da db l l2 i Ma Mc Fa Fc wr) (hi : i = l.length) (hl : l.length ≤ 40) (h2 : l2.Perm l) {bx : Nat} {a b : Int} (hbx : Fb wr bx 24 #[.int .i64 a, .int .i64 b]) :
    Calls Try.prog 10 #[.pointer (some ⟨da, 0, none⟩), .agg #[.int .i64 a, .int .i64 b]] wr fun e w3 => ∃ v3, e = .returned v3 ∧ (∃ A n c, v3 = .slice A n c) ∧ Fb w3 bx 24 #[.int .i64 a, .int .i64 b] ∧
      Calls Try.prog 10 #[.pointer (some ⟨db, 0, none⟩), .agg #[.int .i64 a, .int .i64 b]] w3 fun e w4 => ∃ v4, e = .returned v4 ∧ (∃ A n c, v4 = .slice A n c) ∧ Fb w4 bx 24 #[.int .i64 a, .int .i64 b] ∧
        Calls Try.prog 9 #[v3, v4] w4 fun e w5 => e = .returned (.bool true) ∧ Fb w5 bx 24 #[.int .i64 a, .int .i64 b] ∧ RmS w1 da l 0 w5 ∧
          ∃ n : Nat, n ≤ 40 ∧ Calls Try.prog 11 #[.pointer (some ⟨da, 0, none⟩)] w5 (fun e w' => e = .returned (.int .i64 (n : Int)) ∧ w' = w5) ∧ Calls Try.prog 11 #[.pointer (some ⟨db, 0, none⟩)] w5 (fun e w' => e = .returned (.int .i64 (n : Int)) ∧ w' = w5) := by
  obtain ⟨la, lb⟩ := h.la
  have hll : l2.length = l.length := h2.length_eq
  have pa := h.pa
  have pb := h.pb
  rw [hi, List.take_length] at pa
  rw [hi, ← hll, List.take_length] at pb
  have pab : Ma.Perm Mc := pa.trans ((acc_perm h2).symm.trans pb.symm)
  refine (bo_con h.a (by omega) a b).mono ?_
  rintro e w3 ⟨v3, L3, rfl, c3, e3, hb3⟩
  obtain ⟨g3, p3, q3, _⟩ := id e3
  refine ⟨v3, rfl, ⟨_, _, _, q3⟩, hbx.below hb3, ?_⟩
  refine (bo_con (h.b.below hb3) (by omega) a b).mono ?_
  rintro e w4 ⟨v4, L4, rfl, c4, e4, hb4⟩
  obtain ⟨g4, p4, q4, _⟩ := id e4
  refine ⟨v4, rfl, ⟨_, _, _, q4⟩, (hbx.below hb3).below hb4, ?_⟩
  have hL : L3 = L4 := c3.uniq ⟨c4.so, c4.ps, fun k => by
    rw [c4.cn]
    unfold cw
    exact (pab.countP_eq _).symm⟩
  refine (gsame_any (e3.below hb4) e4).mono ?_
  rintro e w5 ⟨rfl, hb5⟩
  have hb35 : Below wr.heap.size wr w5 := (hb3.trans (hb4.mono hb3.size)).trans (hb5.mono (Nat.le_trans hb3.size hb4.size))
  refine ⟨by rw [decide_eq_true hL], hbx.below hb35, ?_, Ma.length, by omega, bo_len (h.a.below hb35), ?_⟩
  · obtain ⟨am, v, D, k1, _⟩ := (h.a.below hb35).ex
    exact ⟨Ma, am, v, D, k1, by rw [List.drop_zero]; exact pa, by omega, h.bl.trans (hb35.mono h.bl.size)⟩
  · rw [pab.length_eq]
    exact bo_len (h.b.below hb35)
theorem cw_nil {L : List (Ky × Nat)} {a b : Int} (h : IsC L (cw [] a b)) : L = [] := by
  cases L with
  | nil => rfl
  | cons p L =>
    have h1 := h.ps p (.head _)
    have h2 := ((mem_cnt h.nd h.ps p).1 (.head _)).2
    rw [h.cn] at h2
    have h3 : cw [] a b p.1 = 0 := rfl
    omega
set_option maxHeartbeats 4000000 in
theorem gsame_nil (A : Option Addr) (c : Nat) (W : World) : Calls Try.prog 9 #[.slice A 0 c, .slice none 0 0] W fun e w' => e = .returned (.bool true) ∧ Below W.heap.size W w' := by
  have cE : Calls Try.prog 16 #[.slice A 0 c, .slice none 0 0] W fun e w' => e = .returned (.bool true) ∧ w' = W := by
    go_enter Try.func16, Try.ntmps16
    go_wp2
    go_loopg [13] 0 (fun gk s13 wr => s13 = .int .i64 0 ∧ wr = W)
    case atStart => exact ⟨rfl, rfl⟩
    case round =>
      obtain ⟨rfl, rfl⟩ := hrel
      go_wp2
      go_ret
      exact ⟨rfl, rfl⟩
  go_enter Try.func9, Try.ntmps9
  go_wp2_with (go_at_call 16; (with_reducible refine cE.mono ?_); rintro e w5 ⟨rfl, rfl⟩)
  go_ret
  exact ⟨rfl, Below.refl _ _⟩
/-- What is told of a bag from which all has been taken. -/
theorem rm_end {d : Nat} (h : RmS w1 d l l.length wr) {bx : Nat} {a b : Int} (hbx : Fb wr bx 24 #[.int .i64 a, .int .i64 b]) :
    Calls Try.prog 11 #[.pointer (some ⟨d, 0, none⟩)] wr (fun e w' => e = .returned (.int .i64 0) ∧ w' = wr) ∧
    Calls Try.prog 10 #[.pointer (some ⟨d, 0, none⟩), .agg #[.int .i64 a, .int .i64 b]] wr fun e w3 => ∃ A c, e = .returned (.slice A 0 c) ∧ Fb w3 bx 24 #[.int .i64 a, .int .i64 b] ∧
      Calls Try.prog 10 #[.pointer (some ⟨d, 0, none⟩), .agg #[.int .i64 a, .int .i64 b]] w3 fun e w4 => ∃ A c, e = .returned (.slice A 0 c) ∧ Below w1.heap.size w1 w4 := by
  obtain ⟨M, am, v, D, h1, h2, h3, h4⟩ := h
  rw [List.drop_length] at h2
  have hM : M = [] := List.length_eq_zero_iff.1 (by rw [h2.length_eq]; rfl)
  subst hM
  refine ⟨glen_any h1, (gcon_any h1 (by simp) a b).mono ?_⟩
  rintro e w3 ⟨v3, L3, rfl, c3, ⟨g3, p3, q3, _⟩, hb3⟩
  rw [cw_nil c3] at q3
  refine ⟨_, p3, by rw [q3]; rfl, hbx.below hb3, ?_⟩
  refine (gcon_any (h1.below hb3) (by simp) a b).mono ?_
  rintro e w4 ⟨v4, L4, rfl, c4, ⟨g4, p4, q4, _⟩, hb4⟩
  rw [cw_nil c4] at q4
  exact ⟨_, p4, by rw [q4]; rfl, h4.trans ((hb3.trans (hb4.mono hb3.size)).mono h4.size)⟩
end
end Go.Proofs.Ytncnoilldlnpoaa
