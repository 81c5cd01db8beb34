/-
  IngestOrders: two buffers side by side; what comes in in two orders.
-/
import Derived.Test.YtophgpmjalpmaaaIRisesM
namespace Go.Proofs.Ytophgpmjalpmaaa
open Go.RowKit
set_option linter.unusedVariables false
set_option linter.unusedSimpArgs false
set_option maxRecDepth 100000

/-! ### Plain -/
def mkP (tm : Nat → Int) (K : List Nat) : List It := K.zipIdx.map fun p => ⟨tm p.1, p.2, p.1, 0, 0⟩
theorem mkP_snoc (tm : Nat → Int) (K : List Nat) (k : Nat) : mkP tm (K ++ [k]) = mkP tm K ++ [⟨tm k, K.length, k, 0, 0⟩] := by
  unfold mkP
  rw [List.zipIdx_append]
  simp
theorem mkP_len (tm : Nat → Int) (K : List Nat) : (mkP tm K).length = K.length := by unfold mkP; simp
theorem mkP_mem {tm : Nat → Int} {K : List Nat} {x : It} (h : x ∈ mkP tm K) : ∃ k : Nat, k ∈ K ∧ x.a = k ∧ x.t = tm k := by
  unfold mkP at h
  obtain ⟨⟨k, j⟩, h1, rfl⟩ := List.mem_map.1 h
  exact ⟨k, List.mem_of_getElem? (List.mem_zipIdx_iff_getElem?.1 h1), rfl, rfl⟩
theorem zip_fst : ∀ (K : List Nat) (n : Nat), (K.zipIdx n).map (fun p => p.1) = K
  | [], n => rfl
  | k :: K, n => by rw [List.zipIdx_cons, List.map_cons, zip_fst K]
theorem mkP_keys (tm : Nat → Int) (K : List Nat) : (mkP tm K).map It.a = K.map fun (k : Nat) => (k : Int) := by
  unfold mkP
  rw [List.map_map]
  have := congrArg (List.map fun (k : Nat) => (k : Int)) (zip_fst K 0)
  rw [List.map_map] at this
  exact this
theorem mkP_times (tm : Nat → Int) (K : List Nat) : (mkP tm K).map It.t = K.map tm := by
  unfold mkP
  rw [List.map_map]
  have := congrArg (List.map tm) (zip_fst K 0)
  rw [List.map_map] at this
  exact this
theorem mkP_nums (tm : Nat → Int) (K : List Nat) : ((mkP tm K).map It.s) = (List.range K.length).map fun (k : Nat) => (k : Int) := by
  apply List.ext_getElem?
  intro i
  unfold mkP
  by_cases h : i < K.length
  · simp [h]
  · simp [h, List.getElem?_eq_none (Nat.le_of_not_lt h)]
theorem mkP_nodup (tm : Nat → Int) (K : List Nat) : ((mkP tm K).map It.s).Nodup := by
  rw [mkP_nums]
  refine List.Pairwise.map _ ?_ List.nodup_range
  intro a b h e
  exact h (by omega)
/-- A turn. -/
def rotK (n u i : Nat) : List Nat := (List.range i).map fun j => (j + u) % n
theorem rotK_succ (n u i : Nat) : rotK n u (i + 1) = rotK n u i ++ [(i + u) % n] := by unfold rotK; rw [List.range_succ, List.map_append]; rfl
theorem rotK_len (n u i : Nat) : (rotK n u i).length = i := by unfold rotK; simp
theorem rotK_perm (n u : Nat) (hn : 0 < n) : (rotK n u n).Perm (List.range n) := by
  have hr : u % n < n := Nat.mod_lt _ hn
  have e : rotK n u n = (List.range n).drop (u % n) ++ (List.range n).take (u % n) := by
    apply List.ext_getElem?
    intro i
    unfold rotK
    by_cases h : i < n
    · rw [List.getElem?_map, List.getElem?_range h]
      by_cases h2 : i < n - u % n
      · rw [List.getElem?_append_left (by simp; omega), List.getElem?_drop, List.getElem?_range (by omega)]
        show some ((i + u) % n) = _
        rw [Nat.add_mod, Nat.mod_eq_of_lt h, Nat.mod_eq_of_lt (by omega)]
        congr 1
        omega
      · rw [List.getElem?_append_right (by simp; omega), List.getElem?_take_of_lt (by simp; omega), List.getElem?_range (by simp; omega)]
        show some ((i + u) % n) = _
        rw [Nat.add_mod, Nat.mod_eq_of_lt h, Nat.mod_eq_sub_mod (by omega), Nat.mod_eq_of_lt (by omega)]
        congr 1
        simp
        omega
    · rw [List.getElem?_eq_none (by simp; omega), List.getElem?_eq_none (by simp; omega)]
  rw [e]
  have := List.perm_append_comm (l₁ := (List.range n).drop (u % n)) (l₂ := (List.range n).take (u % n))
  rwa [List.take_append_drop] at this
/-- Rising lists of the same numbers are the same. -/
theorem le_uniq : ∀ {l k : List Int}, l.Perm k → l.Pairwise (· ≤ ·) → k.Pairwise (· ≤ ·) → l = k
  | [], k, hp, _, _ => (List.Perm.nil_eq hp)
  | x :: l, [], hp, _, _ => absurd hp.length_eq (by simp)
  | x :: l, y :: k, hp, h1, h2 => by
    have hx : x ∈ y :: k := hp.mem_iff.1 List.mem_cons_self
    have hy : y ∈ x :: l := hp.mem_iff.2 List.mem_cons_self
    have e1 : x ≤ y := by
      rcases List.mem_cons.1 hy with rfl | hy
      · exact Int.le_refl _
      · exact (List.pairwise_cons.1 h1).1 y hy
    have e2 : y ≤ x := by
      rcases List.mem_cons.1 hx with rfl | hx
      · exact Int.le_refl _
      · exact (List.pairwise_cons.1 h2).1 x hx
    obtain rfl : x = y := by omega
    rw [le_uniq (List.Perm.cons_inv hp) (List.pairwise_cons.1 h1).2 (List.pairwise_cons.1 h2).2]
theorem ord_times {o : List It} (h : Ord o) : (o.map It.t).Pairwise (· ≤ ·) := by
  refine List.Pairwise.map _ ?_ h
  intro x y hxy
  unfold LeI at hxy
  omega
theorem times_same {x y : List It} {tm : Nat → Int} {K K' : List Nat} (hx : x.Perm (mkP tm K)) (hy : y.Perm (mkP tm K')) (hk : K'.Perm K) (ox : Ord x) (oy : Ord y) : x.map It.t = y.map It.t := by
  have h1 := hx.map It.t
  have h2 := hy.map It.t
  rw [mkP_times] at h1 h2
  exact le_uniq (h1.trans ((hk.map tm).symm.trans h2.symm)) (ord_times ox) (ord_times oy)
/-- How often a number is among keys. -/
def ctI (l : List It) (k : Nat) : Int := ((l.map It.a).count (k : Int) : Nat)
theorem ctI_snoc {o : List It} {i : Nat} {x : It} (hx : o[i]? = some x) (k : Nat) : ctI (o.take (i + 1)) k = ctI (o.take i) k + if x.a = (k : Int) then 1 else 0 := by
  have ht : o.take (i + 1) = o.take i ++ [x] := by rw [List.take_add_one, hx]; rfl
  unfold ctI
  rw [ht, List.map_append, List.count_append]
  simp only [List.map_cons, List.map_nil, List.count_singleton]
  by_cases e : x.a = (k : Int)
  · rw [if_pos e, e]; simp
  · rw [if_neg e]
    have : (x.a == (k : Int)) = false := by rw [beq_eq_false_iff_ne]; exact e
    simp [this]
theorem ctI_all {o : List It} {tm : Nat → Int} {K : List Nat} {n : Nat} (h : o.Perm (mkP tm K)) (hk : K.Perm (List.range n)) {k : Nat} (hkn : k < n) : ctI o k = 1 := by
  unfold ctI
  have h1 := h.map It.a
  rw [mkP_keys] at h1
  have h2 := h1.trans (hk.map fun (k : Nat) => (k : Int))
  rw [h2.count_eq]
  have hnd : ((List.range n).map fun (k : Nat) => (k : Int)).Nodup := by
    refine List.Pairwise.map _ ?_ List.nodup_range
    intro a b h e
    exact h (by omega)
  have hm : (k : Int) ∈ (List.range n).map fun (k : Nat) => (k : Int) := List.mem_map.2 ⟨k, List.mem_range.2 hkn, rfl⟩
  have h3 := List.nodup_iff_count.1 hnd (k : Int)
  have h4 := List.count_pos_iff.2 hm
  omega
theorem ctI_le (l : List It) (k : Nat) : 0 ≤ ctI l k ∧ ctI l k ≤ l.length := by
  unfold ctI
  have := List.count_le_length (a := (k : Int)) (l := l.map It.a)
  rw [List.length_map] at this
  omega
/-! ### Two buffers -/
structure R2 (w1 : World) (da db : Nat) (sa sb : Bs) (va vb : Value) (la lb : List It) (W : World) : Prop where
  a : Rn w1 da sa va la W
  b : Rn w1 db sb vb lb W
  ne : da ≠ db
  ap : ∀ k, va.ownBlock = some k → vb.ownBlock ≠ some k
section
variable {w1 W : World} {da db : Nat} {sa sb : Bs} {va vb : Value} {la lb : List It}
theorem R2.swap (h : R2 w1 da db sa sb va vb la lb W) : R2 w1 db da sb sa vb va lb la W := ⟨h.b, h.a, h.ne.symm, fun k h1 h2 => h.ap k h2 h1⟩
theorem R2.below {W' : World} (h : R2 w1 da db sa sb va vb la lb W) (hb : Below W.heap.size W W') : R2 w1 da db sa sb va vb la lb W' := ⟨h.a.below hb, h.b.below hb, h.ne, h.ap⟩
theorem R2.turn (h : R2 w1 da db sa sb va vb la lb W) {s' : Bs} {v' : Value} {l' : List It} {W' : World} (ht : Tn da va v' W W') (hr : Rn w1 da s' v' l' W') : R2 w1 da db s' sb v' vb l' lb W' := by
  refine ⟨hr, ⟨⟨(ht.block db h.b.bc.lt h.ne.symm (fun e => ?_)).trans h.b.bc.st, row_kept_tn ht h.b.bc.row (fun e => ?_) (fun k h1 h2 => h.ap k h2 h1), h.b.bc.gd⟩, ht.below h.a.bc h.b.b, h.b.hp⟩, h.ne, fun k hk e => ?_⟩
  · obtain ⟨cur, hc⟩ := row_block h.a.bc.row e
    have := h.b.bc.st
    unfold Fb at this
    rw [hc] at this
    injection this with this
    injection this with _ this
    exact buf_ne this.symm
  · obtain ⟨cur, hc⟩ := row_block h.b.bc.row e
    have := h.a.bc.st
    unfold Fb at this
    rw [hc] at this
    injection this with this
    injection this with _ this
    exact buf_ne this.symm
  · rcases ht.far k hk with x | x
    · exact h.ap k x e
    · have := (h.b.bc.row_ge e).2
      omega
end
structure Oi (tm : Nat → Int) (K : List Nat) (s : Bs) (l : List It) : Prop where
  lat : s.lat = 1000
  room : s.room = 1000
  closed : s.closed = false
  m0 : 0 ≤ s.mt
  m1 : s.mt ≤ 255
  nx : s.next = K.length
  lt : s.late = 0
  tb : ∀ k ∈ K, 0 ≤ tm k ∧ tm k ≤ 255
  pm : l.Perm (mkP tm K)
theorem Oi.start (tm : Nat → Int) : Oi tm [] (Bs.first 1000 1000) [] := ⟨rfl, rfl, rfl, Int.le_refl 0, by show (0 : Int) ≤ 255; decide, rfl, rfl, fun k hk => (by cases hk), List.Perm.refl _⟩
theorem Oi.ok {tm : Nat → Int} {K : List Nat} {s : Bs} {l : List It} (h : Oi tm K s l) (hk : K.length ≤ 100) : s.ok := by
  obtain ⟨h1, h2, h3, h4, h5, h6, h7, h8, h9⟩ := h
  exact ⟨by omega, by omega, by omega, by omega, by omega, by omega, by omega, by omega⟩
/-- Two buffers, behind i items of each. -/
def O2 (w1 : World) (da db : Nat) (tm : Nat → Int) (K K' : List Nat) (W : World) : Prop := ∃ sa sb va vb la lb, R2 w1 da db sa sb va vb la lb W ∧ Oi tm K sa la ∧ Oi tm K' sb lb
section
variable {w1 W : World} {da db : Nat} {tm : Nat → Int} {K K' : List Nat}
theorem O2.swap (h : O2 w1 da db tm K K' W) : O2 w1 db da tm K' K W := by
  obtain ⟨sa, sb, va, vb, la, lb, h1, h2, h3⟩ := h
  exact ⟨sb, sa, vb, va, lb, la, h1.swap, h3, h2⟩
theorem O2.b (h : O2 w1 da db tm K K' W) : Below w1.heap.size w1 W := by
  obtain ⟨sa, sb, va, vb, la, lb, h1, h2, h3⟩ := h
  exact h1.a.b
theorem O2.push (h : O2 w1 da db tm K K' W) (hK : K.length ≤ 99) (k : Nat) (ht : 0 ≤ tm k ∧ tm k ≤ 255) : Calls Try.prog 12 #[.pointer (some ⟨da, 0, none⟩), .int .i64 (tm k), kv k 0 0] W fun e w' => e = .returned (.int .i64 0) ∧ O2 w1 da db tm (K ++ [k]) K' w' := by
  obtain ⟨sa, sb, va, vb, la, lb, h1, h2, h3⟩ := h
  have hla : la.length = K.length := by have := h2.pm.length_eq; rwa [mkP_len] at this
  have hP := ipush_any h1.a.bc h1.a.b.size (by omega) h1.a.hp (h2.ok (by omega)) (tm k) k 0 0
  unfold PushPost at hP
  have htl : sa.tl (tm k) = false := by
    unfold Bs.tl Bs.mark
    cases hq : sa.mq with
    | false => rfl
    | true =>
      rw [if_pos rfl, Bool.true_and, h2.lat]
      have := h2.m1
      exact decide_eq_false (by omega)
  have hins : instB (tm k) = true := instB_iff.2 ⟨by omega, by omega⟩
  rw [Bs.push_ok h2.closed hins htl (by rw [h2.room]; omega)] at hP
  refine hP.mono ?_
  rintro e w' ⟨h4, v', l', h5, h6, h7, h8⟩
  have h8 : l'.Perm (la ++ [⟨tm k, sa.next, k, 0, 0⟩]) := h8
  refine ⟨h4, _, sb, v', vb, l', lb, h1.turn h6 ⟨h5, h6.below h1.a.bc h1.a.b, h7⟩, ?_, h3⟩
  have m0 := h2.m0
  have m1 := h2.m1
  refine ⟨h2.lat, h2.room, h2.closed, ?_, ?_, ?_, h2.lt, fun j hj => ?_, ?_⟩
  · show 0 ≤ (if behB sa.mq sa.mt (tm k) = true then sa.mt else tm k)
    split <;> omega
  · show (if behB sa.mq sa.mt (tm k) = true then sa.mt else tm k) ≤ 255
    split <;> omega
  · show sa.next + 1 = _
    rw [List.length_append, h2.nx]; simp
  · rcases List.mem_append.1 hj with hj | hj
    · exact h2.tb j hj
    · rw [List.mem_singleton.1 hj]; exact ht
  · rw [mkP_snoc, ← h2.nx]
    exact h8.trans (h2.pm.append_right _)
/-- One flushed. -/
def O2F (w1 : World) (da db : Nat) (tm : Nat → Int) (K K' : List Nat) (N : Nat) (A : Option Addr) (c : Nat) (x : List It) (W : World) : Prop := x.Perm (mkP tm K) ∧ Ord x ∧ ItR N W (.slice A x.length c) x ∧ ∃ sb vb lb, Rn w1 db sb vb lb W ∧ Oi tm K' sb lb ∧ db < N ∧ (∀ k, vb.ownBlock = some k → k < N) ∧ N ≤ W.heap.size
theorem O2.flush (h : O2 w1 da db tm K K' W) (hK : K.length ≤ 100) : Calls Try.prog 18 #[.pointer (some ⟨da, 0, none⟩)] W fun e w' => ∃ A c x, e = .returned (.slice A (List.length (α := It) x) c) ∧ O2F w1 da db tm K K' W.heap.size A c x w' := by
  obtain ⟨sa, sb, va, vb, la, lb, h1, h2, h3⟩ := h
  have hla : la.length = K.length := by have := h2.pm.length_eq; rwa [mkP_len] at this
  refine (ifl_any h1.a.bc (by omega) h1.a.hp (fun x hx => ?_)).mono ?_
  · obtain ⟨k, hk, _, ht⟩ := mkP_mem (h2.pm.mem_iff.1 hx)
    have := h2.tb k hk
    omega
  · rintro e w' ⟨u, out, v', h4, h5⟩
    obtain ⟨A, c, rfl⟩ := h5.row.shape
    have hR := h1.turn h5.tn ⟨h5.bc, h5.tn.below h1.a.bc h1.a.b, Hp.nil⟩
    exact ⟨A, c, out, h4, h5.pm.trans h2.pm, h5.ord, h5.row, sb, vb, lb, hR.b, h3, h1.b.bc.lt, fun k hk => (h1.b.bc.row_ge hk).2, h5.tn.size⟩
/-- Both flushed. -/
def O2G (w1 : World) (tm : Nat → Int) (K K' : List Nat) (N : Nat) (A : Option Addr) (c : Nat) (x : List It) (A' : Option Addr) (c' : Nat) (y : List It) (W : World) : Prop := (x.Perm (mkP tm K) ∧ Ord x ∧ ItR N W (.slice A x.length c) x) ∧ (y.Perm (mkP tm K') ∧ Ord y ∧ ItR N W (.slice A' y.length c') y) ∧ Below w1.heap.size w1 W
theorem O2F.flush {N : Nat} {A : Option Addr} {c : Nat} {x : List It} (h : O2F w1 da db tm K K' N A c x W) (hK : K'.length ≤ 100) : Calls Try.prog 18 #[.pointer (some ⟨db, 0, none⟩)] W fun e w' => ∃ A' c' y, e = .returned (.slice A' (List.length (α := It) y) c') ∧ O2G w1 tm K K' N A c x A' c' y w' := by
  obtain ⟨g1, g2, g3, sb, vb, lb, h1, h2, h3, h4, hN⟩ := h
  have hlb : lb.length = K'.length := by have := h2.pm.length_eq; rwa [mkP_len] at this
  refine (ifl_any h1.bc (by omega) h1.hp (fun x hx => ?_)).mono ?_
  · obtain ⟨k, hk, _, ht⟩ := mkP_mem (h2.pm.mem_iff.1 hx)
    have := h2.tb k hk
    omega
  · rintro e w' ⟨u, out, v', h5, h6⟩
    obtain ⟨A', c', rfl⟩ := h6.row.shape
    refine ⟨A', c', out, h5, ⟨g1, g2, h6.tn.row g3 h3 h4⟩, ⟨h6.pm.trans h2.pm, h6.ord, h6.row.mono hN⟩, h6.tn.below h1.bc h1.b⟩
end
/-! ### Counts -/
def CnR (g n : Nat) (f : Nat → Int) (W : World) : Prop := ∃ cs, Fb W g 3 cs ∧ cs.size = n ∧ ∀ k : Nat, k < n → cs[k]? = some (.int .i64 (f k))
theorem CnR.start (W : World) (n : Nat) : CnR W.heap.size n (fun _ => 0) (W.alloc (.cells (madeCells #[.int .i64 0] n) 3)) := by
  refine ⟨_, Fb.new _ _ _, size_madeCells _ _, fun k hk => ?_⟩
  have h := toList_madeCells_one (.int .i64 0) n
  rw [← Array.getElem?_toList, h, List.getElem?_replicate, if_pos hk]
theorem CnR.congr {g n : Nat} {f f' : Nat → Int} {W : World} (h : CnR g n f W) (he : ∀ k, k < n → f k = f' k) : CnR g n f' W := by
  obtain ⟨cs, h1, h2, h3⟩ := h
  exact ⟨cs, h1, h2, fun k hk => by rw [h3 k hk, he k hk]⟩
theorem CnR.drewN {g n : Nat} {f : Nat → Int} {W : World} (h : CnR g n f W) (q : Nat) : CnR g n f (W.drewN q) := h
theorem CnR.cells {g n : Nat} {f : Nat → Int} {W : World} (h : CnR g n f W) {k : Nat} (hk : k < n) : W.cell? ⟨g, k, none⟩ = some (.int .i64 (f k)) ∧ W.frozen? ⟨g, k, none⟩ = false ∧ g < W.heap.size := by
  obtain ⟨cs, h1, h2, h3⟩ := h
  exact ⟨(h1.cell k).trans (h3 k hk), h1.free k, h1.lt⟩
theorem CnR.set {g n : Nat} {f : Nat → Int} {W : World} (h : CnR g n f W) {k0 : Nat} (hk : k0 < n) (x : Int) : CnR g n (fun k => if k = k0 then x else f k) (W.setCell ⟨g, k0, none⟩ (.int .i64 x)) := by
  obtain ⟨cs, h1, h2, h3⟩ := h
  refine ⟨_, h1.set k0 _, by simpa using h2, fun k hk => ?_⟩
  rw [Array.getElem?_setIfInBounds]
  by_cases e : k0 = k
  · subst e
    rw [if_pos rfl, if_pos (by omega)]
    simp
  · rw [if_neg e, h3 k hk]
    have e2 : ¬ k = k0 := fun y => e y.symm
    simp [e2]
theorem int1Info : (Try.prog.info? 3).map (fun i => (i.zero, i.size, i.bytes)) = some (some (.int .i64 0), 1, 8) := by kernel_rfl
theorem mk_ints (n : Nat) (hn : n ≤ 1000) (W : World) : (Instr.makeSlice 30 (.int .i64 n) (.int .i64 n)).run Try.prog W = .ok (.slice (some ⟨W.heap.size, 0, none⟩) n n) (W.alloc (.cells (madeCells #[.int .i64 0] n) 3)) := by
  obtain ⟨i0, hi, hz0, hz1, hz2⟩ := info_parts int1Info
  have h := run_make (P := Try.prog) (w := W) 30 3 i0 (.int .i64 0) Try.underlying30 hi hz0 .i64 .i64 (n : Int) (n : Int) (by omega) (by omega) (by rw [hz2]; omega) (by omega)
  rw [hz1, show ((n : Int)).toNat = n by omega, Nat.mul_one] at h
  exact h
end Go.Proofs.Ytophgpmjalpmaaa
