/-
  Bag.Add: one more.
-/
import Derived.Test.YtncnoilldlnpoaaBgBeg
import Derived.Deep.RegionHeld3
namespace Go.Proofs.Ytncnoilldlnpoaa
open Go.RowKit
set_option linter.unusedVariables false
set_option linter.unusedSimpArgs false
set_option maxRecDepth 100000

def negY (k : Ky) : Prop := k.1 < 0 ∨ k.2.1 < 0 ∨ k.2.2 < 0
instance (k : Ky) : Decidable (negY k) := by unfold negY; infer_instance
theorem gmin_any {W : World} {b : Nat} {k : Ky} (h : Fb W b 39 #[.int .i64 k.1, .int .i64 k.2.1, .int .i64 k.2.2]) :
    Calls Try.prog 14 #[.slice (some ⟨b, 0, none⟩) 3 3] W fun e w' => (∃ m : Int, e = .returned (.int .i64 m) ∧ (m < 0 ↔ negY k)) ∧ w' = W := by
  refine (Try.slices_Min_int b 0 3 3 [k.1, k.2.1, k.2.2] W (by omega) (Nat.le_refl _) (by omega) (fun j hj => ?_)).mono ?_
  · rw [h.cell]
    match j, hj with
    | 0, _ => rfl
    | 1, _ => rfl
    | 2, _ => rfl
  · rintro e w' ⟨rfl, rfl⟩
    refine ⟨⟨_, rfl, ?_⟩, rfl⟩
    unfold negY
    simp [Lib.minOf]
    omega
/-- Add, plain. -/
def addM (room : Int) (M : List (Int × Ky)) (x : Int) (k : Ky) : List (Int × Ky) × Int := if negY k then (M, 2) else if room ≤ M.length then (M, 6) else ((x, k) :: M, 0)
def AddP (B d : Nat) (room : Int) (am : Nat) (v : Value) (D : List Tz) (M : List (Int × Ky)) (W : World) (x : Int) (k : Ky) (e : Ending) (w' : World) : Prop :=
  e = .returned (.int .i64 (addM room M x k).2) ∧ ∃ v' D', Nx B d room am v D W v' D' (addM room M x k).1 w' ∧ TsR B w' v' (D'.map (·.t)) ∧ D'.length ≤ D.length + 1
section
variable {B d am : Nat} {room : Int} {v : Value} {D : List Tz} {M : List (Int × Ky)} {W : World}
theorem TsR.below {W' : World} {ts : List Int} (h : TsR B W v ts) (hb : Below W.heap.size W W') : TsR B W' v ts := by
  refine ⟨h.1, ?_⟩
  rcases id h.2 with y | ⟨g, cap, cur, h1, h0, h2, h3⟩
  · exact .inl y
  · exact .inr ⟨g, cap, cur, h1, h0, (hb.block g (Array.getElem?_eq_some_iff.1 h2).1).trans h2, h3⟩
theorem TsR.of {W' : World} {ts : List Int} (h : TsR B W v ts) (hk : ∀ q, vB v = some q → W'.heap[q]? = W.heap[q]?) : TsR B W' v ts := by
  refine ⟨h.1, ?_⟩
  rcases id h.2 with y | ⟨g, cap, cur, h1, h0, h2, h3⟩
  · exact .inl y
  · exact .inr ⟨g, cap, cur, h1, h0, (hk g (by rw [h1]; rfl)).trans h2, h3⟩
/-- A time's keys in memory, got by the map of times. -/
theorem Bk.getO (h : Bk B d room v am D M W) {z : Tz} (hz : z ∈ D) {E : List (Int × Nat)} (hE : E.Perm (D.map fun z => (z.t, z.b))) : getM z.t E = some z.b := by
  have hm : (z.t, z.b) ∈ E := hE.mem_iff.2 (List.mem_map.2 ⟨z, hz, rfl⟩)
  have hn : (E.map (·.1)).Nodup := by
    have h1 : (E.map (·.1)).Perm (D.map (·.t)) := by
      have := hE.map (·.1)
      rw [List.map_map] at this
      exact this
    exact h1.nodup_iff.2 (h.so.imp fun hab e => by omega)
  clear hE
  induction E with
  | nil => cases hm
  | cons p E ih =>
    simp only [List.map_cons, List.nodup_cons] at hn
    unfold getM
    rcases List.mem_cons.1 hm with e | hm
    · rw [← e, if_pos rfl]
    · rw [if_neg (fun (e : p.1 = z.t) => hn.1 (by rw [e]; exact List.mem_map.2 ⟨(z.t, z.b), hm, rfl⟩))]
      exact ih hm hn.2
theorem getO_none {x : Int} (hx : x ∉ D.map (·.t)) {E : List (Int × Nat)} (hE : E.Perm (D.map fun z => (z.t, z.b))) : getM x E = none := by
  have : x ∉ E.map (·.1) := fun hm => hx (by
    have h1 : (E.map (·.1)).Perm (D.map (·.t)) := by
      have := hE.map (·.1)
      rw [List.map_map] at this
      exact this
    exact h1.mem_iff.1 hm)
  clear hE hx
  induction E with
  | nil => rfl
  | cons p E ih =>
    simp only [List.map_cons, List.mem_cons, not_or] at this
    unfold getM
    rw [if_neg (fun e => this.1 e.symm)]
    exact ih this.2
/-- A time's keys set anew. -/
def setT (x : Int) (l : List (Ky × Nat)) (D : List Tz) : List Tz := D.map fun z => if z.t = x then ⟨z.t, z.b, l⟩ else z
theorem setT_t (x : Int) (l : List (Ky × Nat)) (D : List Tz) : (setT x l D).map (·.t) = D.map (·.t) := by
  unfold setT
  rw [List.map_map]
  refine List.map_congr_left fun z _ => ?_
  show (if z.t = x then (⟨z.t, z.b, l⟩ : Tz) else z).t = z.t
  split <;> rfl
theorem setT_b (x : Int) (l : List (Ky × Nat)) (D : List Tz) : (setT x l D).map (·.b) = D.map (·.b) := by
  unfold setT
  rw [List.map_map]
  refine List.map_congr_left fun z _ => ?_
  show (if z.t = x then (⟨z.t, z.b, l⟩ : Tz) else z).b = z.b
  split <;> rfl
theorem setT_tb (x : Int) (l : List (Ky × Nat)) (D : List Tz) : (setT x l D).map (fun z => (z.t, z.b)) = D.map (fun z => (z.t, z.b)) := by
  unfold setT
  rw [List.map_map]
  refine List.map_congr_left fun z _ => ?_
  show ((if z.t = x then (⟨z.t, z.b, l⟩ : Tz) else z).t, (if z.t = x then (⟨z.t, z.b, l⟩ : Tz) else z).b) = (z.t, z.b)
  split <;> rfl
theorem setT_len (x : Int) (l : List (Ky × Nat)) (D : List Tz) : (setT x l D).length = D.length := by simp [setT]
theorem setT_fp (x : Int) (l : List (Ky × Nat)) (D : List Tz) (q : Nat) : Fp d am v (setT x l D) q ↔ Fp d am v D q := by
  have : (∃ z ∈ setT x l D, q = z.b) ↔ ∃ z ∈ D, q = z.b := by
    have h1 : (∃ z ∈ setT x l D, q = z.b) ↔ q ∈ (setT x l D).map (·.b) := by simp [eq_comm]
    have h2 : (∃ z ∈ D, q = z.b) ↔ q ∈ D.map (·.b) := by simp [eq_comm]
    rw [h1, h2, setT_b]
  unfold Fp
  rw [this]
/-- The end of Add: the entry's count set, and the bag's. -/
theorem add_end (h : Bk B d room v am D M W) (hr : TsR B W v (D.map (·.t))) {z : Tz} (hz : z ∈ D) (k : Ky) {o : Obj} {n : Int} (hn : n = M.length + 1)
    (ho : ∀ W2 : World, z.b < W2.heap.size → Mq kE nE (putBlock W2 z.b o) z.b (putM k (cntK z.l k + 1) z.l)) :
    Nx B d room am v D W v (setT z.t (putM k (cntK z.l k + 1) z.l) D) ((z.t, k) :: M) ((putBlock W z.b o).setCell ⟨d, 1, none⟩ (.int .i64 n)) ∧ TsR B ((putBlock W z.b o).setCell ⟨d, 1, none⟩ (.int .i64 n)) v ((setT z.t (putM k (cntK z.l k + 1) z.l) D).map (·.t)) := by
  obtain ⟨l', hl'⟩ : ∃ l', l' = putM k (cntK z.l k + 1) z.l := ⟨_, rfl⟩
  obtain ⟨W2, hW2⟩ : ∃ W2, W2 = (putBlock W z.b o).setCell ⟨d, 1, none⟩ (.int .i64 n) := ⟨_, rfl⟩
  rw [← hW2, ← hl']
  have hzb := h.lt z.b (.inr (.inr (.inr ⟨z, hz, rfl⟩)))
  have dz : d ≠ z.b := (h.mi z hz).ne h.st
  have vz : vB v ≠ some z.b := fun e => by
    rcases h.ts with ⟨z1, _⟩ | ⟨g', off, c', cs', z1, z2, _⟩
    · rw [z1] at e; cases e
    · rw [z1] at e
      injection e with e
      have e' : g' = z.b := e
      exact (h.mi z hz).ne z2 e'
  have far : ∀ q, q ≠ d → q ≠ z.b → W2.heap[q]? = W.heap[q]? := fun q h1 h2 => by
    rw [hW2, Below.heap_setCell _ _ _ _ h1]
    exact putBlock_far h2
  have hsz : W2.heap.size = W.heap.size := by rw [hW2]; simp [putBlock_size]
  have uniq : ∀ y ∈ D, y.t = z.t → y = z := fun y hy e => by
    obtain ⟨i, hi⟩ := List.getElem?_of_mem hy
    obtain ⟨j, hj⟩ := List.getElem?_of_mem hz
    have hi' : (D.map (·.t))[i]? = some z.t := by rw [List.getElem?_map, hi]; simp [e]
    have hj' : (D.map (·.t))[j]? = some z.t := by rw [List.getElem?_map, hj]; rfl
    have hnd : (D.map (·.t)).Nodup := h.so.imp fun hab e => by omega
    have hli := (List.getElem?_eq_some_iff.1 hi').1
    have hlj := (List.getElem?_eq_some_iff.1 hj').1
    have : i = j := (List.getElem?_inj hli hnd).1 (hi'.trans hj'.symm)
    subst this
    rw [hi] at hj
    injection hj
  have mem : ∀ y ∈ setT z.t l' D, (y = ⟨z.t, z.b, l'⟩) ∨ (y ∈ D ∧ y.t ≠ z.t) := fun y hy => by
    unfold setT at hy
    obtain ⟨u, hu, e⟩ := List.mem_map.1 hy
    try dsimp only at e
    split at e
    · rename_i h1
      have := uniq u hu h1
      rw [this] at e
      exact .inl e.symm
    · rename_i h1
      exact .inr (e ▸ ⟨hu, h1⟩)
  have fpz : Fp d am v D z.b := .inr (.inr (.inr ⟨z, hz, rfl⟩))
  have hRt : TsR B W2 v ((setT z.t l' D).map (·.t)) := by
    rw [setT_t]
    exact hr.of fun q hq => far q (fun e => h.vd (e ▸ hq)) (fun e => vz (e ▸ hq))
  refine ⟨⟨⟨?_, ?_, fun y hy => ?_, ?_, ?_, ?_, fun y hy => ?_, fun q hq => h.ge q ((setT_fp _ _ _ q).1 hq), fun q hq => hsz ▸ h.lt q ((setT_fp _ _ _ q).1 hq), h.vd, fun y hy k' => ?_, fun y hy => ?_, fun y hy => ?_, fun y hy => ?_, fun y hy => ?_⟩, ?_, fun q hq => .inl ((setT_fp _ _ _ q).1 hq)⟩, hRt⟩
  · have : Fb (putBlock W z.b o) d 48 #[.int .i64 room, .int .i64 M.length, .map (some am), v] := (putBlock_far dz).trans h.st
    have := this.set 1 (.int .i64 n)
    rw [← hW2] at this
    rw [hn] at this
    exact this
  · obtain ⟨E, hE1, hE2⟩ := h.mo
    exact ⟨E, hE1.of (far am (fun e => hE1.ne h.st e.symm) (fun e => h.ne z hz e.symm)), by rw [setT_tb]; exact hE2⟩
  · rcases mem y hy with rfl | ⟨hyD, hyt⟩
    · have := ho W hzb
      show Mq kE nE W2 z.b l'
      rw [hl']
      refine this.of ?_
      rw [hW2]
      exact Below.heap_setCell _ _ _ _ dz.symm
    · refine (h.mi y hyD).of (far y.b (fun e => (h.mi y hyD).ne h.st e.symm) fun e => hyt ?_)
      obtain ⟨i, hi⟩ := List.getElem?_of_mem hyD
      obtain ⟨j, hj⟩ := List.getElem?_of_mem hz
      have hi' : (D.map (·.b))[i]? = some z.b := by rw [List.getElem?_map, hi]; simp [e]
      have hj' : (D.map (·.b))[j]? = some z.b := by rw [List.getElem?_map, hj]; rfl
      have : i = j := (List.getElem?_inj (List.getElem?_eq_some_iff.1 hi').1 h.un).1 (hi'.trans hj'.symm)
      subst this
      rw [hi] at hj
      injection hj with hj
      rw [hj]
  · rw [setT_t]
    exact h.ts.of fun q hq => far q (fun e => h.vd (e ▸ hq)) (fun e => vz (e ▸ hq))
  · rw [setT_t]; exact h.so
  · rw [setT_b]; exact h.un
  · rcases mem y hy with rfl | ⟨hyD, hyt⟩
    · exact h.ne z hz
    · exact h.ne y hyD
  · rcases mem y hy with rfl | ⟨hyD, hyt⟩
    · show cntK l' k' = ((z.t, k) :: M).count (z.t, k')
      rw [hl', cnt_put, List.count_cons]
      have h1 := h.cn z hz k'
      by_cases e : k' = k
      · subst e
        rw [if_pos rfl, h1]
        simp
      · rw [if_neg e, h1, if_neg (by simpa using fun e' => e e'.symm)]
        rfl
    · rw [List.count_cons, if_neg (by simpa using fun e _ => hyt e.symm)]
      exact h.cn y hyD k'
  · rcases mem y hy with rfl | ⟨hyD, hyt⟩
    · show sumN l' = ((z.t, k) :: M).countP _
      rw [hl', sum_put, List.countP_cons_of_pos (by simp), h.sm z hz]
    · rw [List.countP_cons_of_neg (by simpa using fun e => hyt e.symm)]
      exact h.sm y hyD
  · rcases mem y hy with rfl | ⟨hyD, hyt⟩
    · rw [hl']; exact nodup_put (h.nd z hz)
    · exact h.nd y hyD
  · rcases mem y hy with rfl | ⟨hyD, hyt⟩
    · rw [hl']; exact pos_put (by omega) (h.ps z hz)
    · exact h.ps y hyD
  · rw [setT_t]
    rcases List.mem_cons.1 hy with rfl | hy
    · exact List.mem_map.2 ⟨z, hz, rfl⟩
    · exact h.al y hy
  · rw [hW2]
    exact (Ch.put fpz).trans (G := Fp d am v D) (Ch.set (.inl rfl)) (fun q hq => .inl hq)
theorem put_put (W : World) (m : Nat) (o o' : Obj) : putBlock (putBlock W m o) m o' = putBlock W m o' := by
  unfold putBlock
  simp
theorem put_drew (W : World) (m q : Nat) (o : Obj) : putBlock (W.drewN q) m o = (putBlock W m o).drewN q := rfl
/-- What the counting of one more meets. -/
structure Tl (B d : Nat) (room : Int) (am : Nat) (v : Value) (D : List Tz) (M : List (Int × Ky)) (W : World) (x : Int) (k : Ky) (kb : Nat) (w2 : World) (zb st n0 : Nat) (o1 o2 : Obj) : Prop where
  c2 : w2.cell? ⟨d, 2, none⟩ = some (.map (some am))
  k0 : w2.cell? ⟨kb, 0, none⟩ = some (.int .i64 k.1)
  k1 : w2.cell? ⟨kb, 1, none⟩ = some (.int .i64 k.2.1)
  k2 : w2.cell? ⟨kb, 2, none⟩ = some (.int .i64 k.2.2)
  lo : (Instr.lookup 45 (.map (some am)) (.int .i64 x) false).run Try.prog w2 = .ok (.map (some zb)) w2
  li : (Instr.lookup 51 (.map (some zb)) (.agg #[.int .i64 k.1, .int .i64 k.2.1, .int .i64 k.2.2]) false).run Try.prog w2 = .ok (.int .i64 (n0 : Int)) w2
  me : (Instr.mapEntry 51 (.map (some zb)) (.agg #[.int .i64 k.1, .int .i64 k.2.1, .int .i64 k.2.2])).run Try.prog w2 = .ok (.tuple #[.int .i64 (n0 : Int), .int .i64 (st : Int)]) (putBlock w2 zb o1)
  l2 : (Instr.lookup 51 (.map (some zb)) (.agg #[.int .i64 k.1, .int .i64 k.2.1, .int .i64 k.2.2]) false).run Try.prog (putBlock w2 zb o1) = .ok (.int .i64 (n0 : Int)) (putBlock w2 zb o1)
  es : (Instr.entryStore 51 (.map (some zb)) (.int .i64 (st : Int)) (.int .i64 ((n0 : Int) + 1))).run Try.prog (putBlock w2 zb o1) = .ok () (putBlock w2 zb o2)
  m1 : (putBlock w2 zb o2).cell? ⟨d, 1, none⟩ = some (.int .i64 (M.length : Int))
  mf : (putBlock w2 zb o2).frozen? ⟨d, 1, none⟩ = false
  en : AddP B d room am v D M W x k (.returned (.int .i64 0)) ((putBlock w2 zb o2).setCell ⟨d, 1, none⟩ (.int .i64 ((M.length : Int) + 1)))
  nb : n0 ≤ 30000
theorem tail_of (h0 : Bk B d room v am D M W) {w2 : World} {v2 : Value} {D2 : List Tz} (hN : Nx B d room am v D W v2 D2 M w2) (hR : TsR B w2 v2 (D2.map (·.t))) (hD : D2.length ≤ D.length + 1) {z : Tz} (hz : z ∈ D2) {k : Ky} {kb : Nat} (hk : Fb w2 kb 39 #[.int .i64 k.1, .int .i64 k.2.1, .int .i64 k.2.2])
    (hneg : ¬ negY k) (hrm : ¬ room ≤ M.length) (hM : M.length ≤ 30000) : ∃ zb st n0 o1 o2, Tl B d room am v D M W z.t k kb w2 zb st n0 o1 o2 := by
  have h := hN.bk
  obtain ⟨E, hE1, hE2⟩ := h.mo
  have hi := h.mi z hz
  have hzl := hi.lt
  have dz : d ≠ z.b := hi.ne h.st
  have kz : kb ≠ z.b := hi.ne hk
  obtain ⟨st, o1, e1, e2, e3⟩ := hi.entry KLk mapI (zb := 0) zeroN k
  obtain ⟨o2, s1, s2⟩ := e3 (cntK z.l k + 1)
  have hg := h.getO hz hE2
  have q1 : (putBlock w2 z.b o2).heap[d]? = w2.heap[d]? := putBlock_far dz
  have f1 : Fb (putBlock w2 z.b o2) d 48 #[.int .i64 room, .int .i64 M.length, .map (some am), v2] := q1.trans h.st
  have hcnt : cntK z.l k ≤ 30000 := by
    rw [h.cn z hz k]
    exact Nat.le_trans List.count_le_length hM
  refine ⟨z.b, st, cntK z.l k, o1, o2, h.st.cell 2, hk.cell 0, hk.cell 1, hk.cell 2, ?_, ?_, ?_, ?_, ?_, f1.cell 1, f1.free 1, ?_, hcnt⟩
  · have := hE1.look KLi mapO zeroC z.t
    rw [hg] at this
    exact this
  · have := hi.look KLk mapI zeroN k
    have e : ((getM k z.l).map nE).getD (nE 0) = nE (cntK z.l k) := by unfold cntK; cases getM k z.l <;> rfl
    rw [e] at this
    exact this
  · have e : ((getM k z.l).map nE).getD (nE 0) = nE (cntK z.l k) := by unfold cntK; cases getM k z.l <;> rfl
    rw [e] at e1
    exact e1
  · have := (e2 w2 hzl).look KLk mapI zeroN k
    have e : ((getM k (putM k ((getM k z.l).getD 0) z.l)).map nE).getD (nE 0) = nE (cntK z.l k) := by
      have := cnt_put k k ((getM k z.l).getD 0) z.l
      rw [if_pos rfl] at this
      unfold cntK at this ⊢
      cases hq : getM k (putM k ((getM k z.l).getD 0) z.l) with
      | none => rw [hq] at this; rw [← this]; rfl
      | some y => rw [hq] at this; rw [← this]; rfl
    rw [e] at this
    exact this
  · have := s1 (putBlock w2 z.b o1) (putBlock_at (Array.getElem?_eq_getElem hzl))
    rw [put_put] at this
    have e : nE (cntK z.l k + 1) = .int .i64 ((cntK z.l k : Int) + 1) := by unfold nE; rw [Int.natCast_add]; rfl
    rw [e] at this
    exact this
  · obtain ⟨a1, a2⟩ := add_end (n := (M.length : Int) + 1) h hR hz k rfl s2
    have e : addM room M z.t k = ((z.t, k) :: M, 0) := by unfold addM; rw [if_neg hneg, if_neg hrm]
    unfold AddP
    rw [e]
    refine ⟨rfl, v2, _, ⟨a1.bk, hN.ch.trans a1.ch hN.fp, fun q hq => (a1.fp q hq).elim (fun h => hN.fp q h) (fun h => .inr (Nat.le_trans hN.ch.size h))⟩, a2, by rw [setT_len]; exact hD⟩
end
end Go.Proofs.Ytncnoilldlnpoaa
