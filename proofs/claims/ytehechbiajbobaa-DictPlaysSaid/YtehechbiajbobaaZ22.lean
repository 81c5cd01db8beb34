/-
  MERGED (a claim has at most 60 files): EApp, ECut, DCutW.
-/
import Derived.Test.YtehechbiajbobaaZ18
import Derived.Test.YtehechbiajbobaaZ21
/-
  APPEND OF A WHOLE ROW, BE IT EMPTY OR NOT; a row's beginning.
-/
namespace Go.Proofs.Ytehechbiajbobaa
open Go.RowKit
set_option linter.unusedVariables false
set_option linter.unusedSimpArgs false
set_option maxRecDepth 100000

theorem app_zeroA {t e : TypeId} {iT : TypeInfo} (ht : Try.prog.underlying t = some (.slice e)) (hT0 : Try.prog.info? e = some iT) (A A' : Option Addr) (n c c' : Nat) (hc : n ≤ c) (ty : TypeId) (w : World) : (Builtin.append_ #[t, t] ty #[.slice A n c, .slice A' 0 c']).run Try.prog w = .ok (.slice A n c) w := by
  cases A <;> cases A' <;> simp [Builtin.append_, run_underlying ht, sizeOf, typeInfo, hT0, Builtin.lenOf, Builtin.firstCells, loadCells, loadCellsFrom, storeCells, hc]
theorem row_shapeA {B : Nat} {W : World} {ty : TypeId} {z n : Nat} {v : Value} {xs : List Value} (h : W.ownsRow B ty z v n xs) : ∃ A c, v = .slice A n c ∧ n ≤ c := by
  rcases id h.2 with ⟨hv, hl⟩ | ⟨g, cap, cur, hv, _, _, hc, _⟩
  · exact ⟨none, 0, by rw [hv, hl], by omega⟩
  · exact ⟨_, cap, hv, hc⟩
theorem wp_app_any {o : Oper} {a : Act} {K : Act → World → Prop} {Q : Exit → Act → World → Prop} {w : World} (s x : Operand) (t : TypeId)
    (ho : o.op = .call { callee := .builtin .append, args := #[s, x], argTypes := #[t, t] })
    (e : TypeId) (i : TypeInfo) (z : Value) (size bytes : Nat) (ht : Try.prog.underlying t = some (.slice e)) (hi : Try.prog.info? e = some i) (hz : i.zero = some z)
    (hsize : i.size = size) (hby : i.bytes = bytes) (hzs : z.cells.size = size) (hsz : 0 < size) (hb9 : bytes ≤ 100)
    {B N n m : Nat} {v u : Value} {xs news : List Value} (hs : a.eval s = v) (hx : a.eval x = u) (hv : w.ownsRow B e size v n xs) (hu : w.ownsRow N e size u m news) (h1 : ∀ u ∈ news, u.oneCell' = true)
    (hnm : n + m ≤ 100000) (hB : B ≤ w.heap.size)
    (h : ∀ v' w', w'.ownsRow B e size v' (n + m) (xs ++ news) → w.grownBy w' v.ownBlock → (∀ k, v'.ownBlock = some k → v.ownBlock = some k ∨ w.heap.size ≤ k) → K (a.put o.dst v') w') : o.wp Try.prog a w K Q := by
  by_cases hm : m = 0
  · subst hm
    obtain ⟨A', c', rfl, _⟩ := row_shapeA hu
    obtain ⟨A, c, rfl, hc⟩ := row_shapeA hv
    have hn : news = [] := List.length_eq_zero_iff.1 (by rw [hu.1]; omega)
    subst hn
    unfold Oper.wp execOp
    simp only [ho, resolve, invoke, builtin, Sem.run_bind, Sem.run_pure, Result.andThen_ok, List.map_toArray, List.map_cons, List.map_nil, hs, hx, app_zeroA ht hi A A' n c c' hc]
    exact h _ _ (by rw [List.append_nil]; exact hv) ⟨rfl, rfl, rfl, Nat.le_refl _, fun _ _ _ => rfl⟩ fun k hk => .inl hk
  · obtain ⟨g, c, hu', _⟩ : ∃ g c, u = .slice (some ⟨g, 0, none⟩) m c ∧ True := by
      rcases id hu.2 with ⟨_, h0⟩ | ⟨g, cap, cur, e', _⟩
      · omega
      · exact ⟨g, cap, e', trivial⟩
    subst hu'
    have hbb : (n + m) * bytes ≤ 100000 * 100 := Nat.mul_le_mul hnm hb9
    refine wp_append_lies w s x t ho B e i z size bytes ht hi hz hsize hby hzs hsz v n xs hs hv ⟨g, 0, none⟩ m c news hx hu.1 (World.ownsRow.cells hu (g := g) rfl) h1 (by omega) (by unfold maxLen; omega) (by omega) hB _ rfl ?_
    intro g6 c6 w6 hown hgrow hloc hlt
    refine h _ _ hown hgrow fun k hk => ?_
    have e : some g6 = some k := hk
    injection e with e
    subst e
    rcases hloc with y | y
    · exact .inl y
    · right; omega
theorem slice_toT (A : Option Addr) (n c f : Nat) (hf : f ≤ c) (w : World) : (Instr.slice 28 (.slice A n c) none (some (.int .i64 (f : Int))) none).run Try.prog w = .ok (.slice A f c) w := by
  rw [run_slice_h w 28 A n c (by kernel_rfl) .i64 f (by omega) (by omega)]
  have hs : (sizeOf (Try.prog.elem 28)).run Try.prog w = .ok 4 w := by kernel_rfl
  rw [hs]
  cases A with
  | none => simp [sliced, Result.andThen]
  | some a => simp [sliced, Result.andThen, Addr.add]
theorem flat_takeC : ∀ (l : List Tm) (m : Nat), (l.take m).flatMap c4 = (l.flatMap c4).take (m * 4) := by
  intro l
  induction l with
  | nil => intro m; simp
  | cons x l ih =>
    intro m
    cases m with
    | zero => simp
    | succ m =>
      rw [List.take_succ_cons, List.flatMap_cons, List.flatMap_cons, ih m, show (m + 1) * 4 = m * 4 + 4 by omega]
      rfl
/-- A row's beginning. -/
theorem DtL.take {B : Nat} {W : World} {A : Option Addr} {n c : Nat} {L : List Tm} (h : DtL B W (.slice A n c) L) (f : Nat) (hf : f ≤ L.length) : DtL B W (.slice A f c) (L.take f) := by
  have hlen : (L.take f).length = f := by rw [List.length_take]; omega
  have hfl : (L.take f).flatMap c4 = (L.flatMap c4).take (f * 4) := flat_takeC L f
  refine ⟨?_, ?_⟩
  · rw [hlen, hfl, List.length_take, h.1]; omega
  · rcases id h.2 with ⟨hv, hl⟩ | ⟨g, cap, cur, hv, hge, hg, hn, hm, hz, ht⟩
    · injection hv with h1 h2 h3
      subst h1 h3
      left
      exact ⟨by rw [show f = 0 by omega], by rw [hlen]; omega⟩
    · injection hv with h1 h2 h3
      subst h1 h3
      right
      refine ⟨g, c, cur, by rw [hlen], hge, hg, by rw [hlen]; omega, hm, hz, ?_⟩
      rw [hlen, hfl, ← ht, List.take_take, Nat.min_eq_left (Nat.mul_le_mul_right 4 hf)]
theorem c4_one (L : List Tm) : ∀ u ∈ L.flatMap c4, u.oneCell' = true := fun x hx => by
  obtain ⟨t, _, hx⟩ := List.mem_flatMap.1 hx
  unfold c4 at hx
  simp at hx
  rcases hx with rfl | rfl | rfl | rfl <;> rfl
end Go.Proofs.Ytehechbiajbobaa

/-
  THE DOCUMENT's DICTIONARY: Cut.
-/
namespace Go.Proofs.Ytehechbiajbobaa
open Go.RowKit
set_option linter.unusedVariables false
set_option linter.unusedSimpArgs false
set_option maxRecDepth 100000

def ECutPost (B : Nat) (W : World) (room : Int) (L : List Tm) (f : Nat) (e : Ending) (w' : World) : Prop :=
  ∃ v', e = .returned (.tuple #[.agg #[.int .i64 room, v'], .int .i64 ((L.length - f : Nat) : Int)]) ∧ DtL B w' v' (L.take f) ∧ Below W.heap.size W w'
/-- The two boxes. -/
structure Ec2 (W : World) (g2 g4 : Nat) (room : Int) (v : Value) (w : World) : Prop where
  b : Below W.heap.size W w
  x2 : Fb w g2 30 #[.int .i64 room, v]
  x4 : Fb w g4 30 #[.int .i64 0, .slice none 0 0]
  n2 : W.heap.size ≤ g2
  n4 : W.heap.size ≤ g4
  ne : g2 ≠ g4
section
variable {W : World} {g2 g4 : Nat} {room : Int} {v : Value}
theorem Ec2.c {w : World} (h : Ec2 W g2 g4 room v w) : w.cell? ⟨g2, 0, none⟩ = some (.int .i64 room) ∧ w.cell? ⟨g2, 1, none⟩ = some v ∧ w.frozen? ⟨g2, 1, none⟩ = false ∧ g2 < w.heap.size ∧ w.cell? ⟨g4, 0, none⟩ = some (.int .i64 0) ∧ w.cell? ⟨g4, 1, none⟩ = some (.slice none 0 0) ∧ w.frozen? ⟨g4, 0, none⟩ = false ∧ w.frozen? ⟨g4, 1, none⟩ = false ∧ g4 < w.heap.size := ⟨h.x2.cell 0, h.x2.cell 1, d_free h.x2 1, h.x2.lt, h.x4.cell 0, h.x4.cell 1, d_free h.x4 0, d_free h.x4 1, h.x4.lt⟩
theorem Ec2.fin {B : Nat} {w : World} {L : List Tm} {u : Value} (h : Ec2 W g2 g4 room v w) (hd : DtL B w u L) (x y : Value) : Below W.heap.size W ((w.setCell ⟨g4, 0, none⟩ x).setCell ⟨g4, 1, none⟩ y) ∧ DtL B ((w.setCell ⟨g4, 0, none⟩ x).setCell ⟨g4, 1, none⟩ y) u L := by
  have h5 : Fb (w.setCell ⟨g4, 0, none⟩ x) g4 30 #[x, .slice none 0 0] := heap_setCell_same w g4 0 _ _ _ h.x4
  exact ⟨Below.setCell (Below.setCell h.b h.n4 _) h.n4 _, (hd.setc h.x4 x).setc h5 y⟩
theorem Ec2.set2 {w : World} (h : Ec2 W g2 g4 room v w) (v' : Value) : Ec2 W g2 g4 room v' (w.setCell ⟨g2, 1, none⟩ v') :=
  ⟨Below.setCell h.b h.n2 _, heap_setCell_same w g2 1 _ _ _ h.x2, (Below.heap_setCell _ _ _ _ h.ne.symm).trans h.x4, h.n2, h.n4, h.ne⟩
theorem Ec2.grown {w w' : World} {vv : Value} (h : Ec2 W g2 g4 room v w) (hg : w.grownBy w' vv.ownBlock) (hk : ∀ k, vv.ownBlock = some k → w.heap.size ≤ k ∨ (W.heap.size ≤ k ∧ k ≠ g2 ∧ k ≠ g4)) : Ec2 W g2 g4 room v w' := by
  have l2 := h.x2.lt
  have l4 := h.x4.lt
  refine ⟨h.b.grown hg h.b.size (fun k e => ?_), (hg.block g2 l2 (fun e => ?_)).trans h.x2, (hg.block g4 l4 (fun e => ?_)).trans h.x4, h.n2, h.n4, h.ne⟩
  · have := h.b.size; rcases hk k e with y | y <;> omega
  · rcases hk g2 e.symm with y | y
    · omega
    · exact y.2.1 rfl
  · rcases hk g4 e.symm with y | y
    · omega
    · exact y.2.2 rfl
end
set_option maxHeartbeats 8000000 in
theorem ecut_any {B : Nat} {W : World} {v : Value} {L : List Tm} (hL : DtL B W v L) (hB : B ≤ W.heap.size) (hl : L.length ≤ 90000) (room n : Int) :
    Calls Try.prog 21 #[.agg #[.int .i64 room, v], .int .i64 n] W (ECutPost B W room L (cutF n L.length)) := by
  obtain ⟨A, c, rfl⟩ := hL.shape
  obtain ⟨W2, hW2⟩ : ∃ W2, W2 = (W.alloc (.cells #[.int .i64 room, .slice A L.length c] 30)).alloc (.cells #[.int .i64 0, .slice none 0 0] 30) := ⟨_, rfl⟩
  have hE0 : Ec2 W W.heap.size (W.heap.size + 1) room (.slice A L.length c) W2 := by
    have h2 := Fb.new W 30 #[.int .i64 room, .slice A L.length c]
    have h4 := Fb.new (W.alloc (.cells #[.int .i64 room, .slice A L.length c] 30)) 30 #[.int .i64 0, .slice none 0 0]
    rw [hW2]
    exact ⟨((Below.refl _ _).alloc (Nat.le_refl _) _).alloc (by simp) _, h2.alloc _, by simpa using h4, Nat.le_refl _, by omega, by omega⟩
  have hD2 : DtL B W2 (.slice A L.length c) L := hL.below ⟨hE0.b.os, hE0.b.tape, hE0.b.output, hE0.b.size, hE0.b.block⟩
  obtain ⟨p0, p1, pf, pl, y0, y1, f0, f1, yl⟩ := hE0.c
  have HE0 := Lib.hid hE0
  have HL := Lib.hid hL
  have HD2 := Lib.hid hD2
  obtain ⟨f, hf⟩ : ∃ f, f = cutF n L.length := ⟨_, rfl⟩
  rw [← hf]
  have hfn : n < 0 ∧ f = 0 ∨ (0 ≤ n ∧ n < L.length ∧ n = (f : Int)) ∨ (L.length : Int) ≤ n ∧ 0 ≤ n ∧ f = L.length := by unfold cutF at hf; omega
  have HB := Lib.hid hB
  have HN := Lib.hid hl
  clear hf hL hB hl hE0 hD2
  have hend : ECutPost B W room L L.length (.returned (.tuple #[.agg #[.int .i64 room, .slice A L.length c], .int .i64 0])) ((W.alloc (.cells #[.int .i64 room, .slice A L.length c] 30)).alloc (.cells #[.int .i64 room, .slice A L.length c] 30)) := by
    have hb : Below W.heap.size W ((W.alloc (.cells #[.int .i64 room, .slice A L.length c] 30)).alloc (.cells #[.int .i64 room, .slice A L.length c] 30)) := ((Below.refl _ _).alloc (Nat.le_refl _) _).alloc (by simp) _
    exact ⟨_, by rw [Nat.sub_self]; rfl, by rw [List.take_length]; exact HL.out.below hb, hb⟩
  have HEND := Lib.hid hend
  have hx6 := fb_at (W := W.alloc (.cells #[.int .i64 room, .slice A L.length c] 30)) (b := W.heap.size + 1) 30 #[.int .i64 room, .slice A L.length c] (by simp)
  have HX6 := Lib.hid hx6
  clear hend hx6
  have hcase : ∀ m : Int, (m = n ∨ m = 0) → (L.length : Int) ≤ m → f = L.length := fun m hm hlm => by rcases hm with rfl | rfl <;> omega
  rcases hfn with ⟨h1, rfl⟩ | ⟨h0, h1, h2⟩ | ⟨h1, h2, rfl⟩
  · by_cases hz : L.length = 0
    · have hzz : (0 : Int) ≥ (L.length : Int) := by omega
      have hz2 := HEND.out
      have hx6 := HX6.out
      rw [hz] at hz2 hx6
      have u0 := hx6.cell 0
      have u1 := hx6.cell 1
      have ul := hx6.lt
      have HZ2 := Lib.hid hz2
      clear hz2
      rw [hz] at p1 hW2 hzz ⊢
      clear hcase hz
      go_enter Try.func21, Try.ntmps21
      go_wp2
      exact bodyPost_ret (v := .tuple #[.agg #[.int .i64 room, .slice A 0 c], .int .i64 0]) (by simp [results, Try.results21, go_sem, u0, u1, ul]) rfl HZ2.out
    · obtain ⟨gA, rfl⟩ : ∃ gA, A = some ⟨gA, 0, none⟩ := by
        rcases id HL.out.2 with ⟨_, h0⟩ | ⟨g, cap, cur, hv, _⟩
        · omega
        · injection hv with h1 _ _; exact ⟨g, h1⟩
      obtain ⟨iT, hT0, hT1, hT2, hT3⟩ := info_parts etInfo
      have hflt : 0 < L.length := by omega
      have hfc : 0 ≤ c := by
        rcases row_shapeA HD2.out with ⟨A', c', e, hc⟩
        injection e with _ _ e3
        omega
      have hsl := fun w => slice_toT (some ⟨gA, 0, none⟩) L.length c 0 hfc w
      have hltI : ¬ ((0 : Int) ≥ (L.length : Int)) := by omega
      have hwr : IntKind.i64.wrap ((L.length : Int) - 0) = ((L.length - 0 : Nat) : Int) := by rw [IntWalk.i64_in _ (by have := HN.out; omega)]; omega
      have hw64 : wrap64 (L.length : Int) = (L.length : Int) := IntWalk.wrap64_in _ ⟨by omega, by have := HN.out; omega⟩
      have HEB := Lib.hid (emp_at (B := W2.heap.size) (b := W.heap.size + 1 + 1) W2 (by rw [hW2]; simp) (Nat.le_refl _))
      have HTK := Lib.hid (show DtL B (W2.alloc (.cells #[] 32)) (.slice (some ⟨gA, 0, none⟩) 0 c) (L.take 0) from (HD2.out.take 0 (by omega)).below ((Below.refl _ _).alloc (Nat.le_refl _) _))
      have HEA := Lib.hid (show Ec2 W W.heap.size (W.heap.size + 1) room (.slice (some ⟨gA, 0, none⟩) L.length c) (W2.alloc (.cells #[] 32)) from ⟨HE0.out.b.alloc HE0.out.b.size _, HE0.out.x2.alloc _, HE0.out.x4.alloc _, HE0.out.n2, HE0.out.n4, HE0.out.ne⟩)
      have HL1 := Lib.hid (show (L.take 0).length = 0 from by rw [List.length_take]; omega)
      have HTR := Lib.hid (show (W2.alloc (.cells #[] 32)).ownsRow B 32 4 (.slice (some ⟨gA, 0, none⟩) 0 c) 0 ((L.take 0).flatMap c4) from by have h := HTK.out; unfold DtL at h; rw [HL1.out] at h; exact h)
      obtain ⟨q0, q1, qf, ql, u0, u1, g0, g1, ul⟩ := HEA.out.c
      have z2 := HE0.out.x4.lt
      have z3 := HE0.out.x2.lt
      clear hcase
      go_enter Try.func21, Try.ntmps21
      go_wp2_with (at_builtin; go_loud (rw [← hW2]; refine wpList_plain rfl fun _ hK => ?_; refine wp_app_any (.tmp 20) (.tmp 24) 28 rfl 32 iT (.agg #[.int .i64 0, .string ⟨#[]⟩, .string ⟨#[]⟩, .string ⟨#[]⟩]) 4 56 Try.underlying28 hT0 hT1 hT2 hT3 rfl (by decide) (by decide) rfl rfl (n := 0) (m := 0) HEB.out HTR.out (c4_one _) (by have := HN.out; omega) (by simp) ?_; intro v7 w7 hr7 hg7 hf7; rw [Nat.zero_add, List.nil_append] at hr7; obtain ⟨A7, c7, e7, _⟩ := row_shapeA hr7; subst e7; have hE7 := HEA.out.grown hg7 (fun k hk => by have e : some (W.heap.size + 1 + 1) = some k := hk; injection e with e; right; exact ⟨by have := HE0.out.b.size; omega, by omega, by omega⟩); have hE8 := hE7.set2 (.slice A7 (0) c7); have HE8 := Lib.hid hE8; have HD7 := Lib.hid (show DtL W2.heap.size w7 (.slice A7 (0) c7) (L.take 0) from by unfold DtL; rw [HL1.out]; exact hr7); have HX7 := Lib.hid hE7.x2; obtain ⟨a0, a1, af, al, b0, b1, h0, h1', bl⟩ := hE7.c; obtain ⟨s0, s1, sf, sl, t0, t1, k0, k1, tl⟩ := hE8.c; refine hK _ _ ?_; clear hr7 hg7 hf7 hK hE7 hE8))
      have hD8 := (DtL.setc (i := 1) HD7.out HX7.out (.slice A7 (0) c7))
      obtain ⟨r1, r2⟩ := HE8.out.fin hD8 (.int .i64 room) (.slice A7 0 c7)
      exact bodyPost_ret (v := .tuple #[.agg #[.int .i64 room, .slice A7 0 c7], .int .i64 ((L.length - 0 : Nat) : Int)]) (by simp [results, Try.results21, go_sem, t0, t1, tl, hwr, hw64]) rfl ⟨_, rfl, r2.mono (Nat.le_trans HB.out HE0.out.b.size), r1⟩
  · subst h2
    have h00 : ¬ (f : Int) < 0 := by omega
    obtain ⟨gA, rfl⟩ : ∃ gA, A = some ⟨gA, 0, none⟩ := by
      rcases id HL.out.2 with ⟨_, h0⟩ | ⟨g, cap, cur, hv, _⟩
      · omega
      · injection hv with h1 _ _; exact ⟨g, h1⟩
    obtain ⟨iT, hT0, hT1, hT2, hT3⟩ := info_parts etInfo
    have hflt : f < L.length := by omega
    have hfc : f ≤ c := by
      rcases row_shapeA HD2.out with ⟨A', c', e, hc⟩
      injection e with _ _ e3
      omega
    have hsl := fun w => slice_toT (some ⟨gA, 0, none⟩) L.length c f hfc w
    have hltI : ¬ (((f : Int) : Int) ≥ (L.length : Int)) := by omega
    have hwr : IntKind.i64.wrap ((L.length : Int) - (f : Int)) = ((L.length - f : Nat) : Int) := by rw [IntWalk.i64_in _ (by have := HN.out; omega)]; omega
    have hw64 : wrap64 ((L.length : Int) - (f : Int)) = ((L.length - f : Nat) : Int) := by rw [IntWalk.wrap64_in _ ⟨by omega, by have := HN.out; omega⟩]; omega
    have HEB := Lib.hid (emp_at (B := W2.heap.size) (b := W.heap.size + 1 + 1) W2 (by rw [hW2]; simp) (Nat.le_refl _))
    have HTK := Lib.hid (show DtL B (W2.alloc (.cells #[] 32)) (.slice (some ⟨gA, 0, none⟩) f c) (L.take f) from (HD2.out.take f (by omega)).below ((Below.refl _ _).alloc (Nat.le_refl _) _))
    have HEA := Lib.hid (show Ec2 W W.heap.size (W.heap.size + 1) room (.slice (some ⟨gA, 0, none⟩) L.length c) (W2.alloc (.cells #[] 32)) from ⟨HE0.out.b.alloc HE0.out.b.size _, HE0.out.x2.alloc _, HE0.out.x4.alloc _, HE0.out.n2, HE0.out.n4, HE0.out.ne⟩)
    have HL1 := Lib.hid (show (L.take f).length = f from by rw [List.length_take]; omega)
    have HTR := Lib.hid (show (W2.alloc (.cells #[] 32)).ownsRow B 32 4 (.slice (some ⟨gA, 0, none⟩) f c) f ((L.take f).flatMap c4) from by have h := HTK.out; unfold DtL at h; rw [HL1.out] at h; exact h)
    obtain ⟨q0, q1, qf, ql, u0, u1, g0, g1, ul⟩ := HEA.out.c
    have z2 := HE0.out.x4.lt
    have z3 := HE0.out.x2.lt
    clear hcase
    go_enter Try.func21, Try.ntmps21
    go_wp2_with (at_builtin; go_loud (rw [← hW2]; refine wpList_plain rfl fun _ hK => ?_; refine wp_app_any (.tmp 20) (.tmp 24) 28 rfl 32 iT (.agg #[.int .i64 0, .string ⟨#[]⟩, .string ⟨#[]⟩, .string ⟨#[]⟩]) 4 56 Try.underlying28 hT0 hT1 hT2 hT3 rfl (by decide) (by decide) rfl rfl (n := 0) (m := f) HEB.out HTR.out (c4_one _) (by have := HN.out; omega) (by simp) ?_; intro v7 w7 hr7 hg7 hf7; rw [Nat.zero_add, List.nil_append] at hr7; obtain ⟨A7, c7, e7, _⟩ := row_shapeA hr7; subst e7; have hE7 := HEA.out.grown hg7 (fun k hk => by have e : some (W.heap.size + 1 + 1) = some k := hk; injection e with e; right; exact ⟨by have := HE0.out.b.size; omega, by omega, by omega⟩); have hE8 := hE7.set2 (.slice A7 (f) c7); have HE8 := Lib.hid hE8; have HD7 := Lib.hid (show DtL W2.heap.size w7 (.slice A7 (f) c7) (L.take f) from by unfold DtL; rw [HL1.out]; exact hr7); have HX7 := Lib.hid hE7.x2; obtain ⟨a0, a1, af, al, b0, b1, h0, h1', bl⟩ := hE7.c; obtain ⟨s0, s1, sf, sl, t0, t1, k0, k1, tl⟩ := hE8.c; refine hK _ _ ?_; clear hr7 hg7 hf7 hK hE7 hE8))
    have hD8 := (DtL.setc (i := 1) HD7.out HX7.out (.slice A7 (f) c7))
    obtain ⟨r1, r2⟩ := HE8.out.fin hD8 (.int .i64 room) (.slice A7 f c7)
    exact bodyPost_ret (v := .tuple #[.agg #[.int .i64 room, .slice A7 f c7], .int .i64 ((L.length - f : Nat) : Int)]) (by simp [results, Try.results21, go_sem, t0, t1, tl, hwr, hw64]) rfl ⟨_, rfl, r2.mono (Nat.le_trans HB.out HE0.out.b.size), r1⟩
  · have hn0 : ¬ n < 0 := by omega
    have HZ2 := Lib.hid HEND.out
    have hx6 := HX6.out
    have u0 := hx6.cell 0
    have u1 := hx6.cell 1
    have ul := hx6.lt
    clear hcase
    go_enter Try.func21, Try.ntmps21
    go_wp2
    exact bodyPost_ret (v := .tuple #[.agg #[.int .i64 room, .slice A L.length c], .int .i64 0]) (by simp [results, Try.results21, go_sem, u0, u1, ul]) rfl HZ2.out
end Go.Proofs.Ytehechbiajbobaa

/-
  A DICTIONARY's CALL Cut: the walk.
-/
namespace Go.Proofs.Ytehechbiajbobaa
open Go.RowKit
set_option linter.unusedVariables false
set_option linter.unusedSimpArgs false
set_option maxRecDepth 100000

section
variable {B d m : Nat} {room : Int} {v : Value} {L : List Tm}
theorem slice_from (A : Option Addr) (n c f : Nat) (hf : f ≤ n) (w : World) : (Instr.slice 76 (.slice A n c) (some (.int .i64 (f : Int))) none none).run Try.prog w = .ok (.slice (if c = f then A else A.map (·.add f)) (n - f) (c - f)) w := by
  rw [run_slice_l w 76 A n c (by kernel_rfl) .i64 f (by omega) (by omega)]
  have hs : (sizeOf (Try.prog.elem 76)).run Try.prog w = .ok 1 w := by kernel_rfl
  rw [hs]
  simp [sliced, Result.andThen]
theorem slice_to (A : Option Addr) (n c f : Nat) (hf : f ≤ c) (w : World) : (Instr.slice 76 (.slice A n c) none (some (.int .i64 (f : Int))) none).run Try.prog w = .ok (.slice A f c) w := by
  rw [run_slice_h w 76 A n c (by kernel_rfl) .i64 f (by omega) (by omega)]
  have hs : (sizeOf (Try.prog.elem 76)).run Try.prog w = .ok 1 w := by kernel_rfl
  rw [hs]
  cases A with
  | none => simp [sliced, Result.andThen]
  | some a => simp [sliced, Result.andThen, Addr.add]
/-- The world between two deletions. -/
def CtI (W : World) (m : Nat) (L : List Tm) (f g : Nat) (s23 : Value) (wr : World) : Prop := ∃ j : Nat, j + g = L.length - f ∧ s23 = .int .i64 j ∧ Mp wr m (entC L f j) ∧ W.grownBy wr (some m)
set_option maxHeartbeats 8000000 in
theorem dcut_any {W : World} (h : Dc B d m room v L W) (hl : L.length ≤ 100000) (n : Int) :
    Calls Try.prog 22 #[.pointer (some ⟨d, 0, none⟩), .int .i64 n] W (CutPost B d m room v L W (cutF n L.length)) := by
  have cL := dlen_any h hl
  have hmm := cutF_int n L.length
  have hfl := cutF_le n L.length
  obtain ⟨M, hM⟩ : ∃ M, M = max n 0 := ⟨_, rfl⟩
  have hmx : ∀ (ts : Array TypeId) (ty : TypeId) w, (Builtin.max_ ts ty #[.int .i64 n, .int .i64 0]).run Try.prog w = .ok (.int .i64 M) w := fun ts ty w => by
    rw [run_max_int2, hM]
    congr 2
    split <;> omega
  have hmn : ∀ (ts : Array TypeId) (ty : TypeId) w, (Builtin.min_ ts ty #[.int .i64 M, .int .i64 (L.length : Int)]).run Try.prog w = .ok (.int .i64 (cutF n L.length : Int)) w := fun ts ty w => by
    rw [run_min_int2, ← hmm, ← hM]
    congr 2
    split <;> omega
  obtain ⟨f, hf⟩ : ∃ f, f = cutF n L.length := ⟨_, rfl⟩
  rw [← hf] at hmm hfl hmn ⊢
  clear hf hmm hM
  obtain ⟨c0, c1, c2⟩ := h.cells
  by_cases hlt : f < L.length
  · obtain ⟨A, c, rfl⟩ := h.shape
    obtain ⟨g, cur, rfl, hnc, hcur, hsz, htk⟩ : ∃ g cur, A = some ⟨g, 0, none⟩ ∧ L.length ≤ c ∧ W.heap[g]? = some (.cells cur 41 (0, 0)) ∧ cur.size = c ∧ cur.toList.take L.length = L.map Tm.val := by
      rcases id h.row.2 with ⟨hv, hz⟩ | ⟨g, c', cur, hv, _, hc, hnc, _, hz, ht⟩
      · omega
      · injection hv with h1 h2 h3
        subst h1 h3
        exact ⟨g, cur, rfl, hnc, hc, by omega, by simpa using ht⟩
    have hs1 := slice_from (some ⟨g, 0, none⟩) L.length c f hfl
    have hs2 := slice_to (some ⟨g, 0, none⟩) L.length c f (by omega)
    rw [if_neg (by omega)] at hs1
    have ead : (some (⟨g, 0, none⟩ : Addr)).map (·.add f) = some ⟨g, f, none⟩ := by
      show some ((⟨g, 0, none⟩ : Addr).add f) = _
      by_cases h0 : f = 0
      · subst h0; rfl
      · simp [Addr.add, h0]
    rw [ead] at hs1
    have hdm := h.d_m
    have hgm : g ≠ m := fun e => h.row_m (by rw [← e]; rfl)
    have hgd : g ≠ d := fun e => h.row_d (by rw [← e]; rfl)
    obtain ⟨k, hk⟩ : ∃ k, k = L.length - f := ⟨_, rfl⟩
    obtain ⟨c', hc'⟩ : ∃ k, k = c - f := ⟨_, rfl⟩
    have hk0 : 0 < k := by omega
    have hfk : f + k ≤ cur.size := by omega
    have hend := fun (W1 : World) => h.cut_end (W1 := W1) (cur := cur) hlt
    rw [← hk] at hs1 hend
    rw [← hc'] at hs1
    have hstart : CtI W m L f k (.int .i64 ((0 : Nat) : Int)) W := ⟨0, by omega, rfl, by rw [entC_start]; exact h.mp, ⟨rfl, rfl, rfl, Nat.le_refl _, fun _ _ _ => rfl⟩⟩
    have hstep : ∀ (wr : World) (j : Nat), j < k → Mp wr m (entC L f j) → W.grownBy wr (some m) → ∃ ty x o, wr.cell? ⟨g, f + j, none⟩ = some (.iface ty x) ∧ (∀ t, (Builtin.delete_ #[75, 41] t #[.map (some m), .iface ty x]).run Try.prog wr = .ok (.tuple #[]) (putBlock wr m o)) ∧ Mp (putBlock wr m o) m (entC L f (j + 1)) ∧ W.grownBy (putBlock wr m o) (some m) := fun wr j hj hmp hg => by
      obtain ⟨t, ht⟩ : ∃ t, L[f + j]? = some t := ⟨_, List.getElem?_eq_getElem (by omega)⟩
      have htk3 := h.ks t (List.mem_of_getElem? ht)
      obtain ⟨ty, x, hv⟩ := val_iface t htk3
      obtain ⟨e1, e2, e3⟩ := entC_step h.nd htk3 ht
      have hq := fun ty' => hmp.drop (entC_ks h.ks f j) t htk3 f (f + j) e1 e2 ty'
      obtain ⟨o, ho1, ho2⟩ := hq 0
      rw [e3] at ho2
      refine ⟨ty, x, o, ?_, ?_, ho2, ?_⟩
      · rw [← hv]
        obtain ⟨g2, cap2, ev, hc2⟩ := h.term ht
        injection ev with ev
        injection ev with ev
        injection ev with ev
        subst ev
        exact (World.cell?_of_block (hg.block g (h.row_ge (k := g) rfl).2 (fun e => hgm (Option.some.inj e)))).trans hc2
      · intro t'
        rw [← hv]
        obtain ⟨o', h1, h2⟩ := hq t'
        have : (Builtin.delete_ #[75, 41] t' #[.map (some m), t.val]).run Try.prog wr = (Builtin.delete_ #[75, 41] 0 #[.map (some m), t.val]).run Try.prog wr := rfl
        rw [this]; exact ho1
      · refine ⟨hg.os, hg.tape, hg.output, by simpa [putBlock] using hg.size, fun i hi hne => ?_⟩
        have him : i ≠ m := fun e => hne (by rw [e])
        rw [putBlock_far him]
        exact hg.block i hi hne
    have hcells : ∀ wr, W.grownBy wr (some m) → wr.cell? ⟨d, 1, none⟩ = some (.slice (some ⟨g, 0, none⟩) L.length c) ∧ wr.cell? ⟨d, 2, none⟩ = some (.map (some m)) ∧ wr.heap[g]? = some (.cells cur 41 (0, 0)) ∧ wr.heap[d]? = some (.cells #[.int .i64 room, .slice (some ⟨g, 0, none⟩) L.length c, .map (some m)] 78 (0, 0)) := fun wr hg => by
      have hd : Fb wr d 78 #[.int .i64 room, .slice (some ⟨g, 0, none⟩) L.length c, .map (some m)] := (hg.block d h.st.lt (fun e => hdm (Option.some.inj e))).trans h.st
      exact ⟨hd.cell 1, hd.cell 2, (hg.block g (h.row_ge (k := g) rfl).2 (fun e => hgm (Option.some.inj e))).trans hcur, hd⟩
    have HSP := Lib.hid hstep
    have HCL := Lib.hid hcells
    have HST := Lib.hid hstart
    have HE := Lib.hid hend
    have HCU := Lib.hid hcur
    have HK := Lib.hid hk
    have HK0 := Lib.hid hk0
    have HFK := Lib.hid hfk
    have HKL := Lib.hid (show k ≤ 100000 by omega)
    have HGD := Lib.hid hgd
    have hlk : (f : Int) ≤ (L.length : Int) := by omega
    clear h hl hlt hnc hcur hsz htk hdm hgm hgd hk hc' hk0 hfk hend hstart hstep hcells ead hfl
    go_enter Try.func22, Try.ntmps22
    go_wp2_with (go_at_call 25; (with_reducible refine cL.mono ?_); rintro e w1 ⟨rfl, rfl⟩)
    go_loopg [23] k (fun gk s23 wr => CtI w1 m L f gk s23 wr)
    case atStart => exact HST.out
    case round =>
      obtain ⟨j, hjk, rfl, hmp, hg⟩ := hrel
      obtain ⟨c1, c2, hrg, hrd⟩ := HCL.out wr hg
      have HK' := HK.out
      cases gk with
      | zero =>
        have hj : j = k := by omega
        subst hj
        have hin : ¬ (j : Int) < (j : Int) := by omega
        have hcl := fun ty => dclear wr g f j c' cur hrg HFK.out HK0.out ty
        obtain ⟨W2, hW2⟩ : ∃ W2, W2 = wr.setRow g (cur.toList.take f ++ List.replicate j Value.nilIface ++ cur.toList.drop (f + j)).toArray := ⟨_, rfl⟩
        have hrd2 : Fb W2 d 78 #[.int .i64 room, .slice (some ⟨g, 0, none⟩) L.length c, .map (some m)] := by
          unfold Fb
          rw [hW2]
          unfold World.setRow
          simp [Array.getElem?_modify, HGD.out, hrd]
        have p1 := hrd2.cell 1
        have pf := d_free hrd2 1
        have hfin := HE.out wr (by rw [HK', ← hjk, Nat.add_zero] at *; exact hmp) hg HCU.out
        rw [← hW2] at hcl hfin
        have HF := Lib.hid hfin
        have HK2 := Lib.hid HK'
        clear hW2 hrd2 hfin hrg hrd hmp hg hjk HK' HST HSP
        go_wp2
        go_ret
        obtain ⟨r1, r2⟩ := HF.out
        exact ⟨_, by rw [← HK2.out]; rfl, r1, r2⟩
      | succ gk =>
        have hin : (j : Int) < (k : Int) := by omega
        have hj0 : (0 : Int) ≤ (j : Int) := by omega
        obtain ⟨ty, x, o, hcell, hdel, hmp2, hg2⟩ := HSP.out wr j (by omega) hmp hg
        obtain ⟨Wn, hWn⟩ : ∃ Wn, Wn = putBlock wr m o := ⟨_, rfl⟩
        rw [← hWn] at hdel hmp2 hg2
        have HM := Lib.hid hmp2
        have HG := Lib.hid hg2
        have HJ := Lib.hid (show j + 1 + gk = L.length - f by omega)
        have HJ2 := Lib.hid (show j < 100000 by have := HKL.out; omega)
        clear hWn hmp2 hg2 hmp hg hrg hrd hjk HK' c1
        go_wp2
        go_roundg gk
        case measure => exact Nat.lt_succ_self gk
        case rel => exact ⟨j + 1, HJ.out, by have := HJ2.out; first | rfl | (rw [IntWalk.wrap64_in _ ⟨by omega, by omega⟩, Int.natCast_succ]), HM.out, HG.out⟩
  · obtain rfl : f = L.length := by omega
    obtain ⟨A, c, rfl⟩ := h.shape
    have hAc : L.length ≤ c := by
      rcases id h.row.2 with ⟨hv, hz⟩ | ⟨g, c', cur, hv, _, _, hnc, _⟩
      · rw [hz]; exact Nat.zero_le _
      · injection hv with _ _ hv; omega
    have hs1 := slice_from A L.length c L.length (Nat.le_refl _)
    have hs2 := slice_to A L.length c L.length hAc
    rw [Nat.sub_self] at hs1
    obtain ⟨A2, hA2⟩ : ∃ A2, A2 = (if c = L.length then A else A.map (·.add L.length)) := ⟨_, rfl⟩
    rw [← hA2] at hs1
    have hcl : ∀ ty w, (Builtin.clear_ #[76] ty #[.slice A2 0 (c - L.length)]).run Try.prog w = .ok (.tuple #[]) w := fun ty w => by
      cases A2 <;> simp [Builtin.clear_, run_underlying Try.underlying76]
    have hfz := d_free h.st 1
    have HD := Lib.hid h
    have hend : Dc B d m room (.slice A L.length c) L (W.setCell ⟨d, 1, none⟩ (.slice A L.length c)) ∧ Tn d m (.slice A L.length c) (.slice A L.length c) W (W.setCell ⟨d, 1, none⟩ (.slice A L.length c)) := by
      have hb : (W.setCell ⟨d, 1, none⟩ (.slice A L.length c)).heap[d]? = W.heap[d]? := by rw [heap_setCell_same W d 1 _ _ _ h.st]; exact h.st.symm
      have hall : ∀ k, (W.setCell ⟨d, 1, none⟩ (.slice A L.length c)).heap[k]? = W.heap[k]? := fun k => by
        by_cases hk : k = d
        · rw [hk]; exact hb
        · exact Below.heap_setCell _ _ _ _ hk
      have hbel : Below W.heap.size W (W.setCell ⟨d, 1, none⟩ (.slice A L.length c)) := ⟨rfl, rfl, rfl, by simp [World.setCell], fun k _ => hall k⟩
      exact ⟨h.below hbel, Tn.of hbel⟩
    have HE := Lib.hid hend
    clear h hend hA2 hfl hlt hl hAc
    go_enter Try.func22, Try.ntmps22
    go_wp2_with (go_at_call 25; (with_reducible refine cL.mono ?_); rintro e w1 ⟨rfl, rfl⟩)
    go_loopg [23] 0 (fun gk s23 wr => s23 = .int .i64 0 ∧ wr = w1)
    case atStart => exact ⟨rfl, rfl⟩
    case round =>
      obtain ⟨rfl, rfl⟩ := hrel
      go_wp2
      go_ret
      obtain ⟨r1, r2⟩ := HE.out
      exact ⟨_, by rw [Nat.sub_self]; rfl, by rw [List.take_length]; exact r1, r2⟩
end
end Go.Proofs.Ytehechbiajbobaa
