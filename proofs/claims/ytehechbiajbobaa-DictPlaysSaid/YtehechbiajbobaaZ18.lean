/-
  MERGED (a claim has at most 60 files): EPut.
-/
import Derived.Test.YtehechbiajbobaaZ17
import Derived.Deep.AppendLies
import Derived.Maps.AppendAt
import Derived.Deep.RegionHeldLaw
import Derived.IntWalk
/-
  THE DOCUMENT's DICTIONARY: Put.
-/
namespace Go.Proofs.Ytehechbiajbobaa
open Go.RowKit
set_option linter.unusedVariables false
set_option linter.unusedSimpArgs false
set_option maxRecDepth 100000

theorem etInfo : (Try.prog.info? 32).map (fun i => (i.zero, i.size, i.bytes)) = some (some (.agg #[.int .i64 0, .string ⟨#[]⟩, .string ⟨#[]⟩, .string ⟨#[]⟩]), 4, 56) := by kernel_rfl
theorem emp_new {B : Nat} (W : World) (hB : B ≤ W.heap.size) : (W.alloc (.cells #[] 32)).ownsRow B 32 4 (.slice (some ⟨W.heap.size, 0, none⟩) 0 0) 0 [] := World.ownsRow_made W #[] 0 hB (by decide) rfl
theorem own_drew {W : World} {B : Nat} {ty : TypeId} {z n : Nat} {v : Value} {xs : List Value} (h : W.ownsRow B ty z v n xs) : W.drew.ownsRow B ty z v n xs := h
/-- The boxes of Put. -/
structure Eq3 (W : World) (g2 g3 g4 : Nat) (room : Int) (v : Value) (cs : Array Value) (w : World) : Prop where
  b : Below W.heap.size W w
  x2 : Fb w g2 30 #[.int .i64 room, v]
  x3 : Fb w g3 32 cs
  x4 : Fb w g4 30 #[.int .i64 0, .slice none 0 0]
  n2 : W.heap.size ≤ g2
  n4 : W.heap.size ≤ g4
  ne : g2 ≠ g4
  ne3 : g2 ≠ g3
section
variable {W : World} {g2 g3 g4 : Nat} {room : Int} {v : Value} {cs : Array Value}
theorem Eq3.drew {w : World} (h : Eq3 W g2 g3 g4 room v cs w) : Eq3 W g2 g3 g4 room v cs w.drew := ⟨Below.drew h.b, h.x2, h.x3, h.x4, h.n2, h.n4, h.ne, h.ne3⟩
theorem Eq3.below {w w' : World} (h : Eq3 W g2 g3 g4 room v cs w) (hb : Below w.heap.size w w') : Eq3 W g2 g3 g4 room v cs w' := ⟨h.b.trans (hb.mono h.b.size), h.x2.below hb, h.x3.below hb, h.x4.below hb, h.n2, h.n4, h.ne, h.ne3⟩
theorem Eq3.alloc {w : World} (h : Eq3 W g2 g3 g4 room v cs w) (o : Obj) : Eq3 W g2 g3 g4 room v cs (w.alloc o) := h.below ((Below.refl _ _).alloc (Nat.le_refl _) o)
theorem Eq3.grown {w w' : World} (h : Eq3 W g2 g3 g4 room v cs w) {W3 : World} (hW : Eq3 W g2 g3 g4 room v cs W3) {vv : Value} {k : Nat} (hv : vv.ownBlock = some k) (hg : w.grownBy w' vv.ownBlock) (hk : W3.heap.size ≤ k) : Eq3 W g2 g3 g4 room v cs w' := by
  have l2 := hW.x2.lt
  have l3 := hW.x3.lt
  have l4 := hW.x4.lt
  have lb := hW.b.size
  refine ⟨h.b.grown hg h.b.size (fun j hj => ?_), (hg.block g2 h.x2.lt (fun e => ?_)).trans h.x2, (hg.block g3 h.x3.lt (fun e => ?_)).trans h.x3, (hg.block g4 h.x4.lt (fun e => ?_)).trans h.x4, h.n2, h.n4, h.ne, h.ne3⟩
  · rw [hv] at hj; have := Option.some.inj hj; omega
  · rw [hv] at e; have := Option.some.inj e; omega
  · rw [hv] at e; have := Option.some.inj e; omega
  · rw [hv] at e; have := Option.some.inj e; omega
theorem Eq3.set2 {w : World} (h : Eq3 W g2 g3 g4 room v cs w) (v' : Value) : Eq3 W g2 g3 g4 room v' cs (w.setCell ⟨g2, 1, none⟩ v') :=
  ⟨Below.setCell h.b h.n2 _, heap_setCell_same w g2 1 _ _ _ h.x2, (Below.heap_setCell _ _ _ _ h.ne3.symm).trans h.x3, (Below.heap_setCell _ _ _ _ h.ne.symm).trans h.x4, h.n2, h.n4, h.ne, h.ne3⟩
theorem Eq3.c2 {w : World} (h : Eq3 W g2 g3 g4 room v cs w) : w.cell? ⟨g2, 0, none⟩ = some (.int .i64 room) ∧ w.cell? ⟨g2, 1, none⟩ = some v ∧ w.frozen? ⟨g2, 1, none⟩ = false ∧ g2 < w.heap.size := ⟨h.x2.cell 0, h.x2.cell 1, d_free h.x2 1, h.x2.lt⟩
theorem Eq3.c4 {w : World} (h : Eq3 W g2 g3 g4 room v cs w) : w.cell? ⟨g4, 0, none⟩ = some (.int .i64 0) ∧ w.cell? ⟨g4, 1, none⟩ = some (.slice none 0 0) ∧ w.frozen? ⟨g4, 0, none⟩ = false ∧ w.frozen? ⟨g4, 1, none⟩ = false ∧ g4 < w.heap.size := ⟨h.x4.cell 0, h.x4.cell 1, d_free h.x4 0, d_free h.x4 1, h.x4.lt⟩
theorem Eq3.c3 {w : World} {k : Int} {a b c : ByteArray} (h : Eq3 W g2 g3 g4 room v #[.int .i64 k, .string a, .string b, .string c] w) : w.cell? ⟨g3, 0, none⟩ = some (.int .i64 k) ∧ w.cell? ⟨g3, 1, none⟩ = some (.string a) ∧ w.cell? ⟨g3, 2, none⟩ = some (.string b) ∧ w.cell? ⟨g3, 3, none⟩ = some (.string c) ∧ g3 < w.heap.size := ⟨h.x3.cell 0, h.x3.cell 1, h.x3.cell 2, h.x3.cell 3, h.x3.lt⟩
theorem Eq3.fin {w : World} (h : Eq3 W g2 g3 g4 room v cs w) (x y : Value) : Below W.heap.size W ((w.setCell ⟨g4, 0, none⟩ x).setCell ⟨g4, 1, none⟩ y) := Below.setCell (Below.setCell h.b h.n4 _) h.n4 _
theorem DtL.set4 {B : Nat} {w : World} {u : Value} {L : List Tm} (hd : DtL B w u L) (h : Eq3 W g2 g3 g4 room v cs w) (x y : Value) : DtL B ((w.setCell ⟨g4, 0, none⟩ x).setCell ⟨g4, 1, none⟩ y) u L := by
  have key : ∀ (g : Nat) (cur : Array Value), w.heap[g]? = some (.cells cur 32 (0, 0)) → ((w.setCell ⟨g4, 0, none⟩ x).setCell ⟨g4, 1, none⟩ y).heap[g]? = some (.cells cur 32 (0, 0)) := fun g cur hg => by
    have hne : g ≠ g4 := fun e => by
      have := h.x4
      unfold Fb at this
      rw [← e, hg] at this
      injection this with this
      injection this with _ this
      exact absurd this (by decide)
    exact (Below.heap_setCell _ _ _ _ hne).trans ((Below.heap_setCell _ _ _ _ hne).trans hg)
  refine ⟨hd.1, ?_⟩
  rcases id hd.2 with hn | ⟨g, cap, cur, hv, hge, hg, rest⟩
  · exact .inl hn
  · exact .inr ⟨g, cap, cur, hv, hge, key g cur hg, rest⟩
end
theorem fb_at {W : World} {b : Nat} (ty : TypeId) (cs : Array Value) (hb : b = W.heap.size) : Fb (W.alloc (.cells cs ty)) b ty cs := by
  subst hb; exact Fb.new _ _ _
theorem fb_grown {w w' : World} {v : Value} {g : Nat} {ty : TypeId} {cs : Array Value} (hg : w.grownBy w' v.ownBlock) (hb : Fb w g ty cs) (hne : v.ownBlock ≠ some g) : Fb w' g ty cs := (hg.block g hb.lt (fun e => hne e.symm)).trans hb
theorem emp_at {B b : Nat} (W : World) (hb : b = W.heap.size) (hB : B ≤ W.heap.size) : (W.alloc (.cells #[] 32)).ownsRow B 32 4 (.slice (some ⟨b, 0, none⟩) 0 0) 0 [] := by
  subst hb; exact emp_new W hB
theorem DtL.setc {B : Nat} {w : World} {u : Value} {L : List Tm} {g i : Nat} {cs : Array Value} (hd : DtL B w u L) (h : Fb w g 30 cs) (x : Value) : DtL B (w.setCell ⟨g, i, none⟩ x) u L := by
  have key : ∀ (k : Nat) (cur : Array Value), w.heap[k]? = some (.cells cur 32 (0, 0)) → (w.setCell ⟨g, i, none⟩ x).heap[k]? = some (.cells cur 32 (0, 0)) := fun k cur hk => by
    have hne : k ≠ g := fun e => by
      unfold Fb at h
      rw [← e, hk] at h
      injection h with h
      injection h with _ h
      exact absurd h (by decide)
    exact (Below.heap_setCell _ _ _ _ hne).trans hk
  refine ⟨hd.1, ?_⟩
  rcases id hd.2 with hn | ⟨g, cap, cur, hv, hge, hg, rest⟩
  · exact .inl hn
  · exact .inr ⟨g, cap, cur, hv, hge, key g cur hg, rest⟩
theorem app_zero (iT : TypeInfo) (hT0 : Try.prog.info? 32 = some iT) (b : Nat) (A : Option Addr) (c : Nat) (ty : TypeId) (w : World) : (Builtin.append_ #[28, 28] ty #[.slice (some ⟨b, 0, none⟩) 0 0, .slice A 0 c]).run Try.prog w = .ok (.slice (some ⟨b, 0, none⟩) 0 0) w := by
  cases A <;> simp [Builtin.append_, run_underlying Try.underlying28, sizeOf, typeInfo, hT0, Builtin.lenOf, Builtin.firstCells, loadCells, loadCellsFrom, storeCells]
theorem step_append_run {P : Program} {ops : Array Oper} {o : Oper} {a : Act} {w : World} {K : Act → World → Prop} {Q : Exit → Act → World → Prop} {E : Prop} (hgd : o.guard = none) (s x : Operand) (t : TypeId) (ho : o.op = .call { callee := .builtin .append, args := #[s, x], argTypes := #[t, t] })
    (vs vx : Value) (hs : a.eval s = vs) (hx : a.eval x = vx) (v' : Value) (w' : World) (hr : ∀ ty, (Builtin.append_ #[t, t] ty #[vs, vx]).run P w = .ok v' w') (h : K (a.put o.dst v') w') : if Region.wanted o (yielded ops a.tmps) = true then Oper.wp P o a w K Q else E := by
  have hw : Region.wanted o (yielded ops a.tmps) = true := by simp [Region.wanted, hgd]
  rw [if_pos hw]
  unfold Oper.wp execOp
  simp only [ho, resolve, invoke, builtin, Sem.run_bind, Sem.run_pure, Result.andThen_ok, List.map_toArray, List.map_cons, List.map_nil, hs, hx, hr]
  exact h
/-- The box of the dictionary, and the result's. -/
structure E2 (W : World) (g2 g4 : Nat) (room : Int) (v : Value) (w : World) : Prop where
  b : Below W.heap.size W w
  x2 : Fb w g2 30 #[.int .i64 room, v]
  x4 : ∃ x y, Fb w g4 30 #[x, y]
  n4 : W.heap.size ≤ g4
  ne : g2 ≠ g4
theorem Eq3.e2 {W : World} {g2 g3 g4 : Nat} {room : Int} {v : Value} {cs : Array Value} {w : World} (h : Eq3 W g2 g3 g4 room v cs w) : E2 W g2 g4 room v w := ⟨h.b, h.x2, ⟨_, _, h.x4⟩, h.n4, h.ne⟩
theorem E2.drew {W : World} {g2 g4 : Nat} {room : Int} {v : Value} {w : World} (h : E2 W g2 g4 room v w) : E2 W g2 g4 room v w.drew := ⟨Below.drew h.b, h.x2, h.x4, h.n4, h.ne⟩
theorem E2.set {W : World} {g2 g4 : Nat} {room : Int} {v : Value} {w : World} (h : E2 W g2 g4 room v w) (x y : Value) : E2 W g2 g4 room v ((w.setCell ⟨g4, 0, none⟩ x).setCell ⟨g4, 1, none⟩ y) := by
  obtain ⟨a, b, h4⟩ := h.x4
  have h5 : Fb (w.setCell ⟨g4, 0, none⟩ x) g4 30 #[x, b] := heap_setCell_same w g4 0 _ _ _ h4
  have h6 : Fb ((w.setCell ⟨g4, 0, none⟩ x).setCell ⟨g4, 1, none⟩ y) g4 30 #[x, y] := heap_setCell_same _ g4 1 _ _ _ h5
  exact ⟨Below.setCell (Below.setCell h.b h.n4 _) h.n4 _, (Below.heap_setCell _ _ _ _ h.ne).trans ((Below.heap_setCell _ _ _ _ h.ne).trans h.x2), ⟨_, _, h6⟩, h.n4, h.ne⟩
theorem E2.cells {W : World} {g2 g4 : Nat} {room : Int} {v : Value} {w : World} (h : E2 W g2 g4 room v w) : w.cell? ⟨g2, 0, none⟩ = some (.int .i64 room) ∧ w.cell? ⟨g2, 1, none⟩ = some v := ⟨h.x2.cell 0, h.x2.cell 1⟩
/-- Put. -/
def EPutPost (B : Nat) (W : World) (room : Int) (r : List Tm × Int × Int) (e : Ending) (w' : World) : Prop :=
  ∃ v', e = .returned (.tuple #[.agg #[.int .i64 room, v'], .int .i64 r.2.1, .int .i64 r.2.2]) ∧ DtL B w' v' r.1 ∧ Below W.heap.size W w'
set_option maxHeartbeats 64000000 in
theorem eput_any {B : Nat} {W : World} {v : Value} {L : List Tm} (hL : DtL B W v L) (hB : B ≤ W.heap.size) (hk : Ks L) (hl : L.length ≤ 100000) (room : Int) (t : Tm) (ht : t.kind < 3) (hz : t.few) :
    Calls Try.prog 9 #[.agg #[.int .i64 room, v], T4 t] W (EPutPost B W room (putP room L t)) := by
  have cG := rgoodT_any t hz
  have cF := fun {w : World} (h : DtL B w v L) => efind_any h hk hl room t ht hz
  obtain ⟨r, hr⟩ : ∃ r, r = putP room L t := ⟨_, rfl⟩
  rw [← hr]
  unfold putP at hr
  unfold findP at cF
  obtain ⟨A, c, rfl⟩ := hL.shape
  have hcs : (T4 t) = .agg #[.int .i64 t.kind, .string t.ta, .string t.tb, .string t.tc] := rfl
  have hc4 : c4 t = [.int .i64 t.kind, .string t.ta, .string t.tb, .string t.tc] := rfl
  unfold T4 at cG cF ⊢
  obtain ⟨tk, htk⟩ : ∃ y, y = t.kind := ⟨_, rfl⟩
  obtain ⟨ta, hta⟩ : ∃ y, y = t.ta := ⟨_, rfl⟩
  obtain ⟨tb, htb⟩ : ∃ y, y = t.tb := ⟨_, rfl⟩
  obtain ⟨tc, htc⟩ : ∃ y, y = t.tc := ⟨_, rfl⟩
  rw [← htk, ← hta, ← htb, ← htc] at cG cF hc4 ⊢
  obtain ⟨W2, hW2⟩ : ∃ W2, W2 = ((W.alloc (.cells #[.int .i64 room, .slice A L.length c] 30)).alloc (.cells #[.int .i64 tk, .string ta, .string tb, .string tc] 32)).alloc (.cells #[.int .i64 0, .slice none 0 0] 30) := ⟨_, rfl⟩
  have hE0 : Eq3 W W.heap.size (W.heap.size + 1) (W.heap.size + 1 + 1) room (.slice A L.length c) #[.int .i64 tk, .string ta, .string tb, .string tc] W2 := by
    have h2 := Fb.new W 30 #[.int .i64 room, .slice A L.length c]
    have h3 := Fb.new (W.alloc (.cells #[.int .i64 room, .slice A L.length c] 30)) 32 #[.int .i64 tk, .string ta, .string tb, .string tc]
    have h4 := Fb.new ((W.alloc (.cells #[.int .i64 room, .slice A L.length c] 30)).alloc (.cells #[.int .i64 tk, .string ta, .string tb, .string tc] 32)) 30 #[.int .i64 0, .slice none 0 0]
    rw [hW2]
    refine ⟨(((Below.refl _ _).alloc (Nat.le_refl _) _).alloc (by simp) _).alloc (by simp; omega) _, (h2.alloc _).alloc _, ?_, ?_, Nat.le_refl _, by omega, by omega, by omega⟩
    · simpa using h3.alloc _
    · simpa using h4
  have HE0 := Lib.hid hE0
  have HDL := Lib.hid hL
  have HN := Lib.hid hl
  have HB := Lib.hid hB
  have HC4 := Lib.hid hc4
  obtain ⟨p0, p1, pf, pl⟩ := hE0.c2
  obtain ⟨q0, q1, q2, q3, ql⟩ := hE0.c3
  have HDL2 := Lib.hid (show DtL B W2 (.slice A L.length c) L from hL.below ⟨hE0.b.os, hE0.b.tape, hE0.b.output, hE0.b.size, hE0.b.block⟩)
  cases hg : goodT t with
  | false =>
    rw [hg] at cG hr
    rw [if_neg (by decide)] at hr
    subst hr
    clear hcs hc4 hL hB hk hl ht hz htk hta htb htc cF hE0 hg
    go_enter Try.func9, Try.ntmps9
    go_wp2_with (go_at_call 26; (with_reducible refine (cG _).mono ?_); rintro e w5 ⟨rfl, hb5⟩; rw [← hW2] at hb5; have hE5 := HE0.out.below hb5; obtain ⟨u0, u1, uf, ul⟩ := hE5.c2; obtain ⟨y0, y1, f0, f1, yl⟩ := hE5.c4)
    have hD5 := HDL2.out.below hb5
    exact bodyPost_ret (v := .tuple #[.agg #[.int .i64 room, .slice A L.length c], .int .i64 0, .int .i64 3]) (by simp [results, Try.results9, go_sem, y0, y1, yl]) rfl ⟨_, rfl, hD5.set4 hE5 _ _, hE5.fin _ _⟩
  | true =>
    rw [hg] at cG hr cF
    rw [if_pos rfl] at hr
    rw [if_pos rfl] at cF
    unfold putG at hr
    have cF2 : ∀ {w : World}, Eq3 W W.heap.size (W.heap.size + 1) (W.heap.size + 1 + 1) room (.slice A L.length c) #[.int .i64 tk, .string ta, .string tb, .string tc] w → Calls Try.prog 12 #[.agg #[.int .i64 room, .slice A L.length c], F4 tk ta tb tc] w fun e w' => e = .returned (.int .i64 (numM (nm t L))) ∧ Below w.heap.size w w' := fun {w} h => cF (hL.below h.b)
    cases hn : nm t L with
    | some j =>
      rw [hn] at cF2 hr
      dsimp only at hr
      unfold numM at cF2
      subst hr
      have hj0 : (0 : Int) ≤ (j : Int) := by omega
      clear hcs hc4 hL hB hk hl ht hz htk hta htb htc cF hE0 hg hn
      go_enter Try.func9, Try.ntmps9
      go_wp2_with (first
        | (go_at_call 26; (with_reducible refine (cG _).mono ?_); rintro e w5 ⟨rfl, hb5⟩; rw [← hW2] at hb5; have hE5 := HE0.out.below hb5; obtain ⟨u0, u1, uf, ul⟩ := hE5.c2; obtain ⟨s0, s1, s2, s3, sl⟩ := hE5.c3)
        | (go_at_call 12; (with_reducible refine (cF2 hE5).mono ?_); rintro e w6 ⟨rfl, hb6⟩; have hE6 := hE5.below hb6; clear u0 u1 uf ul s0 s1 s2 s3 sl; obtain ⟨u0, u1, uf, ul⟩ := hE6.c2; obtain ⟨y0, y1, f0, f1, yl⟩ := hE6.c4))
      have hD6 := (HDL2.out.below hb5).below hb6
      exact bodyPost_ret (v := .tuple #[.agg #[.int .i64 room, .slice A L.length c], .int .i64 j, .int .i64 0]) (by simp [results, Try.results9, go_sem, y0, y1, yl]) rfl ⟨_, rfl, hD6.set4 hE6 _ _, hE6.fin _ _⟩
    | none =>
      rw [hn] at cF2 hr
      dsimp only at hr
      unfold numM at cF2
      by_cases hfull : room ≤ (L.length : Int)
      · rw [if_pos hfull] at hr
        subst hr
        clear hcs hc4 hL hB hk hl ht hz htk hta htb htc cF hE0 hg hn
        go_enter Try.func9, Try.ntmps9
        go_wp2_with (first
          | (go_at_call 26; (with_reducible refine (cG _).mono ?_); rintro e w5 ⟨rfl, hb5⟩; rw [← hW2] at hb5; have hE5 := HE0.out.below hb5; obtain ⟨u0, u1, uf, ul⟩ := hE5.c2; obtain ⟨s0, s1, s2, s3, sl⟩ := hE5.c3)
          | (go_at_call 12; (with_reducible refine (cF2 hE5).mono ?_); rintro e w6 ⟨rfl, hb6⟩; have hE6 := hE5.below hb6; clear u0 u1 uf ul s0 s1 s2 s3 sl; obtain ⟨u0, u1, uf, ul⟩ := hE6.c2; obtain ⟨y0, y1, f0, f1, yl⟩ := hE6.c4))
        have hD6 := (HDL2.out.below hb5).below hb6
        exact bodyPost_ret (v := .tuple #[.agg #[.int .i64 room, .slice A L.length c], .int .i64 0, .int .i64 6]) (by simp [results, Try.results9, go_sem, y0, y1, yl]) rfl ⟨_, rfl, hD6.set4 hE6 _ _, hE6.fin _ _⟩
      · rw [if_neg hfull] at hr
        obtain ⟨iT, hT0, hT1, hT2, hT3⟩ := info_parts etInfo
        have H1 := Lib.hid (show ∀ u ∈ L.flatMap c4, u.oneCell' = true from fun x hx => by
          obtain ⟨t, _, hx⟩ := List.mem_flatMap.1 hx
          unfold c4 at hx
          simp at hx
          rcases hx with rfl | rfl | rfl | rfl <;> rfl)
        have H2 := Lib.hid (show ∀ u ∈ ([.int .i64 tk, .string ta, .string tb, .string tc] : List Value), u.oneCell' = true from fun x hx => by
          simp at hx
          rcases hx with rfl | rfl | rfl | rfl <;> rfl)
        have HFL := Lib.hid (show (L ++ [t]).flatMap c4 = L.flatMap c4 ++ [.int .i64 tk, .string ta, .string tb, .string tc] by rw [List.flatMap_append, List.flatMap_singleton, HC4.out])
        have HR := Lib.hid hr
        have HLL := Lib.hid hL.1
        by_cases hn0 : L.length = 0
        · obtain rfl : L = [] := List.length_eq_zero_iff.1 hn0
          have hz0 := fun (b : Nat) (ty : TypeId) (w : World) => app_zero iT hT0 b A c ty w
          simp only [List.length_nil] at cF2 HE0 HDL2 p1 hW2 hfull ⊢
          clear hcs hc4 hL hB hk hl ht hz htk hta htb htc cF hE0 hg hn hr hn0 HDL
          go_enter Try.func9, Try.ntmps9
          go_wp2_with (first
            | (go_at_call 26; (with_reducible refine (cG _).mono ?_); rintro e w5 ⟨rfl, hb5⟩; rw [← hW2] at hb5; have hE5 := HE0.out.below hb5; obtain ⟨u0, u1, uf, ul⟩ := hE5.c2; obtain ⟨s0, s1, s2, s3, sl⟩ := hE5.c3)
            | (go_at_call 12; (with_reducible refine (cF2 hE5).mono ?_); rintro e w6 ⟨rfl, hb6⟩; have hE6 := hE5.below hb6; clear u0 u1 uf ul s0 s1 s2 s3 sl; obtain ⟨u0, u1, uf, ul⟩ := hE6.c2; obtain ⟨s0, s1, s2, s3, sl⟩ := hE6.c3))
          have HE6 := Lib.hid hE6
          have HG := Lib.hid (show ∀ (w w' : World) (vv : Value) (k : Nat), Eq3 W W.heap.size (W.heap.size + 1) (W.heap.size + 1 + 1) room (.slice A 0 c) #[.int .i64 tk, .string ta, .string tb, .string tc] w → vv.ownBlock = some k → w.grownBy w' vv.ownBlock → w6.heap.size ≤ k → Eq3 W W.heap.size (W.heap.size + 1) (W.heap.size + 1 + 1) room (.slice A 0 c) #[.int .i64 tk, .string ta, .string tb, .string tc] w' from fun w w' vv k h hv hg hk => Eq3.grown h hE6 hv hg hk)
          have HEB := Lib.hid (own_drew (emp_at (B := w6.heap.size) (b := w6.heap.size + 1) (w6.alloc (.cells #[.int .i64 tk, .string ta, .string tb, .string tc] 32)) (by simp) (by simp)))
          clear hb5 hE5 hb6 p0 p1 pf pl q0 q1 q2 q3 ql hW2 cG cF2
          go_region_law (first
            | (refine step_append_run rfl (.tmp 26) (.tmp 28) 28 rfl (.slice (some ⟨w6.heap.size, 0, none⟩) 0 0) (.slice A 0 c) ?e1 ?e2 _ _ (fun ty => hz0 _ ty _) ?_; (case e1 => (simp [Act.eval] <;> fail)); (case e2 => (simp [Act.eval] <;> fail)))
            | (refine step_append_run rfl (.tmp 26) (.tmp 28) 28 rfl (.slice (some ⟨w6.heap.size + 1, 0, none⟩) 0 0) (.slice A 0 c) ?e1 ?e2 _ _ (fun ty => hz0 _ ty _) ?_; (case e1 => (simp [Act.eval] <;> fail)); (case e2 => (simp [Act.eval] <;> fail)))
            | (refine step_append_lies _ rfl (.tmp 29) (.tmp 31) 28 rfl w6.heap.size 32 iT (.agg #[.int .i64 0, .string ⟨#[]⟩, .string ⟨#[]⟩, .string ⟨#[]⟩]) 4 56 Try.underlying28 hT0 hT1 hT2 hT3 rfl (by decide) (.slice (some ⟨w6.heap.size, 0, none⟩) 0 0) 0 [] ?f1 ?own2 ⟨w6.heap.size + 1, 0, none⟩ 1 1 [.int .i64 tk, .string ta, .string tb, .string tc] ?f2 rfl ?news2 H2.out (by decide) (by decide) (by decide) ?base2 _ rfl ?_; (case f1 => (simp [Act.eval] <;> fail)); (case f2 => (simp [Act.eval] <;> fail)); (case own2 => first | exact HEB.out | repeat (first | with_reducible refine own_drew ?_ | with_reducible refine emp_at _ ?_ ?_ | with_reducible refine World.ownsRow.alloc ?_ _ | (simp; done) | (simp; omega))); (case news2 => refine World.news_of_block (cs := #[.int .i64 tk, .string ta, .string tb, .string tc]) (t := 32) (fr := (0, 0)) ?_; show Fb _ _ _ _; repeat (first | with_reducible refine Fb.drew ?_ | with_reducible refine fb_at _ _ ?_ | with_reducible refine Fb.alloc ?_ _ | (simp; done) | rfl)); (case base2 => first | (simp; done) | (simp; omega)); intro g8 c8 w8 hown8 hgrow8 hloc8 hlt8; have Q8 := HG.out _ _ _ _ (by repeat (first | assumption | with_reducible refine Eq3.drew ?_ | with_reducible refine Eq3.alloc ?_ _)) rfl hgrow8 (by first | exact Nat.le_refl _ | (simp; done) | (simp; omega)); obtain ⟨d0, d1, df, dl⟩ := Q8.c2)
            | (refine step_append_lies _ rfl (.tmp 29) (.tmp 31) 28 rfl w6.heap.size 32 iT (.agg #[.int .i64 0, .string ⟨#[]⟩, .string ⟨#[]⟩, .string ⟨#[]⟩]) 4 56 Try.underlying28 hT0 hT1 hT2 hT3 rfl (by decide) (.slice (some ⟨w6.heap.size + 1, 0, none⟩) 0 0) 0 [] ?f1 ?own2 ⟨w6.heap.size, 0, none⟩ 1 1 [.int .i64 tk, .string ta, .string tb, .string tc] ?f2 rfl ?news2 H2.out (by decide) (by decide) (by decide) ?base2 _ rfl ?_; (case f1 => (simp [Act.eval] <;> fail)); (case f2 => (simp [Act.eval] <;> fail)); (case own2 => first | exact HEB.out | repeat (first | with_reducible refine own_drew ?_ | with_reducible refine emp_at _ ?_ ?_ | with_reducible refine World.ownsRow.alloc ?_ _ | (simp; done) | (simp; omega))); (case news2 => refine World.news_of_block (cs := #[.int .i64 tk, .string ta, .string tb, .string tc]) (t := 32) (fr := (0, 0)) ?_; show Fb _ _ _ _; repeat (first | with_reducible refine Fb.drew ?_ | with_reducible refine fb_at _ _ ?_ | with_reducible refine Fb.alloc ?_ _ | (simp; done) | rfl)); (case base2 => first | (simp; done) | (simp; omega)); intro g8 c8 w8 hown8 hgrow8 hloc8 hlt8; have Q8 := HG.out _ _ _ _ (by repeat (first | assumption | with_reducible refine Eq3.drew ?_ | with_reducible refine Eq3.alloc ?_ _)) rfl hgrow8 (by first | exact Nat.le_refl _ | (simp; done) | (simp; omega)); obtain ⟨d0, d1, df, dl⟩ := Q8.c2)
            | fail)
          all_goals
            have HQ := Lib.hid (show B ≤ w6.heap.size from Nat.le_trans HB.out HE6.out.b.size)
            have hD9 : DtL w6.heap.size w8 (.slice (some ⟨g8, 0, none⟩) 1 c8) ([] ++ [t]) := by
              have h := hown8
              unfold DtL
              rw [HFL.out]
              exact h
            have Q9 := Q8.set2 (.slice (some ⟨g8, 0, none⟩) 1 c8)
            have HD9 := Lib.hid ((hD9.setc (i := 1) Q8.x2 (.slice (some ⟨g8, 0, none⟩) 1 c8)).mono HQ.out)
            obtain ⟨W9, hW9⟩ : ∃ W9, W9 = w8.setCell ⟨W.heap.size, 1, none⟩ (.slice (some ⟨g8, 0, none⟩) 1 c8) := ⟨_, rfl⟩
            rw [← hW9] at Q9 HD9 ⊢
            have hS := Q9.e2
            obtain ⟨y0, y1, f0, f1, yl⟩ := Q9.c4
            have HQ9 := Lib.hid Q9
            clear hW9 Q9 hD9 hown8 hgrow8 hloc8 hlt8 Q8 d0 d1 df dl u0 u1 uf ul s0 s1 s2 s3 sl hE6 HG HEB hz0 HDL2 HE0 HLL H1 H2 HFL
            go_wp2
            go_region_held3 (fun w => w.cell? ⟨W.heap.size, 0, none⟩ = some (.int .i64 room) ∧ w.cell? ⟨W.heap.size, 1, none⟩ = some (.slice (some ⟨g8, 0, none⟩) 1 c8))
              (first | (refine E2.cells (W := W) (g4 := W.heap.size + 1 + 1) ?_; repeat (first | assumption | with_reducible refine E2.drew ?_ | with_reducible refine E2.set ?_ _ _)))
              (fail)
            all_goals
              (try go_wp2)
              exact bodyPost_ret (v := .tuple #[.agg #[.int .i64 room, .slice (some ⟨g8, 0, none⟩) 1 c8], .int .i64 0, .int .i64 0]) (by simp [results, Try.results9, go_sem, y0, y1, yl, show IntKind.i64.wrap 0 = 0 by decide]) rfl ⟨.slice (some ⟨g8, 0, none⟩) 1 c8, by rw [HR.out]; rfl, by rw [HR.out]; exact DtL.set4 HD9.out HQ9.out _ _, Below.drew (HQ9.out.fin _ _)⟩
        · obtain ⟨gb, rfl, hgb, hcap⟩ : ∃ gb, A = some ⟨gb, 0, none⟩ ∧ gb < W.heap.size ∧ ∀ w, Below W.heap.size W w → ∀ j u, (L.flatMap c4)[j]? = some u → w.cell? ((⟨gb, 0, none⟩ : Addr).add j) = some u := by
            rcases id hL.2 with ⟨_, hz⟩ | ⟨g, cap, cur, hv, hge, hg0, _⟩
            · exact absurd hz hn0
            · injection hv with hv _ _
              have hlt := (World.ownsRow.lt hL g (by rw [hv]; rfl)).2
              refine ⟨g, hv, hlt, fun w hb j u hu => ?_⟩
              have := World.ownsRow.cells hL (g := g) (by rw [hv]; rfl) j u hu
              rw [at_add] at this ⊢
              exact (hb.cell (p := ⟨g, 0 + j, none⟩) hlt).trans this
          have KN := Lib.hid hcap
          have HN0 := Lib.hid (show 0 < L.length from by omega)
          clear hcs hc4 hL hB hk hl ht hz htk hta htb htc cF hE0 hg hn hr hn0 hgb hcap HDL
          go_enter Try.func9, Try.ntmps9
          go_wp2_with (first
            | (go_at_call 26; (with_reducible refine (cG _).mono ?_); rintro e w5 ⟨rfl, hb5⟩; rw [← hW2] at hb5; have hE5 := HE0.out.below hb5; obtain ⟨u0, u1, uf, ul⟩ := hE5.c2; obtain ⟨s0, s1, s2, s3, sl⟩ := hE5.c3)
            | (go_at_call 12; (with_reducible refine (cF2 hE5).mono ?_); rintro e w6 ⟨rfl, hb6⟩; have hE6 := hE5.below hb6; clear u0 u1 uf ul s0 s1 s2 s3 sl; obtain ⟨u0, u1, uf, ul⟩ := hE6.c2; obtain ⟨s0, s1, s2, s3, sl⟩ := hE6.c3))
          have HE6 := Lib.hid hE6
          have KN2 := Lib.hid (show ∀ w, Eq3 W W.heap.size (W.heap.size + 1) (W.heap.size + 1 + 1) room (.slice (some ⟨gb, 0, none⟩) L.length c) #[.int .i64 tk, .string ta, .string tb, .string tc] w → ∀ j u, (L.flatMap c4)[j]? = some u → w.cell? ((⟨gb, 0, none⟩ : Addr).add j) = some u from fun w h => KN.out w h.b)
          have HG := Lib.hid (show ∀ (w w' : World) (vv : Value) (k : Nat), Eq3 W W.heap.size (W.heap.size + 1) (W.heap.size + 1 + 1) room (.slice (some ⟨gb, 0, none⟩) L.length c) #[.int .i64 tk, .string ta, .string tb, .string tc] w → vv.ownBlock = some k → w.grownBy w' vv.ownBlock → w6.heap.size ≤ k → Eq3 W W.heap.size (W.heap.size + 1) (W.heap.size + 1 + 1) room (.slice (some ⟨gb, 0, none⟩) L.length c) #[.int .i64 tk, .string ta, .string tb, .string tc] w' from fun w w' vv k h hv hg hk => Eq3.grown h hE6 hv hg hk)
          have HEB := Lib.hid (own_drew (emp_at (B := w6.heap.size) (b := w6.heap.size + 1) (w6.alloc (.cells #[.int .i64 tk, .string ta, .string tb, .string tc] 32)) (by simp) (by simp)))
          clear hb5 hE5 hb6 p0 p1 pf pl q0 q1 q2 q3 ql hW2 cG cF2
          go_region_law (first
            | (refine step_append_lies _ rfl (.tmp 26) (.tmp 28) 28 rfl w6.heap.size 32 iT (.agg #[.int .i64 0, .string ⟨#[]⟩, .string ⟨#[]⟩, .string ⟨#[]⟩]) 4 56 Try.underlying28 hT0 hT1 hT2 hT3 rfl (by decide) (.slice (some ⟨w6.heap.size, 0, none⟩) 0 0) 0 [] (by simp [Act.eval] <;> fail) ?emp ⟨gb, 0, none⟩ L.length c (L.flatMap c4) (by simp [Act.eval] <;> fail) HLL.out ?news H1.out HN0.out (by have := HN.out; unfold maxLen; omega) (by have := HN.out; omega) ?base _ rfl ?_; (case emp => first | exact HEB.out | repeat (first | with_reducible refine own_drew ?_ | with_reducible refine emp_at _ ?_ ?_ | with_reducible refine World.ownsRow.alloc ?_ _ | (simp; done) | (simp; omega))); (case news => refine KN2.out _ ?_; repeat (first | assumption | with_reducible refine Eq3.drew ?_ | with_reducible refine Eq3.alloc ?_ _)); (case base => first | exact Nat.le_refl _ | (simp; done) | (simp; omega)); intro g7 c7 w7 hown7 hgrow7 hloc7 hlt7; have Q7 := HG.out _ _ _ _ (by repeat (first | assumption | with_reducible refine Eq3.drew ?_ | with_reducible refine Eq3.alloc ?_ _)) rfl hgrow7 (by first | exact Nat.le_refl _ | (simp; done) | (simp; omega)); obtain ⟨a0, a1, af, al⟩ := Q7.c2; obtain ⟨b0, b1, b2, b3, bl⟩ := Q7.c3)
            | (refine step_append_lies _ rfl (.tmp 26) (.tmp 28) 28 rfl w6.heap.size 32 iT (.agg #[.int .i64 0, .string ⟨#[]⟩, .string ⟨#[]⟩, .string ⟨#[]⟩]) 4 56 Try.underlying28 hT0 hT1 hT2 hT3 rfl (by decide) (.slice (some ⟨w6.heap.size + 1, 0, none⟩) 0 0) 0 [] (by simp [Act.eval] <;> fail) ?emp ⟨gb, 0, none⟩ L.length c (L.flatMap c4) (by simp [Act.eval] <;> fail) HLL.out ?news H1.out HN0.out (by have := HN.out; unfold maxLen; omega) (by have := HN.out; omega) ?base _ rfl ?_; (case emp => first | exact HEB.out | repeat (first | with_reducible refine own_drew ?_ | with_reducible refine emp_at _ ?_ ?_ | with_reducible refine World.ownsRow.alloc ?_ _ | (simp; done) | (simp; omega))); (case news => refine KN2.out _ ?_; repeat (first | assumption | with_reducible refine Eq3.drew ?_ | with_reducible refine Eq3.alloc ?_ _)); (case base => first | exact Nat.le_refl _ | (simp; done) | (simp; omega)); intro g7 c7 w7 hown7 hgrow7 hloc7 hlt7; have Q7 := HG.out _ _ _ _ (by repeat (first | assumption | with_reducible refine Eq3.drew ?_ | with_reducible refine Eq3.alloc ?_ _)) rfl hgrow7 (by first | exact Nat.le_refl _ | (simp; done) | (simp; omega)); obtain ⟨a0, a1, af, al⟩ := Q7.c2; obtain ⟨b0, b1, b2, b3, bl⟩ := Q7.c3)
            | (refine step_append_lies _ rfl (.tmp 29) (.tmp 31) 28 rfl w6.heap.size 32 iT (.agg #[.int .i64 0, .string ⟨#[]⟩, .string ⟨#[]⟩, .string ⟨#[]⟩]) 4 56 Try.underlying28 hT0 hT1 hT2 hT3 rfl (by decide) (.slice (some ⟨g7, 0, none⟩) (0 + L.length) c7) (0 + L.length) ([] ++ L.flatMap c4) (by simp [Act.eval] <;> fail) ?own2 ⟨w7.heap.size, 0, none⟩ 1 1 [.int .i64 tk, .string ta, .string tb, .string tc] (by simp [Act.eval] <;> fail) rfl ?news2 H2.out (by decide) (by have := HN.out; unfold maxLen; omega) (by have := HN.out; omega) ?base2 _ rfl ?_; (case own2 => repeat (first | assumption | with_reducible refine own_drew ?_ | with_reducible refine World.ownsRow.alloc ?_ _)); (case news2 => refine World.news_of_block (cs := #[.int .i64 tk, .string ta, .string tb, .string tc]) (t := 32) (fr := (0, 0)) ?_; show Fb _ _ _ _; repeat (first | with_reducible refine Fb.drew ?_ | with_reducible refine fb_at _ _ ?_ | with_reducible refine Fb.alloc ?_ _ | (refine fb_grown hgrow7 ?_ (fun e => absurd (show w6.heap.size = w6.heap.size + 1 from Option.some.inj e) (by omega))) | (refine fb_grown hgrow7 ?_ (fun e => absurd (show w6.heap.size + 1 = w6.heap.size from Option.some.inj e) (by omega))) | rfl | (simp; done))); (case base2 => have := hgrow7.size; first | (simp at *; omega) | omega); intro g8 c8 w8 hown8 hgrow8 hloc8 hlt8; have Q8 := HG.out _ _ _ _ (by repeat (first | assumption | with_reducible refine Eq3.drew ?_ | with_reducible refine Eq3.alloc ?_ _)) rfl hgrow8 (World.ownsRow.lt hown7 g7 rfl).1; obtain ⟨d0, d1, df, dl⟩ := Q8.c2)
            | (refine step_append_lies _ rfl (.tmp 29) (.tmp 31) 28 rfl w6.heap.size 32 iT (.agg #[.int .i64 0, .string ⟨#[]⟩, .string ⟨#[]⟩, .string ⟨#[]⟩]) 4 56 Try.underlying28 hT0 hT1 hT2 hT3 rfl (by decide) (.slice (some ⟨g7, 0, none⟩) (0 + L.length) c7) (0 + L.length) ([] ++ L.flatMap c4) (by simp [Act.eval] <;> fail) ?own2 ⟨w6.heap.size, 0, none⟩ 1 1 [.int .i64 tk, .string ta, .string tb, .string tc] (by simp [Act.eval] <;> fail) rfl ?news2 H2.out (by decide) (by have := HN.out; unfold maxLen; omega) (by have := HN.out; omega) ?base2 _ rfl ?_; (case own2 => repeat (first | assumption | with_reducible refine own_drew ?_ | with_reducible refine World.ownsRow.alloc ?_ _)); (case news2 => refine World.news_of_block (cs := #[.int .i64 tk, .string ta, .string tb, .string tc]) (t := 32) (fr := (0, 0)) ?_; show Fb _ _ _ _; repeat (first | with_reducible refine Fb.drew ?_ | with_reducible refine fb_at _ _ ?_ | with_reducible refine Fb.alloc ?_ _ | (refine fb_grown hgrow7 ?_ (fun e => absurd (show w6.heap.size = w6.heap.size + 1 from Option.some.inj e) (by omega))) | (refine fb_grown hgrow7 ?_ (fun e => absurd (show w6.heap.size + 1 = w6.heap.size from Option.some.inj e) (by omega))) | rfl | (simp; done))); (case base2 => have := hgrow7.size; first | (simp at *; omega) | omega); intro g8 c8 w8 hown8 hgrow8 hloc8 hlt8; have Q8 := HG.out _ _ _ _ (by repeat (first | assumption | with_reducible refine Eq3.drew ?_ | with_reducible refine Eq3.alloc ?_ _)) rfl hgrow8 (World.ownsRow.lt hown7 g7 rfl).1; obtain ⟨d0, d1, df, dl⟩ := Q8.c2)
            | (refine step_append_lies _ rfl (.tmp 29) (.tmp 31) 28 rfl w6.heap.size 32 iT (.agg #[.int .i64 0, .string ⟨#[]⟩, .string ⟨#[]⟩, .string ⟨#[]⟩]) 4 56 Try.underlying28 hT0 hT1 hT2 hT3 rfl (by decide) (.slice (some ⟨g7, 0, none⟩) (0 + L.length) c7) (0 + L.length) ([] ++ L.flatMap c4) (by simp [Act.eval] <;> fail) ?own2 ⟨w6.heap.size + 1, 0, none⟩ 1 1 [.int .i64 tk, .string ta, .string tb, .string tc] (by simp [Act.eval] <;> fail) rfl ?news2 H2.out (by decide) (by have := HN.out; unfold maxLen; omega) (by have := HN.out; omega) ?base2 _ rfl ?_; (case own2 => repeat (first | assumption | with_reducible refine own_drew ?_ | with_reducible refine World.ownsRow.alloc ?_ _)); (case news2 => refine World.news_of_block (cs := #[.int .i64 tk, .string ta, .string tb, .string tc]) (t := 32) (fr := (0, 0)) ?_; show Fb _ _ _ _; repeat (first | with_reducible refine Fb.drew ?_ | with_reducible refine fb_at _ _ ?_ | with_reducible refine Fb.alloc ?_ _ | (refine fb_grown hgrow7 ?_ (fun e => absurd (show w6.heap.size = w6.heap.size + 1 from Option.some.inj e) (by omega))) | (refine fb_grown hgrow7 ?_ (fun e => absurd (show w6.heap.size + 1 = w6.heap.size from Option.some.inj e) (by omega))) | rfl | (simp; done))); (case base2 => have := hgrow7.size; first | (simp at *; omega) | omega); intro g8 c8 w8 hown8 hgrow8 hloc8 hlt8; have Q8 := HG.out _ _ _ _ (by repeat (first | assumption | with_reducible refine Eq3.drew ?_ | with_reducible refine Eq3.alloc ?_ _)) rfl hgrow8 (World.ownsRow.lt hown7 g7 rfl).1; obtain ⟨d0, d1, df, dl⟩ := Q8.c2))
          all_goals
            have HQ := Lib.hid (show B ≤ w6.heap.size from Nat.le_trans HB.out HE6.out.b.size)
            have hD9 : DtL w6.heap.size w8 (.slice (some ⟨g8, 0, none⟩) (L.length + 1) c8) (L ++ [t]) := by
              have h := hown8
              rw [Nat.zero_add, List.nil_append] at h
              unfold DtL
              rw [List.length_append, HFL.out]
              exact h
            have Q9 := Q8.set2 (.slice (some ⟨g8, 0, none⟩) (L.length + 1) c8)
            have HD9 := Lib.hid ((hD9.setc (i := 1) Q8.x2 (.slice (some ⟨g8, 0, none⟩) (L.length + 1) c8)).mono HQ.out)
            obtain ⟨W9, hW9⟩ : ∃ W9, W9 = w8.setCell ⟨W.heap.size, 1, none⟩ (.slice (some ⟨g8, 0, none⟩) (L.length + 1) c8) := ⟨_, rfl⟩
            rw [← hW9] at Q9 HD9 ⊢
            have hS := Q9.e2
            obtain ⟨y0, y1, f0, f1, yl⟩ := Q9.c4
            have HQ9 := Lib.hid Q9
            clear hW9 Q9 hD9 hown8 hgrow8 hloc8 hlt8 Q8 d0 d1 df dl hown7 hgrow7 hloc7 hlt7 Q7 a0 a1 af al b0 b1 b2 b3 bl u0 u1 uf ul s0 s1 s2 s3 sl hE6 KN KN2 HG HEB HDL2 HE0 HLL H1 H2 HFL
            go_wp2
            go_region_held3 (fun w => w.cell? ⟨W.heap.size, 0, none⟩ = some (.int .i64 room) ∧ w.cell? ⟨W.heap.size, 1, none⟩ = some (.slice (some ⟨g8, 0, none⟩) (L.length + 1) c8))
              (first | (refine E2.cells (W := W) (g4 := W.heap.size + 1 + 1) ?_; repeat (first | assumption | with_reducible refine E2.drew ?_ | with_reducible refine E2.set ?_ _ _)))
              (fail)
            all_goals
              have hwr : IntKind.i64.wrap (L.length : Int) = L.length := by rw [IntKind.wrap_i64]; have := HN.out; omega
              (try go_wp2)
              exact bodyPost_ret (v := .tuple #[.agg #[.int .i64 room, .slice (some ⟨g8, 0, none⟩) (L.length + 1) c8], .int .i64 L.length, .int .i64 0]) (by simp [results, Try.results9, go_sem, y0, y1, yl, hwr]) rfl ⟨.slice (some ⟨g8, 0, none⟩) (L.length + 1) c8, by rw [HR.out], by rw [HR.out]; exact DtL.set4 HD9.out HQ9.out _ _, Below.drew (HQ9.out.fin _ _)⟩
end Go.Proofs.Ytehechbiajbobaa
