/-
  THE DOCUMENT's STORE: Add, where nothing is added.
-/
import Derived.Test.YtoiigplflmejmaaSKfind
import Derived.Deep.AppendLies
import Derived.Maps.AppendAt
import Derived.Deep.RegionHeldLaw
import Derived.Deep.CutBlock
namespace Go.Proofs.Ytoiigplflmejmaa
open Go.RowKit
set_option linter.unusedVariables false
set_option linter.unusedSimpArgs false
set_option maxRecDepth 100000

/-- The boxes of Add. -/
structure Kx3 (W : World) (g2 g3 g4 : Nat) (room : Int) (v : Value) (cs : Array Value) (w : World) : Prop where
  b : Below W.heap.size W w
  x2 : Fb w g2 30 #[.int .i64 room, v]
  x3 : Fb w g3 31 cs
  x4 : Fb w g4 30 #[.int .i64 0, .slice none 0 0]
  n2 : W.heap.size ≤ g2
  n4 : W.heap.size ≤ g4
  ne : g2 ≠ g4
  ne3 : g2 ≠ g3
section
variable {W : World} {g2 g3 g4 : Nat} {room : Int} {v : Value} {cs : Array Value}
theorem Kx3.below {w w' : World} (h : Kx3 W g2 g3 g4 room v cs w) (hb : Below w.heap.size w w') : Kx3 W g2 g3 g4 room v cs w' := ⟨h.b.trans (hb.mono h.b.size), h.x2.below hb, h.x3.below hb, h.x4.below hb, h.n2, h.n4, h.ne, h.ne3⟩
theorem Kx3.alloc {w : World} (h : Kx3 W g2 g3 g4 room v cs w) (o : Obj) : Kx3 W g2 g3 g4 room v cs (w.alloc o) := h.below ((Below.refl _ _).alloc (Nat.le_refl _) o)
theorem Kx3.set2 {w : World} (h : Kx3 W g2 g3 g4 room v cs w) (v' : Value) : Kx3 W g2 g3 g4 room v' cs (w.setCell ⟨g2, 1, none⟩ v') :=
  ⟨Below.setCell h.b h.n2 _, heap_setCell_same w g2 1 _ _ _ h.x2, (Below.heap_setCell _ _ _ _ h.ne3.symm).trans h.x3, (Below.heap_setCell _ _ _ _ h.ne.symm).trans h.x4, h.n2, h.n4, h.ne, h.ne3⟩
theorem Kx3.c2 {w : World} (h : Kx3 W g2 g3 g4 room v cs w) : w.cell? ⟨g2, 0, none⟩ = some (.int .i64 room) ∧ w.cell? ⟨g2, 1, none⟩ = some v ∧ w.frozen? ⟨g2, 1, none⟩ = false ∧ g2 < w.heap.size := ⟨h.x2.cell 0, h.x2.cell 1, h.x2.free 1, h.x2.lt⟩
theorem Kx3.c4 {w : World} (h : Kx3 W g2 g3 g4 room v cs w) : w.cell? ⟨g4, 0, none⟩ = some (.int .i64 0) ∧ w.cell? ⟨g4, 1, none⟩ = some (.slice none 0 0) ∧ w.frozen? ⟨g4, 0, none⟩ = false ∧ w.frozen? ⟨g4, 1, none⟩ = false ∧ g4 < w.heap.size := ⟨h.x4.cell 0, h.x4.cell 1, h.x4.free 0, h.x4.free 1, h.x4.lt⟩
theorem Kx3.c3 {w : World} {a b c : Int} (h : Kx3 W g2 g3 g4 room v #[.int .i64 a, .int .i64 b, .int .i64 c] w) : w.cell? ⟨g3, 0, none⟩ = some (.int .i64 a) ∧ w.cell? ⟨g3, 1, none⟩ = some (.int .i64 b) ∧ w.cell? ⟨g3, 2, none⟩ = some (.int .i64 c) ∧ g3 < w.heap.size := ⟨h.x3.cell 0, h.x3.cell 1, h.x3.cell 2, h.x3.lt⟩
theorem Kx3.fin {w : World} (h : Kx3 W g2 g3 g4 room v cs w) (x y : Value) : Below W.heap.size W ((w.setCell ⟨g4, 0, none⟩ x).setCell ⟨g4, 1, none⟩ y) := Below.setCell (Below.setCell h.b h.n4 _) h.n4 _
theorem row_heapS {B : Nat} {W W' : World} {ty : TypeId} {z n : Nat} {u : Value} {xs : List Value} (hr : W.ownsRow B ty z u n xs) (hk : ∀ (g : Nat) (cur : Array Value), W.heap[g]? = some (.cells cur ty (0, 0)) → W'.heap[g]? = some (.cells cur ty (0, 0))) : W'.ownsRow B ty z u n xs := by
  refine ⟨hr.1, ?_⟩
  rcases id hr.2 with hn | ⟨g, cap, cur, hv, hge, hg, rest⟩
  · exact .inl hn
  · exact .inr ⟨g, cap, cur, hv, hge, hk g cur hg, rest⟩
theorem fb_set_far {w : World} {g i : Nat} {t ty : TypeId} {cs : Array Value} (h : Fb w g t cs) (hne : ty ≠ t) (x : Value) : ∀ (k : Nat) (cur : Array Value), w.heap[k]? = some (.cells cur ty (0, 0)) → (w.setCell ⟨g, i, none⟩ x).heap[k]? = some (.cells cur ty (0, 0)) := fun k cur hk => by
  have hn : k ≠ g := fun e => by
    unfold Fb at h
    rw [← e, hk] at h
    injection h with h
    injection h with _ h
    exact hne h
  exact (Below.heap_setCell _ _ _ _ hn).trans hk
theorem KtD.set4 {B : Nat} {w : World} {u : Value} {L : List Kt} (hd : KtD B w u L) (h : Kx3 W g2 g3 g4 room v cs w) (x y : Value) : KtD B ((w.setCell ⟨g4, 0, none⟩ x).setCell ⟨g4, 1, none⟩ y) u L :=
  row_heapS hd fun g cur hg => fb_set_far (h.x4.set 0 x) (by decide) y g cur (fb_set_far h.x4 (by decide) x g cur hg)
theorem KtD.set2 {B : Nat} {w : World} {u : Value} {L : List Kt} (hd : KtD B w u L) (h : Kx3 W g2 g3 g4 room v cs w) (x : Value) : KtD B (w.setCell ⟨g2, 1, none⟩ x) u L :=
  row_heapS hd fun g cur hg => fb_set_far h.x2 (by decide) x g cur hg
end
noncomputable def addD (room : Int) (L : List Kt) (k : Kt) : List Kt × Int := if k.a < 0 ∨ k.b < 0 ∨ k.c < 0 then (L, 2) else if k ∈ L then (L, 5) else if room ≤ L.length then (L, 6) else (L ++ [k], 0)
def KaddP (B : Nat) (W : World) (room : Int) (r : List Kt × Int) (e : Ending) (w' : World) : Prop := ∃ v', e = .returned (.tuple #[.agg #[.int .i64 room, v'], .int .i64 r.2]) ∧ KtD B w' v' r.1 ∧ Below W.heap.size W w'
theorem kx3_at {W : World} (room : Int) (v : Value) (cs : Array Value) : Kx3 W W.heap.size (W.heap.size + 1) (W.heap.size + 1 + 1) room v cs (((W.alloc (.cells #[.int .i64 room, v] 30)).alloc (.cells cs 31)).alloc (.cells #[.int .i64 0, .slice none 0 0] 30)) := by
  have h2 := Fb.new W 30 #[.int .i64 room, v]
  have h3 := Fb.new (W.alloc (.cells #[.int .i64 room, v] 30)) 31 cs
  have h4 := Fb.new ((W.alloc (.cells #[.int .i64 room, v] 30)).alloc (.cells cs 31)) 30 #[.int .i64 0, .slice none 0 0]
  refine ⟨(((Below.refl _ _).alloc (Nat.le_refl _) _).alloc (by simp) _).alloc (by simp; omega) _, (h2.alloc _).alloc _, ?_, ?_, Nat.le_refl _, by omega, by omega, by omega⟩
  · simpa using h3.alloc _
  · simpa using h4
set_option maxHeartbeats 16000000 in
theorem kadd_neg {B : Nat} {W : World} {v : Value} {L : List Kt} (hL : KtD B W v L) (room : Int) (k : Kt) (hn : k.a < 0 ∨ k.b < 0 ∨ k.c < 0) :
    Calls Try.prog 10 #[.agg #[.int .i64 room, v], .agg #[.int .i64 k.a, .int .i64 k.b, .int .i64 k.c]] W (KaddP B W room (L, 2)) := by
  obtain ⟨A, c, rfl⟩ := hL.shape
  have hF : ∀ o1 o2 o3 : Obj, KaddP B W room (L, 2) (.returned (.tuple #[.agg #[.int .i64 room, .slice A L.length c], .int .i64 2])) (((W.alloc o1).alloc o2).alloc o3) := fun o1 o2 o3 => by
    have hb : Below W.heap.size W (((W.alloc o1).alloc o2).alloc o3) := (((Below.refl _ _).alloc (Nat.le_refl _) _).alloc (by simp) _).alloc (by simp; omega) _
    exact ⟨_, rfl, hL.below hb, hb⟩
  have HF := Lib.hid hF
  clear hL hF
  generalize k.a = ka at *
  generalize k.b = kb at *
  generalize k.c = kc at *
  by_cases ha : ka < 0
  · clear hn
    go_enter Try.func10, Try.ntmps10
    go_wp2
    exact bodyPost_ret (v := .tuple #[.agg #[.int .i64 room, .slice A L.length c], .int .i64 2]) (by simp [results, Try.results10, go_sem]) rfl (HF.out _ _ _)
  · by_cases hb : kb < 0
    · clear hn
      go_enter Try.func10, Try.ntmps10
      go_wp2
      exact bodyPost_ret (v := .tuple #[.agg #[.int .i64 room, .slice A L.length c], .int .i64 2]) (by simp [results, Try.results10, go_sem]) rfl (HF.out _ _ _)
    · have hc : kc < 0 := by omega
      clear hn
      go_enter Try.func10, Try.ntmps10
      go_wp2
      exact bodyPost_ret (v := .tuple #[.agg #[.int .i64 room, .slice A L.length c], .int .i64 2]) (by simp [results, Try.results10, go_sem]) rfl (HF.out _ _ _)
set_option maxHeartbeats 16000000 in
theorem kadd_no {B : Nat} {W : World} {v : Value} {L : List Kt} (hL : KtD B W v L) (hl : L.length ≤ 1000) (room : Int) (k : Kt) (hk : nnK k) (j : Int) (hj : (k ∈ L ∧ j = 5) ∨ (k ∉ L ∧ room ≤ L.length ∧ j = 6)) :
    Calls Try.prog 10 #[.agg #[.int .i64 room, v], .agg #[.int .i64 k.a, .int .i64 k.b, .int .i64 k.c]] W (KaddP B W room (L, j)) := by
  obtain ⟨A, c, rfl⟩ := hL.shape
  have cF := fun {w : World} (h : KtD B w (.slice A L.length c) L) => kfind_any h (by omega) room k
  obtain ⟨W2, hW2⟩ : ∃ W2, W2 = ((W.alloc (.cells #[.int .i64 room, .slice A L.length c] 30)).alloc (.cells #[.int .i64 k.a, .int .i64 k.b, .int .i64 k.c] 31)).alloc (.cells #[.int .i64 0, .slice none 0 0] 30) := ⟨_, rfl⟩
  have hX := kx3_at (W := W) room (.slice A L.length c) #[.int .i64 k.a, .int .i64 k.b, .int .i64 k.c]
  rw [← hW2] at hX
  have cF2 := cF (hL.below hX.b)
  have HX := Lib.hid hX
  have HL := Lib.hid (hL.below hX.b)
  have hfd : findD L k = -1 ∨ ∃ i : Nat, findD L k = (i : Int) := by
    by_cases h : k ∈ L
    · obtain ⟨i, hi, _⟩ := fromD_at k L 0 h
      exact .inr ⟨_, hi⟩
    · exact .inl (fromD_neg k L 0 h)
  have hm : (∃ i : Nat, findD L k = (i : Int) ∧ k ∈ L) ∨ (findD L k = -1 ∧ k ∉ L) := by
    by_cases h : k ∈ L
    · obtain ⟨i, hi, _⟩ := fromD_at k L 0 h
      exact .inl ⟨_, hi, h⟩
    · exact .inr ⟨fromD_neg k L 0 h, h⟩
  obtain ⟨n0, n1, n2⟩ := hk
  have m0 : ¬ k.a < 0 := by omega
  have m1 : ¬ k.b < 0 := by omega
  have m2 : ¬ k.c < 0 := by omega
  clear hL hX cF hfd n0 n1 n2
  generalize findD L k = f at *
  rw [hW2] at cF2
  have HW2 := Lib.hid hW2
  rcases hm with ⟨i, rfl, hkl⟩ | ⟨rfl, hkl⟩
  · obtain rfl : j = 5 := by
      rcases hj with ⟨_, h⟩ | ⟨h, _⟩
      · exact h
      · exact absurd hkl h
    have hi0 : (0 : Int) ≤ (i : Int) := by omega
    clear hj hkl hW2
    generalize k.a = ka at *
    generalize k.b = kb at *
    generalize k.c = kc at *
    go_enter Try.func10, Try.ntmps10
    go_wp2_with (go_at_call 16; (with_reducible refine cF2.mono ?_); rintro e w5 ⟨rfl, hb5⟩; rw [← HW2.out] at hb5; have hX5 := HX.out.below hb5; obtain ⟨u0, u1, uf, ul⟩ := hX5.c2; obtain ⟨y0, y1, f0, f1, yl⟩ := hX5.c4)
    exact bodyPost_ret (v := .tuple #[.agg #[.int .i64 room, .slice A L.length c], .int .i64 5]) (by simp [results, Try.results10, go_sem, y0, y1, yl]) rfl ⟨_, rfl, (HL.out.below hb5).set4 hX5 _ _, hX5.fin _ _⟩
  · obtain ⟨hr, rfl⟩ : room ≤ (L.length : Int) ∧ j = 6 := by
      rcases hj with ⟨h, _⟩ | ⟨_, h1, h2⟩
      · exact absurd h hkl
      · exact ⟨h1, h2⟩
    clear hj hkl hW2
    generalize k.a = ka at *
    generalize k.b = kb at *
    generalize k.c = kc at *
    go_enter Try.func10, Try.ntmps10
    go_wp2_with (go_at_call 16; (with_reducible refine cF2.mono ?_); rintro e w5 ⟨rfl, hb5⟩; rw [← HW2.out] at hb5; have hX5 := HX.out.below hb5; obtain ⟨u0, u1, uf, ul⟩ := hX5.c2; obtain ⟨y0, y1, f0, f1, yl⟩ := hX5.c4)
    exact bodyPost_ret (v := .tuple #[.agg #[.int .i64 room, .slice A L.length c], .int .i64 6]) (by simp [results, Try.results10, go_sem, y0, y1, yl]) rfl ⟨_, rfl, (HL.out.below hb5).set4 hX5 _ _, hX5.fin _ _⟩
end Go.Proofs.Ytoiigplflmejmaa
