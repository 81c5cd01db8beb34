/-
  A LIST OF KEYS, one block: find, in general.
-/
import Derived.Test.YtoiigplflmejmaaSOne
import Derived.Test.YtoiigplflmejmaaSSea
import Derived.Test.YtoiigplflmejmaaSInsA
namespace Go.Proofs.Ytoiigplflmejmaa
open Go.RowKit
set_option linter.unusedVariables false
set_option linter.unusedSimpArgs false
set_option maxRecDepth 100000

theorem flat_at {α β : Type} {f : α → List β} {n : Nat} : ∀ (l : List α) (i d : Nat) (x : α), (∀ y ∈ l, (f y).length = n) → l[i]? = some x → d < n → (l.flatMap f)[i * n + d]? = (f x)[d]?
  | [], i, d, x, _, h, _ => by simp at h
  | y :: l, 0, d, x, hl, h, hd => by
    obtain rfl : y = x := by simpa using h
    rw [List.flatMap_cons, Nat.zero_mul, Nat.zero_add, List.getElem?_append_left (by rw [hl y List.mem_cons_self]; exact hd)]
  | y :: l, i + 1, d, x, hl, h, hd => by
    have ih := flat_at l i d x (fun z hz => hl z (List.mem_cons_of_mem _ hz)) (by simpa using h) hd
    rw [List.flatMap_cons, List.getElem?_append_right (by rw [hl y List.mem_cons_self, Nat.add_mul]; omega), hl y List.mem_cons_self]
    rw [← ih]
    congr 1
    rw [Nat.add_mul]; omega
theorem row_below {W W' : World} {B : Nat} {ty : TypeId} {z n : Nat} {u : Value} {xs : List Value} (hr : W.ownsRow B ty z u n xs) (hb : Below W.heap.size W W') : W'.ownsRow B ty z u n xs := by
  refine ⟨hr.1, ?_⟩
  rcases id hr.2 with hn | ⟨g, cap, cur, hv, hge, hg, rest⟩
  · exact .inl hn
  · exact .inr ⟨g, cap, cur, hv, hge, (hb.block g (Array.getElem?_eq_some_iff.1 hg).1).trans hg, rest⟩
theorem row_mono {W : World} {B B' : Nat} {ty : TypeId} {z n : Nat} {u : Value} {xs : List Value} (hr : W.ownsRow B ty z u n xs) (hB : B' ≤ B) : W.ownsRow B' ty z u n xs := by
  refine ⟨hr.1, ?_⟩
  rcases id hr.2 with hn | ⟨g, cap, cur, hv, hge, rest⟩
  · exact .inl hn
  · exact .inr ⟨g, cap, cur, hv, Nat.le_trans hB hge, rest⟩
theorem row_block {W : World} {B : Nat} {ty : TypeId} {z n : Nat} {u : Value} {xs : List Value} (hr : W.ownsRow B ty z u n xs) {k : Nat} (hk : u.ownBlock = some k) : ∃ cur, W.heap[k]? = some (.cells cur ty (0, 0)) := by
  rcases id hr.2 with ⟨hv, _⟩ | ⟨g, cap, cur, hv, _, hg, _⟩
  · rw [hv] at hk; cases hk
  · rw [hv] at hk
    obtain rfl : g = k := Option.some.inj hk
    exact ⟨cur, hg⟩
theorem lx_iff {a0 a1 a2 b0 b1 b2 : Int} : lx a0 a1 a2 b0 b1 b2 = true ↔ a0 < b0 ∨ (a0 = b0 ∧ (a1 < b1 ∨ (a1 = b1 ∧ a2 < b2))) := by
  unfold lx
  by_cases h0 : a0 = b0
  · by_cases h1 : a1 = b1
    · by_cases h2 : a2 = b2
      · simp [h0, h1, h2]
      · simp [h0, h1, h2]
    · simp [h0, h1]
  · simp [h0]
/-- Ahead, in an order. -/
def ltK (n : Int) (x y : Kt) : Bool := lsB n x.a x.b x.c y.a y.b y.c
theorem ltK_tr {n : Int} {x y z : Kt} (h1 : ltK n x y = true) (h2 : ltK n y z = true) : ltK n x z = true := by
  unfold ltK lsB at *
  split at h1
  · rename_i e; rw [if_pos e] at h2 ⊢; rw [lx_iff] at *; omega
  · rename_i e
    rw [if_neg e] at h2 ⊢
    split at h1
    · rename_i e; rw [if_pos e] at h2 ⊢; rw [lx_iff] at *; omega
    · rename_i e; rw [if_neg e] at h2 ⊢; rw [lx_iff] at *; omega
theorem ltK_irr (n : Int) (x : Kt) : ltK n x x = false := lsB_same n x.a x.b x.c
theorem ltK_tot {n : Int} {x y : Kt} (h1 : ltK n x y = false) (h2 : ltK n y x = false) : x = y := by
  have key : ∀ {a0 a1 a2 b0 b1 b2 : Int}, lx a0 a1 a2 b0 b1 b2 = false → lx b0 b1 b2 a0 a1 a2 = false → a0 = b0 ∧ a1 = b1 ∧ a2 = b2 := fun {a0 a1 a2 b0 b1 b2} h h' => by
    have e1 : ¬ (lx a0 a1 a2 b0 b1 b2 = true) := by rw [h]; decide
    have e2 : ¬ (lx b0 b1 b2 a0 a1 a2 = true) := by rw [h']; decide
    rw [lx_iff] at e1 e2
    omega
  obtain ⟨xa, xb, xc⟩ := x
  obtain ⟨ya, yb, yc⟩ := y
  unfold ltK lsB at *
  dsimp only at *
  split at h1
  · rename_i e; rw [if_pos e] at h2; obtain ⟨p, q, r⟩ := key h1 h2; rw [p, q, r]
  · rename_i e
    rw [if_neg e] at h2
    split at h1
    · rename_i e; rw [if_pos e] at h2; obtain ⟨p, q, r⟩ := key h1 h2; rw [p, q, r]
    · rename_i e; rw [if_neg e] at h2; obtain ⟨p, q, r⟩ := key h1 h2; rw [p, q, r]
/-- Rising. -/
def Rs (n : Int) (l : List Kt) : Prop := l.Pairwise fun x y => ltK n x y = true
theorem Rs.at {n : Int} {l : List Kt} (h : Rs n l) {i j : Nat} {x y : Kt} (hi : l[i]? = some x) (hj : l[j]? = some y) (hij : i < j) : ltK n x y = true := by
  obtain ⟨h1, rfl⟩ := List.getElem?_eq_some_iff.1 hi
  obtain ⟨h2, rfl⟩ := List.getElem?_eq_some_iff.1 hj
  exact List.pairwise_iff_getElem.1 h i j h1 h2 hij
/-- Not ahead of a key: the place's answer. -/
def notA (n : Int) (l : List Kt) (k : Kt) (i : Nat) : Bool := match l[i]? with
  | some x => !ltK n x k
  | none => true
theorem notA_mono {n : Int} {l : List Kt} {k : Kt} (h : Rs n l) (a b : Nat) (hab : a ≤ b) (hb : b < l.length) (hp : notA n l k a = true) : notA n l k b = true := by
  obtain ⟨x, hx⟩ : ∃ x, l[a]? = some x := ⟨_, List.getElem?_eq_getElem (by omega)⟩
  obtain ⟨y, hy⟩ : ∃ y, l[b]? = some y := ⟨_, List.getElem?_eq_getElem hb⟩
  unfold notA at *
  rw [hx] at hp
  rw [hy]
  rcases Nat.lt_or_ge a b with e | e
  · have hxy := h.at hx hy e
    have hp' : (!ltK n x k) = true := hp
    show (!ltK n y k) = true
    cases hyk : ltK n y k with
    | false => rfl
    | true => rw [ltK_tr hxy hyk] at hp'; cases hp'
  · obtain rfl : a = b := by omega
    rw [hx] at hy
    injection hy with hy
    subst hy
    exact hp
/-- A block whose first cell is known. -/
def Fk (W : World) (g : Nat) (t : TypeId) (v : Value) : Prop := ∃ rs : List Value, Fb W g t (v :: rs).toArray
theorem Fk.cell {W : World} {g : Nat} {t : TypeId} {v : Value} (h : Fk W g t v) (_ : Fin 1) : W.cell? ⟨g, 0, none⟩ = some v := by
  obtain ⟨rs, h⟩ := h
  exact (h.cell 0).trans (by simp)
theorem Fk.free {W : World} {g : Nat} {t : TypeId} {v : Value} (h : Fk W g t v) (_ : Fin 1) : W.frozen? ⟨g, 0, none⟩ = false := by
  obtain ⟨rs, h⟩ := h
  exact h.free 0
theorem Fk.lt {W : World} {g : Nat} {t : TypeId} {v : Value} (h : Fk W g t v) : g < W.heap.size := by
  obtain ⟨rs, h⟩ := h
  exact h.lt
theorem Fk.below {W W' : World} {g : Nat} {t : TypeId} {v : Value} (h : Fk W g t v) (hb : Below W.heap.size W W') : Fk W' g t v := by
  obtain ⟨rs, h⟩ := h
  exact ⟨rs, h.below hb⟩
theorem Fk.set {W : World} {g : Nat} {t : TypeId} {v : Value} (h : Fk W g t v) (_ : Fin 1) (x : Value) : Fk (W.setCell ⟨g, 0, none⟩ x) g t x := by
  obtain ⟨rs, h⟩ := h
  exact ⟨rs, by have := h.set 0 x; simpa using this⟩
theorem Fk.of {W : World} {g : Nat} {t : TypeId} {v : Value} (h : Fb W g t #[v]) : Fk W g t v := ⟨[], h⟩
theorem Fk.keep {W W' : World} {g : Nat} {t : TypeId} {v : Value} (h : Fk W g t v) (hk : W'.heap[g]? = W.heap[g]?) : Fk W' g t v := by
  obtain ⟨rs, h⟩ := h
  exact ⟨rs, hk.trans h⟩
/-- A list of keys in memory: a block with them. -/
structure Lm (B : Nat) (W : World) (d o : Nat) (n : Int) (gb cb : Nat) (v : Value) (l : List Kt) : Prop where
  h0 : W.cell? ⟨d, o, none⟩ = some (.int .i64 n)
  h1 : W.cell? ⟨d, o + 1, none⟩ = some (.slice (some ⟨gb, 0, none⟩) 1 cb)
  hb : Fk W gb 70 v
  hr : KtR B W v l
section
variable {B : Nat} {W W' : World} {d o gb cb : Nat} {n : Int} {v : Value} {l : List Kt}
theorem KtR.at {u : Value} (h : KtR B W u l) {i : Nat} {x : Kt} (hi : l[i]? = some x) : ∃ g c, u = .slice (some ⟨g, 0, none⟩) l.length c ∧ W.cell? ⟨g, i * 3, none⟩ = some (.int .i64 x.a) ∧ W.cell? ⟨g, i * 3 + 1, none⟩ = some (.int .i64 x.b) ∧ W.cell? ⟨g, i * 3 + 2, none⟩ = some (.int .i64 x.c) := by
  rcases id h.2 with ⟨hv, hl⟩ | ⟨g, cap, cur, hv, _⟩
  · have := (List.getElem?_eq_some_iff.1 hi).1
    omega
  · have key : ∀ (j : Nat) (u' : Value), (ktc x)[j]? = some u' → W.cell? ⟨g, i * 3 + j, none⟩ = some u' := fun j u' hu => by
      have hj : j < 3 := (List.getElem?_eq_some_iff.1 hu).1
      have h1 := flat_at (f := ktc) l i j x (fun y _ => ktc_len y) hi hj
      have := World.ownsRow.cells h (g := g) (by rw [hv]; rfl) (i * 3 + j) u' (by rw [h1, hu])
      rwa [at_add, Nat.zero_add] at this
    exact ⟨g, cap, hv, key 0 _ rfl, key 1 _ rfl, key 2 _ rfl⟩
theorem Lm.below (h : Lm B W d o n gb cb v l) (hb : Below W.heap.size W W') : Lm B W' d o n gb cb v l := ⟨cell_below h.h0 hb, cell_below h.h1 hb, h.hb.below hb, row_below h.hr hb⟩
set_option maxHeartbeats 4000000 in
/-- The closure over a block's keys. -/
theorem sfb_any (h : Lm B W d o n gb cb v l) (hl : l.length ≤ 1000) {bl bq bk i : Nat} {k : Kt} (hi : i < l.length) (hp : Fb W bl 67 #[.pointer (some ⟨d, o, none⟩)]) (hq : Fb W bq 70 #[v]) (hk : Fb W bk 37 #[.int .i64 k.a, .int .i64 k.b, .int .i64 k.c]) :
    Calls Try.prog 46 #[.int .i64 i, .pointer (some ⟨bl, 0, none⟩), .pointer (some ⟨bq, 0, none⟩), .pointer (some ⟨bk, 0, none⟩)] W fun e w' => e = .returned (.bool (notA n l k i)) ∧ Below W.heap.size W w' := by
  obtain ⟨x, hx⟩ : ∃ x, l[i]? = some x := ⟨_, List.getElem?_eq_getElem hi⟩
  have hv : notA n l k i = !lsB n x.a x.b x.c k.a k.b k.c := by unfold notA; rw [hx]; rfl
  rw [hv]
  have cL := fun W => sless_any n x.a x.b x.c k.a k.b k.c W
  obtain ⟨g, c, rfl, z1, z2, z3⟩ := h.hr.at hx
  have y0 := h.h0
  have x0 := hp.cell 0
  have x1 := hq.cell 0
  have k0 := hk.cell 0
  have k1 := hk.cell 1
  have k2 := hk.cell 2
  have hiz : (0 : Int) ≤ (i : Int) := by omega
  have hin : (i : Int) < (l.length : Int) := by omega
  generalize lsB n x.a x.b x.c k.a k.b k.c = r at *
  generalize x.a = xa at *
  generalize x.b = xb at *
  generalize x.c = xc at *
  generalize k.a = ka at *
  generalize k.b = kb at *
  generalize k.c = kc at *
  clear h hp hk hq hx hv
  go_enter Try.func46, Try.ntmps46
  go_wp2
  go_region_held3 (fun w => w.cell? ⟨bl, 0, none⟩ = some (.pointer (some ⟨d, o, none⟩)) ∧ w.cell? ⟨bq, 0, none⟩ = some (.slice (some ⟨g, 0, none⟩) l.length c) ∧ w.cell? ⟨d, o, none⟩ = some (.int .i64 n) ∧ w.cell? ⟨g, i * 3, none⟩ = some (.int .i64 xa) ∧ w.cell? ⟨g, i * 3 + 1, none⟩ = some (.int .i64 xb) ∧ w.cell? ⟨g, i * 3 + 2, none⟩ = some (.int .i64 xc) ∧ w.cell? ⟨bk, 0, none⟩ = some (.int .i64 ka) ∧ w.cell? ⟨bk, 1, none⟩ = some (.int .i64 kb) ∧ w.cell? ⟨bk, 2, none⟩ = some (.int .i64 kc))
    (first | exact ⟨x0, x1, y0, z1, z2, z3, k0, k1, k2⟩ | exact ⟨cell_below x0 hB, cell_below x1 hB, cell_below y0 hB, cell_below z1 hB, cell_below z2 hB, cell_below z3 hB, cell_below k0 hB, cell_below k1 hB, cell_below k2 hB⟩)
    (first
      | (go_at_call 45; (with_reducible refine (cL _).mono ?_); rintro e w1 ⟨rfl, hB0⟩; have hB := (Below.drew (Below.refl W.heap.size W)).trans hB0)
      | fail)
  all_goals
    go_wp2
    go_ret
    exact ⟨rfl, hB⟩
set_option maxHeartbeats 4000000 in
/-- The closure over the blocks: of the one block, its last key. -/
theorem sfa_any (h : Lm B W d o n gb cb v l) (hl : l.length ≤ 1000) {bl bk : Nat} {k : Kt} (hi : 0 < l.length) (hp : Fb W bl 67 #[.pointer (some ⟨d, o, none⟩)]) (hk : Fb W bk 37 #[.int .i64 k.a, .int .i64 k.b, .int .i64 k.c]) :
    Calls Try.prog 44 #[.int .i64 0, .pointer (some ⟨bl, 0, none⟩), .pointer (some ⟨bk, 0, none⟩)] W fun e w' => e = .returned (.bool (notA n l k (l.length - 1))) ∧ Below W.heap.size W w' := by
  obtain ⟨m, hm⟩ : ∃ m, l.length = m + 1 := ⟨l.length - 1, by omega⟩
  obtain ⟨x, hx⟩ : ∃ x, l[m]? = some x := ⟨_, List.getElem?_eq_getElem (by omega)⟩
  have hv : notA n l k (l.length - 1) = !lsB n x.a x.b x.c k.a k.b k.c := by unfold notA; rw [hm, Nat.add_sub_cancel, hx]; rfl
  rw [hv]
  have cL := fun W => sless_any n x.a x.b x.c k.a k.b k.c W
  obtain ⟨g, c, rfl, z1, z2, z3⟩ := h.hr.at hx
  have y0 := h.h0
  have y1 := h.h1
  have x0 := hp.cell 0
  have x1 := h.hb.cell 0
  have k0 := hk.cell 0
  have k1 := hk.cell 1
  have k2 := hk.cell 2
  have wz : IntKind.i64.wrap ((m : Int) + 1 - 1) = (m : Int) := by rw [IntWalk.i64_in _ (by omega)]; omega
  have wz2 : IntKind.i64.wrap (m : Int) = (m : Int) := IntWalk.i64_in _ (by omega)
  have hmz : (0 : Int) ≤ (m : Int) := by omega
  have hmn : (m : Int) < (m : Int) + 1 := by omega
  rw [hm] at x1
  generalize lsB n x.a x.b x.c k.a k.b k.c = r at *
  generalize x.a = xa at *
  generalize x.b = xb at *
  generalize x.c = xc at *
  generalize k.a = ka at *
  generalize k.b = kb at *
  generalize k.c = kc at *
  clear h hp hk hx hv hm
  go_enter Try.func44, Try.ntmps44
  go_wp2
  go_region_held3 (fun w => w.cell? ⟨bl, 0, none⟩ = some (.pointer (some ⟨d, o, none⟩)) ∧ w.cell? ⟨d, o, none⟩ = some (.int .i64 n) ∧ w.cell? ⟨g, m * 3, none⟩ = some (.int .i64 xa) ∧ w.cell? ⟨g, m * 3 + 1, none⟩ = some (.int .i64 xb) ∧ w.cell? ⟨g, m * 3 + 2, none⟩ = some (.int .i64 xc) ∧ w.cell? ⟨bk, 0, none⟩ = some (.int .i64 ka) ∧ w.cell? ⟨bk, 1, none⟩ = some (.int .i64 kb) ∧ w.cell? ⟨bk, 2, none⟩ = some (.int .i64 kc))
    (first | exact ⟨x0, y0, z1, z2, z3, k0, k1, k2⟩ | exact ⟨cell_below x0 hB, cell_below y0 hB, cell_below z1 hB, cell_below z2 hB, cell_below z3 hB, cell_below k0 hB, cell_below k1 hB, cell_below k2 hB⟩)
    (first
      | (go_at_call 45; (with_reducible refine (cL _).mono ?_); rintro e w1 ⟨rfl, hB0⟩; have hB := (Below.drew (Below.refl W.heap.size W)).trans hB0)
      | fail)
  all_goals
    go_wp2
    go_ret
    exact ⟨rfl, hB⟩
end
end Go.Proofs.Ytoiigplflmejmaa
