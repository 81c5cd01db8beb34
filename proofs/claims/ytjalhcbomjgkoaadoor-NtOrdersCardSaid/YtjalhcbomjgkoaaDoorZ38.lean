/-
  MERGED (a claim has at most 60 files): TOrd, VSizes.
-/
import Derived.Test.YtjalhcbomjgkoaaDoorZ16
import Derived.Test.YtjalhcbomjgkoaaDoorZ17
import Derived.Deep.QuietTactic
import Derived.BigQuiet
/-
  THE ORDER OF TERMS.
-/
namespace Go.Proofs.YtjalhcbomjgkoaaDoor
open Go.RowKit
set_option linter.unusedVariables false

/-- The world behind both, both terms' fields at hand. -/
def Sy (w : World) (g h : Nat) (u v : Array Value) (W : World) : Prop := Below w.heap.size w W ∧ Fb W g 102 u ∧ Fb W h 102 v
theorem Sy.drew {w : World} {g h : Nat} {u v : Array Value} {W : World} (s : Sy w g h u v W) : Sy w g h u v W.drew := ⟨Below.drew s.1, s.2⟩
theorem Sy.alloc {w : World} {g h : Nat} {u v : Array Value} {W : World} (s : Sy w g h u v W) (o : Obj) : Sy w g h u v (W.alloc o) := ⟨s.1.alloc s.1.size _, s.2.1.alloc _, s.2.2.alloc _⟩
abbrev C4 (k : Int) (a b c : ByteArray) : Array Value := #[.int .i64 k, .string a, .string b, .string c]
theorem Sy.all {w : World} {g h : Nat} {k k' : Int} {a b c a' b' c' : ByteArray} {W : World} (s : Sy w g h (C4 k a b c) (C4 k' a' b' c') W) :
    W.cell? ⟨g, 0, none⟩ = some (.int .i64 k) ∧ W.cell? ⟨h, 0, none⟩ = some (.int .i64 k') ∧ Sy w g h (C4 k a b c) (C4 k' a' b' c') W := ⟨s.2.1.cell 0, s.2.2.cell 0, s⟩
theorem slcmp_y {w : World} {g h : Nat} {k k' : Int} {a b c a' b' c' : ByteArray} {W : World} (n m : Nat) (s : Sy w g h (C4 k a b c) (C4 k' a' b' c') W) :
    Calls Tryd.prog 53 #[.slice (some ⟨g, 1, none⟩) 3 n, .slice (some ⟨h, 1, none⟩) 3 m] W fun e w' => e = .returned (.int .i64 (ord3 a b c a' b' c')) ∧ W = w' :=
  slcmp_any a b c a' b' c' W g h n m (s.2.1.cell 1) (s.2.1.cell 2) (s.2.1.cell 3) (s.2.2.cell 1) (s.2.2.cell 2) (s.2.2.cell 3)
def ordB (x y : Tm) : Int := orT (ordT x.kind y.kind) (ord3 x.ta x.tb x.tc y.ta y.tb y.tc)
set_option maxRecDepth 100000 in
set_option maxHeartbeats 4000000 in
theorem order_any (x y : Tm) (w : World) : Calls Tryd.prog 27 #[x.val, y.val] w fun e w' => e = .returned (.int .i64 (ordB x y)) ∧ Below w.heap.size w w' := by
  have cx := fieldsOf_any x
  have cy := fieldsOf_any y
  obtain ⟨r, hr⟩ : ∃ r, r = ordB x y := ⟨_, rfl⟩
  rw [← hr]
  unfold ordB at hr
  obtain ⟨k, hk⟩ : ∃ k, k = x.kind := ⟨_, rfl⟩
  obtain ⟨a, ha⟩ : ∃ k, k = x.ta := ⟨_, rfl⟩
  obtain ⟨b, hb⟩ : ∃ k, k = x.tb := ⟨_, rfl⟩
  obtain ⟨c, hc⟩ : ∃ k, k = x.tc := ⟨_, rfl⟩
  obtain ⟨k', hk'⟩ : ∃ k, k = y.kind := ⟨_, rfl⟩
  obtain ⟨a', ha'⟩ : ∃ k, k = y.ta := ⟨_, rfl⟩
  obtain ⟨b', hb'⟩ : ∃ k, k = y.tb := ⟨_, rfl⟩
  obtain ⟨c', hc'⟩ : ∃ k, k = y.tc := ⟨_, rfl⟩
  obtain ⟨vx, hvx⟩ : ∃ k, k = x.val := ⟨_, rfl⟩
  obtain ⟨vy, hvy⟩ : ∃ k, k = y.val := ⟨_, rfl⟩
  rw [← hk, ← ha, ← hb, ← hc, ← hvx] at cx
  rw [← hk', ← ha', ← hb', ← hc', ← hvy] at cy
  rw [← hk, ← ha, ← hb, ← hc, ← hk', ← ha', ← hb', ← hc'] at hr
  rw [← hvx, ← hvy]
  have cK := cmpInt_any k k'
  obtain ⟨p, hp⟩ : ∃ p, p = ordT k k' := ⟨_, rfl⟩
  rw [← hp] at cK hr
  have cS : ∀ {g h n m : Nat} {W : World}, Sy w g h (C4 k a b c) (C4 k' a' b' c') W → Calls Tryd.prog 53 #[.slice (some ⟨g, 1, none⟩) 3 n, .slice (some ⟨h, 1, none⟩) 3 m] W fun e w' => e = .returned (.int .i64 (ord3 a b c a' b' c')) ∧ W = w' := fun s => slcmp_y _ _ s
  obtain ⟨q, hq⟩ : ∃ p, p = ord3 a b c a' b' c' := ⟨_, rfl⟩
  rw [← hq] at cS hr
  have cO := orInt_any p q
  rw [← hr] at cO
  clear hk ha hb hc hk' ha' hb' hc' hvx hvy hp hq hr
  go_enter Tryd.func27, Tryd.ntmps27
  go_wp2_with (first
    | (go_at_call 50; (with_reducible refine (cx _).mono ?_); rintro e w1 ⟨rfl, hb1⟩)
    | (go_at_call 50; (with_reducible refine (cy _).mono ?_); rintro e w2 ⟨rfl, hb2⟩))
  have hb3 := hb1.trans (hb2.mono hb1.size)
  have hS : Sy w w2.heap.size (w2.heap.size + 1) (C4 k a b c) (C4 k' a' b' c') ((w2.alloc (.cells (C4 k a b c) 102)).alloc (.cells (C4 k' a' b' c') 102)) :=
    ⟨(hb3.alloc hb3.size _).alloc (by have := hb3.size; simp; omega) _, (Fb.new _ _ _).alloc _, by simpa using Fb.new (w2.alloc (.cells (C4 k a b c) 102)) 102 (C4 k' a' b' c')⟩
  clear hb1 hb2 hb3 cx cy
  first
    | (go_region_held (fun W => W.cell? ⟨w2.heap.size, 0, none⟩ = some (.int .i64 k) ∧ W.cell? ⟨w2.heap.size + 1, 0, none⟩ = some (.int .i64 k') ∧ Sy w w2.heap.size (w2.heap.size + 1) (C4 k a b c) (C4 k' a' b' c') W)
        (first | exact Sy.all (by assumption) | exact Sy.all (Sy.drew (by assumption)) | exact Sy.all (Sy.alloc (by assumption) _) | exact Sy.all (Sy.alloc (Sy.drew (by assumption)) _))
        (first
          | (go_at_call 52; (with_reducible refine (cK _).mono ?_); rintro e w' ⟨rfl, rfl⟩)
          | (go_at_call 53; (with_reducible refine (cS (by first | assumption | exact Sy.drew (by assumption))).mono ?_); rintro e w' ⟨rfl, rfl⟩)
          | (go_at_call 51; (with_reducible refine (cO _ _ _ (by simp [go_sem]) (by simp [go_sem])).mono ?_); rintro e w' ⟨rfl, rfl⟩)))
    | fail
  have HB := Lib.hid (Below.drew (Sy.alloc hS (.cells #[.int .i64 p, .int .i64 q] 3)).1)
  clear hS
  go_wp2
  go_ret
  exact ⟨rfl, HB.out⟩
end Go.Proofs.YtjalhcbomjgkoaaDoor

/-
  THE DOCUMENT's 'sizes': how two sizes are.
-/
namespace Go.Proofs.YtjalhcbomjgkoaaDoor
open Go.RowKit
set_option linter.unusedVariables false

/-- Integers in memory. -/
def DAt (w : World) (A : Option Addr) (l : List Int) : Prop := ∀ (j : Nat) (x : Int), l[j]? = some x → ∃ g o, A = some ⟨g, o, none⟩ ∧ g < w.heap.size ∧ w.cell? ⟨g, o + j, none⟩ = some (.int .i64 x)
theorem DAt.below {w w' : World} {A : Option Addr} {l : List Int} (h : DAt w A l) (hb : Below w.heap.size w w') : DAt w' A l := by
  intro j x hx
  obtain ⟨g, o, e, hg, hc⟩ := h j x hx
  exact ⟨g, o, e, Nat.lt_of_lt_of_le hg hb.size, (hb.cell (p := ⟨g, o + j, none⟩) hg).trans hc⟩
theorem DAt.cellAt {w : World} {g o : Nat} {l : List Int} (h : DAt w (some ⟨g, o, none⟩) l) {j : Nat} {x : Int} (hx : l[j]? = some x) : g < w.heap.size ∧ w.cell? ⟨g, o + j, none⟩ = some (.int .i64 x) := by
  obtain ⟨g', o', e, hg, hc⟩ := h j x hx
  injection e with e
  injection e with e1 e2
  subst e1; subst e2
  exact ⟨hg, hc⟩
theorem DAt.nil (w : World) (A : Option Addr) : DAt w A [] := fun j x hx => by simp at hx
theorem DAt.drewN {w : World} {A : Option Addr} {l : List Int} (h : DAt w A l) (n : Nat) : DAt (w.drewN n) A l := h
theorem below_dr {B : Nat} {a w : World} (h : Below B a w) (n : Nat) : Below B a (w.drewN n) := ⟨h.os, h.tape, h.output, h.size, h.block⟩
theorem ret_i {k : IntKind} {a b : Int} (h : a = b) : Ending.returned (.int k a) = .returned (.int k b) := by rw [h]
theorem ret_b {a b : Bool} (h : a = b) : Ending.returned (.bool a) = .returned (.bool b) := by rw [h]
def SzPost (w : World) (r : Int) (e : Ending) (w' : World) : Prop := e = .returned (.int .i64 r) ∧ ∃ n, w' = w.drewN n
def SzI (w : World) (a b : List Int) (g : Nat) (s5 : Value) (wr : World) : Prop := s5 = .int .i64 ((g : Int) - 1) ∧ g ≤ a.length ∧ cmpL (a.drop g) (b.drop g) = 0 ∧ ∃ m, wr = w.drewN m
set_option maxHeartbeats 4000000 in
theorem sizes_any (a b : List Int) (ha : a.length ≤ 1000000) (hb : b.length ≤ 1000000) (A B : Option Addr) (c d : Nat) (w : World) (hA : DAt w A a) (hB : DAt w B b) :
    Calls Tryd.prog 87 #[.slice A a.length c, .slice B b.length d] w (SzPost w (szL a b)) := by
  have HA := Lib.hid hA
  have HB := Lib.hid hB
  clear hA hB
  by_cases h1 : a.length < b.length
  · have e : szL a b = -1 := by unfold szL; rw [if_pos h1]
    have h1' : (a.length : Int) < (b.length : Int) := by omega
    rw [e]
    clear e h1
    go_enter Tryd.func87, Tryd.ntmps87
    go_wp2
    go_ret
    exact ⟨rfl, 0, rfl⟩
  by_cases h2 : b.length < a.length
  · have e : szL a b = 1 := by unfold szL; rw [if_neg h1, if_pos h2]
    have h1' : (b.length : Int) < (a.length : Int) := by omega
    rw [e]
    clear e h1 h2
    go_enter Tryd.func87, Tryd.ntmps87
    go_wp2
    go_ret
    exact ⟨rfl, 0, rfl⟩
  · have hl : b.length = a.length := by omega
    have e : szL a b = cmpL a b := by unfold szL; rw [if_neg h1, if_neg h2]
    rw [e, hl]
    have HL := Lib.hid hl
    clear e h1 h2 hl hb
    go_enter Tryd.func87, Tryd.ntmps87
    go_wp2
    go_loopg [5] a.length (fun g s5 wr => SzI w a b g s5 wr)
    case atStart => exact ⟨rfl, Nat.le_refl _, by rw [List.drop_eq_nil_of_le (Nat.le_refl _)]; simp [cmpL], 0, rfl⟩
    case round =>
      obtain ⟨hs5, hg, hc, m, hwr⟩ := hrel
      cases gk with
      | zero =>
        have e0 : (((0 : Nat) : Int) - 1) = -1 := by omega
        rw [e0] at hs5
        subst hs5
        have hr : cmpL a b = 0 := by simpa using hc
        have HR := Lib.hid hr
        have HW := Lib.hid hwr
        clear hc hr hwr e0
        go_wp2
        go_ret
        exact ⟨ret_i HR.out.symm, m, HW.out⟩
      | succ j =>
        have e0 : (((j + 1 : Nat) : Int) - 1) = (j : Int) := by omega
        rw [e0] at hs5
        subst hs5
        obtain ⟨x, hx⟩ : ∃ x, a[j]? = some x := ⟨_, List.getElem?_eq_getElem (by omega)⟩
        obtain ⟨y, hy⟩ : ∃ y, b[j]? = some y := ⟨_, List.getElem?_eq_getElem (by have := HL.out; omega)⟩
        have hst := cmpL_step hx hy hc
        obtain ⟨ga, oa, rfl, hga, hca⟩ := HA.out j x hx
        obtain ⟨gb, ob, rfl, hgb, hcb⟩ := HB.out j y hy
        have c1 : wr.cell? ⟨ga, oa + j, none⟩ = some (.int .i64 x) := by rw [hwr]; exact hca
        have c2 : wr.cell? ⟨gb, ob + j, none⟩ = some (.int .i64 y) := by rw [hwr]; exact hcb
        have hlt : (j : Int) < (a.length : Int) := by omega
        have hj0 : (0 : Int) ≤ (j : Int) := by omega
        have hst2 : cmpL (a.drop j) (b.drop j) ≠ 0 → cmpL a b = cmpL (a.drop j) (b.drop j) := cmpL_drop j a b (by have := HL.out; omega)
        have HW := Lib.hid hwr
        have HS := Lib.hid hst
        have HS2 := Lib.hid hst2
        clear hx hy hc hca hcb hwr hst hst2 e0
        by_cases hxy : x = y
        · have hn : (x != y) = false := by simpa using hxy
          have hz : cmpL (a.drop j) (b.drop j) = 0 := by rw [HS.out, if_neg (by omega), if_neg (by omega)]
          have HZ := Lib.hid hz
          clear hxy hz
          go_wp2
          go_quiet (fail)
          go_wp2
          go_roundg j
          case measure => omega
          case rel => exact ⟨rfl, by omega, HZ.out, m + nq, by rw [HW.out, World.drewN_drewN]⟩
        · have hn : (x != y) = true := by simpa using hxy
          by_cases hlt2 : x < y
          · have hz : cmpL a b = -1 := by
              have e1 : cmpL (a.drop j) (b.drop j) = -1 := by rw [HS.out, if_pos hlt2]
              rw [HS2.out (by rw [e1]; decide), e1]
            have HZ := Lib.hid hz
            clear hxy hz
            go_wp2
            go_quiet (fail)
            obtain ⟨W, hW⟩ : ∃ W, W = wr.drewN nq := ⟨_, rfl⟩
            have c3 : W.cell? ⟨ga, oa + j, none⟩ = some (.int .i64 x) := by rw [hW]; exact c1
            have c4 : W.cell? ⟨gb, ob + j, none⟩ = some (.int .i64 y) := by rw [hW]; exact c2
            rw [← hW]
            have HW2 := Lib.hid hW
            clear hW c1 c2
            go_wp2
            go_quiet (fail)
            go_wp2
            go_ret
            exact ⟨ret_i HZ.out.symm, _, by rw [HW2.out, HW.out, World.drewN_drewN, World.drewN_drewN]⟩
          · have hz : cmpL a b = 1 := by
              have e1 : cmpL (a.drop j) (b.drop j) = 1 := by rw [HS.out, if_neg hlt2, if_pos (by omega)]
              rw [HS2.out (by rw [e1]; decide), e1]
            have HZ := Lib.hid hz
            clear hxy hz
            go_wp2
            go_quiet (fail)
            obtain ⟨W, hW⟩ : ∃ W, W = wr.drewN nq := ⟨_, rfl⟩
            have c3 : W.cell? ⟨ga, oa + j, none⟩ = some (.int .i64 x) := by rw [hW]; exact c1
            have c4 : W.cell? ⟨gb, ob + j, none⟩ = some (.int .i64 y) := by rw [hW]; exact c2
            rw [← hW]
            have HW2 := Lib.hid hW
            clear hW c1 c2
            go_wp2
            go_quiet (fail)
            go_wp2
            go_ret
            exact ⟨ret_i HZ.out.symm, _, by rw [HW2.out, HW.out, World.drewN_drewN, World.drewN_drewN]⟩
end Go.Proofs.YtjalhcbomjgkoaaDoor
