/-
  THE ORDER OF TERMS.
-/
import Derived.Test.YtbecjlmbalcgeaaDoorTSame
namespace Go.Proofs.YtbecjlmbalcgeaaDoor
open Go.RowKit
set_option linter.unusedVariables false

/-- The world behind both, both terms' fields at hand. -/
def Sy (w : World) (g h : Nat) (u v : Array Value) (W : World) : Prop := Below w.heap.size w W ∧ Fb W g 49 u ∧ Fb W h 49 v
theorem Sy.drew {w : World} {g h : Nat} {u v : Array Value} {W : World} (s : Sy w g h u v W) : Sy w g h u v W.drew := ⟨Below.drew s.1, s.2⟩
theorem Sy.alloc {w : World} {g h : Nat} {u v : Array Value} {W : World} (s : Sy w g h u v W) (o : Obj) : Sy w g h u v (W.alloc o) := ⟨s.1.alloc s.1.size _, s.2.1.alloc _, s.2.2.alloc _⟩
abbrev C4 (k : Int) (a b c : ByteArray) : Array Value := #[.int .i64 k, .string a, .string b, .string c]
theorem Sy.all {w : World} {g h : Nat} {k k' : Int} {a b c a' b' c' : ByteArray} {W : World} (s : Sy w g h (C4 k a b c) (C4 k' a' b' c') W) :
    W.cell? ⟨g, 0, none⟩ = some (.int .i64 k) ∧ W.cell? ⟨h, 0, none⟩ = some (.int .i64 k') ∧ Sy w g h (C4 k a b c) (C4 k' a' b' c') W := ⟨s.2.1.cell 0, s.2.2.cell 0, s⟩
theorem slcmp_y {w : World} {g h : Nat} {k k' : Int} {a b c a' b' c' : ByteArray} {W : World} (n m : Nat) (s : Sy w g h (C4 k a b c) (C4 k' a' b' c') W) :
    Calls Tryd.prog 17 #[.slice (some ⟨g, 1, none⟩) 3 n, .slice (some ⟨h, 1, none⟩) 3 m] W fun e w' => e = .returned (.int .i64 (ord3 a b c a' b' c')) ∧ W = w' :=
  slcmp_any a b c a' b' c' W g h n m (s.2.1.cell 1) (s.2.1.cell 2) (s.2.1.cell 3) (s.2.2.cell 1) (s.2.2.cell 2) (s.2.2.cell 3)
def ordB (x y : Tm) : Int := orT (ordT x.kind y.kind) (ord3 x.ta x.tb x.tc y.ta y.tb y.tc)
set_option maxRecDepth 100000 in
set_option maxHeartbeats 4000000 in
theorem order_any (x y : Tm) (w : World) : Calls Tryd.prog 8 #[x.val, y.val] w fun e w' => e = .returned (.int .i64 (ordB x y)) ∧ Below w.heap.size w w' := by
  have cx := fieldsOf_any x
  have cy := fieldsOf_any y
  obtain ⟨r, hr⟩ : ∃ r, r = ordB x y := ⟨_, rfl⟩
  rw [← hr]
  unfold ordB at hr
  obtain ⟨k, hk⟩ : ∃ k, k = x.kind := ⟨_, rfl⟩
  obtain ⟨a, ha⟩ : ∃ k, k = x.ta := ⟨_, rfl⟩
  obtain ⟨b, hb⟩ : ∃ k, k = x.tb := ⟨_, rfl⟩
  obtain ⟨c, hc⟩ : ∃ k, k = x.tc := ⟨_, rfl⟩
  obtain ⟨k', hk'⟩ : ∃ k, k = y.kind := ⟨_, rfl⟩
  obtain ⟨a', ha'⟩ : ∃ k, k = y.ta := ⟨_, rfl⟩
  obtain ⟨b', hb'⟩ : ∃ k, k = y.tb := ⟨_, rfl⟩
  obtain ⟨c', hc'⟩ : ∃ k, k = y.tc := ⟨_, rfl⟩
  obtain ⟨vx, hvx⟩ : ∃ k, k = x.val := ⟨_, rfl⟩
  obtain ⟨vy, hvy⟩ : ∃ k, k = y.val := ⟨_, rfl⟩
  rw [← hk, ← ha, ← hb, ← hc, ← hvx] at cx
  rw [← hk', ← ha', ← hb', ← hc', ← hvy] at cy
  rw [← hk, ← ha, ← hb, ← hc, ← hk', ← ha', ← hb', ← hc'] at hr
  rw [← hvx, ← hvy]
  have cK := cmpInt_any k k'
  obtain ⟨p, hp⟩ : ∃ p, p = ordT k k' := ⟨_, rfl⟩
  rw [← hp] at cK hr
  have cS : ∀ {g h n m : Nat} {W : World}, Sy w g h (C4 k a b c) (C4 k' a' b' c') W → Calls Tryd.prog 17 #[.slice (some ⟨g, 1, none⟩) 3 n, .slice (some ⟨h, 1, none⟩) 3 m] W fun e w' => e = .returned (.int .i64 (ord3 a b c a' b' c')) ∧ W = w' := fun s => slcmp_y _ _ s
  obtain ⟨q, hq⟩ : ∃ p, p = ord3 a b c a' b' c' := ⟨_, rfl⟩
  rw [← hq] at cS hr
  have cO := orInt_any p q
  rw [← hr] at cO
  clear hk ha hb hc hk' ha' hb' hc' hvx hvy hp hq hr
  go_enter Tryd.func8, Tryd.ntmps8
  go_wp2_with (first
    | (go_at_call 14; (with_reducible refine (cx _).mono ?_); rintro e w1 ⟨rfl, hb1⟩)
    | (go_at_call 14; (with_reducible refine (cy _).mono ?_); rintro e w2 ⟨rfl, hb2⟩))
  have hb3 := hb1.trans (hb2.mono hb1.size)
  have hS : Sy w w2.heap.size (w2.heap.size + 1) (C4 k a b c) (C4 k' a' b' c') ((w2.alloc (.cells (C4 k a b c) 49)).alloc (.cells (C4 k' a' b' c') 49)) :=
    ⟨(hb3.alloc hb3.size _).alloc (by have := hb3.size; simp; omega) _, (Fb.new _ _ _).alloc _, by simpa using Fb.new (w2.alloc (.cells (C4 k a b c) 49)) 49 (C4 k' a' b' c')⟩
  clear hb1 hb2 hb3 cx cy
  first
    | (go_region_held (fun W => W.cell? ⟨w2.heap.size, 0, none⟩ = some (.int .i64 k) ∧ W.cell? ⟨w2.heap.size + 1, 0, none⟩ = some (.int .i64 k') ∧ Sy w w2.heap.size (w2.heap.size + 1) (C4 k a b c) (C4 k' a' b' c') W)
        (first | exact Sy.all (by assumption) | exact Sy.all (Sy.drew (by assumption)) | exact Sy.all (Sy.alloc (by assumption) _) | exact Sy.all (Sy.alloc (Sy.drew (by assumption)) _))
        (first
          | (go_at_call 16; (with_reducible refine (cK _).mono ?_); rintro e w' ⟨rfl, rfl⟩)
          | (go_at_call 17; (with_reducible refine (cS (by first | assumption | exact Sy.drew (by assumption))).mono ?_); rintro e w' ⟨rfl, rfl⟩)
          | (go_at_call 15; (with_reducible refine (cO _ _ _ (by simp [go_sem]) (by simp [go_sem])).mono ?_); rintro e w' ⟨rfl, rfl⟩)))
    | fail
  have HB := Lib.hid (Below.drew (Sy.alloc hS (.cells #[.int .i64 p, .int .i64 q] 3)).1)
  clear hS
  go_wp2
  go_ret
  exact ⟨rfl, HB.out⟩
end Go.Proofs.YtbecjlmbalcgeaaDoor
