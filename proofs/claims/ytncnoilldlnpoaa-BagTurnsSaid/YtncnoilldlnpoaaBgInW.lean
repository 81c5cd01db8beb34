/-
  Bag.in: the times that are in a while.
-/
import Derived.Test.YtncnoilldlnpoaaBgIn
namespace Go.Proofs.Ytncnoilldlnpoaa
open Go.RowKit
set_option linter.unusedVariables false
set_option linter.unusedSimpArgs false
set_option maxRecDepth 100000

def atP (f : Int → Bool) (ts : List Int) (i : Nat) : Bool := match ts[i]? with | some x => f x | none => true
theorem atP_some {f : Int → Bool} {ts : List Int} {i : Nat} {x : Int} (h : ts[i]? = some x) : atP f ts i = f x := by unfold atP; rw [h]
theorem rising {ts : List Int} (h : ts.Pairwise (· < ·)) {i j : Nat} (hij : i ≤ j) {x y : Int} (hx : ts[i]? = some x) (hy : ts[j]? = some y) : x ≤ y := by
  rcases Nat.lt_or_ge i j with h1 | h1
  · obtain ⟨a1, a2⟩ := List.getElem?_eq_some_iff.1 hx
    obtain ⟨b1, b2⟩ := List.getElem?_eq_some_iff.1 hy
    have := List.pairwise_iff_getElem.1 h i j a1 b1 h1
    omega
  · obtain rfl : i = j := by omega
    rw [hx] at hy
    injection hy with e
    omega
def inA (a b x : Int) : Bool := decide (a ≤ x) || hasB a b x
theorem inA_mono {a b x y : Int} (h : x ≤ y) (hx : inA a b x = true) : inA a b y = true := by
  unfold inA hasB at *
  simp only [Bool.or_eq_true, decide_eq_true_eq, Bool.and_eq_true] at *
  unfold cl at *
  omega
theorem inB_mono {a b x y : Int} (h : x ≤ y) (h0 : inA a b x = true) (hx : (!hasB a b x) = true) : (!hasB a b y) = true := by
  unfold inA hasB at *
  simp only [Bool.or_eq_true, decide_eq_true_eq, Bool.and_eq_true, Bool.not_eq_true', Bool.and_eq_false_iff, decide_eq_false_iff_not] at *
  unfold cl at *
  omega
theorem atA_mono {a b : Int} {ts : List Int} (h : ts.Pairwise (· < ·)) : ∀ i j, i ≤ j → j < ts.length → atP (inA a b) ts i = true → atP (inA a b) ts j = true := fun i j hij hj hi => by
  have h1 := List.getElem?_eq_getElem hj
  have h2 := List.getElem?_eq_getElem (show i < ts.length by omega)
  rw [atP_some h2] at hi
  rw [atP_some h1]
  exact inA_mono (rising h hij h2 h1) hi
theorem in_filter {a b : Int} {ts : List Int} (h : ts.Pairwise (· < ·)) {k m : Nat} (hk : SeaAt (atP (inA a b) ts) ts.length k) (hm : SeaAt (atP (fun x => !hasB a b x) (ts.drop k)) (ts.length - k) m) : (ts.drop k).take m = ts.filter (hasB a b) := by
  obtain ⟨k1, k2, k3⟩ := hk
  obtain ⟨m1, m2, m3⟩ := hm
  have e : ts = ts.take k ++ ((ts.drop k).take m ++ (ts.drop k).drop m) := by rw [List.take_append_drop, List.take_append_drop]
  conv => rhs; rw [e]
  rw [List.filter_append, List.filter_append, List.filter_eq_nil_iff.2, List.nil_append, List.filter_eq_self.2, List.filter_eq_nil_iff.2, List.append_nil]
  · intro x hx
    obtain ⟨j, hj⟩ := List.getElem?_of_mem hx
    rw [List.getElem?_drop] at hj
    have hl := (List.getElem?_eq_some_iff.1 hj).1
    simp only [List.length_drop] at hl
    have := m3 (m + j) (by omega) (by omega)
    rw [atP_some hj] at this
    simpa using this
  · intro x hx
    obtain ⟨j, hj⟩ := List.getElem?_of_mem hx
    have hl := (List.getElem?_eq_some_iff.1 hj).1
    simp only [List.length_take, List.length_drop] at hl
    have := m2 j (by omega)
    rw [List.getElem?_take_of_lt (by omega)] at hj
    rw [atP_some hj] at this
    simpa using this
  · intro x hx
    obtain ⟨j, hj⟩ := List.getElem?_of_mem hx
    have hl := (List.getElem?_eq_some_iff.1 hj).1
    simp only [List.length_take] at hl
    have := k2 j (by omega)
    rw [List.getElem?_take_of_lt (by omega)] at hj
    rw [atP_some hj] at this
    unfold inA at this
    simp only [Bool.or_eq_false_iff] at this
    simpa using this.2
theorem enA : ∀ args w, (callFunc 24 args).run Try.prog w = .ok (.enter 24 args) w := enters_of Try.func24 (by kernel_rfl) rfl
theorem enB : ∀ args w, (callFunc 26 args).run Try.prog w = .ok (.enter 26 args) w := enters_of Try.func26 (by kernel_rfl) rfl
def InPost (W : World) (v : Value) (l : List Int) (e : Ending) (w' : World) : Prop := ∃ v', e = .returned v' ∧ TsA w' v' l ∧ (vB v' = none ∨ vB v' = vB v) ∧ Below W.heap.size W w'
set_option maxHeartbeats 8000000 in
theorem gin_nil {W : World} {d : Nat} {r0 r1 r2 : Value} (hd : Fb W d 48 #[r0, r1, r2, .slice none 0 0]) (a b : Int) :
    Calls Try.prog 17 #[.pointer (some ⟨d, 0, none⟩), spv a b] W (InPost W (.slice none 0 0) []) := by
  obtain ⟨W2, hW2⟩ : ∃ W2, W2 = (W.alloc (.cells #[.pointer (some ⟨d, 0, none⟩)] 26)).alloc (.cells #[.int .i64 a, .int .i64 b] 24) := ⟨_, rfl⟩
  have hB1 : Below W.heap.size W W2 := by rw [hW2]; exact ((Below.refl _ _).alloc (Nat.le_refl _) _).alloc (by simp) _
  have f1 : Fb W2 W.heap.size 26 #[.pointer (some ⟨d, 0, none⟩)] := by rw [hW2]; exact (Fb.new W _ _).alloc _
  have f0 : Fb W2 d 48 #[r0, r1, r2, .slice none 0 0] := by rw [hW2]; exact (hd.alloc _).alloc _
  have cA := search_any 24 #[.pointer (some ⟨W.heap.size, 0, none⟩), .pointer (some ⟨W.heap.size + 1, 0, none⟩)] 0 (fun _ => true) W2 enA (by omega) (fun w i _ h => absurd h (Nat.not_lt_zero _)) (fun _ _ _ _ _ => rfl)
  rw [show ((0 : Nat) : Int) = 0 from rfl] at cA
  have cB := fun (w : World) (p : Nat) => search_any 26 #[.pointer (some ⟨W.heap.size + 1, 0, none⟩), .pointer (some ⟨p, 0, none⟩)] 0 (fun _ => true) w enB (by omega) (fun w i _ h => absurd h (Nat.not_lt_zero _)) (fun _ _ _ _ _ => rfl)
  rw [show ((0 : Nat) : Int) = 0 from rfl] at cB
  have HF := Lib.hid (fun (w : World) (hb : Below W2.heap.size W2 w) => (⟨(f0.below hb).cell 3, (f1.below hb).cell 0⟩ : w.cell? ⟨d, 3, none⟩ = some (.slice none 0 0) ∧ w.cell? ⟨W.heap.size, 0, none⟩ = some (.pointer (some ⟨d, 0, none⟩))))
  have c1 : W2.cell? ⟨W.heap.size, 0, none⟩ = some (.pointer (some ⟨d, 0, none⟩)) := f1.cell 0
  have c2 : W2.cell? ⟨d, 3, none⟩ = some (.slice none 0 0) := f0.cell 3
  have HB := Lib.hid hB1
  clear hB1 f1 f0 hd
  unfold spv
  subst hW2
  go_enter Try.func17, Try.ntmps17
  go_wp2_with (go_at_call 23; (with_reducible refine cA.mono ?_); rintro e w1 ⟨k, he, hk, hb1⟩; obtain rfl : k = 0 := by have := hk.1; omega
               obtain rfl : e = .returned (.int .i64 0) := he
               obtain ⟨z3, z0⟩ := HF.out _ hb1
               have HB1 := Lib.hid hb1
               clear hb1 hk)
  have hb9 : Below w1.heap.size w1 (w1.alloc (.cells #[.slice none 0 0] 46)) := (Below.refl _ _).alloc (Nat.le_refl _) _
  have y0 : (w1.alloc (.cells #[.slice none 0 0] 46)).cell? ⟨w1.heap.size, 0, none⟩ = some (.slice none 0 0) := (Fb.new w1 46 #[.slice none 0 0]).cell 0
  go_region_held3 (fun w => w.cell? ⟨w1.heap.size, 0, none⟩ = some (.slice none 0 0))
    (first | exact y0 | exact cell_below y0 hB)
    (first
      | (go_at_call 23; (with_reducible refine (cB _ _).mono ?_); rintro e w5 ⟨k, he, hk, hB0⟩; obtain rfl : k = 0 := by have := hk.1; omega
         obtain rfl : e = .returned (.int .i64 0) := he
         have hB := (Below.drew (Below.refl _ _)).trans hB0)
      | fail)
  all_goals
    go_wp2
    go_ret
    exact ⟨_, rfl, .inl ⟨rfl, rfl⟩, .inl rfl, HB.out.trans ((HB1.out.trans ((hb9.trans (hB.mono hb9.size)).mono HB1.out.size)).mono HB.out.size)⟩
theorem sea_ex (p : Nat → Bool) : ∀ (n : Nat), (∀ a b, a ≤ b → b < n → p a = true → p b = true) → ∃ k, SeaAt p n k
  | 0, _ => ⟨0, Nat.le_refl _, fun t h => absurd h (Nat.not_lt_zero _), fun t _ h => absurd h (Nat.not_lt_zero _)⟩
  | n + 1, hm => by
    obtain ⟨k, h1, h2, h3⟩ := sea_ex p n fun a b h hb => hm a b h (by omega)
    cases hn : p n with
    | true =>
      refine ⟨k, by omega, h2, fun t ht htn => ?_⟩
      rcases Nat.lt_or_ge t n with h | h
      · exact h3 t ht h
      · obtain rfl : t = n := by omega
        exact hn
    | false =>
      have hk : k = n := by
        rcases Nat.lt_or_ge k n with h | h
        · have := hm k n (by omega) (by omega) (h3 k (Nat.le_refl _) h)
          rw [hn] at this; cases this
        · omega
      subst hk
      refine ⟨k + 1, Nat.le_refl _, fun t ht => ?_, fun t h h' => by omega⟩
      rcases Nat.lt_or_ge t k with h | h
      · exact h2 t h
      · obtain rfl : t = k := by omega
        exact hn
theorem search_at (g : Nat) (cb : Array Value) (n k : Nat) (p : Nat → Bool) (W : World) (eg : ∀ args w, (callFunc g args).run Try.prog w = .ok (.enter g args) w) (hn : n ≤ 100000)
    (hf : ∀ (w : World) (i : Nat), Below W.heap.size W w → i < n → Calls Try.prog g (#[.int .i64 i] ++ cb) w fun e w' => e = .returned (.bool (p i)) ∧ Below w.heap.size w w')
    (hmono : ∀ a b, a ≤ b → b < n → p a = true → p b = true) (hk : SeaAt p n k) :
    Calls Try.prog 23 #[.int .i64 n, .func (.func g) #[] cb] W fun e w' => e = .returned (.int .i64 k) ∧ Below W.heap.size W w' :=
  (search_any g cb n p W eg hn hf hmono).mono fun e w' ⟨k', h1, h2, h3⟩ => by
    obtain rfl := h2.uniq hk
    exact ⟨h1, h3⟩
set_option maxHeartbeats 8000000 in
theorem gin_some {W : World} {d g off c : Nat} {r0 r1 r2 : Value} {ts : List Int} {cs : Array Value} (hd : Fb W d 48 #[r0, r1, r2, .slice (some ⟨g, off, none⟩) ts.length c]) (hg : Fb W g 3 cs) (hnc : ts.length ≤ c) (hn9 : ts.length ≤ 100000) (hc9 : c ≤ 9223372036854775807)
    (hx : ∀ j x, ts[j]? = some x → cs[off + j]? = some (iE x)) (so : ts.Pairwise (· < ·)) (a b : Int) :
    Calls Try.prog 17 #[.pointer (some ⟨d, 0, none⟩), spv a b] W (InPost W (.slice (some ⟨g, off, none⟩) ts.length c) (ts.filter (hasB a b))) := by
  obtain ⟨k, hk⟩ := sea_ex (atP (inA a b) ts) ts.length (atA_mono so)
  have hmB : ∀ i j, i ≤ j → j < ts.length - k → atP (fun x => !hasB a b x) (ts.drop k) i = true → atP (fun x => !hasB a b x) (ts.drop k) j = true := fun i j hij hj hi => by
    have h1 : (ts.drop k)[j]? = some ts[k + j] := by rw [List.getElem?_drop]; exact List.getElem?_eq_getElem (by omega)
    have h2 : (ts.drop k)[i]? = some ts[k + i] := by rw [List.getElem?_drop]; exact List.getElem?_eq_getElem (by omega)
    rw [atP_some h2] at hi
    rw [atP_some h1]
    have h3 : ts[k + i]? = some ts[k + i] := List.getElem?_eq_getElem (by omega)
    have := hk.2.2 (k + i) (by omega) (by omega)
    rw [atP_some h3] at this
    exact inB_mono (rising so (by omega) h3 (List.getElem?_eq_getElem (show k + j < ts.length by omega))) this hi
  obtain ⟨m, hm⟩ := sea_ex (atP (fun x => !hasB a b x) (ts.drop k)) (ts.length - k) hmB
  have hfil := in_filter so hk hm
  obtain ⟨W2, hW2⟩ : ∃ W2, W2 = (W.alloc (.cells #[.pointer (some ⟨d, 0, none⟩)] 26)).alloc (.cells #[.int .i64 a, .int .i64 b] 24) := ⟨_, rfl⟩
  have hB1 : Below W.heap.size W W2 := by rw [hW2]; exact ((Below.refl _ _).alloc (Nat.le_refl _) _).alloc (by simp) _
  have f1 : Fb W2 W.heap.size 26 #[.pointer (some ⟨d, 0, none⟩)] := by rw [hW2]; exact (Fb.new W _ _).alloc _
  have f2 : Fb W2 (W.heap.size + 1) 24 #[.int .i64 a, .int .i64 b] := by
    rw [hW2]
    have := Fb.new (W.alloc (.cells #[.pointer (some ⟨d, 0, none⟩)] 26)) 24 #[.int .i64 a, .int .i64 b]
    simpa using this
  have f0 : Fb W2 d 48 #[r0, r1, r2, .slice (some ⟨g, off, none⟩) ts.length c] := by rw [hW2]; exact (hd.alloc _).alloc _
  have fg : Fb W2 g 3 cs := by rw [hW2]; exact (hg.alloc _).alloc _
  have cA := search_at 24 #[.pointer (some ⟨W.heap.size, 0, none⟩), .pointer (some ⟨W.heap.size + 1, 0, none⟩)] ts.length k (atP (inA a b) ts) W2 enA (by omega)
    (fun w i hb hi => by
      have hi' : ts[i]? = some ts[i] := List.getElem?_eq_getElem hi
      rw [atP_some hi']
      exact ginA_any (f1.below hb) (f2.below hb) (f0.below hb) (fg.below hb) hi (hx i _ hi') (by omega)) (atA_mono so) hk
  have cB := fun (w : World) (p : Nat) (h1 : Below W2.heap.size W2 w) (o' : Nat) (ho : o' = off + k ∨ ts.length - k = 0) (h2 : Fb w p 46 #[.slice (some ⟨g, o', none⟩) (ts.length - k) (c - k)]) => search_at 26 #[.pointer (some ⟨W.heap.size + 1, 0, none⟩), .pointer (some ⟨p, 0, none⟩)] (ts.length - k) m (atP (fun x => !hasB a b x) (ts.drop k)) w enB (by omega)
    (fun w' i hb hi => by
      have hi' : (ts.drop k)[i]? = some ts[k + i] := by rw [List.getElem?_drop]; exact List.getElem?_eq_getElem (by omega)
      rw [atP_some hi']
      exact ginB_any (h2.below hb) ((f2.below h1).below hb) ((fg.below h1).below hb) hi (by
        obtain rfl : o' = off + k := by omega
        rw [Nat.add_assoc]; exact hx (k + i) _ (List.getElem?_eq_getElem (by omega))) (by omega)) hmB hm
  have hkn : k ≤ ts.length := hk.1
  have hmn : m ≤ ts.length - k := hm.1
  have HF := Lib.hid (fun (w : World) (hb : Below W2.heap.size W2 w) => (⟨(f0.below hb).cell 3, (f1.below hb).cell 0⟩ : w.cell? ⟨d, 3, none⟩ = some (.slice (some ⟨g, off, none⟩) ts.length c) ∧ w.cell? ⟨W.heap.size, 0, none⟩ = some (.pointer (some ⟨d, 0, none⟩))))
  have HE := Lib.hid (fun (o' : Nat) (ho : o' = off + k ∨ ts.length - k = 0) (w : World) (hb : Below W.heap.size W w) (hb2 : Below W2.heap.size W2 w) => (show InPost W (.slice (some ⟨g, off, none⟩) ts.length c) (ts.filter (hasB a b)) (.returned (.slice (some ⟨g, o', none⟩) m (c - k))) w from by
    refine ⟨_, rfl, .inr ⟨g, o', c - k, cs, ?_, fg.below hb2, ?_, ?_, by omega, fun j x hj => ?_⟩, .inr rfl, hb⟩
    · rw [← hfil]
      simp only [List.length_take, List.length_drop]
      rw [Nat.min_eq_left hmn]
    · rw [← hfil]
      simp only [List.length_take, List.length_drop]
      omega
    · rw [← hfil]
      simp only [List.length_take, List.length_drop]
      omega
    · rw [← hfil] at hj
      have hl := (List.getElem?_eq_some_iff.1 hj).1
      simp only [List.length_take, List.length_drop] at hl
      rw [List.getElem?_take_of_lt (by omega), List.getElem?_drop] at hj
      obtain rfl : o' = off + k := by omega
      rw [Nat.add_assoc]
      exact hx _ _ hj))
  have c1 : W2.cell? ⟨W.heap.size, 0, none⟩ = some (.pointer (some ⟨d, 0, none⟩)) := f1.cell 0
  have c2 : W2.cell? ⟨d, 3, none⟩ = some (.slice (some ⟨g, off, none⟩) ts.length c) := f0.cell 3
  have HB := Lib.hid hB1
  have HCB := Lib.hid cB
  clear hB1 f1 f2 f0 fg hd hg hfil hm hmB hk hx so cB
  generalize ts.length = n at *
  have z1 : (0 : Int) ≤ (k : Int) := by omega
  have z2 : (k : Int) ≤ (n : Int) := by omega
  have z3 : (n : Int) ≤ (c : Int) := by omega
  have z4 : (0 : Int) ≤ (m : Int) := by omega
  have z5 : (m : Int) ≤ (n : Int) - (k : Int) := by omega
  have z6 : (c : Int) ≤ 9223372036854775807 := by omega
  have z7 : (n : Int) ≤ 100000 := by omega
  unfold spv
  subst hW2
  go_enter Try.func17, Try.ntmps17
  go_wp2_with (go_at_call 23; (with_reducible refine cA.mono ?_); rintro e w1 ⟨rfl, hb1⟩
               obtain ⟨y3, y0⟩ := HF.out _ hb1
               have HB1 := Lib.hid hb1
               clear hb1)
  · have y0 : (w1.alloc (.cells #[.slice (some ⟨g, off, none⟩) (n - k) 0] 46)).cell? ⟨w1.heap.size, 0, none⟩ = some (.slice (some ⟨g, off, none⟩) (n - k) 0) := (Fb.new w1 46 #[.slice (some ⟨g, off, none⟩) (n - k) 0]).cell 0
    have hb9 : Below w1.heap.size w1 (w1.alloc (.cells #[.slice (some ⟨g, off, none⟩) (n - k) 0] 46)) := (Below.refl _ _).alloc (Nat.le_refl _) _
    have cQ := HCB.out ((w1.alloc (.cells #[.slice (some ⟨g, off, none⟩) (n - k) 0] 46)).drew) w1.heap.size ((HB1.out.trans (hb9.mono HB1.out.size)).drew) (off) (.inr (by omega)) (by rw [show c - k = 0 by omega]; exact Fb.drew (Fb.new w1 46 _))
    have HB9 := Lib.hid hb9
    have HX := Lib.hid (show c - k = 0 ∧ m = 0 from ⟨by omega, by omega⟩)
    have z8 : (m : Int) ≤ 0 := by omega
    have z9 : m = 0 := by omega
    clear hb9
    go_region_held3 (fun w => w.cell? ⟨w1.heap.size, 0, none⟩ = some (.slice (some ⟨g, off, none⟩) (n - k) 0))
      (first | exact y0 | exact cell_below y0 hB)
      (first
        | (go_at_call 23; (with_reducible refine cQ.mono ?_); rintro e w5 ⟨rfl, hB0⟩; have hB := (Below.drew (Below.refl _ _)).trans hB0)
        | fail)
    all_goals
      go_wp2
      go_ret
      have hZ := HB1.out.trans ((HB9.out.trans (hB.mono HB9.out.size)).mono HB1.out.size)
      have hE := HE.out off (.inr (by omega)) _ (HB.out.trans (hZ.mono HB.out.size)) hZ
      rw [HX.out.1, HX.out.2] at hE
      have hck : c = k := by omega
      first | exact hE | (subst hck; exact hE) | (rw [hck] at hE; exact hE)
  · have y0 : (w1.alloc (.cells #[.slice (some ⟨g, (off + k), none⟩) (n - k) (c - k)] 46)).cell? ⟨w1.heap.size, 0, none⟩ = some (.slice (some ⟨g, (off + k), none⟩) (n - k) (c - k)) := (Fb.new w1 46 #[.slice (some ⟨g, (off + k), none⟩) (n - k) (c - k)]).cell 0
    have hb9 : Below w1.heap.size w1 (w1.alloc (.cells #[.slice (some ⟨g, (off + k), none⟩) (n - k) (c - k)] 46)) := (Below.refl _ _).alloc (Nat.le_refl _) _
    have cQ := HCB.out ((w1.alloc (.cells #[.slice (some ⟨g, (off + k), none⟩) (n - k) (c - k)] 46)).drew) w1.heap.size ((HB1.out.trans (hb9.mono HB1.out.size)).drew) ((off + k)) (.inl rfl) (by exact Fb.drew (Fb.new w1 46 _))
    have HB9 := Lib.hid hb9
    have z8 : (m : Int) ≤ ((c - k : Nat) : Int) := by omega
    have z9 : m ≤ c - k := by omega
    clear hb9
    go_region_held3 (fun w => w.cell? ⟨w1.heap.size, 0, none⟩ = some (.slice (some ⟨g, (off + k), none⟩) (n - k) (c - k)))
      (first | exact y0 | exact cell_below y0 hB)
      (first
        | (go_at_call 23; (with_reducible refine cQ.mono ?_); rintro e w5 ⟨rfl, hB0⟩; have hB := (Below.drew (Below.refl _ _)).trans hB0)
        | fail)
    all_goals
      go_wp2
      go_ret
      have hZ := HB1.out.trans ((HB9.out.trans (hB.mono HB9.out.size)).mono HB1.out.size)
      exact HE.out (off + k) (.inl rfl) _ (HB.out.trans (hZ.mono HB.out.size)) hZ
end Go.Proofs.Ytncnoilldlnpoaa
