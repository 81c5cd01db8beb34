/-
  MERGED (a claim has at most 60 files): NfMv, NgMvP.
-/
import Derived.Test.YtghlajfalgdkfaaZ02
import Derived.Test.YtghlajfalgdkfaaZ16
import Derived.Test.YtghlajfalgdkfaaZ08
/-
  moves, of a state with one move.
-/
namespace Go.Proofs.Ytghlajfalgdkfaa
open Go.RowKit
set_option linter.unusedVariables false
set_option linter.unusedSimpArgs false
set_option maxRecDepth 100000

theorem cf_A (args : Array Value) (w : World) : (callFunc 63 args).run Try.prog w = .ok (.enter 63 args) w := by
  first | rfl | kernel_rfl
theorem cf_B (args : Array Value) (w : World) : (callFunc 64 args).run Try.prog w = .ok (.enter 64 args) w := by
  first | rfl | kernel_rfl
theorem sea_one {p : Nat → Bool} {k : Nat} {b : Bool} (h : SeaAt p 1 k) (hp : p 0 = b) : k = if b = true then 0 else 1 := by
  obtain ⟨h1, h2, h3⟩ := h
  cases b with
  | true =>
    rw [if_pos rfl]
    have h2 := h2 0
    rcases Nat.lt_or_ge 0 k with h | h
    · rw [hp] at h2; exact absurd (h2 h) (by simp)
    · omega
  | false =>
    rw [if_neg (by simp)]
    have h3 := h3 0
    rcases Nat.lt_or_ge 0 k with h | h
    · omega
    · rw [hp] at h3; exact absurd (h3 h (by omega)) (by simp)
/-- What a search among one move reads. -/
structure SqF (p q g c : Nat) (N s : Int) (W : World) : Prop where
  hp : W.cell? ⟨p, 0, none⟩ = some (.slice (some ⟨g, 0, none⟩) 1 c)
  hq : W.cell? ⟨q, 0, none⟩ = some (.int .i64 s)
  hq1 : W.cell? ⟨q, 1, none⟩ = some (.bool false)
  hg : W.cell? ⟨g, 0, none⟩ = some (.int .i64 N)
  hg1 : W.cell? ⟨g, 1, none⟩ = some (.bool false)
theorem SqF.below {p q g c : Nat} {N s : Int} {W W' : World} (h : SqF p q g c N s W) (hb : Below W.heap.size W W') : SqF p q g c N s W' := ⟨cell_below h.hp hb, cell_below h.hq hb, cell_below h.hq1 hb, cell_below h.hg hb, cell_below h.hg1 hb⟩
theorem seaA {p q g c : Nat} {N s : Int} {W : World} (h : SqF p q g c N s W) : Calls Try.prog 62 #[.int .i64 1, .func (.func 63) #[] #[.pointer (some ⟨p, 0, none⟩), .pointer (some ⟨q, 0, none⟩)]] W fun e w' => e = .returned (.int .i64 (if s ≤ N then 0 else 1)) ∧ Below W.heap.size W w' := by
  refine (search_any 63 #[.pointer (some ⟨p, 0, none⟩), .pointer (some ⟨q, 0, none⟩)] 1 (fun _ => decide (s ≤ N)) W cf_A (by omega) (fun w i hb hi => ?_) (fun a b _ _ h => h)).mono ?_
  · have h' := h.below hb
    exact movesA_any h'.hp h'.hq h'.hq1 h'.hg h'.hg1 hi
  · rintro e w' ⟨k, rfl, hk, hb⟩
    have := sea_one hk rfl
    subst this
    refine ⟨?_, hb⟩
    by_cases h : s ≤ N
    · rw [if_pos h, decide_eq_true h]; rfl
    · rw [if_neg h, decide_eq_false h]; rfl
theorem seaB {p q g c : Nat} {N s : Int} {W : World} (h : SqF p q g c N s W) : Calls Try.prog 62 #[.int .i64 1, .func (.func 64) #[] #[.pointer (some ⟨p, 0, none⟩), .pointer (some ⟨q, 0, none⟩)]] W fun e w' => e = .returned (.int .i64 (if N = s then 1 else 0)) ∧ Below W.heap.size W w' := by
  refine (search_any 64 #[.pointer (some ⟨p, 0, none⟩), .pointer (some ⟨q, 0, none⟩)] 1 (fun _ => decide (N ≠ s)) W cf_B (by omega) (fun w i hb hi => ?_) (fun a b _ _ h => h)).mono ?_
  · have h' := h.below hb
    exact movesB_any h'.hp h'.hq h'.hq1 h'.hg h'.hg1 hi
  · rintro e w' ⟨k, rfl, hk, hb⟩
    have := sea_one hk rfl
    subst this
    refine ⟨?_, hb⟩
    by_cases h : N = s
    · rw [if_pos h, decide_eq_false (by simp [h])]; rfl
    · rw [if_neg h, decide_eq_true h]; rfl
theorem sea0 (W : World) (cb : Array Value) : Calls Try.prog 62 #[.int .i64 0, .func (.func 64) #[] cb] W fun e w' => e = .returned (.int .i64 0) ∧ Below W.heap.size W w' := by
  refine (search_any 64 cb 0 (fun _ => true) W cf_B (by omega) (fun w i hb hi => absurd hi (Nat.not_lt_zero _)) (fun a b _ _ h => h)).mono ?_
  rintro e w' ⟨k, rfl, ⟨hk, _⟩, hb⟩
  obtain rfl : k = 0 := by omega
  exact ⟨rfl, hb⟩
/-- A state's moves: one. -/
structure MvF (d g i c gi ci : Nat) (N : Int) (W : World) : Prop where
  hi : i < 2
  a : W.cell? ⟨d, 0, none⟩ = some (.slice (some ⟨g, 0, none⟩) 2 c)
  m : W.cell? ⟨g, i * 2, none⟩ = some (.slice (some ⟨gi, 0, none⟩) 1 ci)
  n0 : W.cell? ⟨gi, 0, none⟩ = some (.int .i64 N)
  n1 : W.cell? ⟨gi, 1, none⟩ = some (.bool false)
  n2 : W.cell? ⟨gi, 2, none⟩ = some (.int .i64 1)
  c1 : 1 ≤ ci
theorem MvF.below {d g i c gi ci : Nat} {N : Int} {W W' : World} (h : MvF d g i c gi ci N W) (hb : Below W.heap.size W W') : MvF d g i c gi ci N W' := ⟨h.hi, cell_below h.a hb, cell_below h.m hb, cell_below h.n0 hb, cell_below h.n1 hb, cell_below h.n2 hb, h.c1⟩
set_option maxHeartbeats 16000000 in
theorem moves_eq {d g i c gi ci : Nat} {N : Int} {W : World} (h : MvF d g i c gi ci N W) :
    Calls Try.prog 41 #[.pointer (some ⟨d, 0, none⟩), .int .i64 (i : Int), .agg #[.int .i64 N, .bool false]] W fun e w' => e = .returned (.slice (some ⟨gi, 0, none⟩) 1 ci) ∧ Below W.heap.size W w' := by
  have hb1 : Below W.heap.size W (W.alloc (.cells #[.int .i64 N, .bool false] 44)) := (Below.refl _ _).alloc (Nat.le_refl _) _
  have h1 := h.below hb1
  have hi := h.hi
  have hc1 := h.c1
  have cH := has_any (i := i) h1.a h.hi
  have b2 : Below W.heap.size W ((W.alloc (.cells #[.int .i64 N, .bool false] 44)).alloc (.cells #[.slice (some ⟨gi, 0, none⟩) 1 ci] 67)) := hb1.alloc hb1.size _
  have hq := (Fb.new W 44 #[.int .i64 N, .bool false]).alloc (.cells #[.slice (some ⟨gi, 0, none⟩) 1 ci] 67)
  have hp := Fb.new (W.alloc (.cells #[.int .i64 N, .bool false] 44)) 67 #[.slice (some ⟨gi, 0, none⟩) 1 ci]
  rw [World.size_alloc] at hp
  have h2 := h.below b2
  have S0 : SqF (W.heap.size + 1) W.heap.size gi ci N N ((W.alloc (.cells #[.int .i64 N, .bool false] 44)).alloc (.cells #[.slice (some ⟨gi, 0, none⟩) 1 ci] 67)) := ⟨hp.cell 0, hq.cell 0, hq.cell 1, h2.n0, h2.n1⟩
  obtain ⟨W2, hW2⟩ : ∃ W2, W2 = (W.alloc (.cells #[.int .i64 N, .bool false] 44)).alloc (.cells #[.slice (some ⟨gi, 0, none⟩) 1 ci] 67) := ⟨_, rfl⟩
  rw [← hW2] at S0 hp b2
  have HS := Lib.hid S0
  have HB2 := Lib.hid b2
  have HW2 := Lib.hid (show Below (W.heap.size + 1) (W.alloc (.cells #[.int .i64 N, .bool false] 44)) W2 from by rw [hW2]; exact (Below.refl _ _).alloc (by simp) _)
  have HQ1 := Lib.hid (Fb.new W 44 #[.int .i64 N, .bool false])
  have HM1 := Lib.hid h1
  have HP := Lib.hid hp
  have a1 := h1.a
  have m1 := h1.m
  have z0 : (0 : Int) ≤ (i : Int) := by omega
  have z1 : (i : Int) < 2 := by omega
  have HC := Lib.hid hc1
  have hcI : (1 : Int) ≤ (ci : Int) := by omega
  clear h h1 h2 hq hp S0 b2 hb1 hi
  go_enter Try.func41, Try.ntmps41
  go_wp2_with (go_at_call 44; (with_reducible refine cH.mono ?_); rintro e w1 ⟨rfl, rfl⟩)
  clear cH a1 m1
  go_wp2
  rw [← hW2]
  clear hW2
  have x0 := HS.out.hp
  have xf := HP.out.free 0
  have cS := seaA (W := W2.drew) (HS.out.below (Below.refl _ _).drew)
  rw [if_pos (Int.le_refl N)] at cS
  go_region_held3 (fun w => w.cell? ⟨W.heap.size + 1, 0, none⟩ = some (.slice (some ⟨gi, 0, none⟩) 1 ci) ∧ w.frozen? ⟨W.heap.size + 1, 0, none⟩ = false)
    (first | exact ⟨x0, xf⟩ | exact ⟨cell_below x0 hB, (HP.out.below hB).free 0⟩ | exact ⟨((HP.out.below hB).set 0 _).cell 0, ((HP.out.below hB).set 0 _).free 0⟩)
    (first
      | (go_at_call 62; (with_reducible refine cS.mono ?_); rintro e w1 ⟨rfl, hB0⟩; have hB := (Below.drew (Below.refl W2.heap.size W2)).trans hB0)
      | fail)
  all_goals
    have b3 : Below (W.heap.size + 1) (W.alloc (.cells #[.int .i64 N, .bool false] 44)) (w1.setCell ⟨W.heap.size + 1, 0, none⟩ (.slice (some ⟨gi, 0, none⟩) 1 ci)) := (HW2.out.trans (hB.mono (by rw [← World.size_alloc W (.cells #[.int .i64 N, .bool false] 44)]; simpa using HW2.out.size))).setCell (Nat.le_refl _) _
    have hF3 := (HP.out.below hB).set 0 (.slice (some ⟨gi, 0, none⟩) 1 ci)
    clear hB hB0
    obtain ⟨W3, hW3⟩ : ∃ W3, W3 = w1.setCell ⟨W.heap.size + 1, 0, none⟩ (.slice (some ⟨gi, 0, none⟩) 1 ci) := ⟨_, rfl⟩
    rw [← hW3] at b3 hF3
    go_wp2
    rw [← hW3]
    clear hW3
    have b3' : Below (W.alloc (.cells #[.int .i64 N, .bool false] 44)).heap.size (W.alloc (.cells #[.int .i64 N, .bool false] 44)) W3 := by rw [World.size_alloc]; exact b3
    have hm3 := HM1.out.below b3'
    have S3 : SqF (W.heap.size + 1) W.heap.size gi ci N N W3 := ⟨hF3.cell 0, (HQ1.out.below b3').cell 0, (HQ1.out.below b3').cell 1, hm3.n0, hm3.n1⟩
    have cS3 := seaB (W := W3.drew) (S3.below (Below.refl _ _).drew)
    rw [if_pos rfl] at cS3
    have y0 := S3.hp
    have HB3 := Lib.hid ((Below.refl W.heap.size W).alloc (Nat.le_refl _) (.cells #[.int .i64 N, .bool false] 44) |>.trans (b3.mono (Nat.le_succ _)))
    clear S3 hm3 b3' b3 hF3
    go_region_held3 (fun w => w.cell? ⟨W.heap.size + 1, 0, none⟩ = some (.slice (some ⟨gi, 0, none⟩) 1 ci))
      (first | exact y0 | exact cell_below y0 hB)
      (first
        | (go_at_call 62; (with_reducible refine cS3.mono ?_); rintro e w5 ⟨rfl, hB0⟩; have hB := (Below.drew (Below.refl W3.heap.size W3)).trans hB0)
        | fail)
    all_goals
      have HB5 := Lib.hid (HB3.out.trans (hB.mono HB3.out.size))
      clear hB hB0
      go_wp2
      go_ret
      exact ⟨rfl, HB5.out⟩
end Go.Proofs.Ytghlajfalgdkfaa

/-
  A state's moves by a symbol: plain; the closures that moves asks.
-/
namespace Go.Proofs.Ytghlajfalgdkfaa
open Go.RowKit
set_option linter.unusedVariables false
set_option linter.unusedSimpArgs false
set_option maxRecDepth 100000

/-- Where what is no longer so begins. -/
theorem tw_split (L : List Mo) (r : Mo → Bool) (hr : ∀ (i j : Nat) (x y : Mo), i < j → L[i]? = some x → L[j]? = some y → r y = true → r x = true) :
    (∀ j x, j < (L.takeWhile r).length → L[j]? = some x → r x = true) ∧ (∀ j x, (L.takeWhile r).length ≤ j → L[j]? = some x → r x = false) := by
  have hle : (L.takeWhile r).length ≤ L.length := by
    have := congrArg List.length (List.takeWhile_append_dropWhile (p := r) (l := L))
    rw [List.length_append] at this
    omega
  have h1 : ∀ j x, j < (L.takeWhile r).length → L[j]? = some x → r x = true := fun j x hj hx => by
    have e : (L.takeWhile r)[j]? = some x := by
      rw [← hx]
      conv => rhs; rw [← List.takeWhile_append_dropWhile (p := r) (l := L)]
      rw [List.getElem?_append_left hj]
    have h := @List.all_takeWhile _ r L
    rw [List.all_eq_true] at h
    exact h x (List.mem_of_getElem? e)
  refine ⟨h1, fun j x hj hx => ?_⟩
  cases hrx : r x with
  | false => rfl
  | true =>
    exfalso
    have hlt := (List.getElem?_eq_some_iff.1 hx).1
    -- the first one behind is not so
    have hk : (L.takeWhile r).length < L.length := by omega
    have hd : L.dropWhile r ≠ [] := fun e => by
      have := congrArg List.length (List.takeWhile_append_dropWhile (p := r) (l := L))
      rw [e, List.length_append] at this
      simp at this
      omega
    have h0 := List.head_dropWhile_not r hd
    have hh : L[(L.takeWhile r).length]? = some ((L.dropWhile r).head hd) := by
      conv => lhs; rw [← List.takeWhile_append_dropWhile (p := r) (l := L)]
      rw [List.getElem?_append_right (by rw [List.takeWhile_append_dropWhile]; exact Nat.le_refl _)]
      rw [List.takeWhile_append_dropWhile, Nat.sub_self, ← List.head?_eq_getElem?, List.head?_eq_some_head hd]
    have hr0 : r ((L.dropWhile r).head hd) = true := by
      rcases Nat.lt_or_ge (L.takeWhile r).length j with h | h
      · exact hr _ _ _ _ h hh hx hrx
      · have : j = (L.takeWhile r).length := by omega
        subst this
        rw [hh] at hx
        injection hx with hx
        rw [hx]; exact hrx
    rw [hr0] at h0
    simp at h0
def rA (s : Sy) (x : Mo) : Bool := decide (ordS x.1 s < 0)
def rB (s : Sy) (x : Mo) : Bool := decide (x.1 = s)
def kA (L : List Mo) (s : Sy) : Nat := (L.takeWhile (rA s)).length
def mB (L : List Mo) (s : Sy) : Nat := (((L.drop (kA L s)).takeWhile (rB s))).length
theorem kA_spec {L : List Mo} (hs : L.Pairwise ltM) (s : Sy) : kA L s ≤ L.length ∧ (∀ j x, j < kA L s → L[j]? = some x → ordS x.1 s < 0) ∧ (∀ j x, kA L s ≤ j → L[j]? = some x → ¬ ordS x.1 s < 0) := by
  obtain ⟨h1, h2⟩ := tw_split L (rA s) (fun i j x y hij hx hy h => by
    unfold rA at h ⊢
    have h := of_decide_eq_true h
    refine decide_eq_true ((ordS_neg _ _).2 ?_)
    have h' := (ordS_neg _ _).1 h
    rcases rise_lt hs hij hx hy with h3 | ⟨h3, _⟩
    · exact ltS_trans h3 h'
    · rw [h3]; exact h')
  refine ⟨?_, fun j x hj hx => of_decide_eq_true (h1 j x hj hx), fun j x hj hx => of_decide_eq_false (h2 j x hj hx)⟩
  have := congrArg List.length (List.takeWhile_append_dropWhile (p := rA s) (l := L))
  rw [List.length_append] at this
  unfold kA
  omega
theorem mB_spec {L : List Mo} (hs : L.Pairwise ltM) (s : Sy) : kA L s + mB L s ≤ L.length ∧ (∀ j x, j < mB L s → L[kA L s + j]? = some x → x.1 = s) ∧ (∀ j x, mB L s ≤ j → L[kA L s + j]? = some x → x.1 ≠ s) := by
  obtain ⟨k1, k2, k3⟩ := kA_spec hs s
  obtain ⟨h1, h2⟩ := tw_split (L.drop (kA L s)) (rB s) (fun i j x y hij hx hy h => by
    unfold rB at h ⊢
    have h := of_decide_eq_true h
    refine decide_eq_true ?_
    rw [List.getElem?_drop] at hx hy
    have hn := k3 _ _ (Nat.le_add_right _ _) hx
    rcases rise_lt hs (show kA L s + i < kA L s + j by omega) hx hy with h3 | ⟨h3, _⟩
    · rw [h] at h3; exact absurd ((ordS_neg _ _).2 h3) hn
    · rw [h3]; exact h)
  refine ⟨?_, fun j x hj hx => of_decide_eq_true (h1 j x hj (by rw [List.getElem?_drop]; exact hx)), fun j x hj hx => of_decide_eq_false (h2 j x hj (by rw [List.getElem?_drop]; exact hx))⟩
  have := congrArg List.length (List.takeWhile_append_dropWhile (p := rB s) (l := L.drop (kA L s)))
  rw [List.length_append, List.length_drop] at this
  unfold mB
  omega
/-- The moves by a symbol. -/
def byS (L : List Mo) (s : Sy) : List Mo := (L.drop (kA L s)).take (mB L s)
theorem byS_len {L : List Mo} (hs : L.Pairwise ltM) (s : Sy) : (byS L s).length = mB L s := by
  unfold byS
  rw [List.length_take, List.length_drop]
  have := (mB_spec hs s).1
  omega
theorem byS_get {L : List Mo} {s : Sy} {j : Nat} {x : Mo} (h : (byS L s)[j]? = some x) : L[kA L s + j]? = some x := by
  unfold byS at h
  rw [List.getElem?_take] at h
  split at h
  · rw [List.getElem?_drop] at h; exact h
  · cases h
theorem byS_mem {L : List Mo} (hs : L.Pairwise ltM) (s : Sy) (x : Mo) : x ∈ byS L s ↔ x ∈ L ∧ x.1 = s := by
  obtain ⟨k1, k2, k3⟩ := kA_spec hs s
  obtain ⟨m1, m2, m3⟩ := mB_spec hs s
  constructor
  · intro h
    obtain ⟨j, hj⟩ := List.mem_iff_getElem?.1 h
    have h1 := byS_get hj
    have hlt : j < mB L s := by rw [← byS_len hs s]; exact (List.getElem?_eq_some_iff.1 hj).1
    exact ⟨List.mem_of_getElem? h1, m2 j x hlt h1⟩
  · rintro ⟨h, rfl⟩
    obtain ⟨j, hj⟩ := List.mem_iff_getElem?.1 h
    have hk : kA L x.1 ≤ j := by
      rcases Nat.lt_or_ge j (kA L x.1) with h1 | h1
      · have := k2 j x h1 hj
        rw [(ordS_zero _ _).2 rfl] at this
        omega
      · exact h1
    have hm : j - kA L x.1 < mB L x.1 := by
      rcases Nat.lt_or_ge (j - kA L x.1) (mB L x.1) with h1 | h1
      · exact h1
      · exact absurd rfl (m3 (j - kA L x.1) x h1 (by rw [show kA L x.1 + (j - kA L x.1) = j by omega]; exact hj))
    refine List.mem_of_getElem? (i := j - kA L x.1) ?_
    unfold byS
    rw [List.getElem?_take, if_pos hm, List.getElem?_drop, show kA L x.1 + (j - kA L x.1) = j by omega]
    exact hj
def pA (L : List Mo) (s : Sy) (t : Nat) : Bool := match L[t]? with | some x => decide (0 ≤ ordS x.1 s) | none => true
def pB (L : List Mo) (s : Sy) (k t : Nat) : Bool := match L[k + t]? with | some x => !decide (x.1 = s) | none => true
theorem seaA_spec {L : List Mo} (hs : L.Pairwise ltM) (s : Sy) : SeaAt (pA L s) L.length (kA L s) := by
  obtain ⟨k1, k2, k3⟩ := kA_spec hs s
  refine ⟨k1, fun t ht => ?_, fun t ht htn => ?_⟩
  · have hx := List.getElem?_eq_getElem (show t < L.length by omega)
    unfold pA
    rw [hx]
    have := k2 t _ ht hx
    exact decide_eq_false (by omega)
  · have hx := List.getElem?_eq_getElem htn
    unfold pA
    rw [hx]
    have := k3 t _ ht hx
    exact decide_eq_true (by omega)
theorem seaB_spec {L : List Mo} (hs : L.Pairwise ltM) (s : Sy) : SeaAt (pB L s (kA L s)) (L.length - kA L s) (mB L s) := by
  obtain ⟨m1, m2, m3⟩ := mB_spec hs s
  refine ⟨by omega, fun t ht => ?_, fun t ht htn => ?_⟩
  · have hx := List.getElem?_eq_getElem (show kA L s + t < L.length by omega)
    unfold pB
    rw [hx]
    have := m2 t _ ht hx
    show (!decide (_ = s)) = false
    rw [decide_eq_true this]; rfl
  · have hx := List.getElem?_eq_getElem (show kA L s + t < L.length by omega)
    unfold pB
    rw [hx]
    show (!decide (_ = s)) = true
    rw [decide_eq_false (m3 t _ ht hx)]; rfl
theorem SeaAt.mono {p : Nat → Bool} {n k : Nat} (h : SeaAt p n k) : ∀ a b, a ≤ b → b < n → p a = true → p b = true := fun a b hab hb ha => by
  rcases Nat.lt_or_ge a k with h1 | h1
  · rw [h.2.1 a h1] at ha; cases ha
  · exact h.2.2 b (by omega) hb
set_option maxHeartbeats 8000000 in
theorem movesA_gen {W : World} {p q g n c i : Nat} {x s : Sy} (hp : W.cell? ⟨p, 0, none⟩ = some (.slice (some ⟨g, 0, none⟩) n c)) (hq : W.cell? ⟨q, 0, none⟩ = some (.int .i64 s.1)) (hq1 : W.cell? ⟨q, 1, none⟩ = some (.bool s.2))
    (hg : W.cell? ⟨g, i * 3, none⟩ = some (.int .i64 x.1)) (hg1 : W.cell? ⟨g, i * 3 + 1, none⟩ = some (.bool x.2)) (hi : i < n) (hn : n ≤ 1000) :
    Calls Try.prog 63 #[.int .i64 (i : Int), .pointer (some ⟨p, 0, none⟩), .pointer (some ⟨q, 0, none⟩)] W fun e w' => e = .returned (.bool (decide (0 ≤ ordS x s))) ∧ Below W.heap.size W w' := by
  have cO := fun W => ordS_any x.1 s.1 x.2 s.2 W
  obtain ⟨o, ho⟩ : ∃ o, o = ordS x s := ⟨_, rfl⟩
  have e : ordS (x.1, x.2) (s.1, s.2) = o := ho.symm
  rw [e] at cO
  rw [← ho]
  have z0 : (0 : Int) ≤ (i : Int) := by omega
  have z1 : (i : Int) < (n : Int) := by omega
  have z2 : (n : Int) ≤ 1000 := by omega
  clear e ho hi hn
  go_enter Try.func63, Try.ntmps63
  go_wp2
  go_region_held3 (fun w => w.cell? ⟨p, 0, none⟩ = some (.slice (some ⟨g, 0, none⟩) n c) ∧ w.cell? ⟨q, 0, none⟩ = some (.int .i64 s.1) ∧ w.cell? ⟨q, 1, none⟩ = some (.bool s.2) ∧ w.cell? ⟨g, i * 3, none⟩ = some (.int .i64 x.1) ∧ w.cell? ⟨g, i * 3 + 1, none⟩ = some (.bool x.2))
    (first | exact ⟨hp, hq, hq1, hg, hg1⟩ | exact ⟨cell_below hp hB, cell_below hq hB, cell_below hq1 hB, cell_below hg hB, cell_below hg1 hB⟩)
    (first
      | (go_at_call 47; (with_reducible refine (cO _).mono ?_); rintro e w1 ⟨rfl, hB0⟩; have hB := (Below.drew (Below.refl W.heap.size W)).trans hB0)
      | fail)
  all_goals
    go_wp2
    go_ret
    exact ⟨rfl, hB⟩
theorem neqS (a b : Int) (p q r : Bool) (hr : r = !decide (((a, p) : Sy) = (b, q))) (w : World) : (binOp .neq 44 (.agg #[.int .i64 a, .bool p]) (.agg #[.int .i64 b, .bool q])).run Try.prog w = .ok (.bool r) w := by
  by_cases h : a = b
  · subst h
    by_cases hpq : p = q
    · subst hpq
      have e : r = false := by rw [hr]; simp
      clear hr
      subst e
      cases p <;> go_simp
    · have e : r = true := by rw [hr]; simp [hpq]
      clear hr
      subst e
      cases p <;> cases q <;> first | exact absurd rfl hpq | go_simp
  · have m : (a == b) = false := by rw [beq_eq_false_iff_ne]; exact h
    have e : r = true := by rw [hr]; simp [h]
    clear hr
    subst e
    cases p <;> cases q <;> go_simp
set_option maxHeartbeats 8000000 in
theorem movesB_gen {W : World} {p q g o n c i : Nat} {x s : Sy} (hp : W.cell? ⟨p, 0, none⟩ = some (.slice (some ⟨g, o, none⟩) n c)) (hq : W.cell? ⟨q, 0, none⟩ = some (.int .i64 s.1)) (hq1 : W.cell? ⟨q, 1, none⟩ = some (.bool s.2))
    (hg : W.cell? ⟨g, o + i * 3, none⟩ = some (.int .i64 x.1)) (hg1 : W.cell? ⟨g, o + i * 3 + 1, none⟩ = some (.bool x.2)) (hi : i < n) (hn : n ≤ 1000) :
    Calls Try.prog 64 #[.int .i64 (i : Int), .pointer (some ⟨p, 0, none⟩), .pointer (some ⟨q, 0, none⟩)] W fun e w' => e = .returned (.bool (!decide (x = s))) ∧ Below W.heap.size W w' := by
  obtain ⟨r, hr⟩ : ∃ r, r = !decide (x = s) := ⟨_, rfl⟩
  have hE := fun w => neqS x.1 s.1 x.2 s.2 r hr w
  rw [← hr]
  clear hr
  have z0 : (0 : Int) ≤ (i : Int) := by omega
  have z1 : (i : Int) < (n : Int) := by omega
  have z2 : (n : Int) ≤ 1000 := by omega
  clear hi hn
  go_enter Try.func64, Try.ntmps64
  go_wp2
  go_quiet (fail)
  go_wp2
  go_ret
  exact ⟨rfl, below_drewP (Below.refl _ _) _⟩
end Go.Proofs.Ytghlajfalgdkfaa
