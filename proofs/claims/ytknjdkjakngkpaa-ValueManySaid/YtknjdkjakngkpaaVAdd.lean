/-
  THE DOCUMENT's 'Add' and 'Neg'.
-/
import Derived.Test.YtknjdkjakngkpaaVPlus
import Derived.Deep.RegionHeld3
namespace Go.Proofs.Ytknjdkjakngkpaa
open Go.RowKit
set_option linter.unusedVariables false

/-- The call's own boxes: two numbers, and the answer's place. -/
def Bx (w : World) (u v : Array Value) (w' : World) : Prop :=
  Below w.heap.size w w' ∧ Bk w' w.heap.size 32 u ∧ Bk w' (w.heap.size + 1) 32 v ∧ Bk w' (w.heap.size + 2) 32 #[.bool false, .slice none 0 0]
theorem Bx.drew {w : World} {u v : Array Value} {w' : World} (h : Bx w u v w') : Bx w u v w'.drew := ⟨Below.drew h.1, h.2.1, h.2.2.1, h.2.2.2⟩
theorem Bx.drewN {w : World} {u v : Array Value} {w' : World} (h : Bx w u v w') (n : Nat) : Bx w u v (w'.drewN n) := ⟨below_dr h.1 n, h.2.1, h.2.2.1, h.2.2.2⟩
theorem Bx.below {w : World} {u v : Array Value} {w' w2 : World} (h : Bx w u v w') (hb : Below w'.heap.size w' w2) : Bx w u v w2 :=
  ⟨h.1.trans (hb.mono h.1.size), h.2.1.below hb h.2.1.lt, h.2.2.1.below hb h.2.2.1.lt, h.2.2.2.below hb h.2.2.2.lt⟩
/-- The two numbers' boxes alone. -/
def BxL (w : World) (u v : Array Value) (w' : World) : Prop := Below w.heap.size w w' ∧ Bk w' w.heap.size 32 u ∧ Bk w' (w.heap.size + 1) 32 v
theorem Bx.loose {w : World} {u v : Array Value} {w' : World} (h : Bx w u v w') : BxL w u v w' := ⟨h.1, h.2.1, h.2.2.1⟩
theorem BxL.set {w : World} {u v : Array Value} {w' : World} (h : BxL w u v w') (i : Nat) (x : Value) : BxL w u v (w'.setCell ⟨w.heap.size + 2, i, none⟩ x) :=
  ⟨h.1.setCell (by simp) _, h.2.1.far (by simp) _, h.2.2.far (by simp) _⟩
theorem BxL.all {w : World} {a b : Bool} {A B : Option Addr} {n m ca cb : Nat} {w' : World} (h : BxL w #[.bool a, .slice A n ca] #[.bool b, .slice B m cb] w') :
    w'.cell? ⟨w.heap.size, 0, none⟩ = some (.bool a) ∧ w'.cell? ⟨w.heap.size, 1, none⟩ = some (.slice A n ca) ∧ w'.cell? ⟨w.heap.size + 1, 0, none⟩ = some (.bool b) ∧ w'.cell? ⟨w.heap.size + 1, 1, none⟩ = some (.slice B m cb) ∧ BxL w #[.bool a, .slice A n ca] #[.bool b, .slice B m cb] w' := by
  refine ⟨?_, ?_, ?_, ?_, h⟩
  · rw [h.2.1.cell]; rfl
  · rw [h.2.1.cell]; rfl
  · rw [h.2.2.cell]; rfl
  · rw [h.2.2.cell]; rfl
theorem Bx.res {w : World} {u v : Array Value} {w' : World} (h : Bx w u v w') :
    w'.cell? ⟨w.heap.size + 2, 0, none⟩ = some (.bool false) ∧ w'.cell? ⟨w.heap.size + 2, 1, none⟩ = some (.slice none 0 0) ∧ w'.frozen? ⟨w.heap.size + 2, 0, none⟩ = false ∧ w'.frozen? ⟨w.heap.size + 2, 1, none⟩ = false := by
  refine ⟨?_, ?_, h.2.2.2.free 0, h.2.2.2.free 1⟩
  · rw [h.2.2.2.cell]; rfl
  · rw [h.2.2.2.cell]; rfl
/-- Digits stay where a number's box is written. -/
theorem DAt.set {w' : World} {A : Option Addr} {l : List Int} (h : DAt w' A l) {g : Nat} {a : Bool} {v : Option Addr} {n c : Nat} (hg : Bk w' g 32 #[.bool a, .slice v n c]) (i : Nat) (x : Value) : DAt (w'.setCell ⟨g, i, none⟩ x) A l := by
  intro j y hy
  obtain ⟨gA, o, e, hlt, hc⟩ := h j y hy
  have hne : gA ≠ g := by
    rintro rfl
    rw [hg.cell] at hc
    match o + j, hc with
    | 0, hc => simp at hc
    | 1, hc => simp at hc
    | k + 2, hc => simp at hc
  refine ⟨gA, o, e, by simpa [World.setCell] using hlt, ?_⟩
  exact (World.cell?_of_block (Below.heap_setCell w' ⟨g, i, none⟩ x gA hne)).trans hc
theorem DAt.set2 {w' : World} {A : Option Addr} {l : List Int} (h : DAt w' A l) {g : Nat} {a b : Bool} {v u : Option Addr} {n c m d : Nat} (hg : Bk w' g 32 #[.bool a, .slice v n c]) : DAt ((w'.setCell ⟨g, 0, none⟩ (.bool b)).setCell ⟨g, 1, none⟩ (.slice u m d)) A l :=
  (h.set hg 0 _).set (a := b) (v := v) (n := n) (c := c) (by simpa using Bk.set hg 0 (.bool b)) 1 _
def BxPl (w : World) (u v : Array Value) (T : Int) (n : Nat) (e : Ending) (w' : World) : Prop :=
  ∃ (l : List Int) (A : Option Addr) (c : Nat), e = .returned (.slice A l.length c) ∧ l.length ≤ c ∧ c ≤ maxLen ∧ DAt w' A l ∧ Dig l ∧ val l = T ∧ l.length ≤ n ∧ Bx w u v w'
def BxBig (w : World) (u v : Array Value) (z : Int) (e : Ending) (w' : World) : Prop :=
  ∃ (A : Option Addr) (c : Nat), e = .returned (.agg #[.bool (decide (z < 0)), .slice A (digs z.natAbs).length c]) ∧ ((digs z.natAbs).length ≤ c ∧ c ≤ maxLen) ∧ DAt w' A (digs z.natAbs) ∧ Bx w u v w'
theorem bx_trim {w : World} {u v : Array Value} (nb : Bool) (l : List Int) (hd : Dig l) (hl : l.length ≤ 1000000) (A : Option Addr) (c : Nat) (hc : l.length ≤ c) (hc2 : c ≤ maxLen) (z : Int) (hz : val l = z.natAbs) (hnb : z ≠ 0 → nb = decide (z < 0)) (W : World) (hA : DAt W A l) (hS : Bx w u v W) :
    Calls Try.prog 35 #[.agg #[.bool nb, .slice A l.length c]] W (BxBig w u v z) :=
  (trim_any nb l hd hl A c hc hc2 z hz hnb W hA).mono fun e w' ⟨x, he, hB, hb⟩ => by
    obtain ⟨A', c', hv, h1, h2⟩ := hB
    exact ⟨A', c', by rw [he, hv], h1, h2, hS.below hb⟩
set_option maxHeartbeats 8000000 in
theorem add_same (x y : Int) (hxy : decide (x < 0) = decide (y < 0)) (hx : (digs x.natAbs).length ≤ 1000) (hy : (digs y.natAbs).length ≤ 1000) (A B : Option Addr) (ca cb : Nat) (w : World) (hA : DAt w A (digs x.natAbs)) (hB : DAt w B (digs y.natAbs)) :
    Calls Try.prog 21 #[.agg #[.bool (decide (x < 0)), .slice A (digs x.natAbs).length ca], .agg #[.bool (decide (y < 0)), .slice B (digs y.natAbs).length cb]] w (BgPost w (x + y)) := by
  have hs := hxy
  simp only [decide_eq_decide] at hs
  have hv : val (digs x.natAbs) + val (digs y.natAbs) = (x + y).natAbs := by rw [digs_val, digs_val]; omega
  have hnb : x + y ≠ 0 → decide (x < 0) = decide (x + y < 0) := fun h => by rw [decide_eq_decide]; omega
  obtain ⟨z, hz⟩ : ∃ z, z = x + y := ⟨_, rfl⟩
  rw [← hz] at hv hnb ⊢
  obtain ⟨dx, hdx⟩ : ∃ l, l = digs x.natAbs := ⟨_, rfl⟩
  obtain ⟨dy, hdy⟩ : ∃ l, l = digs y.natAbs := ⟨_, rfl⟩
  have gx : Dig dx := by rw [hdx]; exact digs_dig _
  have gy : Dig dy := by rw [hdy]; exact digs_dig _
  rw [← hdx] at hx hA hv ⊢
  rw [← hdy] at hy hB hv ⊢
  rw [← hxy]
  obtain ⟨nb, hnbb⟩ : ∃ b, b = decide (x < 0) := ⟨_, rfl⟩
  rw [← hnbb] at hnb ⊢
  have cP : ∀ W, Bx w #[.bool nb, .slice A dx.length ca] #[.bool nb, .slice B dy.length cb] W → Calls Try.prog 36 #[.slice A dx.length ca, .slice B dy.length cb] W (BxPl w #[.bool nb, .slice A dx.length ca] #[.bool nb, .slice B dy.length cb] z.natAbs 1001) := by
    intro W hS
    have hM : ∃ M, dx.length ≤ M ∧ dy.length ≤ M ∧ (M = dx.length ∨ M = dy.length) ∧ M ≤ 1000 := by
      by_cases h : dx.length ≤ dy.length
      · exact ⟨dy.length, h, Nat.le_refl _, .inr rfl, hy⟩
      · exact ⟨dx.length, Nat.le_refl _, by omega, .inl rfl, hx⟩
    obtain ⟨M, m1, m2, m3, m4⟩ := hM
    refine (plus_any dx dy gx gy (by omega) (by omega) A B ca cb W (hA.below hS.1) (hB.below hS.1) M m1 m2 m3).mono fun e w' ⟨l, A', c', he, h1, h2, h3, h4, h5, h6, h7⟩ => ?_
    exact ⟨l, A', c', he, h1, h2, h3, h4, by rw [h5, hv], by omega, hS.below h7⟩
  have hS0 : Bx w #[.bool nb, .slice A dx.length ca] #[.bool nb, .slice B dy.length cb] (((w.alloc (.cells #[.bool nb, .slice A dx.length ca] 32)).alloc (.cells #[.bool nb, .slice B dy.length cb] 32)).alloc (.cells #[.bool false, .slice none 0 0] 32)) := by
    refine ⟨(((Below.refl _ _).alloc (Nat.le_refl _) _).alloc (by simp) _).alloc (by simp; omega) _, ((Bk.new w _ _).alloc _).alloc _, ?_, ?_⟩
    · have := (Bk.new (w.alloc (.cells #[.bool nb, .slice A dx.length ca] 32)) 32 #[.bool nb, .slice B dy.length cb]).alloc (.cells #[.bool false, .slice none 0 0] 32)
      simpa using this
    · have := Bk.new ((w.alloc (.cells #[.bool nb, .slice A dx.length ca] 32)).alloc (.cells #[.bool nb, .slice B dy.length cb] 32)) 32 #[.bool false, .slice none 0 0]
      simpa using this
  have HN := Lib.hid hnb
  clear hs hz hv hnb hdx hdy gx gy hA hB hxy hnbb
  go_enter Try.func21, Try.ntmps21
  go_wp2
  obtain ⟨W0, hW0⟩ : ∃ W0, W0 = (((w.alloc (.cells #[.bool nb, .slice A dx.length ca] 32)).alloc (.cells #[.bool nb, .slice B dy.length cb] 32)).alloc (.cells #[.bool false, .slice none 0 0] 32)) := ⟨_, rfl⟩
  rw [← hW0] at hS0 ⊢
  clear hW0
  go_region_held3 (fun w' => w'.cell? ⟨w.heap.size, 0, none⟩ = some (.bool nb) ∧ w'.cell? ⟨w.heap.size, 1, none⟩ = some (.slice A dx.length ca) ∧ w'.cell? ⟨w.heap.size + 1, 0, none⟩ = some (.bool nb) ∧ w'.cell? ⟨w.heap.size + 1, 1, none⟩ = some (.slice B dy.length cb) ∧
    BxL w #[.bool nb, .slice A dx.length ca] #[.bool nb, .slice B dy.length cb] w')
    (first | exact BxL.all (Bx.loose (by assumption)) | exact BxL.all (Bx.loose (Bx.drew (by assumption))) | exact BxL.all (BxL.set (BxL.set (Bx.loose (by assumption)) 0 _) 1 _))
    (first
      | (go_at_call 36; (with_reducible refine (cP _ (by first | exact Bx.drew (by assumption) | assumption)).mono ?_); rintro e w5 ⟨l5, A5, c5, rfl, h51, h52, h53, h54, h55, h56, hS5⟩)
      | (go_at_call 35; (with_reducible refine (bx_trim nb l5 h54 (by omega) A5 c5 h51 h52 z h55 HN.out _ h53 hS5).mono ?_); rintro e w6 ⟨A6, c6, rfl, h61, h62, hS6⟩; obtain ⟨q4, q5, q6, q7⟩ := hS6.res))
  have q4' : w6.cell? ⟨w.heap.size + 1 + 1, 0, none⟩ = some (.bool false) := q4
  have q5' : w6.cell? ⟨w.heap.size + 1 + 1, 1, none⟩ = some (.slice none 0 0) := q5
  clear q4 q5
  go_wp2
  refine bodyPost_ret (v := .agg #[.bool (decide (z < 0)), .slice A6 (digs z.natAbs).length c6]) (by simp [results, Try.results21, go_sem, q4', q5']) rfl ⟨_, rfl, ?_, ?_⟩
  · exact ⟨A6, c6, rfl, h61, DAt.set2 h62 hS6.2.2.2⟩
  · exact (hS6.1.setCell (by simp; omega) _).setCell (by simp; omega) _
theorem sz_ge {a b : List Int} (h : 0 ≤ szL a b) : b.length ≤ a.length := by
  unfold szL at h
  by_cases k : a.length < b.length
  · rw [if_pos k] at h; omega
  · omega
theorem sz_len {a b : List Int} (h : 0 ≤ szL a b) : b.length ≤ a.length := sz_ge h
theorem cmpL_len {a b : List Int} (h : szL a b < 0) : a.length ≤ b.length := by
  unfold szL at h
  by_cases k : a.length < b.length
  · omega
  · by_cases q : b.length < a.length
    · rw [if_neg k, if_pos q] at h; omega
    · omega
theorem sz_len2 {a b : List Int} (h : szL a b < 0) : a.length ≤ b.length := cmpL_len h

set_option maxHeartbeats 8000000 in
theorem add_diff1 (x y : Int) (hxy : decide (x < 0) ≠ decide (y < 0)) (hc : y.natAbs ≤ x.natAbs) (hx : (digs x.natAbs).length ≤ 1000) (hy : (digs y.natAbs).length ≤ 1000) (A B : Option Addr) (ca cb : Nat) (w : World) (hA : DAt w A (digs x.natAbs)) (hB : DAt w B (digs y.natAbs)) :
    Calls Try.prog 21 #[.agg #[.bool (decide (x < 0)), .slice A (digs x.natAbs).length ca], .agg #[.bool (decide (y < 0)), .slice B (digs y.natAbs).length cb]] w (BgPost w (x + y)) := by
  have hs := hxy
  simp only [ne_eq, decide_eq_decide] at hs
  have hv : val (digs x.natAbs) - val (digs y.natAbs) = (x + y).natAbs := by rw [digs_val, digs_val]; omega
  have hnb : x + y ≠ 0 → decide (x < 0) = decide (x + y < 0) := fun h => by rw [decide_eq_decide]; omega
  have hsz : 0 ≤ szL (digs x.natAbs) (digs y.natAbs) := by rw [szL_digs]; repeat' split <;> omega
  have hle := sz_len hsz
  obtain ⟨z, hz⟩ : ∃ z, z = x + y := ⟨_, rfl⟩
  rw [← hz] at hv hnb ⊢
  have hval : val (digs y.natAbs) ≤ val (digs x.natAbs) := by rw [digs_val, digs_val]; omega
  obtain ⟨dx, hdx⟩ : ∃ l, l = digs x.natAbs := ⟨_, rfl⟩
  obtain ⟨dy, hdy⟩ : ∃ l, l = digs y.natAbs := ⟨_, rfl⟩
  have gx : Dig dx := by rw [hdx]; exact digs_dig _
  have gy : Dig dy := by rw [hdy]; exact digs_dig _
  rw [← hdx] at hx hA hv hsz hle hval ⊢
  rw [← hdy] at hy hB hv hsz hle hval ⊢
  obtain ⟨na, hna⟩ : ∃ b, b = decide (x < 0) := ⟨_, rfl⟩
  obtain ⟨nb, hnbb⟩ : ∃ b, b = decide (y < 0) := ⟨_, rfl⟩
  rw [← hna] at hnb
  rw [← hna, ← hnbb] at hxy ⊢
  have hne : (na == nb) = false := by simpa using hxy
  have cS := sizes_any dx dy (by omega) (by omega) A B ca cb
  obtain ⟨r, hr⟩ : ∃ r, r = szL dx dy := ⟨_, rfl⟩
  rw [← hr] at cS hsz
  have cP : ∀ W, Bx w #[.bool na, .slice A dx.length ca] #[.bool nb, .slice B dy.length cb] W → Calls Try.prog 38 #[.slice A dx.length ca, .slice B dy.length cb] W (BxPl w #[.bool na, .slice A dx.length ca] #[.bool nb, .slice B dy.length cb] z.natAbs 1001) := by
    intro W hS
    refine (minus_any dx dy gx gy (by omega) hle hval A B ca cb W (hA.below hS.1) (hB.below hS.1)).mono fun e w' ⟨l, A', c', he, h1, h2, h3, h4, h5, h6, h7⟩ => ?_
    exact ⟨l, A', c', he, h1, h2, h3, h4, by rw [h5, hv], by omega, hS.below h7⟩
  have cZ : ∀ W, Bx w #[.bool na, .slice A dx.length ca] #[.bool nb, .slice B dy.length cb] W → Calls Try.prog 37 #[.slice A dx.length ca, .slice B dy.length cb] W fun e w' => e = .returned (.int .i64 r) ∧ ∃ n, w' = W.drewN n := fun W hS => cS W (hA.below hS.1) (hB.below hS.1)
  have hS0 : Bx w #[.bool na, .slice A dx.length ca] #[.bool nb, .slice B dy.length cb] (((w.alloc (.cells #[.bool na, .slice A dx.length ca] 32)).alloc (.cells #[.bool nb, .slice B dy.length cb] 32)).alloc (.cells #[.bool false, .slice none 0 0] 32)) := by
    refine ⟨(((Below.refl _ _).alloc (Nat.le_refl _) _).alloc (by simp) _).alloc (by simp; omega) _, ((Bk.new w _ _).alloc _).alloc _, ?_, ?_⟩
    · have := (Bk.new (w.alloc (.cells #[.bool na, .slice A dx.length ca] 32)) 32 #[.bool nb, .slice B dy.length cb]).alloc (.cells #[.bool false, .slice none 0 0] 32)
      simpa using this
    · have := Bk.new ((w.alloc (.cells #[.bool na, .slice A dx.length ca] 32)).alloc (.cells #[.bool nb, .slice B dy.length cb] 32)) 32 #[.bool false, .slice none 0 0]
      simpa using this
  have HN := Lib.hid hnb
  have HS0 := Lib.hid hS0
  clear hs hc hz hv hnb hdx hdy gx gy hA hB hxy hna hnbb hle hval cS hr hS0
  go_enter Try.func21, Try.ntmps21
  go_wp2_with (go_at_call 37; (with_reducible refine (cZ _ (by exact HS0.out)).mono ?_); rintro e w4 ⟨rfl, n4, hw4⟩; have hS4 := HS0.out.drewN n4; rw [← hw4] at hS4; clear hw4; obtain ⟨t1, t2, t3, t4, _⟩ := hS4.loose.all; obtain ⟨t5, t6, t7, t8⟩ := hS4.res)
  go_region_held3 (fun w' => w'.cell? ⟨w.heap.size, 0, none⟩ = some (.bool na) ∧ w'.cell? ⟨w.heap.size, 1, none⟩ = some (.slice A dx.length ca) ∧ w'.cell? ⟨w.heap.size + 1, 0, none⟩ = some (.bool nb) ∧ w'.cell? ⟨w.heap.size + 1, 1, none⟩ = some (.slice B dy.length cb) ∧
    BxL w #[.bool na, .slice A dx.length ca] #[.bool nb, .slice B dy.length cb] w')
    (first | exact BxL.all (Bx.loose (by assumption)) | exact BxL.all (Bx.loose (Bx.drew (by assumption))) | exact BxL.all (BxL.set (BxL.set (Bx.loose (by assumption)) 0 _) 1 _))
    (first
      | (go_at_call 38; (with_reducible refine (cP _ (by first | exact Bx.drew (by assumption) | assumption)).mono ?_); rintro e w5 ⟨l5, A5, c5, rfl, h51, h52, h53, h54, h55, h56, hS5⟩)
      | (go_at_call 35; (with_reducible refine (bx_trim na l5 h54 (by omega) A5 c5 h51 h52 z h55 HN.out _ h53 hS5).mono ?_); rintro e w6 ⟨A6, c6, rfl, h61, h62, hS6⟩; obtain ⟨q4, q5, q6, q7⟩ := hS6.res))
  have q4' : w6.cell? ⟨w.heap.size + 1 + 1, 0, none⟩ = some (.bool false) := q4
  have q5' : w6.cell? ⟨w.heap.size + 1 + 1, 1, none⟩ = some (.slice none 0 0) := q5
  clear q4 q5
  go_wp2
  refine bodyPost_ret (v := .agg #[.bool (decide (z < 0)), .slice A6 (digs z.natAbs).length c6]) (by simp [results, Try.results21, go_sem, q4', q5']) rfl ⟨_, rfl, ?_, ?_⟩
  · exact ⟨A6, c6, rfl, h61, DAt.set2 h62 hS6.2.2.2⟩
  · exact (hS6.1.setCell (by simp; omega) _).setCell (by simp; omega) _

set_option maxHeartbeats 8000000 in
theorem add_diff2 (x y : Int) (hxy : decide (x < 0) ≠ decide (y < 0)) (hc : x.natAbs < y.natAbs) (hx : (digs x.natAbs).length ≤ 1000) (hy : (digs y.natAbs).length ≤ 1000) (A B : Option Addr) (ca cb : Nat) (w : World) (hA : DAt w A (digs x.natAbs)) (hB : DAt w B (digs y.natAbs)) :
    Calls Try.prog 21 #[.agg #[.bool (decide (x < 0)), .slice A (digs x.natAbs).length ca], .agg #[.bool (decide (y < 0)), .slice B (digs y.natAbs).length cb]] w (BgPost w (x + y)) := by
  have hs := hxy
  simp only [ne_eq, decide_eq_decide] at hs
  have hv : val (digs y.natAbs) - val (digs x.natAbs) = (x + y).natAbs := by rw [digs_val, digs_val]; omega
  have hnb : x + y ≠ 0 → decide (y < 0) = decide (x + y < 0) := fun h => by rw [decide_eq_decide]; omega
  have hsz : szL (digs x.natAbs) (digs y.natAbs) < 0 := by rw [szL_digs]; repeat' split <;> omega
  have hle := sz_len2 hsz
  obtain ⟨z, hz⟩ : ∃ z, z = x + y := ⟨_, rfl⟩
  rw [← hz] at hv hnb ⊢
  have hval : val (digs x.natAbs) ≤ val (digs y.natAbs) := by rw [digs_val, digs_val]; omega
  obtain ⟨dx, hdx⟩ : ∃ l, l = digs x.natAbs := ⟨_, rfl⟩
  obtain ⟨dy, hdy⟩ : ∃ l, l = digs y.natAbs := ⟨_, rfl⟩
  have gx : Dig dx := by rw [hdx]; exact digs_dig _
  have gy : Dig dy := by rw [hdy]; exact digs_dig _
  rw [← hdx] at hx hA hv hsz hle hval ⊢
  rw [← hdy] at hy hB hv hsz hle hval ⊢
  obtain ⟨na, hna⟩ : ∃ b, b = decide (x < 0) := ⟨_, rfl⟩
  obtain ⟨nb, hnbb⟩ : ∃ b, b = decide (y < 0) := ⟨_, rfl⟩
  rw [← hnbb] at hnb
  rw [← hna, ← hnbb] at hxy ⊢
  have hne : (na == nb) = false := by simpa using hxy
  have cS := sizes_any dx dy (by omega) (by omega) A B ca cb
  obtain ⟨r, hr⟩ : ∃ r, r = szL dx dy := ⟨_, rfl⟩
  rw [← hr] at cS hsz
  have cP : ∀ W, Bx w #[.bool na, .slice A dx.length ca] #[.bool nb, .slice B dy.length cb] W → Calls Try.prog 38 #[.slice B dy.length cb, .slice A dx.length ca] W (BxPl w #[.bool na, .slice A dx.length ca] #[.bool nb, .slice B dy.length cb] z.natAbs 1001) := by
    intro W hS
    refine (minus_any dy dx gy gx (by omega) hle hval B A cb ca W (hB.below hS.1) (hA.below hS.1)).mono fun e w' ⟨l, A', c', he, h1, h2, h3, h4, h5, h6, h7⟩ => ?_
    exact ⟨l, A', c', he, h1, h2, h3, h4, by rw [h5, hv], by omega, hS.below h7⟩
  have cZ : ∀ W, Bx w #[.bool na, .slice A dx.length ca] #[.bool nb, .slice B dy.length cb] W → Calls Try.prog 37 #[.slice A dx.length ca, .slice B dy.length cb] W fun e w' => e = .returned (.int .i64 r) ∧ ∃ n, w' = W.drewN n := fun W hS => cS W (hA.below hS.1) (hB.below hS.1)
  have hS0 : Bx w #[.bool na, .slice A dx.length ca] #[.bool nb, .slice B dy.length cb] (((w.alloc (.cells #[.bool na, .slice A dx.length ca] 32)).alloc (.cells #[.bool nb, .slice B dy.length cb] 32)).alloc (.cells #[.bool false, .slice none 0 0] 32)) := by
    refine ⟨(((Below.refl _ _).alloc (Nat.le_refl _) _).alloc (by simp) _).alloc (by simp; omega) _, ((Bk.new w _ _).alloc _).alloc _, ?_, ?_⟩
    · have := (Bk.new (w.alloc (.cells #[.bool na, .slice A dx.length ca] 32)) 32 #[.bool nb, .slice B dy.length cb]).alloc (.cells #[.bool false, .slice none 0 0] 32)
      simpa using this
    · have := Bk.new ((w.alloc (.cells #[.bool na, .slice A dx.length ca] 32)).alloc (.cells #[.bool nb, .slice B dy.length cb] 32)) 32 #[.bool false, .slice none 0 0]
      simpa using this
  have HN := Lib.hid hnb
  have HS0 := Lib.hid hS0
  clear hs hc hz hv hnb hdx hdy gx gy hA hB hxy hna hnbb hle hval cS hr hS0
  go_enter Try.func21, Try.ntmps21
  go_wp2_with (go_at_call 37; (with_reducible refine (cZ _ (by exact HS0.out)).mono ?_); rintro e w4 ⟨rfl, n4, hw4⟩; have hS4 := HS0.out.drewN n4; rw [← hw4] at hS4; clear hw4; obtain ⟨t1, t2, t3, t4, _⟩ := hS4.loose.all; obtain ⟨t5, t6, t7, t8⟩ := hS4.res)
  go_region_held3 (fun w' => w'.cell? ⟨w.heap.size, 0, none⟩ = some (.bool na) ∧ w'.cell? ⟨w.heap.size, 1, none⟩ = some (.slice A dx.length ca) ∧ w'.cell? ⟨w.heap.size + 1, 0, none⟩ = some (.bool nb) ∧ w'.cell? ⟨w.heap.size + 1, 1, none⟩ = some (.slice B dy.length cb) ∧
    BxL w #[.bool na, .slice A dx.length ca] #[.bool nb, .slice B dy.length cb] w')
    (first | exact BxL.all (Bx.loose (by assumption)) | exact BxL.all (Bx.loose (Bx.drew (by assumption))) | exact BxL.all (BxL.set (BxL.set (Bx.loose (by assumption)) 0 _) 1 _))
    (first
      | (go_at_call 38; (with_reducible refine (cP _ (by first | exact Bx.drew (by assumption) | assumption)).mono ?_); rintro e w5 ⟨l5, A5, c5, rfl, h51, h52, h53, h54, h55, h56, hS5⟩)
      | (go_at_call 35; (with_reducible refine (bx_trim nb l5 h54 (by omega) A5 c5 h51 h52 z h55 HN.out _ h53 hS5).mono ?_); rintro e w6 ⟨A6, c6, rfl, h61, h62, hS6⟩; obtain ⟨q4, q5, q6, q7⟩ := hS6.res))
  have q4' : w6.cell? ⟨w.heap.size + 1 + 1, 0, none⟩ = some (.bool false) := q4
  have q5' : w6.cell? ⟨w.heap.size + 1 + 1, 1, none⟩ = some (.slice none 0 0) := q5
  clear q4 q5
  go_wp2
  refine bodyPost_ret (v := .agg #[.bool (decide (z < 0)), .slice A6 (digs z.natAbs).length c6]) (by simp [results, Try.results21, go_sem, q4', q5']) rfl ⟨_, rfl, ?_, ?_⟩
  · exact ⟨A6, c6, rfl, h61, DAt.set2 h62 hS6.2.2.2⟩
  · exact (hS6.1.setCell (by simp; omega) _).setCell (by simp; omega) _

/-- Add, of any two numbers. -/
theorem add_big (x y : Int) (hx : (digs x.natAbs).length ≤ 1000) (hy : (digs y.natAbs).length ≤ 1000) (u v : Value) (w : World) (hu : BigV w u x) (hv : BigV w v y) : Calls Try.prog 21 #[u, v] w (BgPost w (x + y)) := by
  obtain ⟨A, ca, rfl, _, hA⟩ := hu
  obtain ⟨B, cb, rfl, _, hB⟩ := hv
  by_cases h : decide (x < 0) = decide (y < 0)
  · exact add_same x y h hx hy A B ca cb w hA hB
  · by_cases k : y.natAbs ≤ x.natAbs
    · exact add_diff1 x y h k hx hy A B ca cb w hA hB
    · exact add_diff2 x y h (by omega) hx hy A B ca cb w hA hB
end Go.Proofs.Ytknjdkjakngkpaa
