/-
  THE DOCUMENT's 'Neg', 'Same', 'Fits'.
-/
import Derived.Test.YtknjdkjakngkpaaVOf
namespace Go.Proofs.Ytknjdkjakngkpaa
open Go.RowKit
set_option linter.unusedVariables false

def TrN (w : World) (g : Nat) (z : Int) (e : Ending) (w' : World) : Prop :=
  ∃ (A : Option Addr) (c : Nat), e = .returned (.agg #[.bool (decide (z < 0)), .slice A (digs z.natAbs).length c]) ∧ ((digs z.natAbs).length ≤ c ∧ c ≤ maxLen) ∧ DAt w' A (digs z.natAbs) ∧ Bk w' g 32 #[.bool false, .slice none 0 0] ∧ Below w.heap.size w w'
theorem DAt.far {w' : World} {A : Option Addr} {l : List Int} (h : DAt w' A l) {g : Nat} {a : Bool} {v : Option Addr} {n c : Nat} (hg : Bk w' g 32 #[.bool a, .slice v n c]) (i : Nat) (x : Value) : DAt (w'.setCell ⟨g, i, none⟩ x) A l := by
  intro j y hy
  obtain ⟨gA, o, e, hlt, hc⟩ := h j y hy
  have hne : gA ≠ g := by
    rintro rfl
    rw [hg.cell] at hc
    match o + j, hc with
    | 0, hc => simp at hc
    | 1, hc => simp at hc
    | k + 2, hc => simp at hc
  refine ⟨gA, o, e, by simpa [World.setCell] using hlt, ?_⟩
  exact (World.cell?_of_block (Below.heap_setCell w' ⟨g, i, none⟩ x gA hne)).trans hc
set_option maxHeartbeats 4000000 in
theorem neg_big (x : Int) (hx : (digs x.natAbs).length ≤ 1000) (u : Value) (w : World) (hu : BigV w u x) : Calls Try.prog 22 #[u] w (BgPost w (-x)) := by
  obtain ⟨A, ca, rfl, ⟨hca, hcm⟩, hA⟩ := hu
  have hb0 : Below w.heap.size w ((w.alloc (.cells #[.bool (decide (x < 0)), .slice A (digs x.natAbs).length ca] 32)).alloc (.cells #[.bool false, .slice none 0 0] 32)) := ((Below.refl _ _).alloc (Nat.le_refl _) _).alloc (by simp) _
  have hk0 : Bk ((w.alloc (.cells #[.bool (decide (x < 0)), .slice A (digs x.natAbs).length ca] 32)).alloc (.cells #[.bool false, .slice none 0 0] 32)) (w.heap.size + 1) 32 #[.bool false, .slice none 0 0] := by
    have := Bk.new (w.alloc (.cells #[.bool (decide (x < 0)), .slice A (digs x.natAbs).length ca] 32)) 32 #[.bool false, .slice none 0 0]
    simpa using this
  have cT : Calls Try.prog 35 #[.agg #[.bool (!decide (x < 0)), .slice A (digs x.natAbs).length ca]] ((w.alloc (.cells #[.bool (decide (x < 0)), .slice A (digs x.natAbs).length ca] 32)).alloc (.cells #[.bool false, .slice none 0 0] 32)) (TrN w (w.heap.size + 1) (-x)) := by
    refine (trim_any (!decide (x < 0)) _ (digs_dig _) (by omega) A ca hca hcm (-x) (by rw [digs_val]; omega) (fun h => ?_) _ (hA.below hb0)).mono fun e w' ⟨v, he, hB, hb⟩ => ?_
    · by_cases h0 : x < 0
      · simp [h0]; omega
      · simp [h0]; omega
    · obtain ⟨A', c', hv, h1, h2⟩ := hB
      exact ⟨A', c', by rw [he, hv], h1, h2, hk0.below hb (by simp), hb0.trans (hb.mono (by simp; omega))⟩
  obtain ⟨z, hz⟩ : ∃ z, z = -x := ⟨_, rfl⟩
  rw [← hz] at cT ⊢
  obtain ⟨dx, hdx⟩ : ∃ l, l = digs x.natAbs := ⟨_, rfl⟩
  obtain ⟨nb, hnb⟩ : ∃ b, b = decide (x < 0) := ⟨_, rfl⟩
  rw [← hdx, ← hnb] at cT ⊢
  clear hb0 hk0 hx hA hca hcm hz hdx hnb
  go_enter Try.func22, Try.ntmps22
  go_wp2_with (go_at_call 35; (with_reducible refine cT.mono ?_); rintro e w6 ⟨A6, c6, rfl, h61, h62, hk6, hb6⟩; have q4 := hk6.cell 0; have q5 := hk6.cell 1; have q6 := hk6.free 0; have q7 := hk6.free 1; simp at q4 q5)
  refine bodyPost_ret (v := .agg #[.bool (decide (z < 0)), .slice A6 (digs z.natAbs).length c6]) (by simp [results, Try.results22, go_sem, q4, q5]) rfl ⟨_, rfl, ?_, ?_⟩
  · exact ⟨A6, c6, rfl, h61, (h62.far hk6 0 _).far (a := decide (z < 0)) (v := none) (n := 0) (c := 0) (by simpa using hk6.set 0 _) 1 _⟩
  · exact (hb6.setCell (by simp) _).setCell (by simp) _
end Go.Proofs.Ytknjdkjakngkpaa
