/-
  deeper, of paths of one part within another.
-/
import Derived.Test.YtcbdgbcphfimlaaNfBlw
namespace Go.Proofs.Ytcbdgbcphfimlaa
open Go.RowKit
set_option linter.unusedVariables false
set_option linter.unusedSimpArgs false
set_option maxRecDepth 100000

def downs : Nat → Option (List Int) → Option (List Int)
  | 0, o => o
  | n + 1, o => down (downs n o)
theorem downs_some (ks : List Int) : ∀ n, downs n (some ks) = if n ≤ ks.length then some (ks.drop n) else none
  | 0 => by simp [downs]
  | n + 1 => by
    unfold downs
    rw [downs_some ks n]
    by_cases h : n + 1 ≤ ks.length
    · rw [if_pos (by omega), if_pos h]
      have : ks.drop n = ks[n]'h :: ks.drop (n + 1) := List.drop_eq_getElem_cons h
      rw [this]; rfl
    · rw [if_neg h]
      by_cases h2 : n ≤ ks.length
      · rw [if_pos h2]
        have : ks.drop n = [] := List.drop_eq_nil_of_le (by omega)
        rw [this]; rfl
      · rw [if_neg h2]; rfl
theorem below_any {W : World} {N : Int} {m : Nat} {o : Option (List Int)} (h : LvM W N m o) :
    Calls Try.prog 60 #[.map (some m)] W fun e w' => ∃ m', e = .returned (.map (some m')) ∧ Below W.heap.size W w' ∧ LvM w' N m' (down o) := by
  cases o with
  | none => exact (below_none h).mono fun e w' ⟨h1, h2, h3⟩ => ⟨_, h1, h2, h3⟩
  | some ks => exact (below_some h).mono fun e w' ⟨h1, h2, h3⟩ => ⟨_, h1, h2, h3⟩
def DpRel (W : World) (N : Int) (L : Nat) (ks : List Int) (g : Nat) (s5 s11 : Value) (wr : World) : Prop :=
  ∃ m i : Nat, s5 = .map (some m) ∧ s11 = .int .i64 (i : Int) ∧ i + g = L ∧ LvM wr N m (downs i (some ks)) ∧ Below W.heap.size W wr
theorem lv_len {W : World} {N : Int} {m : Nat} {o : Option (List Int)} (h : LvM W N m o) : (Builtin.len_ #[101] 3 #[.map (some m)]).run Try.prog W = .ok (.int .i64 (if o = none then 0 else 1)) W := by
  obtain ⟨E, h1, h2⟩ := h
  rw [lenP h1]
  cases o with
  | none => obtain rfl := h2; rfl
  | some ks => obtain ⟨key, b, q, rfl, _⟩ := h2; rfl
set_option maxHeartbeats 8000000 in
theorem deeper_any {W : World} {N : Int} {L : Nat} {ks : List Int} {kd n : Int} {s : Value} (hsh : s = .slice none 0 0 ∨ ∃ b : Nat, s = .slice (some ⟨b, 0, none⟩) 1 1) (h : Chn W N ks ⟨kd, n, s⟩) (hL : L ≤ 1000) :
    Calls Try.prog 39 #[.agg #[.int .i64 kd, .int .i64 n, s], .int .i64 (L : Int)] W fun e w' => e = .returned (.bool (decide (L ≤ ks.length))) ∧ Below W.heap.size W w' := by
  obtain ⟨W1, hW1⟩ : ∃ W1, W1 = ((W.alloc (.cells #[.int .i64 kd, .int .i64 n, s] 28)).alloc (.map #[] 0)).alloc (.cells #[.int .i64 kd, .int .i64 n, s] 28) := ⟨_, rfl⟩
  have hm := mkMapP (W.alloc (.cells #[.int .i64 kd, .int .i64 n, s] 28))
  rw [World.size_alloc] at hm
  have hB1 : Below W.heap.size W W1 := by
    rw [hW1]
    exact (((Below.refl _ _).alloc (Nat.le_refl _) _).alloc (by simp) _).alloc (by simp; omega) _
  have hM1 : Mq ptE idE W1 (W.heap.size + 1) ([] : List (Option Nat × Value)) := by
    have := Mq.new (enc := ptE) (encV := idE) (W.alloc (.cells #[.int .i64 kd, .int .i64 n, s] 28))
    rw [World.size_alloc] at this
    exact this.of (by rw [hW1]; exact heap_alloc_old _ _ (by simp))
  have hF1 : Fb W1 (W.heap.size + 2) 28 #[.int .i64 kd, .int .i64 n, s] := by
    have := Fb.new ((W.alloc (.cells #[.int .i64 kd, .int .i64 n, s] 28)).alloc (.map #[] 0)) 28 #[.int .i64 kd, .int .i64 n, s]
    simp only [World.size_alloc] at this
    rw [hW1]; exact this
  have hsz : W1.heap.size = W.heap.size + 3 := by rw [hW1]; simp
  obtain ⟨ob, hu, hp⟩ := put0 hM1 none (.slice (some ⟨W.heap.size + 2, 0, none⟩) 1 1)
  have hB2 : Below W.heap.size W (putBlock W1 (W.heap.size + 1) ob) := below_put hB1 (by omega) _
  have hLv : LvM (putBlock W1 (W.heap.size + 1) ob) N (W.heap.size + 1) (some ks) := ⟨_, hp W1 hM1.lt, none, W.heap.size + 2, ⟨kd, n, s⟩, rfl, (putBlock_far (by omega)).trans hF1, h.below hB2⟩
  have HS := Lib.hid (show DpRel W N L ks L (.map (some (W.heap.size + 1))) (.int .i64 0) (putBlock W1 (W.heap.size + 1) ob) from ⟨_, 0, rfl, rfl, by omega, hLv, hB2⟩)
  unfold ptE at hu
  simp only [Option.map_none] at hu
  have HL := Lib.hid hL
  rw [hW1] at hu
  obtain ⟨r, hr⟩ : ∃ r, r = decide (L ≤ ks.length) := ⟨_, rfl⟩
  rw [← hr]
  have HR := Lib.hid hr
  clear hr
  clear hB1 hM1 hF1 hB2 hLv hp h hsz hL
  rcases hsh with rfl | ⟨b, rfl⟩
  all_goals
    go_enter Try.func39, Try.ntmps39
    go_wp2
    rw [← hW1]
    clear hW1 hu hm
    go_loopg [5, 11] L (fun g s5 s11 wr => DpRel W N L ks g s5 s11 wr)
    case atStart => exact HS.out
    case round =>
      obtain ⟨m, i, rfl, rfl, hi, hLv, hB⟩ := hrel
      have hl9 := HL.out
      have hln := lv_len hLv
      have hc := below_any hLv
      by_cases hiL : i < L
      · have z1 : (i : Int) < (L : Int) := by omega
        have z2 : (L : Int) ≤ 1000 := by omega
        have z0 : (0 : Int) ≤ (i : Int) := by omega
        have HB := Lib.hid hB
        have HI := Lib.hid hi
        clear hB hi hLv hln
        go_wp2_with (go_at_call 60; (with_reducible refine hc.mono ?_); rintro e w5 ⟨m', rfl, hb5, hL5⟩; have HB5 := Lib.hid hb5; have HL5 := Lib.hid hL5; clear hb5 hL5)
        go_roundg (L - (i + 1))
        case measure => have := HI.out; omega
        case rel => exact ⟨m', i + 1, rfl, by rw [Int.natCast_add]; rfl, by omega, HL5.out, HB.out.trans (HB5.out.mono HB.out.size)⟩
      · obtain rfl : i = L := by omega
        have z1 : ¬ ((i : Int) < (i : Int)) := by omega
        have HB := Lib.hid hB
        have HI := Lib.hid hi
        rw [downs_some] at hln
        clear hB hi hLv hc
        by_cases hk : i ≤ ks.length
        · rw [if_pos hk, if_neg (by simp)] at hln
          go_wp2
          go_ret
          exact ⟨congrArg (fun x => Ending.returned (.bool x)) (HR.out.trans (decide_eq_true hk)).symm, HB.out⟩
        · rw [if_neg hk, if_pos rfl] at hln
          go_wp2
          go_ret
          exact ⟨congrArg (fun x => Ending.returned (.bool x)) (HR.out.trans (decide_eq_false hk)).symm, HB.out⟩
end Go.Proofs.Ytcbdgbcphfimlaa
