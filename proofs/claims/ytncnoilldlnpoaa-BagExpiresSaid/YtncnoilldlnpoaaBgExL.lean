/-
  BagExpires: two bags, what is added to both, and what then is asked.
-/
import Derived.Test.YtncnoilldlnpoaaBgAw
import Derived.Test.YtncnoilldlnpoaaBgSame
import Derived.Test.YtncnoilldlnpoaaBgExpW
import Derived.Test.YtncnoilldlnpoaaBgArg
namespace Go.Proofs.Ytncnoilldlnpoaa
open Go.RowKit
set_option linter.unusedVariables false
set_option linter.unusedSimpArgs false
set_option maxRecDepth 100000

theorem stay_add {before : Int} {M : List (Int × Ky)} {x : Int} {k : Ky} (hM : M.length < 100) : stayM before (addM 100 M x k).1 = if before ≤ x then (addM 100 (stayM before M) x k).1 else stayM before M := by
  have hl : (stayM before M).length ≤ M.length := List.length_filter_le _ _
  unfold addM
  by_cases hn : negY k
  · simp [hn]
  · have h1 : ¬ (100 : Int) ≤ M.length := by omega
    have h2 : ¬ (100 : Int) ≤ (stayM before M).length := by omega
    rw [if_neg hn, if_neg h1, if_neg hn, if_neg h2]
    unfold stayM
    by_cases hb : before ≤ x
    · rw [if_pos hb, List.filter_cons_of_pos (by simpa using hb)]
    · rw [if_neg hb, List.filter_cons_of_neg (by simpa using hb)]
theorem add_len {room : Int} {M : List (Int × Ky)} {x : Int} {k : Ky} : (addM room M x k).1.length ≤ M.length + 1 := by
  unfold addM
  split
  · simp
  · split <;> simp
theorem stay_stay (before : Int) (M : List (Int × Ky)) : stayM before (stayM before M) = stayM before M := by
  unfold stayM
  rw [List.filter_filter]
  exact List.filter_congr fun x _ => by simp
/-- Both bags. -/
structure Ex (w1 : World) (da db : Nat) (before : Int) (n : Nat) (M : List (Int × Ky)) (Fa Fc : Nat → Prop) (wr : World) : Prop where
  a : Bo w1.heap.size da 100 n M Fa wr
  b : Bo w1.heap.size db 100 n (stayM before M) Fc wr
  ab : ∀ q, Fa q → ¬ Fc q
  ml : M.length ≤ n
  bl : Below w1.heap.size w1 wr
def ExS (w1 : World) (da db : Nat) (before : Int) (n : Nat) (wr : World) : Prop := ∃ M Fa Fc, Ex w1 da db before n M Fa Fc wr
section
variable {w1 wr : World} {da db n : Nat} {before : Int} {M : List (Int × Ky)} {Fa Fc : Nat → Prop}
theorem Ex.below {w' : World} (h : Ex w1 da db before n M Fa Fc wr) (hb : Below wr.heap.size wr w') : Ex w1 da db before n M Fa Fc w' :=
  ⟨h.a.below hb, h.b.below hb, h.ab, h.ml, h.bl.trans (hb.mono h.bl.size)⟩
theorem ex_start (w1 : World) (before : Int) : ExS w1 (w1.heap.size + 1) ((newW w1 100).heap.size + 1) before 0 (newW (newW w1 100) 100) := by
  obtain ⟨Fa, a1, a2⟩ := new_bo (B := w1.heap.size) (W := w1) (room := 100) (Nat.le_refl _)
  have hb := new_below w1 100
  have hb2 := new_below (newW w1 100) 100
  obtain ⟨Fc, b1, b2⟩ := new_bo (B := w1.heap.size) (W := newW w1 100) (room := 100) hb.size
  exact ⟨[], Fa, Fc, a1.below hb2, b1, fun q h1 h2 => by have := a1.lt q h1; have := b2 q h2; omega, Nat.le_refl _, hb.trans (hb2.mono hb.size)⟩
/-- One act: added to the first, and, if it stays, to the other one. -/
theorem ex_round (h : Ex w1 da db before n M Fa Fc wr) (hn : n ≤ 40) {bx : Nat} {cs : Array Value} (hbx : Fb wr bx 32 cs) (hxa : ¬ Fa bx) (hxb : ¬ Fc bx) (x : Int) (k : Ky) :
    Calls Try.prog 8 #[.pointer (some ⟨da, 0, none⟩), .int .i64 x, kE k] wr fun e w5 => (∃ c : Int, e = .returned (.int .i64 c)) ∧ Fb w5 bx 32 cs ∧ (¬ before ≤ x → ExS w1 da db before (n + 1) w5) ∧
      Calls Try.prog 8 #[.pointer (some ⟨db, 0, none⟩), .int .i64 x, kE k] w5 fun e w6 => (∃ c : Int, e = .returned (.int .i64 c)) ∧ (before ≤ x → ExS w1 da db before (n + 1) w6) := by
  have hlen := h.ml
  have hst := stay_add (before := before) (M := M) (x := x) (k := k) (by omega)
  have hsl : (stayM before M).length ≤ M.length := List.length_filter_le _ _
  refine (bo_add h.a h.bl.size (by omega) (by omega) x k).mono ?_
  rintro e w5 ⟨rfl, Fa', a1, a2, a3⟩
  have hb5 : Below w1.heap.size w1 w5 := a2.below h.a.ge h.bl.size h.bl
  have b5 : Bo w1.heap.size db 100 n (stayM before M) Fc w5 := h.b.of fun q hq => a2.far q (h.b.lt q hq) (fun e => h.ab q e hq)
  have ab5 : ∀ q, Fa' q → ¬ Fc q := fun q h1 h2 => (a3 q h1).elim (fun e => h.ab q e h2) (fun e => by have := h.b.lt q h2; omega)
  have hl5 : (addM 100 M x k).1.length ≤ n + 1 := Nat.le_trans add_len (by omega)
  refine ⟨⟨_, rfl⟩, (a2.far bx hbx.lt hxa).trans hbx, fun hx => ?_, ?_⟩
  · rw [if_neg hx] at hst
    exact ⟨_, Fa', Fc, a1, by rw [hst]; exact b5.more, ab5, hl5, hb5⟩
  · refine (bo_add b5 hb5.size (by omega) (by omega) x k).mono ?_
    rintro e w6 ⟨rfl, Fc', c1, c2, c3⟩
    refine ⟨⟨_, rfl⟩, fun hx => ?_⟩
    rw [if_pos hx] at hst
    have a6 : Bo w1.heap.size da 100 (n + 1) (addM 100 M x k).1 Fa' w6 := a1.of fun q hq => c2.far q (a1.lt q hq) (fun e => ab5 q hq e)
    exact ⟨_, Fa', Fc', a6, by rw [hst]; exact c1, fun q h1 h2 => (c3 q h2).elim (fun e => ab5 q h1 e) (fun e => by have := a1.lt q h1; omega), hl5, c2.below b5.ge hb5.size hb5⟩
/-- What is asked of both in the end. -/
theorem ex_end (h : Ex w1 da db before n M Fa Fc wr) (hn : n ≤ 40) {bx : Nat} {a b : Int} (hbx : Fb wr bx 24 #[.int .i64 a, .int .i64 b]) (hxa : ¬ Fa bx) :
    Calls Try.prog 13 #[.pointer (some ⟨da, 0, none⟩), .int .i64 before] wr fun e w2 => e = .returned (.int .i64 ((M.length : Int) - ((stayM before M).length : Int))) ∧ Fb w2 bx 24 #[.int .i64 a, .int .i64 b] ∧
      Calls Try.prog 11 #[.pointer (some ⟨db, 0, none⟩)] w2 (fun e w' => e = .returned (.int .i64 ((stayM before M).length : Int)) ∧ w' = w2) ∧
      Calls Try.prog 11 #[.pointer (some ⟨da, 0, none⟩)] w2 (fun e w' => e = .returned (.int .i64 ((stayM before M).length : Int)) ∧ w' = w2) ∧
      Calls Try.prog 10 #[.pointer (some ⟨da, 0, none⟩), .agg #[.int .i64 a, .int .i64 b]] w2 (fun e w3 => ∃ v3, e = .returned v3 ∧ (∃ A n c, v3 = .slice A n c) ∧ Fb w3 bx 24 #[.int .i64 a, .int .i64 b] ∧
        Calls Try.prog 10 #[.pointer (some ⟨db, 0, none⟩), .agg #[.int .i64 a, .int .i64 b]] w3 (fun e w4 => ∃ v4, e = .returned v4 ∧ (∃ A n c, v4 = .slice A n c) ∧ Fb w4 bx 24 #[.int .i64 a, .int .i64 b] ∧
          Calls Try.prog 9 #[v3, v4] w4 (fun e w5 => e = .returned (.bool true) ∧ Fb w5 bx 24 #[.int .i64 a, .int .i64 b] ∧
            Calls Try.prog 13 #[.pointer (some ⟨da, 0, none⟩), .int .i64 before] w5 (fun e w6 => e = .returned (.int .i64 0) ∧ Fb w6 bx 24 #[.int .i64 a, .int .i64 b] ∧ Below w1.heap.size w1 w6)))) := by
  have hml := h.ml
  have hsl : (stayM before M).length ≤ M.length := List.length_filter_le _ _
  obtain ⟨am, v, D, k1, k2, k3, k4⟩ := h.a.ex
  refine (gexp_any k1 (by omega) before).mono ?_
  rintro e w2 ⟨rfl, v', D', hN⟩
  have hfar : ∀ q, q < wr.heap.size → ¬ Fa q → w2.heap[q]? = wr.heap[q]? := fun q h1 h2 => hN.ch.far q h1 fun e => h2 ((k4 q).2 e)
  have b2 : Bo w1.heap.size db 100 n (stayM before M) Fc w2 := h.b.of fun q hq => hfar q (h.b.lt q hq) fun e => h.ab q e hq
  have hb2 : Below w1.heap.size w1 w2 := hN.ch.below (fun q hq => k1.ge q hq) h.bl.size h.bl
  have x2 : Fb w2 bx 24 #[.int .i64 a, .int .i64 b] := (hfar bx hbx.lt hxa).trans hbx
  refine ⟨rfl, x2, bo_len b2, glen_any hN.bk, ?_⟩
  refine (gcon_any hN.bk (by omega) a b).mono ?_
  rintro e w3 ⟨v3, L3, rfl, c3, e3, hb3⟩
  have x3 := x2.below hb3
  obtain ⟨g3, p3, q3, _⟩ := id e3
  refine ⟨v3, rfl, ⟨_, _, _, q3⟩, x3, ?_⟩
  refine (bo_con (b2.below hb3) (by omega) a b).mono ?_
  rintro e w4 ⟨v4, L4, rfl, c4, e4, hb4⟩
  obtain ⟨g4, p4, q4, _⟩ := id e4
  refine ⟨v4, rfl, ⟨_, _, _, q4⟩, x3.below hb4, ?_⟩
  have hL : L3 = L4 := c3.uniq c4
  refine (gsame_any (e3.below hb4) e4).mono ?_
  rintro e w5 ⟨rfl, hb5⟩
  refine ⟨by rw [decide_eq_true hL], (x3.below hb4).below hb5, ?_⟩
  have hb35 : Below w2.heap.size w2 w5 := (hb3.trans (hb4.mono hb3.size)).trans (hb5.mono (Nat.le_trans hb3.size hb4.size))
  have k5 := hN.bk.below hb35
  refine (gexp_any k5 (by omega) before).mono ?_
  rintro e w6 ⟨rfl, v6, D6, hN6⟩
  rw [stay_stay]
  have hb5' : Below w1.heap.size w1 w5 := hb2.trans (hb35.mono hb2.size)
  have hx5 := (x3.below hb4).below hb5
  have hnf : ¬ Fp da am v' D' bx := fun e => (hN.fp bx e).elim (fun e => hxa ((k4 bx).2 e)) (fun e => by have := hbx.lt; omega)
  exact ⟨by rw [Int.sub_self], (hN6.ch.far bx hx5.lt hnf).trans hx5, hN6.ch.below (fun q hq => k5.ge q hq) hb5'.size hb5'⟩
end
end Go.Proofs.Ytncnoilldlnpoaa
