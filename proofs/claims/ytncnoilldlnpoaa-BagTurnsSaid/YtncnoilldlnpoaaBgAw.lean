/-
  The document's example: awake.
-/
import Derived.Test.YtncnoilldlnpoaaBgNew
import Derived.Test.YtncnoilldlnpoaaBgConW
namespace Go.Proofs.Ytncnoilldlnpoaa
open Go.RowKit
set_option linter.unusedVariables false
set_option linter.unusedSimpArgs false
set_option maxRecDepth 100000

/-- A bag, and that it may be added to. -/
structure Bo (B d : Nat) (room : Int) (n : Nat) (M : List (Int × Ky)) (F : Nat → Prop) (W : World) : Prop where
  ex : ∃ am v D, Bk B d room v am D M W ∧ TsR B W v (D.map (·.t)) ∧ D.length ≤ n ∧ ∀ q, F q ↔ Fp d am v D q
theorem Bo.lt {B d n : Nat} {room : Int} {M : List (Int × Ky)} {F : Nat → Prop} {W : World} (h : Bo B d room n M F W) : ∀ q, F q → q < W.heap.size := fun q hq => by
  obtain ⟨am, v, D, h1, _, _, h4⟩ := h.ex
  exact h1.lt q ((h4 q).1 hq)
theorem Bo.ge {B d n : Nat} {room : Int} {M : List (Int × Ky)} {F : Nat → Prop} {W : World} (h : Bo B d room n M F W) : ∀ q, F q → B ≤ q := fun q hq => by
  obtain ⟨am, v, D, h1, _, _, h4⟩ := h.ex
  exact h1.ge q ((h4 q).1 hq)
theorem Bo.of {B d n : Nat} {room : Int} {M : List (Int × Ky)} {F : Nat → Prop} {W W' : World} (h : Bo B d room n M F W) (hk : ∀ q, F q → W'.heap[q]? = W.heap[q]?) : Bo B d room n M F W' := by
  obtain ⟨am, v, D, h1, h2, h3, h4⟩ := h.ex
  exact ⟨am, v, D, h1.of fun q hq => hk q ((h4 q).2 hq), h2.of fun q hq => hk q ((h4 q).2 (.inr (.inr (.inl hq)))), h3, h4⟩
theorem Bo.below {B d n : Nat} {room : Int} {M : List (Int × Ky)} {F : Nat → Prop} {W W' : World} (h : Bo B d room n M F W) (hb : Below W.heap.size W W') : Bo B d room n M F W' := h.of fun q hq => hb.block q (h.lt q hq)
theorem Bo.more {B d n : Nat} {room : Int} {M : List (Int × Ky)} {F : Nat → Prop} {W : World} (h : Bo B d room n M F W) : Bo B d room (n + 1) M F W := by
  obtain ⟨am, v, D, h1, h2, h3, h4⟩ := h.ex
  exact ⟨am, v, D, h1, h2, by omega, h4⟩
theorem new_bo {B : Nat} {W : World} {room : Int} (hB : B ≤ W.heap.size) : ∃ F, Bo B (W.heap.size + 1) room 0 [] F (newW W room) ∧ ∀ q, F q → W.heap.size ≤ q := by
  obtain ⟨h1, h2⟩ := new_bk (B := B) (W := W) (room := room) hB
  refine ⟨Fp (W.heap.size + 1) W.heap.size (.slice none 0 0) [], ⟨_, _, _, h1, h2, Nat.le_refl _, fun q => Iff.rfl⟩, fun q hq => ?_⟩
  rcases hq with e | e | e | ⟨z, hz, _⟩
  · omega
  · omega
  · cases e
  · cases hz
/-- What Add leaves. -/
def BoP (B d : Nat) (room : Int) (n : Nat) (M : List (Int × Ky)) (F : Nat → Prop) (W : World) (x : Int) (k : Ky) (e : Ending) (w' : World) : Prop :=
  e = .returned (.int .i64 (addM room M x k).2) ∧ ∃ F', Bo B d room (n + 1) (addM room M x k).1 F' w' ∧ Ch F W w' ∧ ∀ q, F' q → F q ∨ W.heap.size ≤ q
theorem bo_add {B d n : Nat} {room : Int} {M : List (Int × Ky)} {F : Nat → Prop} {W : World} (h : Bo B d room n M F W) (hB : B ≤ W.heap.size) (hn : n ≤ 30000) (hM : M.length ≤ 30000) (x : Int) (k : Ky) :
    Calls Try.prog 8 #[.pointer (some ⟨d, 0, none⟩), .int .i64 x, kE k] W (BoP B d room n M F W x k) := by
  obtain ⟨am, v, D, h1, h2, h3, h4⟩ := h.ex
  refine (gadd_any h1 h2 hB (by omega) hM x k).mono ?_
  rintro e w' ⟨rfl, v', D', hN, hR, hD⟩
  refine ⟨rfl, Fp d am v' D', ⟨am, v', D', hN.bk, hR, by omega, fun q => Iff.rfl⟩, ⟨hN.ch.os, hN.ch.tape, hN.ch.output, hN.ch.size, fun q hq hf => hN.ch.far q hq fun e => hf ((h4 q).2 e)⟩, fun q hq => (hN.fp q hq).imp (fun e => (h4 q).2 e) id⟩
theorem bo_len {B d n : Nat} {room : Int} {M : List (Int × Ky)} {F : Nat → Prop} {W : World} (h : Bo B d room n M F W) :
    Calls Try.prog 11 #[.pointer (some ⟨d, 0, none⟩)] W fun e w' => e = .returned (.int .i64 (M.length : Int)) ∧ w' = W := by
  obtain ⟨am, v, D, h1, _⟩ := h.ex
  exact glen_any h1
theorem bo_con {B d n : Nat} {room : Int} {M : List (Int × Ky)} {F : Nat → Prop} {W : World} (h : Bo B d room n M F W) (hM : M.length ≤ 30000) (a b : Int) :
    Calls Try.prog 10 #[.pointer (some ⟨d, 0, none⟩), spv a b] W (ConP W M a b) := by
  obtain ⟨am, v, D, h1, _⟩ := h.ex
  exact gcon_any h1 hM a b
theorem aw_con {W w' : World} {v' : Value} {L : List (Ky × Nat)} (h : IsC L (cw [(2, ((1, 2, 3) : Ky)), (1, (1, 2, 3))] 0 9)) (hE : EnA w' v' L) : ∃ g c, v' = .slice (some ⟨g, 0, none⟩) 1 c ∧ w'.cell? ⟨g, 3, none⟩ = some (.int .i64 2) := by
  have hL : L = [((1, 2, 3), 2)] := by
    refine h.uniq ⟨List.pairwise_singleton _ _, fun p hp => ?_, fun k => ?_⟩
    · simp at hp; subst hp; decide
    · unfold cntK getM cw
      have c1 : hasB 0 9 2 = true := by decide
      have c2 : hasB 0 9 1 = true := by decide
      simp only [List.countP_cons, List.countP_nil, c1, c2, Bool.true_and]
      by_cases e : ((1, 2, 3) : Ky) = k
      · rw [if_pos e, if_pos (by simpa using e)]; rfl
      · rw [if_neg e, if_neg (by simpa using e)]; rfl
  obtain ⟨g, c, h1, _, h3⟩ := hE
  rw [hL] at h1 h3
  exact ⟨g, c, h1, by simpa [entC] using h3 0 _ rfl 3 (by omega)⟩
set_option maxHeartbeats 8000000 in
theorem gawake_ok (W : World) : Calls Try.prog 6 #[] W fun e w' => e = .returned (.bool true) ∧ Below W.heap.size W w' := by
  obtain ⟨F, hF, hFg⟩ := new_bo (B := W.heap.size) (W := W) (room := 5) (Nat.le_refl _)
  have cN := gnew_any W (room := 5) (by decide) (by decide)
  have hB0 := new_below W 5
  have e1 : addM 5 [] 1 (1, 2, 3) = ([(1, (1, 2, 3))], 0) := by decide
  have e2 : addM 5 [(1, (1, 2, 3))] 2 (1, 2, 3) = ([(2, (1, 2, 3)), (1, (1, 2, 3))], 0) := by decide
  have cA := bo_add hF hB0.size (by omega) (by simp) 1 (1, 2, 3)
  unfold kE at cA
  have H1 := Lib.hid (fun (e : Ending) (w1 : World) (hp : BoP W.heap.size (W.heap.size + 1) 5 0 [] F (newW W 5) 1 (1, 2, 3) e w1) => (show e = .returned (.int .i64 0) ∧ Below W.heap.size W w1 ∧ Calls Try.prog 8 #[.pointer (some ⟨W.heap.size + 1, 0, none⟩), .int .i64 2, .agg #[.int .i64 1, .int .i64 2, .int .i64 3]] w1 (fun e' w2 => e' = .returned (.int .i64 0) ∧ ∃ F2, Bo W.heap.size (W.heap.size + 1) 5 2 [(2, (1, 2, 3)), (1, (1, 2, 3))] F2 w2 ∧ Below W.heap.size W w2) from by
    unfold BoP at hp
    rw [e1] at hp
    obtain ⟨rfl, F1, hb, hc, hf⟩ := hp
    have hb1 : Below W.heap.size W w1 := hc.below (fun q hq => hFg q hq) hB0.size hB0
    refine ⟨rfl, hb1, (bo_add hb hb1.size (by omega) (by simp) 2 (1, 2, 3)).mono ?_⟩
    intro e' w2 hp2
    unfold BoP at hp2
    rw [e2] at hp2
    obtain ⟨rfl, F2, hb2, hc2, hf2⟩ := hp2
    exact ⟨rfl, F2, hb2, hc2.below hb.ge hb1.size hb1⟩))
  have H2 := Lib.hid (fun (F2 : Nat → Prop) (w2 : World) (hb : Bo W.heap.size (W.heap.size + 1) 5 2 [(2, (1, 2, 3)), (1, (1, 2, 3))] F2 w2) (h0 : Below W.heap.size W w2) => (show Calls Try.prog 10 #[.pointer (some ⟨W.heap.size + 1, 0, none⟩), .agg #[.int .i64 0, .int .i64 9]] w2 (fun e w3 => ∃ g c, e = .returned (.slice (some ⟨g, 0, none⟩) 1 c) ∧ w3.cell? ⟨g, 3, none⟩ = some (.int .i64 2) ∧ Below W.heap.size W w3 ∧ Calls Try.prog 11 #[.pointer (some ⟨W.heap.size + 1, 0, none⟩)] w3 (fun e w4 => e = .returned (.int .i64 2) ∧ w4 = w3)) from by
    refine (bo_con hb (by simp) 0 9).mono ?_
    rintro e w3 ⟨v', L, rfl, hL, hE, hb3⟩
    obtain ⟨g, c, rfl, h3⟩ := aw_con (W := W) hL hE
    exact ⟨g, c, rfl, h3, h0.trans (hb3.mono h0.size), bo_len (hb.below hb3)⟩))
  clear hF hFg hB0 e1 e2
  go_enter Try.func6, Try.ntmps6
  go_wp2_with (first
    | (go_at_call 7; (with_reducible refine cN.mono ?_); rintro e w' ⟨rfl, rfl⟩)
    | (go_at_call 8; (with_reducible refine cA.mono ?_); intro e w1 hp; obtain ⟨rfl, hb1, cA2⟩ := H1.out e w1 hp; clear hp cA)
    | (go_at_call 8; (with_reducible refine cA2.mono ?_); rintro e w2 ⟨rfl, F2, hbo, hb2⟩; have cC := H2.out F2 w2 hbo hb2; clear hbo hb2 cA2)
    | (go_at_call 10; (with_reducible refine cC.mono ?_); rintro e w3 ⟨g, c, rfl, h3, hb3, cL⟩; clear cC)
    | (go_at_call 11; (with_reducible refine cL.mono ?_); rintro e w4 ⟨rfl, rfl⟩))
  go_ret
  exact ⟨rfl, hb3⟩
end Go.Proofs.Ytncnoilldlnpoaa
