/-
  A LIST OF KEYS, one block: find, has, in general.
-/
import Derived.Test.YtoiigplflmejmaaSGen
namespace Go.Proofs.Ytoiigplflmejmaa
open Go.RowKit
set_option linter.unusedVariables false
set_option linter.unusedSimpArgs false
set_option maxRecDepth 100000

section
variable {B : Nat} {W W' : World} {d o gb cb : Nat} {n : Int} {v : Value} {l : List Kt}
/-- What find answers: all are ahead; or the first place that isn't. -/
def FindIs (n : Int) (l : List Kt) (k : Kt) (b j : Int) : Prop := (b = 1 ∧ j = 0 ∧ ∀ t, t < l.length → notA n l k t = false) ∨ (b = 0 ∧ ∃ i : Nat, j = (i : Int) ∧ i < l.length ∧ SeaAt (notA n l k) l.length i)
set_option maxHeartbeats 8000000 in
theorem sfind_any (h : Lm B W d o n gb cb v l) (hl : l.length ≤ 1000) (hp : 0 < l.length) (hs : Rs n l) (k : Kt) :
    Calls Try.prog 35 #[.pointer (some ⟨d, o, none⟩), .agg #[.int .i64 k.a, .int .i64 k.b, .int .i64 k.c]] W fun e w' => (∃ b j : Int, e = .returned (.tuple #[.int .i64 b, .int .i64 j]) ∧ FindIs n l k b j) ∧ Below W.heap.size W w' := by
  obtain ⟨W2, hW2⟩ : ∃ W2, W2 = (W.alloc (.cells #[.pointer (some ⟨d, o, none⟩)] 67)).alloc (.cells #[.int .i64 k.a, .int .i64 k.b, .int .i64 k.c] 37) := ⟨_, rfl⟩
  have hB2 : Below W.heap.size W W2 := by rw [hW2]; exact ((Below.refl _ _).alloc (Nat.le_refl _) _).alloc (by simp) _
  have hF1 : Fb W2 W.heap.size 67 #[.pointer (some ⟨d, o, none⟩)] := by rw [hW2]; exact (Fb.new _ _ _).alloc _
  have hF2 : Fb W2 (W.heap.size + 1) 37 #[.int .i64 k.a, .int .i64 k.b, .int .i64 k.c] := by
    have := Fb.new (W.alloc (.cells #[.pointer (some ⟨d, o, none⟩)] 67)) 37 #[.int .i64 k.a, .int .i64 k.b, .int .i64 k.c]
    rw [World.size_alloc] at this
    rw [hW2]; exact this
  have h2 := h.below hB2
  obtain ⟨last, hlast⟩ : ∃ q, q = notA n l k (l.length - 1) := ⟨_, rfl⟩
  have c1 : Calls Try.prog 43 #[.int .i64 1, .func (.func 44) #[] #[.pointer (some ⟨W.heap.size, 0, none⟩), .pointer (some ⟨W.heap.size + 1, 0, none⟩)]] W2 fun e w' => e = .returned (.int .i64 (if last = true then 0 else 1)) ∧ Below W2.heap.size W2 w' := by
    refine (search_any 44 #[.pointer (some ⟨W.heap.size, 0, none⟩), .pointer (some ⟨W.heap.size + 1, 0, none⟩)] 1 (fun _ => last) W2 (fun _ _ => by first | rfl | kernel_rfl) (by decide) (fun w i hb hi => ?_) (fun _ _ _ _ hp => hp)).mono ?_
    · obtain rfl : i = 0 := by omega
      rw [hlast]
      exact sfa_any (h2.below hb) hl hp (hF1.below hb) (hF2.below hb)
    · rintro e w' ⟨q, h1, h2, h3⟩
      refine ⟨?_, h3⟩
      rw [h1]
      obtain ⟨s1, s2, s3⟩ := h2
      cases hq : last with
      | true =>
        have : q = 0 := by
          rcases Nat.eq_zero_or_pos q with e | e
          · exact e
          · have := s2 0 e; simp [hq] at this
        rw [this]; rfl
      | false =>
        have : q = 1 := by
          rcases Nat.eq_zero_or_pos q with e | e
          · have := s3 0 (by omega) (by omega); simp [hq] at this
          · omega
        rw [this]; rfl
  have c2 := fun (w : World) (hb : Below W2.heap.size W2 w) => search_any 46 #[.pointer (some ⟨W.heap.size, 0, none⟩), .pointer (some ⟨w.heap.size, 0, none⟩), .pointer (some ⟨W.heap.size + 1, 0, none⟩)] l.length (notA n l k) (w.alloc (.cells #[v] 70)) (fun _ _ => by first | rfl | kernel_rfl) (by omega)
    (fun w2 i hb2 hi => sfb_any (((h2.below hb).below ((Below.refl _ _).alloc (Nat.le_refl _) _)).below hb2) hl hi (((hF1.below hb).alloc _).below hb2) ((Fb.new _ _ _).below hb2) (((hF2.below hb).alloc _).below hb2)) (fun a b h1 h2 h3 => notA_mono hs a b h1 h2 h3)
  have HB := Lib.hid (fun (w : World) (hb : Below W2.heap.size W2 w) (w' : World) (hb' : Below (w.alloc (.cells #[v] 70)).heap.size (w.alloc (.cells #[v] 70)) w') => (show Below W.heap.size W w' from hB2.trans ((hb.trans ((((Below.refl _ _).alloc (Nat.le_refl _) _).trans (hb'.mono (by simp))).mono hb.size)).mono hB2.size)))
  have HB1 := Lib.hid (fun (w : World) (hb : Below W2.heap.size W2 w) => (show Below W.heap.size W w from hB2.trans (hb.mono hB2.size)))
  have HD := Lib.hid (fun (w : World) (hb : Below W2.heap.size W2 w) => (⟨(hF1.below hb).cell 0, (h2.below hb).h1, (h2.below hb).hb.cell 0, (h2.below hb).hb.lt⟩ : _ ∧ _ ∧ _ ∧ _))
  have hd : d < W.heap.size := World.block_lt_of_cell? _ _ h.h0
  have v1 := h.h1
  obtain ⟨g, c, hv, _⟩ : ∃ g c, v = .slice (some ⟨g, 0, none⟩) l.length c ∧ True := by
    obtain ⟨x, hx⟩ : ∃ x, l[0]? = some x := ⟨_, List.getElem?_eq_getElem hp⟩
    obtain ⟨g, c, hv, _⟩ := h.hr.at hx
    exact ⟨g, c, hv, trivial⟩
  have hall : last = false → ∀ t, t < l.length → notA n l k t = false := fun e t ht => by
    cases hq : notA n l k t with
    | false => rfl
    | true =>
      have := notA_mono hs t (l.length - 1) (by omega) (by omega) hq
      rw [← hlast, e] at this
      cases this
  have hsome : last = true → ∀ q, SeaAt (notA n l k) l.length q → q < l.length := fun e q ⟨s1, s2, s3⟩ => by
    rcases Nat.lt_or_ge q l.length with e1 | e1
    · exact e1
    · have := s2 (l.length - 1) (by omega)
      rw [← hlast, e] at this
      cases this
  have n1 : ¬ W.heap.size = d := by omega
  have n2 : ¬ W.heap.size + 1 = d := by omega
  have n3 : ¬ d = W.heap.size := by omega
  have n4 : ¬ d = W.heap.size + 1 := by omega
  have HALL := Lib.hid hall
  have HSOME := Lib.hid hsome
  clear h hF1 hF2 h2 hB2 hlast hall hsome hs
  subst hW2
  subst hv
  generalize k.a = ka at *
  generalize k.b = kb at *
  generalize k.c = kc at *
  cases last with
  | false =>
    have c1' := c1
    rw [if_neg (by decide)] at c1'
    clear c1 c2
    go_enter Try.func35, Try.ntmps35
    go_wp2_with (go_at_call 43; (with_reducible refine c1'.mono ?_); rintro e w1 ⟨rfl, hb1⟩; obtain ⟨x0, y1, z0, _⟩ := HD.out _ hb1; have HE := Lib.hid (HB1.out _ hb1); clear c1')
    go_ret2
    exact ⟨⟨1, 0, rfl, .inl ⟨rfl, rfl, (by first | exact HALL.out rfl | exact HALL.out trivial | exact HALL.out)⟩⟩, HE.out⟩
  | true =>
    have c1' := c1
    rw [if_pos rfl] at c1'
    clear c1
    go_enter Try.func35, Try.ntmps35
    go_wp2_with (first
      | (go_at_call 43; (with_reducible refine c1'.mono ?_); rintro e w1 ⟨rfl, hb1⟩; obtain ⟨x0, y1, z0, zl⟩ := HD.out _ hb1; have c21 := c2 _ hb1; have HE := Lib.hid (HB.out _ hb1); clear c1')
      | (go_at_call 43; (with_reducible refine c21.mono ?_); rintro e w2 ⟨q, rfl, hq, hb2⟩; have HG := Lib.hid (HE.out _ hb2); have HQ := Lib.hid hq; clear hq))
    go_ret2
    exact ⟨⟨0, q, rfl, .inr ⟨rfl, q, rfl, (by first | exact HSOME.out rfl q HQ.out | exact HSOME.out trivial q HQ.out | exact HSOME.out q HQ.out), HQ.out⟩⟩, HG.out⟩
end
end Go.Proofs.Ytoiigplflmejmaa
