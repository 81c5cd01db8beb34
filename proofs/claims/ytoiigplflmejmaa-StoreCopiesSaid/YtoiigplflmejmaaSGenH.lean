/-
  A LIST OF KEYS, one block: has, in general.
-/
import Derived.Test.YtoiigplflmejmaaSGenF
import Derived.Deep.CutBlock
namespace Go.Proofs.Ytoiigplflmejmaa
open Go.RowKit
set_option linter.unusedVariables false
set_option linter.unusedSimpArgs false
set_option maxRecDepth 100000

instance : DecidableEq Kt := fun x y => decidable_of_iff (x.a = y.a ∧ x.b = y.b ∧ x.c = y.c) ⟨fun ⟨h1, h2, h3⟩ => by cases x; cases y; simp at h1 h2 h3; rw [h1, h2, h3], fun h => by rw [h]; exact ⟨rfl, rfl, rfl⟩⟩
theorem notA_at {n : Int} {l : List Kt} {k x : Kt} {t : Nat} (h : l[t]? = some x) : notA n l k t = !ltK n x k := by unfold notA; rw [h]
theorem seaAt_mem {n : Int} {l : List Kt} {k x : Kt} {j : Nat} (hs : Rs n l) (h : SeaAt (notA n l k) l.length j) (hx : l[j]? = some x) : k ∈ l ↔ x = k := by
  refine ⟨fun hk => ?_, fun e => e ▸ List.mem_of_getElem? hx⟩
  obtain ⟨t, ht⟩ := List.getElem?_of_mem hk
  obtain ⟨s1, s2, s3⟩ := h
  have htl := (List.getElem?_eq_some_iff.1 ht).1
  have hjl := (List.getElem?_eq_some_iff.1 hx).1
  rcases Nat.lt_trichotomy t j with e | e | e
  · have := s2 t e
    rw [notA_at ht, ltK_irr] at this
    cases this
  · rw [e, hx] at ht
    injection ht
  · have h1 := hs.at hx ht e
    have := s3 j (Nat.le_refl _) hjl
    rw [notA_at hx, h1] at this
    cases this
theorem notA_none {n : Int} {l : List Kt} {k : Kt} (h : ∀ t, t < l.length → notA n l k t = false) : k ∉ l := fun hk => by
  obtain ⟨t, ht⟩ := List.getElem?_of_mem hk
  have := h t (List.getElem?_eq_some_iff.1 ht).1
  rw [notA_at ht, ltK_irr] at this
  cases this
set_option maxHeartbeats 4000000 in
theorem eqKey2 (x y : Kt) (w : World) : (binOp .eql 37 (.agg #[.int .i64 x.a, .int .i64 x.b, .int .i64 x.c]) (.agg #[.int .i64 y.a, .int .i64 y.b, .int .i64 y.c])).run Try.prog w = .ok (.bool (decide (x = y))) w := by
  have hd : decide (x = y) = (decide (x.a = y.a) && (decide (x.b = y.b) && decide (x.c = y.c))) := by
    by_cases h : x = y
    · subst h; simp
    · have : ¬ (x.a = y.a ∧ x.b = y.b ∧ x.c = y.c) := fun ⟨h1, h2, h3⟩ => h (by cases x; cases y; simp at h1 h2 h3; rw [h1, h2, h3])
      rw [decide_eq_false h]
      by_cases h1 : x.a = y.a <;> by_cases h2 : x.b = y.b <;> by_cases h3 : x.c = y.c <;> simp_all
  rw [hd]
  obtain ⟨i, hi⟩ := infoInt
  have hs : Try.prog.cellsOf 3 = 1 := by kernel_rfl
  have hu : Try.prog.underlying 37 = some (.array 3 3) := by kernel_rfl
  have hB := fun w => (run_equalIn_array (w := w) 9999 #[.int .i64 x.a, .int .i64 x.b, .int .i64 x.c] #[.int .i64 y.a, .int .i64 y.b, .int .i64 y.c] hu hi)
  rw [hs] at hB
  generalize x.a = xa at *
  generalize x.b = xb at *
  generalize x.c = xc at *
  generalize y.a = ya at *
  generalize y.b = yb at *
  generalize y.c = yc at *
  simp only [show List.range 3 = [0, 1, 2] by decide, Op.eqItems] at hB
  clear hd
  by_cases h1 : xa = ya
  · subst h1
    by_cases h2 : xb = yb
    · subst h2
      by_cases h3 : xc = yc
      · subst h3
        simp only [decide_true, Bool.and_self]
        go_simp
      · have m3 : (xc == yc) = false := by rw [beq_eq_false_iff_ne]; exact h3
        simp only [decide_true, Bool.true_and, decide_eq_false h3]
        go_simp
    · have m2 : (xb == yb) = false := by rw [beq_eq_false_iff_ne]; exact h2
      simp only [decide_true, Bool.true_and, decide_eq_false h2, Bool.false_and]
      go_simp
  · have m1 : (xa == ya) = false := by rw [beq_eq_false_iff_ne]; exact h1
    simp only [decide_eq_false h1, Bool.false_and]
    go_simp
section
variable {B : Nat} {W W' : World} {d o gb cb : Nat} {n : Int} {v : Value} {l : List Kt}
set_option maxHeartbeats 8000000 in
theorem slhas_any (h : Lm B W d o n gb cb v l) (hl : l.length ≤ 1000) (hp : 0 < l.length) (hs : Rs n l) (k : Kt) :
    Calls Try.prog 27 #[.pointer (some ⟨d, o, none⟩), .agg #[.int .i64 k.a, .int .i64 k.b, .int .i64 k.c]] W fun e w' => e = .returned (.bool (decide (k ∈ l))) ∧ Below W.heap.size W w' := by
  have hB1 : Below W.heap.size W (W.alloc (.cells #[.int .i64 k.a, .int .i64 k.b, .int .i64 k.c] 37)) := (Below.refl _ _).alloc (Nat.le_refl _) _
  have hk := Fb.new W 37 #[.int .i64 k.a, .int .i64 k.b, .int .i64 k.c]
  have cF := sfind_any (h.below hB1) hl hp hs k
  have HD := Lib.hid (fun (w : World) (hb : Below (W.alloc (.cells #[.int .i64 k.a, .int .i64 k.b, .int .i64 k.c] 37)).heap.size (W.alloc (.cells #[.int .i64 k.a, .int .i64 k.b, .int .i64 k.c] 37)) w) => (⟨(h.below hB1).below hb, (hk.below hb).cell 0, (hk.below hb).cell 1, (hk.below hb).cell 2, hB1.trans (hb.mono hB1.size)⟩ : _ ∧ _ ∧ _ ∧ _ ∧ _))
  have HS := Lib.hid hs
  have HL := Lib.hid hl
  have hE := fun (x : Kt) => eqKey2 x k
  clear h hB1 hk hs hl
  obtain ⟨r, hr⟩ : ∃ r, r = decide (k ∈ l) := ⟨_, rfl⟩
  rw [← hr]
  have HR := Lib.hid hr
  clear hr
  generalize hka : k.a = ka at *
  generalize hkb : k.b = kb at *
  generalize hkc : k.c = kc at *
  clear hka hkb hkc
  go_enter Try.func27, Try.ntmps27
  go_upto_region 2 with (go_at_call 35; (with_reducible refine cF.mono ?_); rintro e w1 ⟨⟨b, j, rfl, hq⟩, hb1⟩; obtain ⟨hM, k0, k1, k2, hB⟩ := HD.out _ hb1; have HM := Lib.hid hM; have HB := Lib.hid hB; have HQ := Lib.hid hq; clear hM hB hb1 hq)
  have y1 := HM.out.h1
  rcases HQ.out with ⟨rfl, rfl, hn⟩ | ⟨rfl, i, rfl, hi, hsea⟩
  · have hv : r = false := by rw [HR.out]; exact decide_eq_false (notA_none hn)
    subst hv
    clear hn hE
    go_wp2
    go_quiet (fail)
    go_wp2
    go_ret
    exact ⟨rfl, below_drewP HB.out _⟩
  · obtain ⟨x, hx⟩ : ∃ x, l[i]? = some x := ⟨_, List.getElem?_eq_getElem hi⟩
    have hv : r = decide (x = k) := by rw [HR.out]; exact decide_eq_decide.2 (seaAt_mem HS.out hsea hx)
    obtain ⟨g, c, hvv, z1, z2, z3⟩ := HM.out.hr.at hx
    have z0 := HM.out.hb.cell 0
    subst hvv
    have hex := hE x
    rw [← hv] at hex
    have hiz : (0 : Int) ≤ (i : Int) := by omega
    have hin : (i : Int) < (l.length : Int) := by omega
    clear hv
    generalize x.a = xa at *
    generalize x.b = xb at *
    generalize x.c = xc at *
    clear hE hsea hx hi HR
    go_wp2
    go_quiet (fail)
    go_wp2
    go_ret
    exact ⟨rfl, below_drewP HB.out _⟩
end
end Go.Proofs.Ytoiigplflmejmaa
