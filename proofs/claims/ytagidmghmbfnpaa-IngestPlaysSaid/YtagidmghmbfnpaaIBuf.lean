/-
  A BUFFER's CALLS: New, Len, Late, Closed, Mark; what is seen.
-/
import Derived.Test.YtagidmghmbfnpaaITake
namespace Go.Proofs.Ytagidmghmbfnpaa
open Go.RowKit
set_option linter.unusedVariables false
set_option linter.unusedSimpArgs false
set_option maxRecDepth 100000

def MT : Int := 1152921504606846976
theorem MT_eq : MT = 1152921504606846976 := rfl
/-- Is a time an instant? -/
def instB (t : Int) : Bool := decide (-1152921504606846976 ≤ t) && decide (t ≤ 1152921504606846976)
theorem instB_iff {t : Int} : instB t = true ↔ -1152921504606846976 ≤ t ∧ t ≤ 1152921504606846976 := by unfold instB; simp
theorem iinst_any (t : Int) (W : World) : Calls Try.prog 18 #[.int .i64 t] W fun e w' => e = .returned (.bool (instB t)) ∧ W = w' := by
  unfold instB
  by_cases h1 : -1152921504606846976 ≤ t
  · rw [decide_eq_true h1]
    by_cases h2 : t ≤ 1152921504606846976
    · rw [decide_eq_true h2]
      go_enter Try.func18, Try.ntmps18
      go_wp2
      go_ret
      exact ⟨rfl, rfl⟩
    · rw [decide_eq_false h2]
      go_enter Try.func18, Try.ntmps18
      go_wp2
      go_ret
      exact ⟨rfl, rfl⟩
  · rw [decide_eq_false h1]
    go_enter Try.func18, Try.ntmps18
    go_wp2
    go_ret
    exact ⟨rfl, rfl⟩
/-- Is what was seen later than a time? -/
def behB (k : Bool) (t x : Int) : Bool := k && decide (x < t)
theorem ibeh_any (k : Bool) (t x : Int) (W : World) : Calls Try.prog 22 #[.agg #[.int .i64 t, .bool k], .int .i64 x] W fun e w' => e = .returned (.bool (behB k t x)) ∧ Below W.heap.size W w' := by
  unfold behB
  cases k with
  | false =>
    go_enter Try.func22, Try.ntmps22
    go_wp2
    go_ret
    exact ⟨rfl, (Below.refl _ _).alloc (Nat.le_refl _) _⟩
  | true =>
    by_cases h : x < t
    · rw [decide_eq_true h]
      go_enter Try.func22, Try.ntmps22
      go_wp2
      go_ret
      exact ⟨rfl, (Below.refl _ _).alloc (Nat.le_refl _) _⟩
    · rw [decide_eq_false h]
      go_enter Try.func22, Try.ntmps22
      go_wp2
      go_ret
      exact ⟨rfl, (Below.refl _ _).alloc (Nat.le_refl _) _⟩
def SeePost (d o : Nat) (k : Bool) (t x : Int) (W : World) (e : Ending) (w' : World) : Prop := e = .returned (.tuple #[]) ∧ ∃ w1, Below W.heap.size W w1 ∧ w' = if behB k t x = true then w1 else (w1.setCell ⟨d, o, none⟩ (.int .i64 x)).setCell ⟨d, o + 1, none⟩ (.bool true)
theorem isee_any {W : World} {d o : Nat} {ty : TypeId} {cs : Array Value} (h : Fb W d ty cs) (k : Bool) (t x : Int) (h0 : cs[o]? = some (.int .i64 t)) (h1 : cs[o + 1]? = some (.bool k)) :
    Calls Try.prog 21 #[.pointer (some ⟨d, o, none⟩), .int .i64 x] W (SeePost d o k t x W) := by
  have cB := ibeh_any k t x W
  have a0 := h.cell o
  have a1 := h.cell (o + 1)
  rw [h0] at a0
  rw [h1] at a1
  cases hb : behB k t x with
  | true =>
    rw [hb] at cB
    have HB := Lib.hid hb
    clear h h0 h1 hb
    go_enter Try.func21, Try.ntmps21
    go_wp2_with (go_at_call 22; (with_reducible refine cB.mono ?_); rintro e w1 ⟨rfl, hb1⟩)
    go_end0
    exact ⟨rfl, _, hb1, by rw [if_pos HB.out]⟩
  | false =>
    rw [hb] at cB
    have HB := Lib.hid hb
    have hK : ∀ w : World, Below W.heap.size W w → w.cell? ⟨d, o, none⟩ = some (.int .i64 t) ∧ w.cell? ⟨d, o + 1, none⟩ = some (.bool k) ∧ w.frozen? ⟨d, o, none⟩ = false ∧ w.frozen? ⟨d, o + 1, none⟩ = false := fun w hw => by
      have h' := h.below hw
      exact ⟨(h'.cell o).trans h0, (h'.cell (o + 1)).trans h1, h'.free o, h'.free (o + 1)⟩
    have HK := Lib.hid hK
    clear h h0 h1 hb hK
    go_enter Try.func21, Try.ntmps21
    go_wp2_with (go_at_call 22; (with_reducible refine cB.mono ?_); rintro e w1 ⟨rfl, hb1⟩; obtain ⟨q0, q1, q2, q3⟩ := HK.out _ hb1)
    go_end0
    exact ⟨rfl, _, hb1, by rw [HB.out]; rfl⟩
section
variable {B d : Nat} {s : Bs} {v : Value} {l : List It}
theorem ilen_any {W : World} (h : Bc B d s v l W) (hl : l.length ≤ 100000) : Calls Try.prog 15 #[.pointer (some ⟨d, 0, none⟩)] W fun e w' => e = .returned (.int .i64 l.length) ∧ W = w' := by
  obtain ⟨A, c, rfl⟩ := h.row.shape
  have c6 := h.c6
  clear h
  go_enter Try.func15, Try.ntmps15
  go_wp2
  go_ret
  exact ⟨rfl, rfl⟩
theorem ilate_any {W : World} (h : Bc B d s v l W) : Calls Try.prog 25 #[.pointer (some ⟨d, 0, none⟩)] W fun e w' => e = .returned (.int .i64 s.late) ∧ W = w' := by
  have c6 := h.c8
  clear h
  go_enter Try.func25, Try.ntmps25
  go_wp2
  go_ret
  exact ⟨rfl, rfl⟩
theorem iclosed_any {W : World} (h : Bc B d s v l W) : Calls Try.prog 26 #[.pointer (some ⟨d, 0, none⟩)] W fun e w' => e = .returned (.bool s.closed) ∧ W = w' := by
  have c6 := h.c9
  clear h
  go_enter Try.func26, Try.ntmps26
  go_wp2
  go_ret
  exact ⟨rfl, rfl⟩
/-- The mark, if there is one. -/
def Bs.mark (s : Bs) : Int := if s.mq = true then s.mt - s.lat else 0
structure Bs.ok (s : Bs) : Prop where
  l0 : 0 ≤ s.lat
  l1 : s.lat ≤ 1152921504606846976
  m0 : -1152921504606846976 ≤ s.mt
  m1 : s.mt ≤ 1152921504606846976
  n0 : 0 ≤ s.next
  n1 : s.next ≤ 100000
  t0 : 0 ≤ s.late
  t1 : s.late ≤ 100000
theorem imark_any {W : World} (h : Bc B d s v l W) (ho : s.ok) : Calls Try.prog 23 #[.pointer (some ⟨d, 0, none⟩)] W fun e w' => e = .returned (.tuple #[.int .i64 s.mark, .bool s.mq]) ∧ ∃ q, w' = W.drewN q := by
  have c0 := h.c0
  have c4 := h.c4
  have c5 := h.cm
  have b0 := ho.l0
  have b1 := ho.l1
  have b2 := ho.m0
  have b3 := ho.m1
  unfold Bs.mark
  cases hq : s.mq with
  | false =>
    rw [hq] at c5
    rw [if_neg (by decide)]
    clear h ho hq
    go_enter Try.func23, Try.ntmps23
    go_wp2
    go_ret2
    exact ⟨rfl, 0, rfl⟩
  | true =>
    rw [hq] at c5
    rw [if_pos rfl]
    have w1 : IntKind.i64.wrap (s.mt - s.lat) = s.mt - s.lat := IntWalk.i64_in _ (by omega)
    clear h ho hq
    go_enter Try.func23, Try.ntmps23
    go_wp2
    go_quiet (fail)
    go_wp2
    go_ret2
    exact ⟨rfl, _, rfl⟩
/-- Is a time below the mark? -/
def Bs.tl (s : Bs) (t : Int) : Bool := s.mq && decide (t < s.mark)
theorem itl_any {W : World} (h : Bc B d s v l W) (ho : s.ok) (t : Int) : Calls Try.prog 19 #[.pointer (some ⟨d, 0, none⟩), .int .i64 t] W fun e w' => e = .returned (.bool (s.tl t)) ∧ ∃ q, w' = W.drewN q := by
  have cM := imark_any h ho
  unfold Bs.tl
  generalize s.mark = m at *
  cases hq : s.mq with
  | false =>
    rw [hq] at cM
    clear h ho hq
    go_enter Try.func19, Try.ntmps19
    go_wp2_with (go_at_call 23; (with_reducible refine cM.mono ?_); rintro e w1 ⟨rfl, q, rfl⟩)
    go_ret
    exact ⟨rfl, _, rfl⟩
  | true =>
    rw [hq] at cM
    clear h ho hq
    go_enter Try.func19, Try.ntmps19
    go_wp2_with (go_at_call 23; (with_reducible refine cM.mono ?_); rintro e w1 ⟨rfl, q, rfl⟩)
    go_ret
    exact ⟨rfl, _, rfl⟩
end
/-- A buffer at first. -/
def Bs.first (lat room : Int) : Bs := ⟨lat, room, 0, false, 0, false, 0, 0, false⟩
theorem Bs.first_ok {lat room : Int} (h0 : 0 ≤ lat) (h1 : lat ≤ 1152921504606846976) : (Bs.first lat room).ok := by
  refine ⟨h0, h1, ?_, ?_, ?_, ?_, ?_, ?_⟩
  · show (-1152921504606846976 : Int) ≤ 0
    decide
  · show (0 : Int) ≤ 1152921504606846976
    decide
  · exact Int.le_refl 0
  · show (0 : Int) ≤ 100000
    decide
  · exact Int.le_refl 0
  · show (0 : Int) ≤ 100000
    decide
theorem inew_ok (lat room : Int) (h0 : 0 ≤ lat) (h1 : lat ≤ 1152921504606846976) (h2 : 1 ≤ room) (h3 : room ≤ 1000) (W : World) :
    Calls Try.prog 5 #[.int .i64 lat, .int .i64 room] W fun e w' => ∃ d, e = .returned (.tuple #[.pointer (some ⟨d, 0, none⟩), .int .i64 0]) ∧ Bc W.heap.size d (Bs.first lat room) (.slice none 0 0) [] w' ∧ Below W.heap.size W w' := by
  have HE := Lib.hid (show Bc W.heap.size W.heap.size (Bs.first lat room) (.slice none 0 0) [] (W.alloc (.cells #[.int .i64 lat, .int .i64 room, .int .i64 0, .bool false, .int .i64 0, .bool false, .slice none 0 0, .int .i64 0, .int .i64 0, .bool false] 54)) from ⟨Fb.new _ _ _, itR_nil _ _, Nat.le_refl _⟩)
  go_enter Try.func5, Try.ntmps5
  go_wp2
  go_ret2
  exact ⟨_, rfl, HE.out, (Below.refl _ _).alloc (Nat.le_refl _) _⟩
theorem inew_bad (lat room : Int) (h : lat < 0 ∨ 1152921504606846976 < lat ∨ room < 1 ∨ 1000 < room) (W : World) :
    Calls Try.prog 5 #[.int .i64 lat, .int .i64 room] W fun e w' => e = .returned (.tuple #[.pointer none, .int .i64 2]) ∧ W = w' := by
  by_cases h0 : lat < 0
  · clear h
    go_enter Try.func5, Try.ntmps5
    go_wp2
    go_ret2
    exact ⟨rfl, rfl⟩
  · by_cases h1 : 1152921504606846976 < lat
    · clear h
      go_enter Try.func5, Try.ntmps5
      go_wp2
      go_ret2
      exact ⟨rfl, rfl⟩
    · by_cases h2 : room < 1
      · clear h
        go_enter Try.func5, Try.ntmps5
        go_wp2
        go_ret2
        exact ⟨rfl, rfl⟩
      · have h3 : 1000 < room := by omega
        clear h
        go_enter Try.func5, Try.ntmps5
        go_wp2
        go_ret2
        exact ⟨rfl, rfl⟩
end Go.Proofs.Ytagidmghmbfnpaa
