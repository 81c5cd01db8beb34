/-
  Is: the buffer is as the document's.
-/
import Derived.Test.YtagidmghmbfnpaaJTick
import Derived.Test.YtagidmghmbfnpaaIRun
import Derived.Deep.RegionHeld3
namespace Go.Proofs.Ytagidmghmbfnpaa
open Go.RowKit
set_option linter.unusedVariables false
set_option linter.unusedSimpArgs false
set_option maxRecDepth 100000

/-- What the statement compares. -/
structure Ag (s : Bs) (l : List It) (m : Mb) : Prop where
  mm : mkM m.lat (m.seen ++ m.shown) = (s.mark, s.mq)
  ln : l.length = m.wait.length
  lt : s.late = m.late
  cl : s.closed = m.closed
/-- The buffer, and the box of the document's. -/
structure Jz (w1 : World) (d : Nat) (s : Bs) (v : Value) (l : List It) (W : World) (cs : Array Value) (W' : World) : Prop where
  r : Rn w1 d s v l W'
  f : Fb W' W.heap.size 32 cs
  b : Below W.heap.size W W'
section
variable {w1 W W' W2 : World} {d : Nat} {s : Bs} {v : Value} {l : List It} {cs : Array Value}
theorem jz0 (h : Rn w1 d s v l W) (cs : Array Value) : Jz w1 d s v l W cs (W.alloc (.cells cs 32)) := ⟨h.below ((Below.refl _ _).alloc (Nat.le_refl _) _), Fb.new _ _ _, (Below.refl _ _).alloc (Nat.le_refl _) _⟩
theorem Jz.below (h : Jz w1 d s v l W cs W') (hb : Below W'.heap.size W' W2) : Jz w1 d s v l W cs W2 := ⟨h.r.below hb, h.f.below hb, h.b.trans (hb.mono h.b.size)⟩
theorem Jz.drew (h : Jz w1 d s v l W cs W') : Jz w1 d s v l W cs W'.drew := h.below (Below.refl _ _).drew
theorem Jz.mark (h : Jz w1 d s v l W cs W') (ho : s.ok) : Calls Try.prog 23 #[.pointer (some ⟨d, 0, none⟩)] W' fun e w' => e = .returned (.tuple #[.int .i64 s.mark, .bool s.mq]) ∧ Jz w1 d s v l W cs w' := by
  refine (imark_any h.r.bc ho).mono ?_
  rintro e w' ⟨h1, q, rfl⟩
  exact ⟨h1, h.below ⟨rfl, rfl, rfl, Nat.le_refl _, fun _ _ => rfl⟩⟩
theorem Jz.len (h : Jz w1 d s v l W cs W') (hl : l.length ≤ 4000) : Calls Try.prog 15 #[.pointer (some ⟨d, 0, none⟩)] W' fun e w' => e = .returned (.int .i64 l.length) ∧ Jz w1 d s v l W cs w' := (h.r.len hl).mono fun e w' ⟨a, b⟩ => ⟨a, b ▸ h⟩
theorem Jz.late (h : Jz w1 d s v l W cs W') : Calls Try.prog 25 #[.pointer (some ⟨d, 0, none⟩)] W' fun e w' => e = .returned (.int .i64 s.late) ∧ Jz w1 d s v l W cs w' := h.r.late.mono fun e w' ⟨a, b⟩ => ⟨a, b ▸ h⟩
theorem Jz.closed (h : Jz w1 d s v l W cs W') : Calls Try.prog 26 #[.pointer (some ⟨d, 0, none⟩)] W' fun e w' => e = .returned (.bool s.closed) ∧ Jz w1 d s v l W cs w' := h.r.closed.mono fun e w' ⟨a, b⟩ => ⟨a, b ▸ h⟩
end
set_option maxHeartbeats 4000000 in
theorem jis_any {w1 W : World} {d : Nat} {s : Bs} {v : Value} {l : List It} {B : Nat} {m : Mb} {vw vs vh : Value} (hR : Rn w1 d s v l W) (ho : s.ok) (hl : l.length ≤ 4000) (hM : Mm B m vw vs vh W) (hmo : m.ok) (hA : Ag s l m) :
    Calls Try.prog 14 #[.pointer (some ⟨d, 0, none⟩), .agg (m.cells vw vs vh)] W fun e w' => e = .returned (.bool true) ∧ Rn w1 d s v l w' ∧ Below W.heap.size W w' := by
  obtain ⟨Aw, cw, rfl, _⟩ := row_shape hM.rw
  obtain ⟨As, ce, rfl, _⟩ := row_shape hM.rs
  obtain ⟨Ah, ch, rfl, _⟩ := row_shape hM.rh
  have hz := jz0 hR (m.cells (.slice Aw m.wait.length cw) (.slice As m.seen.length ce) (.slice Ah m.shown.length ch))
  have cM := fun {cs W'} (h : Jz w1 d s v l W cs W') => h.mark ho
  have cJ := fun {cs W'} (h : Jz w1 d s v l W cs W') => (jmark_any (hM.below h.b) hmo).mono (R' := fun e w' => e = .returned (.tuple #[.int .i64 s.mark, .bool s.mq]) ∧ Jz w1 d s v l W cs w') fun e w' ⟨a, b⟩ => ⟨by rw [a, hA.mm], h.below b⟩
  have cL := fun {cs W'} (h : Jz w1 d s v l W cs W') => h.len hl
  rw [hA.ln] at cL
  have cT := fun {cs W'} (h : Jz w1 d s v l W cs W') => h.late
  rw [hA.lt] at cT
  have cC := fun {cs W'} (h : Jz w1 d s v l W cs W') => h.closed
  rw [hA.cl] at cC
  unfold Mb.cells at hz cJ ⊢
  clear hM hmo hA ho hl hR
  go_enter Try.func14, Try.ntmps14
  go_wp2_with (first
    | (go_at_call 23; (with_reducible refine (cM hz).mono ?_); rintro e w2 ⟨rfl, hz2⟩; have q0 := hz2.f.cell 0; have q1 := hz2.f.cell 1; have q2 := hz2.f.cell 2; have q3 := hz2.f.cell 3; have q4 := hz2.f.cell 4; have q5 := hz2.f.cell 5; have q6 := hz2.f.cell 6; have q7 := hz2.f.cell 7)
    | (go_at_call 16; (with_reducible refine (cJ hz2).mono ?_); rintro e w3 ⟨rfl, hz3⟩)
    | fail)
  have hz3d := hz3.drew
  first
    | (go_region_held3 (fun w4 => w4.cell? ⟨W.heap.size, 2, none⟩ = some (.slice Aw m.wait.length cw) ∧ w4.cell? ⟨W.heap.size, 6, none⟩ = some (.int .i64 m.late) ∧ w4.cell? ⟨W.heap.size, 7, none⟩ = some (.bool m.closed))
        (first | exact ⟨(Jz.f (by assumption)).cell 2, (Jz.f (by assumption)).cell 6, (Jz.f (by assumption)).cell 7⟩)
        (first
          | (go_at_call 15; (with_reducible refine (cL (by assumption)).mono ?_); rintro e w' ⟨rfl, hz4⟩)
          | (go_at_call 25; (with_reducible refine (cT (by assumption)).mono ?_); rintro e w' ⟨rfl, hz5⟩)
          | (go_at_call 26; (with_reducible refine (cC (by assumption)).mono ?_); rintro e w' ⟨rfl, hz6⟩)
          | fail))
    | fail
  all_goals
    (try go_wp2)
    go_ret
    exact ⟨rfl, hz6.r, hz6.b⟩
end Go.Proofs.Ytagidmghmbfnpaa
