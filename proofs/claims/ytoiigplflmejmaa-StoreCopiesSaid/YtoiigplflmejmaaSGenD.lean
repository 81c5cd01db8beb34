/-
  A STORE: New of any room; a list's add, both ways joined.
-/
import Derived.Test.YtoiigplflmejmaaSAdd
import Derived.Test.YtoiigplflmejmaaSGenB
import Derived.Test.YtoiigplflmejmaaSGenC
namespace Go.Proofs.Ytoiigplflmejmaa
open Go.RowKit
set_option linter.unusedVariables false
set_option linter.unusedSimpArgs false
set_option maxRecDepth 100000

theorem snew_any (room : Int) (h1 : 1 ≤ room) (h2 : room ≤ 100000) (W : World) : Calls Try.prog 9 #[.int .i64 room] W fun e w' => ∃ d, e = .returned (.tuple #[.pointer (some ⟨d, 0, none⟩), .int .i64 0]) ∧ Fb w' d 60 (stc room 0 nl nl nl 1 2) ∧ W.heap.size ≤ d ∧ Below W.heap.size W w' := by
  have e1 : ¬ room < 1 := by omega
  have e2 : ¬ 100000 < room := by omega
  clear h1 h2
  have hb : Below W.heap.size W (W.alloc (.cells (stc room 0 nl nl nl 0 0) 60)) := (Below.refl _ _).alloc (Nat.le_refl _) _
  have HF := Lib.hid (Fb.new W 60 (stc room 0 nl nl nl 0 0))
  have HB := Lib.hid hb
  clear hb
  unfold stc nl at *
  go_enter Try.func9, Try.ntmps9
  go_wp2
  go_loopg [15] 3 (fun g s wr => Below W.heap.size W wr ∧ ((g = 3 ∧ s = .int .i64 0 ∧ Fb wr W.heap.size 60 (stc room 0 nl nl nl 0 0)) ∨ (g = 2 ∧ s = .int .i64 1 ∧ Fb wr W.heap.size 60 (stc room 0 nl nl nl 0 0)) ∨ (g = 1 ∧ s = .int .i64 2 ∧ Fb wr W.heap.size 60 (stc room 0 nl nl nl 1 0)) ∨ (g = 0 ∧ s = .int .i64 3 ∧ Fb wr W.heap.size 60 (stc room 0 nl nl nl 1 2))))
  case atStart => exact ⟨HB.out, .inl ⟨rfl, rfl, HF.out⟩⟩
  case round =>
    obtain ⟨hb, hw⟩ := hrel
    rcases hw with ⟨hg, rfl, hf⟩ | ⟨hg, rfl, hf⟩ | ⟨hg, rfl, hf⟩ | ⟨hg, rfl, hf⟩
    · subst hg
      have hl := hf.lt
      have f2 := hf.free 2
      have c2 := hf.cell 2
      have HN := Lib.hid (hf.set 2 (.int .i64 0))
      have HBN := Lib.hid (Below.setCell hb (p := ⟨W.heap.size, 2, none⟩) (Nat.le_refl _) (.int .i64 0))
      clear hf hb
      go_wp2
      go_roundg 2
      case measure => exact Nat.lt_succ_self _
      case rel => exact ⟨HBN.out, .inr (.inl ⟨rfl, rfl, HN.out⟩)⟩
    · subst hg
      have hl := hf.lt
      have f4 := hf.free 4
      have c4 := hf.cell 4
      have HN := Lib.hid (hf.set 4 (.int .i64 1))
      have HBN := Lib.hid (Below.setCell hb (p := ⟨W.heap.size, 4, none⟩) (Nat.le_refl _) (.int .i64 1))
      clear hf hb
      go_wp2
      go_roundg 1
      case measure => exact Nat.lt_succ_self _
      case rel => exact ⟨HBN.out, .inr (.inr (.inl ⟨rfl, rfl, HN.out⟩))⟩
    · subst hg
      have hl := hf.lt
      have f6 := hf.free 6
      have c6 := hf.cell 6
      have HN := Lib.hid (hf.set 6 (.int .i64 2))
      have HBN := Lib.hid (Below.setCell hb (p := ⟨W.heap.size, 6, none⟩) (Nat.le_refl _) (.int .i64 2))
      clear hf hb
      go_wp2
      go_roundg 0
      case measure => exact Nat.lt_succ_self _
      case rel => exact ⟨HBN.out, .inr (.inr (.inr ⟨rfl, rfl, HN.out⟩))⟩
    · subst hg
      have HF2 := Lib.hid hf
      have HB2 := Lib.hid hb
      clear hf hb
      go_wp2
      go_ret2
      exact ⟨_, rfl, HF2.out, Nat.le_refl _, HB2.out⟩
theorem snew_bad (room : Int) (h : room < 1 ∨ 100000 < room) (W : World) : Calls Try.prog 9 #[.int .i64 room] W fun e w' => e = .returned (.tuple #[.pointer none, .int .i64 2]) ∧ w' = W := by
  rcases h with h | h
  · go_enter Try.func9, Try.ntmps9
    go_wp2
    go_ret2
    exact ⟨rfl, rfl⟩
  · have h1 : ¬ room < 1 := by omega
    go_enter Try.func9, Try.ntmps9
    go_wp2
    go_ret2
    exact ⟨rfl, rfl⟩
section
variable {B : Nat} {W W' : World} {d o gb cb : Nat} {n : Int} {v : Value} {l : List Kt}
/-- A list's add: a key that isn't there, into a block that has some. -/
theorem sladd_any (h : Lm B W d o n gb cb v l) (hl : l.length ≤ 200) (hp : 0 < l.length) (hs : Rs n l) (k : Kt) (hk : k ∉ l) (hB : B ≤ W.heap.size) (hvd : v.ownBlock ≠ some d) (hdg : d ≠ gb) :
    Calls Try.prog 24 #[.pointer (some ⟨d, o, none⟩), .agg #[.int .i64 k.a, .int .i64 k.b, .int .i64 k.c]] W (SladdPost B W d o n gb cb v l k) := by
  by_cases hm : ∃ t, t < l.length ∧ notA n l k t = true
  · exact sladd_mid h hl hp hs k hk hB hvd hdg hm
  · refine sladd_end h hl hp hs k hk hB hvd hdg (fun t ht => ?_)
    cases hq : notA n l k t with
    | false => rfl
    | true => exact absurd ⟨t, ht, hq⟩ hm
end
end Go.Proofs.Ytoiigplflmejmaa
