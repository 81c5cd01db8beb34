/-
  MERGED (a claim has at most 60 files): NfCh, NfBlw.
-/
import Derived.Test.YtghlajfalgdkfaaZ00
import Derived.Deep.RegionHeld3
/-
  PATHS OF ONE PART WITHIN ANOTHER, in memory.
-/
namespace Go.Proofs.Ytghlajfalgdkfaa
open Go.RowKit
set_option linter.unusedVariables false
set_option linter.unusedSimpArgs false
set_option maxRecDepth 100000

structure Pa where
  kd : Int
  n : Int
  s : Value
def Pa.cs (p : Pa) : Array Value := #[.int .i64 p.kd, .int .i64 p.n, p.s]
/-- The kinds of a path, from the outermost one on, and its step's number. -/
def Chn (W : World) (N : Int) : List Int → Pa → Prop
  | [], p => p.kd = 0 ∧ p.n = N ∧ p.s = .slice none 0 0
  | k :: ks, p => p.kd = k ∧ p.n = 0 ∧ ∃ b q, p.s = .slice (some ⟨b, 0, none⟩) 1 1 ∧ Fb W b 28 q.cs ∧ Chn W N ks q
theorem Chn.below {W W' : World} {N : Int} (hb : Below W.heap.size W W') : ∀ {ks : List Int} {p : Pa}, Chn W N ks p → Chn W' N ks p
  | [], _, h => h
  | k :: ks, p, ⟨h1, h2, b, q, h3, h4, h5⟩ => ⟨h1, h2, b, q, h3, h4.below hb, Chn.below hb h5⟩
/-- Kinds that have one part. -/
def Kd (ks : List Int) : Prop := ∀ k ∈ ks, 2 ≤ k ∧ k ≤ 6
/-- Has it no symbols' word? -/
def emC : List Int → Bool
  | [] => false
  | k :: ks => if k = 4 ∨ k = 6 then true else emC ks
/-- Is it gone again? -/
def lpC : List Int → Bool
  | [] => false
  | k :: ks => if k = 4 ∨ k = 5 then true else lpC ks
theorem Chn.shape {W : World} {N : Int} : ∀ {ks : List Int} {p : Pa}, Chn W N ks p → ∃ A, p.s = .slice A (if ks = [] then 0 else 1) (if ks = [] then 0 else 1)
  | [], p, h => ⟨none, h.2.2⟩
  | k :: ks, p, ⟨_, _, b, q, h3, _⟩ => ⟨_, h3⟩
def ptE (o : Option Nat) : Value := .pointer (o.map fun b => ⟨b, 0, none⟩)
def idE (v : Value) : Value := v
theorem mapP : Try.prog.underlying 100 = some (.map 111 26) := by kernel_rfl
theorem ckP (o : Option Nat) (em : Bool) (w : World) : (Instr.checkKey em 10000 111 (ptE o)).run Try.prog w = .ok () w := by
  cases o <;> kernel_rfl
theorem uP : ∃ e, Try.prog.underlying 111 = some (.pointer e) := ⟨_, Try.underlying111⟩
/-- A look-up in a map without entries. -/
theorem look0 {W : World} {m : Nat} (h : Mq ptE idE W m []) (o : Option Nat) : (Instr.lookup 100 (.map (some m)) (ptE o) false).run Try.prog W = .ok (.slice none 0 0) W := by
  obtain ⟨es, clock, hb, he, _⟩ := h
  have hes : es = #[] := by
    have : es.toList = [] := List.map_eq_nil_iff.1 he
    exact Array.toList_eq_nil_iff.1 this
  subst hes
  obtain ⟨e, hu⟩ := uP
  have hz : (zeroValue 26).run Try.prog W = .ok (.slice none 0 0) W := by kernel_rfl
  have hc := ckP o
  simp [Instr.lookup, run_underlying mapP, MapKept.run_getObj_map hb, hc, Instr.findKey, run_underlying hu, Instr.findNow, hz, Result.andThen]
/-- An entry laid into a map without entries. -/
theorem put0 {W : World} {m : Nat} (h : Mq ptE idE W m []) (o : Option Nat) (v : Value) : ∃ ob, (Instr.mapUpdate 100 (.map (some m)) (ptE o) v).run Try.prog W = .ok () (putBlock W m ob) ∧ ∀ W2 : World, m < W2.heap.size → Mq ptE idE (putBlock W2 m ob) m [(o, v)] := by
  obtain ⟨es, clock, hb, he, _⟩ := h
  have hes : es = #[] := by
    have : es.toList = [] := List.map_eq_nil_iff.1 he
    exact Array.toList_eq_nil_iff.1 this
  subst hes
  obtain ⟨e, hu⟩ := uP
  have hc := ckP o
  refine ⟨.map #[{ key := ptE o, val := v, born := clock }] (clock + 1), ?_, fun W2 hm => ⟨_, _, putBlock_at (Array.getElem?_eq_getElem hm), ?_, ?_, ?_⟩⟩
  · simp [Instr.mapUpdate, run_underlying mapP, MapKept.run_getObj_map hb, hc, Instr.findKey, run_underlying hu, Instr.findNow, MapKept.run_setObj_map _ hb, Result.andThen, putBlock]
  · simp [kv, ce, idE]
  · simp
  · intro x hx
    simp at hx
    subst hx
    exact Nat.lt_succ_self _
theorem lenP {W : World} {m : Nat} {E : List (Option Nat × Value)} (h : Mq ptE idE W m E) (ty : TypeId) : (Builtin.len_ #[100] ty #[.map (some m)]).run Try.prog W = .ok (.int .i64 (E.length : Int)) W := by
  obtain ⟨es, c, hb, he⟩ := h.len
  simp [Builtin.len_, run_underlying mapP, MapKept.run_getObj_map hb, goInt, Result.andThen, he]
theorem mkMapP (w : World) : (Instr.makeMap 100 none).run Try.prog w = .ok (.map (some w.heap.size)) (w.alloc (.map #[] 0)) := by
  first | rfl | kernel_rfl | simp [Instr.makeMap]
end Go.Proofs.Ytghlajfalgdkfaa

/-
  below, of paths of one part within another.
-/
namespace Go.Proofs.Ytghlajfalgdkfaa
open Go.RowKit
set_option linter.unusedVariables false
set_option linter.unusedSimpArgs false
set_option maxRecDepth 100000

theorem cell_below {w w' : World} {a : Addr} {x : Value} (h : w.cell? a = some x) (hb : Below w.heap.size w w') : w'.cell? a = some x := by
  have hl : a.block < w.heap.size := by
    unfold World.cell? at h
    rcases Nat.lt_or_ge a.block w.heap.size with h1 | h1
    · exact h1
    · rw [Array.getElem?_eq_none_iff.2 h1] at h
      cases h
  exact (hb.cell hl).trans h
/-- A level: the one path that is there, as it lies in its list. -/
def LvE (W : World) (N : Int) : Option (List Int) → List (Option Nat × Value) → Prop
  | none, E => E = []
  | some ks, E => ∃ key b q, E = [(key, .slice (some ⟨b, 0, none⟩) 1 1)] ∧ Fb W b 28 q.cs ∧ Chn W N ks q
def down : Option (List Int) → Option (List Int)
  | some (_ :: ks) => some ks
  | _ => none
theorem LvE.below {W W' : World} {N : Int} {o : Option (List Int)} {E : List (Option Nat × Value)} (h : LvE W N o E) (hb : Below W.heap.size W W') : LvE W' N o E := by
  cases o with
  | none => exact h
  | some ks =>
    obtain ⟨key, b, q, h1, h2, h3⟩ := h
    exact ⟨key, b, q, h1, h2.below hb, h3.below hb⟩
def LvM (W : World) (N : Int) (m : Nat) (o : Option (List Int)) : Prop := ∃ E, Mq ptE idE W m E ∧ LvE W N o E
theorem LvM.below {W W' : World} {N : Int} {o : Option (List Int)} {m : Nat} (h : LvM W N m o) (hb : Below W.heap.size W W') : LvM W' N m o := by
  obtain ⟨E, h1, h2⟩ := h
  exact ⟨E, h1.of (hb.block m h1.lt), h2.below hb⟩
/-- The round over the level's list under way. -/
def BwO (W : World) (N : Int) (m r : Nat) (E : List (Option Nat × Value)) (o : Option (List Int)) (gk : Nat) (wr : World) : Prop :=
  ∃ left E', Rg ptE idE wr m r left ∧ left.length ≤ gk ∧ Below W.heap.size W wr ∧ Mq ptE idE wr W.heap.size E' ∧ ((left = E ∧ E' = []) ∨ (left = [] ∧ LvE wr N (down o) E'))
theorem blw_pre {W : World} {m : Nat} {E : List (Option Nat × Value)} (h : Mq ptE idE W m E) :
    ∃ W2, (Instr.range 100 (.map (some m))).run Try.prog (W.alloc (.map #[] 0)) = .ok (.pointer (some ⟨W.heap.size + 1, 0, none⟩)) W2 ∧ Rg ptE idE W2 m (W.heap.size + 1) E ∧ Below W.heap.size W W2 ∧ Mq ptE idE W2 W.heap.size ([] : List (Option Nat × Value)) := by
  have hB1 : Below W.heap.size W (W.alloc (.map #[] 0)) := (Below.refl _ _).alloc (Nat.le_refl _) _
  have hM1 : Mq ptE idE (W.alloc (.map #[] 0)) W.heap.size ([] : List (Option Nat × Value)) := Mq.new W
  have h2 : Mq ptE idE (W.alloc (.map #[] 0)) m E := h.of (hB1.block m h.lt)
  obtain ⟨o, hr, hR⟩ := h2.range (t := 100) mapP
  rw [World.size_alloc] at hr hR
  exact ⟨_, hr, hR, hB1.alloc hB1.size _, hM1.of (heap_alloc_old _ _ hM1.lt)⟩
set_option maxHeartbeats 8000000 in
theorem below_none {W : World} {N : Int} {m : Nat} (h : LvM W N m none) :
    Calls Try.prog 59 #[.map (some m)] W fun e w' => e = .returned (.map (some W.heap.size)) ∧ Below W.heap.size W w' ∧ LvM w' N W.heap.size none := by
  obtain ⟨E, h1, rfl⟩ := h
  have hm := mkMapP W
  obtain ⟨W2, hr, hR, hB2, hM2⟩ := blw_pre h1
  have HR := Lib.hid hR
  have HB := Lib.hid hB2
  have HM := Lib.hid hM2
  clear h1 hB2 hM2 hR
  go_enter Try.func59, Try.ntmps59
  go_wp2
  go_loopg [5] 0 (fun g s wr => wr = W2)
  case atStart => rfl
  case round =>
    subst hrel
    rcases HR.out.next 0 with ⟨_, hn⟩ | ⟨p, A, B, V, o2, e, _⟩
    · go_wp2
      go_ret
      exact ⟨rfl, HB.out, _, HM.out, rfl⟩
    · exact absurd e (by simp)
/-- The round over one list. -/
def BwI (W V : World) (N : Int) (r m b : Nat) (ks : List Int) (gk : Nat) (s : Value) (wr : World) : Prop :=
  (gk = 1 ∧ s = .int .i64 0 ∧ V = wr) ∨ (gk = 0 ∧ s = .int .i64 1 ∧ Rg ptE idE wr m r ([] : List (Option Nat × Value)) ∧ Below W.heap.size W wr ∧ LvM wr N W.heap.size (down (some ks)))
set_option maxHeartbeats 16000000 in
theorem below_some {W : World} {N : Int} {m : Nat} {ks : List Int} (h : LvM W N m (some ks)) :
    Calls Try.prog 59 #[.map (some m)] W fun e w' => e = .returned (.map (some W.heap.size)) ∧ Below W.heap.size W w' ∧ LvM w' N W.heap.size (down (some ks)) := by
  obtain ⟨E, h1, key, b, q, rfl, hFb, hCh⟩ := h
  have hm := mkMapP W
  have hm9 := h1.lt
  obtain ⟨W2, hr, hR, hB2, hM2⟩ := blw_pre h1
  have HF := Lib.hid (hFb.below hB2)
  have HC := Lib.hid hCh
  have HR := Lib.hid hR
  have HB := Lib.hid hB2
  have HM := Lib.hid hM2
  have HL := Lib.hid hm9
  clear h1 hB2 hM2 hR hFb hCh hm9
  go_enter Try.func59, Try.ntmps59
  go_wp2
  go_loopg [5] 1 (fun g s wr => (g = 1 ∧ W2 = wr) ∨ (g = 0 ∧ Rg ptE idE wr m (W.heap.size + 1) ([] : List (Option Nat × Value)) ∧ Below W.heap.size W wr ∧ LvM wr N W.heap.size (down (some ks))))
  case atStart => exact .inl ⟨rfl, rfl⟩
  case round =>
    rcases hrel with ⟨hg, rfl⟩ | ⟨hg, hR, hB, hL⟩
    · subst hg
      rcases HR.out.next 0 with ⟨e, _⟩ | ⟨p, A, B, V, o2, e, hV, hn, hL2, he⟩
      · cases e
      obtain ⟨rfl, rfl, rfl⟩ : p = (key, .slice (some ⟨b, 0, none⟩) 1 1) ∧ A = [] ∧ B = [] := by
        cases A with
        | nil => simp only [List.nil_append, List.cons.injEq] at e; exact ⟨e.1.symm, rfl, e.2.symm⟩
        | cons a A => simp at e
      simp only [idE] at hn he
      obtain ⟨W3, hW3⟩ : ∃ W3, W3 = putBlock V (W.heap.size + 1) o2 := ⟨_, rfl⟩
      rw [← hW3] at hn hL2 he
      have hB3 : Below W.heap.size W W3 := by
        rw [hW3]
        rcases hV with rfl | rfl
        · exact below_put HB.out (Nat.le_succ _) _
        · exact below_put HB.out.drew (Nat.le_succ _) _
      have far : ∀ y, y ≠ W.heap.size + 1 → W3.heap[y]? = W2.heap[y]? := fun y hy => by
        rw [hW3, putBlock_far hy]
        rcases hV with rfl | rfl <;> rfl
      have hbr : b ≠ W.heap.size + 1 := fun e => by
        obtain ⟨es, ck, si, se, c0, q1, q2, _⟩ := HR.out
        have := HF.out
        unfold Fb at this
        rw [e, q2] at this; cases this
      have hF3 : Fb W3 b 28 q.cs := (far b hbr).trans HF.out
      have x0 := hF3.cell 0
      have x1 := hF3.cell 1
      have x2 := hF3.cell 2
      have hM3 : Mq ptE idE W3 W.heap.size ([] : List (Option Nat × Value)) := HM.out.of (far _ (by omega))
      unfold Pa.cs at x0 x1 x2
      have HL2 := Lib.hid hL2
      have HB3 := Lib.hid hB3
      have HM3 := Lib.hid hM3
      have HF3 := Lib.hid hF3
      have FAR := Lib.hid far
      clear hL2 hB3 hM3 hF3 far hW3 hV hbr e
      go_wp2
      go_loopg [17] 1 (fun g s wr => BwI W W3 N (W.heap.size + 1) m b ks g s wr)
      case atStart => exact .inl ⟨rfl, rfl, rfl⟩
      case round =>
        rcases hrel with ⟨hg, rfl, rfl⟩ | ⟨hg, rfl, hR, hB, hL⟩
        · subst hg
          cases ks with
          | nil =>
            have hs := HC.out.2.2
            rw [hs] at x2
            obtain ⟨W4, hW4⟩ : ∃ W4, W4 = W3.alloc (.cells #[.int .i64 q.kd, .int .i64 q.n, .slice none 0 0] 28) := ⟨_, rfl⟩
            have z2 : W4.cell? ⟨W3.heap.size, 2, none⟩ = some (.slice none 0 0) := by rw [hW4]; exact (Fb.new W3 28 #[.int .i64 q.kd, .int .i64 q.n, .slice none 0 0]).cell 2
            have H4 := Lib.hid (show ∀ n y, y < W3.heap.size → (W4.drewN n).heap[y]? = W3.heap[y]? from fun n y hy => by rw [hW4]; exact Below.heap_alloc _ _ y hy)
            have HB4 := Lib.hid (show ∀ n, Below W.heap.size W (W4.drewN n) from fun n => below_drewP (by rw [hW4]; exact HB3.out.alloc HB3.out.size _) n)
            go_wp2
            rw [← hW4]
            clear hW4
            go_quiet (fail)
            go_wp2
            go_roundg 0
            case measure => exact Nat.lt_succ_self _
            case rel =>
              have hm1 := HM3.out.lt
              obtain ⟨es, ck, si, se, c0, q1, q2, _⟩ := HL2.out
              exact .inr ⟨rfl, rfl, HL2.out.of (H4.out _ _ (Array.getElem?_eq_some_iff.1 q1).1) (H4.out _ _ (Array.getElem?_eq_some_iff.1 q2).1), HB4.out _, [], HM3.out.of (H4.out _ _ hm1), rfl⟩
          | cons k ks =>
            obtain ⟨_, _, b', q', hs, hFq, hCq⟩ := HC.out
            rw [hs] at x2
            have HFQ := Lib.hid hFq
            have HCQ := Lib.hid hCq
            clear hFq hCq
            obtain ⟨W4, hW4⟩ : ∃ W4, W4 = W3.alloc (.cells #[.int .i64 k, .int .i64 0, .slice (some ⟨b', 0, none⟩) 1 1] 28) := ⟨_, rfl⟩
            have z2 : W4.cell? ⟨W3.heap.size, 2, none⟩ = some (.slice (some ⟨b', 0, none⟩) 1 1) := by rw [hW4]; exact (Fb.new W3 28 #[.int .i64 k, .int .i64 0, .slice (some ⟨b', 0, none⟩) 1 1]).cell 2
            have h4 : ∀ n y, y < W3.heap.size → (W4.drewN n).heap[y]? = W3.heap[y]? := fun n y hy => by rw [hW4]; exact Below.heap_alloc _ _ y hy
            have hM4 : ∀ n, Mq ptE idE (W4.drewN n) W.heap.size ([] : List (Option Nat × Value)) := fun n => HM3.out.of (h4 _ _ HM3.out.lt)
            have hlk : ∀ n, (Instr.lookup 100 (.map (some W.heap.size)) (.pointer (some ⟨b', 0, none⟩)) false).run Try.prog (W4.drewN n) = .ok (.slice none 0 0) (W4.drewN n) := fun n => look0 (hM4 n) (some b')
            have H4 := Lib.hid h4
            have HB4 := Lib.hid (show ∀ n, Below W.heap.size W (W4.drewN n) from fun n => below_drewP (by rw [hW4]; exact HB3.out.alloc HB3.out.size _) n)
            have HF4 := Lib.hid (show ∀ n, Fb (W4.drewN n) b' 28 q'.cs ∧ Chn (W4.drewN n) N ks q' from fun n => by
              have hb := HB4.out n
              exact ⟨HFQ.out.below hb, HCQ.out.below hb⟩)
            have HM4 := Lib.hid hM4
            clear h4 hM4
            go_wp2
            rw [← hW4]
            clear hW4
            go_quiet (fail)
            clear hlk
            obtain ⟨ob, hu, hM5⟩ := put0 (HM4.out (nq + 1)) (some b') (.slice (some ⟨b', 0, none⟩) 1 1)
            unfold ptE at hu
            simp only [Option.map_some] at hu
            have HM5 := Lib.hid hM5
            clear hM5
            go_wp2
            go_region
            all_goals
              go_wp2
              go_roundg 0
              case measure => exact Nat.lt_succ_self _
              case rel =>
                have hm1 := HM3.out.lt
                have hm4 := (HM4.out (nq + 1)).lt
                have hb5 : Below W.heap.size W (putBlock (W4.drewN (nq + 1)) W.heap.size ob) := below_put (HB4.out _) (Nat.le_refl _) _
                have h0 := HFQ.out
                have h00 := HCQ.out
                have hml := HL.out
                obtain ⟨es, ck, si, se, c0, q1, q2, _⟩ := HL2.out
                exact .inr ⟨rfl, rfl, HL2.out.of ((putBlock_far (by omega)).trans (H4.out _ _ (Array.getElem?_eq_some_iff.1 q1).1)) ((putBlock_far (by omega)).trans (H4.out _ _ (Array.getElem?_eq_some_iff.1 q2).1)), hb5, _, HM5.out _ hm4, some b', b', q', rfl, h0.below hb5, h00.below hb5⟩
        · subst hg
          have HQ := Lib.hid (show (fun (g : Nat) (wr : World) => (g = 1 ∧ W2 = wr) ∨ (g = 0 ∧ Rg ptE idE wr m (W.heap.size + 1) ([] : List (Option Nat × Value)) ∧ Below W.heap.size W wr ∧ LvM wr N W.heap.size (down (some ks)))) 0 wr from .inr ⟨rfl, hR, hB, hL⟩)
          clear hR hB hL
          go_wp2
          go_roundg 0
          case measure => exact Nat.lt_succ_self _
          case rel =>
            rcases HQ.out with ⟨e, _⟩ | ⟨_, q⟩
            · cases e
            · exact .inr ⟨rfl, q⟩
    · subst hg
      rcases hR.next 0 with ⟨_, hn⟩ | ⟨p, A, B, V, o2, e, _⟩
      · have HQ := Lib.hid (And.intro hB hL)
        clear hR hB hL
        go_wp2
        go_ret
        exact ⟨rfl, HQ.out⟩
      · exact absurd e (by simp)
end Go.Proofs.Ytghlajfalgdkfaa
