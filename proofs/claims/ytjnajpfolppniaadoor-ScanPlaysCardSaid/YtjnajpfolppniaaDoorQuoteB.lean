import Derived.Test.YtjnajpfolppniaaDoorQuote
import Derived.Test.YtjnajpfolppniaaDoorRng
import Derived.Laws.Rows
namespace Go.Proofs.YtjnajpfolppniaaDoor
open Go.RowKit

/-- What Quote writes of a sign. -/
def esc (n : Int) : List UInt8 := if lett n ≠ 0 then [92, (lett n).toNat.toUInt8] else if cls n = 4 then numL n else Lib.encodeRune n
def escL (l : List Int) : List UInt8 := l.flatMap esc
def quoteL (l : List Int) : List UInt8 := 34 :: escL l ++ [34]
theorem escL_append (a b : List Int) : escL (a ++ b) = escL a ++ escL b := by simp [escL]
theorem escL_one (n : Int) : escL [n] = esc n := by simp [escL]
theorem esc_len (n : Int) : 1 ≤ (esc n).length ∧ (esc n).length ≤ 6 := by
  have := enc_len n
  unfold esc numL
  split
  · simp
  · split
    · simp
    · omega
theorem escL_len (l : List Int) : (escL l).length ≤ 6 * l.length := by
  induction l with
  | nil => simp [escL]
  | cons n t ih => have := esc_len n; simp [escL] at *; omega
def tabNot (n k : Int) : Prop := (1 ≤ k → n ≠ 9) ∧ (2 ≤ k → n ≠ 10) ∧ (3 ≤ k → n ≠ 13) ∧ (4 ≤ k → n ≠ 8) ∧ (5 ≤ k → n ≠ 12) ∧ (6 ≤ k → n ≠ 34) ∧ (7 ≤ k → n ≠ 92)

theorem tabNot_lett (n : Int) (h : tabNot n 7) : lett n = 0 := by unfold tabNot at h; unfold lett; omega
/-- The outer relation: the signs a are through. -/
def QI (B K : Nat) (s : ByteArray) (w : World) (sl : List Int) (g : Nat) (wr : World) : Prop :=
  ∃ a b, sl = a ++ b ∧ b.length = g ∧ Lib.IsBuilderF 56 5 B B (Lib.byteCells (34 :: escL a)) wr ∧ wr.heap[K]? = some (.stringIter s (encL a).length) ∧ Below B w wr
/-- Inside a round. -/
def QW (B K : Nat) (s : ByteArray) (w : World) (a : List Int) (n : Int) (wx : World) : Prop :=
  Lib.IsBuilderF 56 5 B B (Lib.byteCells (34 :: escL a)) wx ∧ wx.heap[K]? = some (.stringIter s (encL (a ++ [n])).length) ∧ Below B w wx
theorem QW.alloc {B K : Nat} {s : ByteArray} {w : World} {a : List Int} {n : Int} {wx : World} (h : QW B K s w a n wx) (hB : B ≤ w.heap.size) (o : Obj) : QW B K s w a n (wx.alloc o) :=
  ⟨h.1.alloc o, (Lib.alloc_old wx o K (Array.getElem?_eq_some_iff.1 h.2.1).1).trans h.2.1, h.2.2.alloc (Nat.le_trans hB h.2.2.size) o⟩
/-- The round's end. -/
theorem QI_step {B K : Nat} {s : ByteArray} {w wx w2 : World} {sl a b : List Int} {n : Int} {x : List UInt8} (h : QW B K s w a n wx) (hsl : sl = a ++ n :: b) (hx : esc n = x)
    (hI : Lib.IsBuilderF 56 5 B B (Lib.byteCells (34 :: escL a) ++ Lib.byteCells x) w2) (hb : Below B wx w2) (hk : Lib.OthersKept 5 (some B) wx w2) (hKB : K ≠ B) {g : Nat} (hg : (n :: b).length = g + 1) : QI B K s w sl g w2 := by
  refine ⟨a ++ [n], b, by rw [hsl]; simp, by simpa using hg, ?_, hk.iter h.2.1 hKB, h.2.2.trans hb⟩
  rw [escL_append, escL_one, hx, ← List.cons_append, Lib.byteCells_append]
  exact hI
/-- A block that is no row of bytes' stands behind a writer's call. -/
theorem kept_new {wr w2 : World} {B : Nat} {cs : Array Value} {T : TypeId} {fz : Nat × Nat} (k : Lib.OthersKept 5 (some B) (wr.alloc (.cells cs T fz)) w2) (hT : T ≠ 5) (hB : wr.heap.size ≠ B) : w2.heap[wr.heap.size]? = some (.cells cs T fz) :=
  k wr.heap.size _ (heap_alloc_new wr _) (fun e => hB (Option.some.inj e)) (fun c f e => by cases e; exact hT rfl)
theorem tab_below {B : Nat} {w wx : World} {t : TypeId} {fr : Nat × Nat} (h : w.heap[0]? = some (.cells escCells t fr)) (hb : Below B w wx) (hB : 0 < B) : wx.heap[0]? = some (.cells escCells t fr) := (hb.block 0 hB).trans h

set_option maxHeartbeats 4000000 in
set_option maxRecDepth 1000000 in
theorem quote_any (s : ByteArray) (sl : List Int) (w : World) (hs : s.data.toList = encL sl) (ha : AllS sl) (hsz : s.size ≤ 4294967296) (t : TypeId) (fr : Nat × Nat) (htab : w.heap[0]? = some (.cells escCells t fr)) :
    Calls Tryd.prog 19 #[.string s] w fun e w' => e = .returned (.string ⟨(quoteL sl).toArray⟩) ∧ Below w.heap.size w w' := by
  have hsl : sl.length ≤ 4294967296 := by have := encL_len sl; rw [len_of s _ hs] at hsz; omega
  have HS := Lib.hid hs
  have HA := Lib.hid ha
  have HT := Lib.hid htab
  have hlt0 : 0 < w.heap.size := (Array.getElem?_eq_some_iff.1 htab).1
  clear hs ha htab
  go_enter Tryd.func19, Tryd.ntmps19
  go_wp2
  go_step3
  go_wp2_with (go_at_call 27; refine (Tryd.Builder_WriteByte_k w.heap.size w.heap.size [] 34 _ (Lib.IsBuilderF.of (Lib.fresh_isBuilder 56 5 w)) (by simp) (by simp)).mono ?_; rintro e w1 ⟨rfl, h1, b1, k1⟩)
  go_step3
  go_wp2
  have hK : w.heap.size < w1.heap.size := by have := b1.size; simp at this; omega
  go_loopg [] sl.length (fun g wr => QI w.heap.size w1.heap.size s w sl g wr)
  case atStart =>
    refine ⟨[], sl, rfl, rfl, (Lib.IsBuilderF.alloc (.inr h1) _), World.iter_heap _ _ _, ?_⟩
    exact (((Below.refl _ w).alloc (Nat.le_refl _) _).trans b1).alloc (by omega) _
  case round =>
    clear h1 b1 k1
    obtain ⟨a, b, hab, hbl, hI, hit, hbw⟩ := hrel
    have hea : (escL a).length ≤ 6 * 4294967296 := by have := escL_len a; have := congrArg List.length hab; simp at this; omega
    cases gk with
    | zero =>
      obtain rfl : b = [] := List.length_eq_zero_iff.1 hbl
      rw [List.append_nil] at hab
      have hnx : ∀ ty, (Instr.next (.pointer (some ⟨w1.heap.size, 0, none⟩)) true ty).run Tryd.prog wr = _ := fun ty => next_done wr w1.heap.size s a (by rw [HS.out, hab]) hit ty
      have HAB := Lib.hid hab
      clear hab hit
      go_wp2_with (first
        | (go_at_call 27; refine (Tryd.Builder_WriteByte_k w.heap.size w.heap.size _ 34 _ hI (by rw [Lib.byteCells_length]; simp; omega) hbw.size).mono ?_; rintro e w2 ⟨rfl, h2, b2, k2⟩)
        | (go_at_call 30; refine (Tryd.Builder_String_any_k w.heap.size w.heap.size (quoteL a) _ (.inr (by have := h2; rw [show Lib.byteCells (quoteL a) = Lib.byteCells (34 :: escL a) ++ [Value.int .u8 34] by unfold quoteL; rw [Lib.byteCells_append]; rfl]; exact this)) (by have := b2.size; have := hbw.size; omega)).mono ?_; rintro e w3 ⟨rfl, h3, b3, k3⟩))
      rw [Exit.noGoto_ret]
      go_ret
      exact ⟨by rw [HAB.out]; rfl, (hbw.trans b2).trans b3⟩
    | succ g =>
      obtain ⟨n, b', rfl⟩ : ∃ n b', b = n :: b' := by
        match b, hbl with
        | n :: b', _ => exact ⟨n, b', rfl⟩
      have hn : sgn n = true := HA.out n (by rw [hab]; simp)
      have hnx : ∀ ty, (Instr.next (.pointer (some ⟨w1.heap.size, 0, none⟩)) true ty).run Tryd.prog wr = _ := fun ty => next_sign wr w1.heap.size s a n (encL b') (by rw [HS.out, hab, encL_append, encL_cons]) hn hit ty
      obtain ⟨W, hW⟩ : ∃ W, W = wr.iterAt w1.heap.size s (encL (a ++ [n])).length := ⟨_, rfl⟩
      rw [← hW] at hnx
      have hQW : QW w.heap.size w1.heap.size s w a n W := by
        rw [hW]
        exact ⟨hI.iterAt hit _, Lib.iterAt_heap _ _ _ _ _ hit, Lib.below_iterAt hbw (by omega) _ _⟩
      have HAB := Lib.hid hab
      have HN := Lib.hid ((sgn_iff n).1 hn)
      have HBL := Lib.hid hbl
      clear hW hI hit hbw hab hn hbl
      have htW : W.heap[0]? = some (.cells escCells t fr) := tab_below HT.out hQW.2.2 hlt0
      go_wp2_with (with_reducible refine wpList_load_row rfl 61 (.global 0) rfl 0 rfl t escCells fr _ htW Tryd.underlying61 rfl (by kernel_rfl) ?_)
      have HQ := Lib.hid hQW
      clear hnx hQW htW
      go_loopg [15] 7 (fun g2 i wx => ∃ j : Int, 0 ≤ j ∧ j + g2 = 7 ∧ i = .int .i64 j ∧ Hid (tabNot n j) ∧ QW w.heap.size w1.heap.size s w a n wx)
      case atStart => exact ⟨0, by omega, by omega, rfl, Lib.hid (by unfold tabNot; omega), HQ.out⟩
      case round =>
        obtain ⟨j, hj0, hj, rfl, HTN, hqw⟩ := hrel
        have hlen : (Lib.byteCells (34 :: escL a)).length ≤ 6 * 4294967296 + 1 := by rw [Lib.byteCells_length]; simp; omega
        have hwr : w1.heap.size < wr.heap.size := (Array.getElem?_eq_some_iff.1 hqw.2.1).1
        obtain rfl | rfl | rfl | rfl | rfl | rfl | rfl | rfl : j = 0 ∨ j = 1 ∨ j = 2 ∨ j = 3 ∨ j = 4 ∨ j = 5 ∨ j = 6 ∨ j = 7 := by omega
        · have hix : ∀ w', (Instr.index 61 (.agg escCells) (.int .i64 0)).run Tryd.prog w' = .ok (.agg #[.int .i32 116, .int .i32 9]) w' := fun _ => by kernel_rfl
          by_cases hc : n = 9
          · have hcB : (n == 9) = true := by simpa using hc
            have HC := Lib.hid hc
            clear hc
            go_wp2_with (first
              | (go_at_call 27; refine (Tryd.Builder_WriteByte_k w.heap.size w.heap.size _ 92 _ (hqw.alloc (Nat.le_refl _) _).1 (by omega) (hqw.alloc (Nat.le_refl _) _).2.2.size).mono ?_; rintro e w2 ⟨rfl, h2, b2, k2⟩; have c2 : w2.cell? ⟨wr.heap.size, 0, none⟩ = some (.int .i32 116) := by rw [Lib.cell_of_heap (kept_new k2 (by decide) (by omega))]; rfl)
              | (go_at_call 28; refine (Tryd.Builder_WriteRune_k w.heap.size w.heap.size _ 116 (by omega) (by omega) _ (.inr h2) (by simp; omega) (by have := b2.size; simp at this; omega)).mono ?_; rintro e w3 ⟨rfl, h3, b3, k3⟩))
            go_roundg g
            case measure => omega
            case rel => exact QI_step (x := [92, 116]) (hqw.alloc (Nat.le_refl _) _) HAB.out (by rw [HC.out]; rfl) (.inr (by rw [show Lib.byteCells [92, 116] = [Value.int .u8 92] ++ Lib.runeCells 116 from rfl, ← List.append_assoc]; exact h3)) (b2.trans b3) (k2.trans k3) (by omega) HBL.out
          · have hcB : (n == 9) = false := by simpa using hc
            have HC := Lib.hid hc
            clear hc
            go_wp2
            go_roundg (gk - 1)
            case measure => omega
            case rel => exact ⟨1, by omega, by omega, rfl, Lib.hid (by have := HTN.out; have := HC.out; unfold tabNot at *; omega), hqw.alloc (Nat.le_refl _) _⟩
        · have hix : ∀ w', (Instr.index 61 (.agg escCells) (.int .i64 1)).run Tryd.prog w' = .ok (.agg #[.int .i32 110, .int .i32 10]) w' := fun _ => by kernel_rfl
          by_cases hc : n = 10
          · have hcB : (n == 10) = true := by simpa using hc
            have HC := Lib.hid hc
            clear hc
            go_wp2_with (first
              | (go_at_call 27; refine (Tryd.Builder_WriteByte_k w.heap.size w.heap.size _ 92 _ (hqw.alloc (Nat.le_refl _) _).1 (by omega) (hqw.alloc (Nat.le_refl _) _).2.2.size).mono ?_; rintro e w2 ⟨rfl, h2, b2, k2⟩; have c2 : w2.cell? ⟨wr.heap.size, 0, none⟩ = some (.int .i32 110) := by rw [Lib.cell_of_heap (kept_new k2 (by decide) (by omega))]; rfl)
              | (go_at_call 28; refine (Tryd.Builder_WriteRune_k w.heap.size w.heap.size _ 110 (by omega) (by omega) _ (.inr h2) (by simp; omega) (by have := b2.size; simp at this; omega)).mono ?_; rintro e w3 ⟨rfl, h3, b3, k3⟩))
            go_roundg g
            case measure => omega
            case rel => exact QI_step (x := [92, 110]) (hqw.alloc (Nat.le_refl _) _) HAB.out (by rw [HC.out]; rfl) (.inr (by rw [show Lib.byteCells [92, 110] = [Value.int .u8 92] ++ Lib.runeCells 110 from rfl, ← List.append_assoc]; exact h3)) (b2.trans b3) (k2.trans k3) (by omega) HBL.out
          · have hcB : (n == 10) = false := by simpa using hc
            have HC := Lib.hid hc
            clear hc
            go_wp2
            go_roundg (gk - 1)
            case measure => omega
            case rel => exact ⟨2, by omega, by omega, rfl, Lib.hid (by have := HTN.out; have := HC.out; unfold tabNot at *; omega), hqw.alloc (Nat.le_refl _) _⟩
        · have hix : ∀ w', (Instr.index 61 (.agg escCells) (.int .i64 2)).run Tryd.prog w' = .ok (.agg #[.int .i32 114, .int .i32 13]) w' := fun _ => by kernel_rfl
          by_cases hc : n = 13
          · have hcB : (n == 13) = true := by simpa using hc
            have HC := Lib.hid hc
            clear hc
            go_wp2_with (first
              | (go_at_call 27; refine (Tryd.Builder_WriteByte_k w.heap.size w.heap.size _ 92 _ (hqw.alloc (Nat.le_refl _) _).1 (by omega) (hqw.alloc (Nat.le_refl _) _).2.2.size).mono ?_; rintro e w2 ⟨rfl, h2, b2, k2⟩; have c2 : w2.cell? ⟨wr.heap.size, 0, none⟩ = some (.int .i32 114) := by rw [Lib.cell_of_heap (kept_new k2 (by decide) (by omega))]; rfl)
              | (go_at_call 28; refine (Tryd.Builder_WriteRune_k w.heap.size w.heap.size _ 114 (by omega) (by omega) _ (.inr h2) (by simp; omega) (by have := b2.size; simp at this; omega)).mono ?_; rintro e w3 ⟨rfl, h3, b3, k3⟩))
            go_roundg g
            case measure => omega
            case rel => exact QI_step (x := [92, 114]) (hqw.alloc (Nat.le_refl _) _) HAB.out (by rw [HC.out]; rfl) (.inr (by rw [show Lib.byteCells [92, 114] = [Value.int .u8 92] ++ Lib.runeCells 114 from rfl, ← List.append_assoc]; exact h3)) (b2.trans b3) (k2.trans k3) (by omega) HBL.out
          · have hcB : (n == 13) = false := by simpa using hc
            have HC := Lib.hid hc
            clear hc
            go_wp2
            go_roundg (gk - 1)
            case measure => omega
            case rel => exact ⟨3, by omega, by omega, rfl, Lib.hid (by have := HTN.out; have := HC.out; unfold tabNot at *; omega), hqw.alloc (Nat.le_refl _) _⟩
        · have hix : ∀ w', (Instr.index 61 (.agg escCells) (.int .i64 3)).run Tryd.prog w' = .ok (.agg #[.int .i32 98, .int .i32 8]) w' := fun _ => by kernel_rfl
          by_cases hc : n = 8
          · have hcB : (n == 8) = true := by simpa using hc
            have HC := Lib.hid hc
            clear hc
            go_wp2_with (first
              | (go_at_call 27; refine (Tryd.Builder_WriteByte_k w.heap.size w.heap.size _ 92 _ (hqw.alloc (Nat.le_refl _) _).1 (by omega) (hqw.alloc (Nat.le_refl _) _).2.2.size).mono ?_; rintro e w2 ⟨rfl, h2, b2, k2⟩; have c2 : w2.cell? ⟨wr.heap.size, 0, none⟩ = some (.int .i32 98) := by rw [Lib.cell_of_heap (kept_new k2 (by decide) (by omega))]; rfl)
              | (go_at_call 28; refine (Tryd.Builder_WriteRune_k w.heap.size w.heap.size _ 98 (by omega) (by omega) _ (.inr h2) (by simp; omega) (by have := b2.size; simp at this; omega)).mono ?_; rintro e w3 ⟨rfl, h3, b3, k3⟩))
            go_roundg g
            case measure => omega
            case rel => exact QI_step (x := [92, 98]) (hqw.alloc (Nat.le_refl _) _) HAB.out (by rw [HC.out]; rfl) (.inr (by rw [show Lib.byteCells [92, 98] = [Value.int .u8 92] ++ Lib.runeCells 98 from rfl, ← List.append_assoc]; exact h3)) (b2.trans b3) (k2.trans k3) (by omega) HBL.out
          · have hcB : (n == 8) = false := by simpa using hc
            have HC := Lib.hid hc
            clear hc
            go_wp2
            go_roundg (gk - 1)
            case measure => omega
            case rel => exact ⟨4, by omega, by omega, rfl, Lib.hid (by have := HTN.out; have := HC.out; unfold tabNot at *; omega), hqw.alloc (Nat.le_refl _) _⟩
        · have hix : ∀ w', (Instr.index 61 (.agg escCells) (.int .i64 4)).run Tryd.prog w' = .ok (.agg #[.int .i32 102, .int .i32 12]) w' := fun _ => by kernel_rfl
          by_cases hc : n = 12
          · have hcB : (n == 12) = true := by simpa using hc
            have HC := Lib.hid hc
            clear hc
            go_wp2_with (first
              | (go_at_call 27; refine (Tryd.Builder_WriteByte_k w.heap.size w.heap.size _ 92 _ (hqw.alloc (Nat.le_refl _) _).1 (by omega) (hqw.alloc (Nat.le_refl _) _).2.2.size).mono ?_; rintro e w2 ⟨rfl, h2, b2, k2⟩; have c2 : w2.cell? ⟨wr.heap.size, 0, none⟩ = some (.int .i32 102) := by rw [Lib.cell_of_heap (kept_new k2 (by decide) (by omega))]; rfl)
              | (go_at_call 28; refine (Tryd.Builder_WriteRune_k w.heap.size w.heap.size _ 102 (by omega) (by omega) _ (.inr h2) (by simp; omega) (by have := b2.size; simp at this; omega)).mono ?_; rintro e w3 ⟨rfl, h3, b3, k3⟩))
            go_roundg g
            case measure => omega
            case rel => exact QI_step (x := [92, 102]) (hqw.alloc (Nat.le_refl _) _) HAB.out (by rw [HC.out]; rfl) (.inr (by rw [show Lib.byteCells [92, 102] = [Value.int .u8 92] ++ Lib.runeCells 102 from rfl, ← List.append_assoc]; exact h3)) (b2.trans b3) (k2.trans k3) (by omega) HBL.out
          · have hcB : (n == 12) = false := by simpa using hc
            have HC := Lib.hid hc
            clear hc
            go_wp2
            go_roundg (gk - 1)
            case measure => omega
            case rel => exact ⟨5, by omega, by omega, rfl, Lib.hid (by have := HTN.out; have := HC.out; unfold tabNot at *; omega), hqw.alloc (Nat.le_refl _) _⟩
        · have hix : ∀ w', (Instr.index 61 (.agg escCells) (.int .i64 5)).run Tryd.prog w' = .ok (.agg #[.int .i32 34, .int .i32 34]) w' := fun _ => by kernel_rfl
          by_cases hc : n = 34
          · have hcB : (n == 34) = true := by simpa using hc
            have HC := Lib.hid hc
            clear hc
            go_wp2_with (first
              | (go_at_call 27; refine (Tryd.Builder_WriteByte_k w.heap.size w.heap.size _ 92 _ (hqw.alloc (Nat.le_refl _) _).1 (by omega) (hqw.alloc (Nat.le_refl _) _).2.2.size).mono ?_; rintro e w2 ⟨rfl, h2, b2, k2⟩; have c2 : w2.cell? ⟨wr.heap.size, 0, none⟩ = some (.int .i32 34) := by rw [Lib.cell_of_heap (kept_new k2 (by decide) (by omega))]; rfl)
              | (go_at_call 28; refine (Tryd.Builder_WriteRune_k w.heap.size w.heap.size _ 34 (by omega) (by omega) _ (.inr h2) (by simp; omega) (by have := b2.size; simp at this; omega)).mono ?_; rintro e w3 ⟨rfl, h3, b3, k3⟩))
            go_roundg g
            case measure => omega
            case rel => exact QI_step (x := [92, 34]) (hqw.alloc (Nat.le_refl _) _) HAB.out (by rw [HC.out]; rfl) (.inr (by rw [show Lib.byteCells [92, 34] = [Value.int .u8 92] ++ Lib.runeCells 34 from rfl, ← List.append_assoc]; exact h3)) (b2.trans b3) (k2.trans k3) (by omega) HBL.out
          · have hcB : (n == 34) = false := by simpa using hc
            have HC := Lib.hid hc
            clear hc
            go_wp2
            go_roundg (gk - 1)
            case measure => omega
            case rel => exact ⟨6, by omega, by omega, rfl, Lib.hid (by have := HTN.out; have := HC.out; unfold tabNot at *; omega), hqw.alloc (Nat.le_refl _) _⟩
        · have hix : ∀ w', (Instr.index 61 (.agg escCells) (.int .i64 6)).run Tryd.prog w' = .ok (.agg #[.int .i32 92, .int .i32 92]) w' := fun _ => by kernel_rfl
          by_cases hc : n = 92
          · have hcB : (n == 92) = true := by simpa using hc
            have HC := Lib.hid hc
            clear hc
            go_wp2_with (first
              | (go_at_call 27; refine (Tryd.Builder_WriteByte_k w.heap.size w.heap.size _ 92 _ (hqw.alloc (Nat.le_refl _) _).1 (by omega) (hqw.alloc (Nat.le_refl _) _).2.2.size).mono ?_; rintro e w2 ⟨rfl, h2, b2, k2⟩; have c2 : w2.cell? ⟨wr.heap.size, 0, none⟩ = some (.int .i32 92) := by rw [Lib.cell_of_heap (kept_new k2 (by decide) (by omega))]; rfl)
              | (go_at_call 28; refine (Tryd.Builder_WriteRune_k w.heap.size w.heap.size _ 92 (by omega) (by omega) _ (.inr h2) (by simp; omega) (by have := b2.size; simp at this; omega)).mono ?_; rintro e w3 ⟨rfl, h3, b3, k3⟩))
            go_roundg g
            case measure => omega
            case rel => exact QI_step (x := [92, 92]) (hqw.alloc (Nat.le_refl _) _) HAB.out (by rw [HC.out]; rfl) (.inr (by rw [show Lib.byteCells [92, 92] = [Value.int .u8 92] ++ Lib.runeCells 92 from rfl, ← List.append_assoc]; exact h3)) (b2.trans b3) (k2.trans k3) (by omega) HBL.out
          · have hcB : (n == 92) = false := by simpa using hc
            have HC := Lib.hid hc
            clear hc
            go_wp2
            go_roundg (gk - 1)
            case measure => omega
            case rel => exact ⟨7, by omega, by omega, rfl, Lib.hid (by have := HTN.out; have := HC.out; unfold tabNot at *; omega), hqw.alloc (Nat.le_refl _) _⟩
        · have HLT := Lib.hid (tabNot_lett n HTN.out)
          obtain ⟨n0, n1, n2⟩ := HN.out
          have hbw := hqw.2.2.size
          by_cases hc : cls n = 4
          · have hcB : (cls n == 4) = true := by simpa using hc
            have HC := Lib.hid hc
            have hn160 : n < 160 := by unfold cls at hc; omega
            clear hc
            go_wp2_with (first
              | (go_at_call 25; refine (class_any n _).mono ?_; rintro e w' ⟨rfl, rfl⟩)
              | (go_at_call 29; refine (wnum_any w.heap.size w.heap.size _ n n0 hn160 _ hqw.1 (by omega) hbw).mono ?_; rintro e w2 ⟨rfl, h2, b2, k2⟩))
            go_roundg g
            case measure => omega
            case rel => exact QI_step hqw HAB.out (by unfold esc; rw [if_neg (by simp [HLT.out]), if_pos HC.out]) h2 b2 k2 (by omega) HBL.out
          · have hcB : (cls n == 4) = false := by simpa using hc
            have HC := Lib.hid hc
            clear hc
            go_wp2_with (first
              | (go_at_call 25; refine (class_any n _).mono ?_; rintro e w' ⟨rfl, rfl⟩)
              | (go_at_call 28; refine (Tryd.Builder_WriteRune_k w.heap.size w.heap.size _ n (by omega) (by omega) _ hqw.1 (by omega) hbw).mono ?_; rintro e w2 ⟨rfl, h2, b2, k2⟩))
            go_roundg g
            case measure => omega
            case rel => exact QI_step hqw HAB.out (by unfold esc; rw [if_neg (by simp [HLT.out]), if_neg HC.out]) (.inr (by rw [Lib.byteCells_encodeRune]; exact h2)) b2 k2 (by omega) HBL.out

/-- The document's example, of which every law makes sure. -/
theorem awake_any (w : World) (t : TypeId) (fr : Nat × Nat) (htab : w.heap[0]? = some (.cells escCells t fr)) :
    Calls Tryd.prog 4 #[] w fun e w' => e = .returned (.bool true) ∧ Below w.heap.size w w' := by
  have hq : Calls Tryd.prog 19 #[.string ⟨#[9]⟩] w fun e w' => e = .returned (.string ⟨#[34, 92, 116, 34]⟩) ∧ Below w.heap.size w w' :=
    (quote_any ⟨#[9]⟩ [9] w rfl (fun n hn => by simp at hn; subst hn; rfl) (by decide) t fr htab).mono fun e w' ⟨h1, h2⟩ => ⟨h1, h2⟩
  clear htab
  go_enter Tryd.func4, Tryd.ntmps4
  go_wp2_with (go_at_call 19; refine hq.mono ?_; rintro e w2 ⟨rfl, hb⟩)
  go_ret
  exact ⟨rfl, hb⟩
end Go.Proofs.YtjnajpfolppniaaDoor
