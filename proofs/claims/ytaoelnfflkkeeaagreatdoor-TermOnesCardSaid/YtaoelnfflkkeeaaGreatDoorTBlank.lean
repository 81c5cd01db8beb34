/-
  WHETHER A TEXT IS A BLANK NODE's: the program's.
-/
import Derived.Test.YtaoelnfflkkeeaaGreatDoorTGood
namespace Go.Proofs.YtaoelnfflkkeeaaGreatDoor
open Go.RowKit
set_option linter.unusedVariables false

def labS (first : Bool) (n : Int) : Bool := (cls n == 1) || ((cls n == 2) || (!first && (n == 95 || n == 45)))
def labSG : Nat → List Int → Bool
  | _, [] => true
  | i, n :: l => labS (i == 0) n && labSG (i + 1) l
/-- A label, of so many bytes, its signs, and what is none's behind them. -/
def blankB (n : Nat) (sl : List Int) (rest : List UInt8) : Bool := decide (rest = []) && (labSG 0 sl && decide (1 ≤ n ∧ n ≤ 100))
def BlI (w : World) (s : ByteArray) (sl : List Int) (g : Nat) (wr : World) : Prop :=
  ∃ a b, sl = a ++ b ∧ b.length = g ∧ labSG 0 sl = labSG a.length b ∧ wr.heap[w.heap.size + 1]? = some (.stringIter s (encL a).length) ∧ Fb wr w.heap.size 58 #[.string s] ∧ Below w.heap.size w wr
theorem lab_ways (first : Bool) (n q : Int) (hq : q = cls n) (i : Int) (hi : (first = true ∧ ¬ 0 < i) ∨ (first = false ∧ 0 < i)) :
    ((first = true ∧ ¬ 0 < i) ∨ (first = false ∧ 0 < i ∧ ((n == 95) = true ∨ ((n == 95) = false ∧ (n == 45) = true) ∨ ((n == 95) = false ∧ (n == 45) = false)))) ∧ ((q != 1) = false ∨ ((q != 1) = true ∧ (q != 2) = false) ∨ ((q != 1) = true ∧ (q != 2) = true)) := by
  refine ⟨?_, ?_⟩
  · rcases hi with h | ⟨h, k⟩
    · exact .inl h
    · refine .inr ⟨h, k, ?_⟩
      cases (n == 95) <;> cases (n == 45) <;> simp
  · cases (q != 1) <;> cases (q != 2) <;> simp
theorem labS_of {first : Bool} {n q : Int} (hq : q = cls n) : labS first n = (!(q != 1) || (!(q != 2) || (!first && (n == 95 || n == 45)))) := by
  unfold labS
  subst hq
  simp [bne]
set_option maxHeartbeats 8000000 in
set_option maxRecDepth 100000 in
theorem blankGood_any (s : ByteArray) (sl : List Int) (rest : List UInt8) (hp : Parts s.data.toList sl rest) (hs : s.size ≤ 4294967296) (w : World) :
    Calls Tryz.prog 114 #[.agg #[.string s]] w fun e w' => e = .returned (.bool (blankB s.size sl rest)) ∧ Below w.heap.size w w' := by
  obtain ⟨r, hr⟩ : ∃ r, r = blankB s.size sl rest := ⟨_, rfl⟩
  rw [← hr]
  have HRR := Lib.hid hr
  have HP := Lib.hid hp
  clear hr hp
  have hseE : (s.toList = []) ↔ s.size = 0 := by
    rw [ByteArray.toList_eq]
    constructor
    · intro h; have := congrArg List.length h; rw [Array.length_toList] at this; exact this
    · intro h; exact List.length_eq_zero_iff.1 (by rw [Array.length_toList]; exact h)
  have HSE := Lib.hid hseE
  clear hseE
  go_enter Tryz.func114, Tryz.ntmps114
  go_wp2
  go_loopg [] sl.length (fun g wr => BlI w s sl g wr)
  case atStart =>
    refine ⟨[], sl, rfl, rfl, rfl, ?_, (Fb.new _ _ _).alloc _, ((Below.refl _ _).alloc (Nat.le_refl _) _).alloc (by simp) _⟩
    have hsz : (w.alloc (.cells #[.string s] 58)).heap.size = w.heap.size + 1 := by simp
    have := World.iter_heap (w.alloc (.cells #[.string s] 58)) s 0
    rw [hsz] at this
    exact this
  case round =>
    obtain ⟨a, bb, hab, hbl, hlab, hit, hbox, hbw⟩ := hrel
    have hdat : s.data.toList = encL a ++ (encL bb ++ rest) := by rw [HP.out.eq, hab, encL_append, List.append_assoc]
    have HAB := Lib.hid hab
    have HLAB := Lib.hid hlab
    have HBW := Lib.hid hbw
    have HBOX := Lib.hid hbox
    have hc0 := hbox.cell 0
    simp at hc0
    cases gk with
    | zero =>
      obtain rfl : bb = [] := List.length_eq_zero_iff.1 hbl
      by_cases hrest : rest = []
      · have hnx : ∀ ty, (Instr.next (.pointer (some ⟨w.heap.size + 1, 0, none⟩)) true ty).run Tryz.prog wr = _ := fun ty => next_done wr (w.heap.size + 1) s a (by rw [hdat, hrest]; simp [encL]) hit ty
        have HR : Hid (r = decide (1 ≤ s.size ∧ s.size ≤ 100)) := Lib.hid (by rw [HRR.out]; unfold blankB; rw [decide_eq_true hrest, hlab]; simp [labSG])
        by_cases z0 : s.size = 0
        · have e1 : (!s.toList.isEmpty) = false := by rw [HSE.out.2 z0]; rfl
          have e2 : s.toList = [] := HSE.out.2 z0
          have HR2 : Hid (r = false) := Lib.hid (by rw [HR.out]; simp [z0])
          clear hab hbl hdat hlab hit hbox hbw hrest z0
          go_wp2
          go_ret
          exact ⟨ret_bool HR2.out.symm, HBW.out⟩
        · have e1 : (!s.toList.isEmpty) = true := by
            have : s.toList ≠ [] := fun e => z0 (HSE.out.1 e)
            cases h : s.toList
            · exact absurd h this
            · rfl
          have e2 : ¬ s.toList = [] := fun e => z0 (HSE.out.1 e)
          by_cases z1 : s.size ≤ 100
          · have k1 : (s.size : Int) ≤ 100 := by omega
            have HR2 : Hid (r = true) := Lib.hid (by rw [HR.out, decide_eq_true (by omega)])
            clear hab hbl hdat hlab hit hbox hbw hrest z0 z1
            go_wp2
            go_ret
            exact ⟨ret_bool HR2.out.symm, HBW.out⟩
          · have k1 : ¬ (s.size : Int) ≤ 100 := by omega
            have HR2 : Hid (r = false) := Lib.hid (by rw [HR.out, decide_eq_false (by omega)])
            clear hab hbl hdat hlab hit hbox hbw hrest z0 z1
            go_wp2
            go_ret
            exact ⟨ret_bool HR2.out.symm, HBW.out⟩
      · have hnx : ∀ ty, (Instr.next (.pointer (some ⟨w.heap.size + 1, 0, none⟩)) true ty).run Tryz.prog wr = _ := fun ty => next_bad wr (w.heap.size + 1) s a rest (by rw [hdat]; simp [encL]) (HP.out.bad.resolve_left hrest) hit ty
        obtain ⟨W, hW⟩ : ∃ W, W = wr.iterAt (w.heap.size + 1) s ((encL a).length + 1) := ⟨_, rfl⟩
        rw [← hW] at hnx
        have hbW : Below w.heap.size w W := by rw [hW]; exact Lib.below_iterAt hbw (by omega) _ _
        have HBX := Lib.hid hbW
        have HR : Hid (r = false) := Lib.hid (by rw [HRR.out]; unfold blankB; rw [decide_eq_false hrest]; rfl)
        have cR := class_any 65533
        have hc5 : cls 65533 = 5 := by decide
        rw [hc5] at cR
        by_cases hpos : 0 < (encL a).length
        · have k1 : (0 : Int) < ((encL a).length : Int) := by omega
          clear hab hbl hdat hlab hit hbox hbw hrest hW hbW hc5 hpos
          go_wp2_with (go_at_call 94; (with_reducible refine (cR _).mono ?_); rintro e w' ⟨rfl, rfl⟩)
          (try rw [Exit.noGoto_ret])
          go_ret
          exact ⟨ret_bool HR.out.symm, HBX.out⟩
        · have k1 : ¬ (0 : Int) < ((encL a).length : Int) := by omega
          clear hab hbl hdat hlab hit hbox hbw hrest hW hbW hc5 hpos
          go_wp2_with (go_at_call 94; (with_reducible refine (cR _).mono ?_); rintro e w' ⟨rfl, rfl⟩)
          (try rw [Exit.noGoto_ret])
          go_ret
          exact ⟨ret_bool HR.out.symm, HBX.out⟩
    | succ g =>
      obtain ⟨n, b', rfl⟩ : ∃ n b', bb = n :: b' := by
        match bb, hbl with
        | n :: b', _ => exact ⟨n, b', rfl⟩
      have hn : sgn n = true := HP.out.all n (by rw [hab]; simp)
      have hnx : ∀ ty, (Instr.next (.pointer (some ⟨w.heap.size + 1, 0, none⟩)) true ty).run Tryz.prog wr = _ := fun ty => next_sign wr (w.heap.size + 1) s a n (encL b' ++ rest) (by rw [hdat, encL_cons, List.append_assoc]) hn hit ty
      obtain ⟨W, hW⟩ : ∃ W, W = wr.iterAt (w.heap.size + 1) s (encL (a ++ [n])).length := ⟨_, rfl⟩
      rw [← hW] at hnx
      have hitW : W.heap[w.heap.size + 1]? = some (.stringIter s (encL (a ++ [n])).length) := by rw [hW]; exact Lib.iterAt_heap _ _ _ _ _ hit
      have hbW : Below w.heap.size w W := by rw [hW]; exact Lib.below_iterAt hbw (by omega) _ _
      have HBX := Lib.hid hbW
      have hboxW : Fb W w.heap.size 58 #[.string s] := by
        have hb : Below (w.heap.size + 1) wr W := by rw [hW]; exact Lib.below_iterAt (Below.refl _ _) (Nat.le_refl _) _ _
        exact (hb.block w.heap.size (by omega)).trans hbox
      have hfin : labS (a.length == 0) n = true → BlI w s sl g W := fun hk => by
        refine ⟨a ++ [n], b', by rw [hab]; simp, by simpa using hbl, ?_, hitW, hboxW, hbW⟩
        rw [hlab]
        simp only [labSG, hk, Bool.true_and, List.length_append, List.length_cons, List.length_nil]
      have hno : labS (a.length == 0) n = false → r = false := fun hk => by
        rw [HRR.out]
        unfold blankB
        rw [hlab]
        simp only [labSG, hk, Bool.false_and, Bool.and_false]
      have HFIN := Lib.hid hfin
      have HNO := Lib.hid hno
      obtain ⟨q, hq⟩ : ∃ q, q = cls n := ⟨_, rfl⟩
      have cR := class_any n
      rw [← hq] at cR
      have hi : ((a.length == 0) = true ∧ ¬ (0 : Int) < ((encL a).length : Int)) ∨ ((a.length == 0) = false ∧ (0 : Int) < ((encL a).length : Int)) := by
        have h1 := encL_len a
        by_cases h0 : a.length = 0
        · exact .inl ⟨by simp [h0], by omega⟩
        · exact .inr ⟨by simp [h0], by omega⟩
      have hls := labS_of (first := (a.length == 0)) hq
      obtain ⟨w1, w2⟩ := lab_ways _ n q hq _ hi
      obtain ⟨first, hfirst⟩ : ∃ f, f = (a.length == 0) := ⟨_, rfl⟩
      rw [← hfirst] at hls w1 HFIN HNO
      have HLS := Lib.hid hls
      have hm : g < g + 1 := Nat.lt_succ_self g
      clear hab hbl hdat hlab hit hbox hbw hW hitW hbW hn hboxW hfin hno hq hi hfirst hls
      rcases w1 with ⟨rfl, k1⟩ | ⟨rfl, k1, k2 | ⟨k2, k3⟩ | ⟨k2, k3⟩⟩ <;> rcases w2 with j1 | ⟨j1, j2⟩ | ⟨j1, j2⟩
      all_goals
        have HL2 := HLS.out
        (try rw [j1] at HL2)
        (try rw [j2] at HL2)
        (try rw [k2] at HL2)
        (try rw [k3] at HL2)
        have HL3 := Lib.hid HL2
        clear HL2
        go_wp2_with (go_at_call 94; (with_reducible refine (cR _).mono ?_); rintro e w' ⟨rfl, rfl⟩)
        first
          | (go_roundg g; (case measure => exact hm); (case rel => exact HFIN.out (by rw [HL3.out]; rfl)))
          | ((try rw [Exit.noGoto_ret]); go_ret; exact ⟨ret_bool (HNO.out (by rw [HL3.out]; rfl)).symm, HBX.out⟩)
end Go.Proofs.YtaoelnfflkkeeaaGreatDoor
