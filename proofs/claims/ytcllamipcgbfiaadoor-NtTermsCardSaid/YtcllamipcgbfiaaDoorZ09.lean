/-
  MERGED (a claim has at most 60 files): ReadA, ReadB.
-/
import Derived.Test.YtcllamipcgbfiaaDoorZ08
import Derived.Laws.BitsLemmas
import Derived.Test.YtcllamipcgbfiaaDoorZ04
/-
  READING WHAT IS QUOTED, its parts: the letters behind a backslash; four digits; what is kept of a builder while a scanner moves on.
-/
namespace Go.Proofs.YtcllamipcgbfiaaDoor
open Go.RowKit
set_option linter.unusedVariables false

/-- The sign that a letter behind a backslash stands for, or -1. -/
def unl (r : Int) : Int := if r = 39 then 39 else if r = 116 then 9 else if r = 110 then 10 else if r = 114 then 13 else if r = 98 then 8 else if r = 102 then 12 else if r = 34 then 34 else if r = 92 then 92 else -1
def unlNot (n k : Int) : Prop := n ≠ 39 ∧ (1 ≤ k → n ≠ 116) ∧ (2 ≤ k → n ≠ 110) ∧ (3 ≤ k → n ≠ 114) ∧ (4 ≤ k → n ≠ 98) ∧ (5 ≤ k → n ≠ 102) ∧ (6 ≤ k → n ≠ 34) ∧ (7 ≤ k → n ≠ 92)
def escRes (r : Int) : Ending := .returned (.tuple #[.int .i32 (if unl r < 0 then 0 else unl r), .bool (decide (0 ≤ unl r))])
theorem unlNot_end (n : Int) (h : unlNot n 7) : unl n = -1 := by unfold unlNot at h; unfold unl; omega
theorem escRes_ok (r n : Int) (h : unl r = n) (h0 : 0 ≤ n) : Ending.returned (.tuple #[.int .i32 n, .bool true]) = escRes r := by
  unfold escRes; rw [h, if_neg (by omega), decide_eq_true h0]
theorem escRes_no (r : Int) (h : unl r = -1) : Ending.returned (.tuple #[.int .i32 0, .bool false]) = escRes r := by
  unfold escRes; rw [h]; rfl

set_option maxHeartbeats 4000000 in
set_option maxRecDepth 100000 in
theorem escaped_any (r : Int) (w : World) (t : TypeId) (fr : Nat × Nat) (htab : w.heap[0]? = some (.cells escCells t fr)) :
    Calls Tryd.prog 141 #[.int .i32 r] w fun e w' => e = escRes r ∧ Below w.heap.size w w' := by
  by_cases h39 : r = 39
  · have hB : (r == 39) = true := by simpa using h39
    have HH := Lib.hid (escRes_ok r 39 (by rw [h39]; rfl) (by omega))
    have H9 := Lib.hid h39
    clear h39 htab
    go_enter Tryd.func141, Tryd.ntmps141
    go_wp2
    go_ret2
    exact ⟨by rw [← HH.out, H9.out]; rfl, Below.refl _ _⟩
  have hB : (r == 39) = false := by simpa using h39
  have H39 := Lib.hid h39
  have HT := Lib.hid htab
  have htabw := htab
  clear h39 htab
  go_enter Tryd.func141, Tryd.ntmps141
  go_wp2_with (with_reducible refine wpList_load_row rfl 181 (.global 0) rfl 0 rfl t escCells fr _ htabw Tryd.underlying181 rfl (by kernel_rfl) ?_)
  clear htabw
  go_loopg [10] 7 (fun g i wx => ∃ j : Int, 0 ≤ j ∧ j + g = 7 ∧ i = .int .i64 j ∧ Hid (unlNot r j) ∧ Below w.heap.size w wx)
  case atStart => exact ⟨0, by omega, by omega, rfl, Lib.hid (by have := H39.out; unfold unlNot; omega), Below.refl _ _⟩
  case round =>
    obtain ⟨j, hj0, hj, rfl, HN, hb⟩ := hrel
    have hbs := hb.size
    obtain rfl | rfl | rfl | rfl | rfl | rfl | rfl | rfl : j = 0 ∨ j = 1 ∨ j = 2 ∨ j = 3 ∨ j = 4 ∨ j = 5 ∨ j = 6 ∨ j = 7 := by omega
    · have hix : ∀ w', (Instr.index 181 (.agg escCells) (.int .i64 0)).run Tryd.prog w' = .ok (.agg #[.int .i32 116, .int .i32 9]) w' := fun _ => by kernel_rfl
      by_cases hc : r = 116
      · have hcB : (r == 116) = true := by simpa using hc
        have HE := Lib.hid (escRes_ok r 9 (by rw [hc]; rfl) (by omega))
        clear hc
        go_wp2
        go_ret2
        exact ⟨HE.out, hb.alloc hbs _⟩
      · have hcB : (r == 116) = false := by simpa using hc
        have HC := Lib.hid hc
        clear hc
        go_wp2
        go_roundg (gk - 1)
        case measure => omega
        case rel => exact ⟨1, by omega, by omega, rfl, Lib.hid (by have := HN.out; have := HC.out; unfold unlNot at *; omega), hb.alloc hbs _⟩
    · have hix : ∀ w', (Instr.index 181 (.agg escCells) (.int .i64 1)).run Tryd.prog w' = .ok (.agg #[.int .i32 110, .int .i32 10]) w' := fun _ => by kernel_rfl
      by_cases hc : r = 110
      · have hcB : (r == 110) = true := by simpa using hc
        have HE := Lib.hid (escRes_ok r 10 (by rw [hc]; rfl) (by omega))
        clear hc
        go_wp2
        go_ret2
        exact ⟨HE.out, hb.alloc hbs _⟩
      · have hcB : (r == 110) = false := by simpa using hc
        have HC := Lib.hid hc
        clear hc
        go_wp2
        go_roundg (gk - 1)
        case measure => omega
        case rel => exact ⟨2, by omega, by omega, rfl, Lib.hid (by have := HN.out; have := HC.out; unfold unlNot at *; omega), hb.alloc hbs _⟩
    · have hix : ∀ w', (Instr.index 181 (.agg escCells) (.int .i64 2)).run Tryd.prog w' = .ok (.agg #[.int .i32 114, .int .i32 13]) w' := fun _ => by kernel_rfl
      by_cases hc : r = 114
      · have hcB : (r == 114) = true := by simpa using hc
        have HE := Lib.hid (escRes_ok r 13 (by rw [hc]; rfl) (by omega))
        clear hc
        go_wp2
        go_ret2
        exact ⟨HE.out, hb.alloc hbs _⟩
      · have hcB : (r == 114) = false := by simpa using hc
        have HC := Lib.hid hc
        clear hc
        go_wp2
        go_roundg (gk - 1)
        case measure => omega
        case rel => exact ⟨3, by omega, by omega, rfl, Lib.hid (by have := HN.out; have := HC.out; unfold unlNot at *; omega), hb.alloc hbs _⟩
    · have hix : ∀ w', (Instr.index 181 (.agg escCells) (.int .i64 3)).run Tryd.prog w' = .ok (.agg #[.int .i32 98, .int .i32 8]) w' := fun _ => by kernel_rfl
      by_cases hc : r = 98
      · have hcB : (r == 98) = true := by simpa using hc
        have HE := Lib.hid (escRes_ok r 8 (by rw [hc]; rfl) (by omega))
        clear hc
        go_wp2
        go_ret2
        exact ⟨HE.out, hb.alloc hbs _⟩
      · have hcB : (r == 98) = false := by simpa using hc
        have HC := Lib.hid hc
        clear hc
        go_wp2
        go_roundg (gk - 1)
        case measure => omega
        case rel => exact ⟨4, by omega, by omega, rfl, Lib.hid (by have := HN.out; have := HC.out; unfold unlNot at *; omega), hb.alloc hbs _⟩
    · have hix : ∀ w', (Instr.index 181 (.agg escCells) (.int .i64 4)).run Tryd.prog w' = .ok (.agg #[.int .i32 102, .int .i32 12]) w' := fun _ => by kernel_rfl
      by_cases hc : r = 102
      · have hcB : (r == 102) = true := by simpa using hc
        have HE := Lib.hid (escRes_ok r 12 (by rw [hc]; rfl) (by omega))
        clear hc
        go_wp2
        go_ret2
        exact ⟨HE.out, hb.alloc hbs _⟩
      · have hcB : (r == 102) = false := by simpa using hc
        have HC := Lib.hid hc
        clear hc
        go_wp2
        go_roundg (gk - 1)
        case measure => omega
        case rel => exact ⟨5, by omega, by omega, rfl, Lib.hid (by have := HN.out; have := HC.out; unfold unlNot at *; omega), hb.alloc hbs _⟩
    · have hix : ∀ w', (Instr.index 181 (.agg escCells) (.int .i64 5)).run Tryd.prog w' = .ok (.agg #[.int .i32 34, .int .i32 34]) w' := fun _ => by kernel_rfl
      by_cases hc : r = 34
      · have hcB : (r == 34) = true := by simpa using hc
        have HE := Lib.hid (escRes_ok r 34 (by rw [hc]; rfl) (by omega))
        clear hc
        go_wp2
        go_ret2
        exact ⟨HE.out, hb.alloc hbs _⟩
      · have hcB : (r == 34) = false := by simpa using hc
        have HC := Lib.hid hc
        clear hc
        go_wp2
        go_roundg (gk - 1)
        case measure => omega
        case rel => exact ⟨6, by omega, by omega, rfl, Lib.hid (by have := HN.out; have := HC.out; unfold unlNot at *; omega), hb.alloc hbs _⟩
    · have hix : ∀ w', (Instr.index 181 (.agg escCells) (.int .i64 6)).run Tryd.prog w' = .ok (.agg #[.int .i32 92, .int .i32 92]) w' := fun _ => by kernel_rfl
      by_cases hc : r = 92
      · have hcB : (r == 92) = true := by simpa using hc
        have HE := Lib.hid (escRes_ok r 92 (by rw [hc]; rfl) (by omega))
        clear hc
        go_wp2
        go_ret2
        exact ⟨HE.out, hb.alloc hbs _⟩
      · have hcB : (r == 92) = false := by simpa using hc
        have HC := Lib.hid hc
        clear hc
        go_wp2
        go_roundg (gk - 1)
        case measure => omega
        case rel => exact ⟨7, by omega, by omega, rfl, Lib.hid (by have := HN.out; have := HC.out; unfold unlNot at *; omega), hb.alloc hbs _⟩
    · have HE := Lib.hid (escRes_no r (unlNot_end r HN.out))
      go_wp2
      go_ret2
      exact ⟨HE.out, hb⟩
/-- The number of digits. -/
def numV (ds : List Int) : Int := ds.foldl (fun a d => a * 16 + hexv d) 0
theorem numV_snoc (ds : List Int) (d : Int) : numV (ds ++ [d]) = numV ds * 16 + hexv d := by simp [numV]
theorem numV_nonneg : ∀ (ds : List Int) (a : Int), 0 ≤ a → (∀ d ∈ ds, 0 ≤ hexv d) → a ≤ ds.foldl (fun a d => a * 16 + hexv d) a
  | [], a, _, _ => by simp
  | d :: ds, a, h0, h => by
    have hd := h d List.mem_cons_self
    have := numV_nonneg ds (a * 16 + hexv d) (by omega) (fun x hx => h x (List.mem_cons_of_mem _ hx))
    rw [List.foldl_cons]
    omega
theorem numV_take (ds : List Int) (i : Nat) (h : ∀ d ∈ ds, 0 ≤ hexv d) : 0 ≤ numV (ds.take i) ∧ numV (ds.take i) ≤ numV ds := by
  have h1 := numV_nonneg (ds.take i) 0 (by omega) (fun d hd => h d (List.mem_of_mem_take hd))
  refine ⟨h1, ?_⟩
  have h2 := numV_nonneg (ds.drop i) (numV (ds.take i)) h1 (fun d hd => h d (List.mem_of_mem_drop hd))
  have e : numV ds = (ds.drop i).foldl (fun a d => a * 16 + hexv d) (numV (ds.take i)) := by
    unfold numV
    rw [← List.foldl_append, List.take_append_drop]
  rw [e]; exact h2
def NumI (B : Nat) (w : World) (b : Nat) (v : Value) (sl ds : List Int) (k g : Nat) (s6 s9 : Value) (wr : World) : Prop :=
  ∃ i : Nat, i + g = ds.length ∧ s6 = .int .i32 (numV (ds.take i)) ∧ s9 = .int .i64 i ∧ Moves B w b v sl (k + i) wr

set_option maxHeartbeats 4000000 in
set_option maxRecDepth 100000 in
theorem number_good {B : Nat} {w : World} {b : Nat} {v : Value} {sl ds : List Int} {k : Nat} (h : Sc B w b v sl k) (hl : sl.length ≤ 4294967296) (hds : ds = (sl.drop k).take ds.length) (hd8 : ds.length ≤ 8)
    (hh : ∀ d ∈ ds, 0 ≤ hexv d) (hv : numV ds < 2147483648) (hs : sgn (numV ds) = true) :
    Calls Tryd.prog 140 #[.pointer (some ⟨b, 0, none⟩), .int .i64 ds.length] w fun e w' => e = .returned (.tuple #[.int .i32 (numV ds), .bool true]) ∧ Moves B w b v sl (k + ds.length) w' := by
  have HS := Lib.hid h
  have HD := Lib.hid hds
  have HH := Lib.hid hh
  have HV := Lib.hid hv
  have HG := Lib.hid hs
  clear h hds hh hv hs
  go_enter Tryd.func140, Tryd.ntmps140
  go_wp2
  go_loopg [6, 9] ds.length (fun g s6 s9 wr => NumI B w b v sl ds k g s6 s9 wr)
  case atStart => exact ⟨0, by omega, rfl, rfl, HS.out, same_grown (Same.refl _) _⟩
  case round =>
    obtain ⟨i, hig, rfl, rfl, hM⟩ := hrel
    have hr := numV_take ds i HH.out
    cases gk with
    | zero =>
      have hi : i = ds.length := by omega
      have hR : numV (ds.take i) = numV ds := by rw [hi, List.take_length]
      rw [hR]
      have hnot : (cls (numV ds) == 6) = false := by
        have := (sgn_iff _).1 HG.out
        have h6 : cls (numV ds) ≠ 6 := by unfold cls; omega
        simpa using h6
      have hge : ¬ ((i : Int) < (ds.length : Int)) := by omega
      have HM : Hid (Moves B w b v sl (k + ds.length) wr) := Lib.hid (by rw [← hi]; exact hM)
      clear hM hR hi hr
      obtain ⟨R, hR⟩ : ∃ R, R = numV ds := ⟨_, rfl⟩
      rw [← hR] at hnot ⊢
      have HRR := Lib.hid hR
      clear hR
      go_wp2_with (go_at_call 117; (with_reducible refine (class_any R _).mono ?_); rintro e w' ⟨rfl, rfl⟩)
      go_ret2
      exact ⟨by rw [← HRR.out]; rfl, HM.out⟩
    | succ g =>
      have hi : i < ds.length := by omega
      obtain ⟨d, hd⟩ : ∃ d, ds[i]? = some d := ⟨_, List.getElem?_eq_getElem hi⟩
      have hx : sl[k + i]? = some d := by
        have := HD.out ▸ hd
        rw [List.getElem?_take, if_pos hi, List.getElem?_drop] at this
        exact this
      have hh0 := HH.out d (List.mem_of_getElem? hd)
      have hh1 : hexv d ≤ 15 := by unfold hexv; omega
      have hP := peek_sign hM.1 hx hl
      have hi2 : (i : Int) < (ds.length : Int) := by omega
      have hst : ds.take (i + 1) = ds.take i ++ [d] := by rw [List.take_succ_eq_append_getElem hi, (List.getElem?_eq_some_iff.1 hd).2]
      have hnx := numV_take ds (i + 1) HH.out
      have hnv : numV (ds.take (i + 1)) = numV (ds.take i) * 16 + hexv d := by rw [hst, numV_snoc]
      obtain ⟨R, hR⟩ : ∃ R, R = numV (ds.take i) := ⟨_, rfl⟩
      rw [← hR] at hr hnv ⊢
      obtain ⟨D, hD⟩ : ∃ D, D = hexv d := ⟨_, rfl⟩
      rw [← hD] at hnv hh0 hh1
      have hHx : ∀ W, Calls Tryd.prog 132 #[.int .i32 d] W fun e w' => e = .returned (.int .i64 D) ∧ W = w' := fun W => by have := hex_any d W; rwa [← hD] at this
      have q1 : 0 ≤ R := hr.1
      have q2 : R * 16 + D < 2147483648 := by have := HV.out; omega
      have HM := Lib.hid hM
      have HNV := Lib.hid hnv
      have hor : bits .or .i32 (R * 16) D = R * 16 + D := bits_join .i32 31 (by decide) wraps_i32 4 (R * 16) D (by omega) (by omega) (by omega) (by omega) (by omega) (by omega)
      have hki : k + i < sl.length := (List.getElem?_eq_some_iff.1 hx).1
      clear hM hx hd hst hnx hnv hR hD hr
      go_wp2_with (first
        | (go_at_call 87; (with_reducible refine hP.mono ?_); rintro e w3 ⟨rfl, hs3⟩; have h3 := hs3.sc HM.out.1; have c13 := h3.c1; have f13 := h3.f1)
        | (go_at_call 132; (with_reducible refine (hHx _).mono ?_); rintro e w' ⟨rfl, rfl⟩))
      have hfin : NumI B w b v sl ds k g (.int .i32 (R * 16 + D)) (.int .i64 ((i : Int) + 1)) (w3.setCell ⟨b, 1, none⟩ (.int .i64 ((k : Int) + (i : Int) + 1))) := by
        refine ⟨i + 1, by omega, by rw [HNV.out], by rfl, ?_, grown_trans (grown_trans HM.out.2 (same_grown hs3 _)) (grown_set w3 b 1 _)⟩
        have := h3.place (k + (i + 1))
        rwa [show ((k + (i + 1) : Nat) : Int) = (k : Int) + (i : Int) + 1 by omega] at this
      have HF := Lib.hid hfin
      clear hfin h3 c13 f13
      go_roundg g
      case measure => omega
      case rel => exact HF.out
end Go.Proofs.YtcllamipcgbfiaaDoor

/-
  READING WHAT IS QUOTED: one sign behind a backslash; the whole of what Quote has written.
-/
namespace Go.Proofs.YtcllamipcgbfiaaDoor
open Go.RowKit
set_option linter.unusedVariables false

theorem bd_grown {T e : TypeId} {B Bb b : Nat} {bs : List Value} {W W' : World} {cs : Array Value} {U : TypeId} {fz : Nat × Nat} (h : Lib.IsBuilderF T e B Bb bs W) (hb : W.heap[b]? = some (.cells cs U fz)) (hT : T ≠ U) (he : e ≠ U) (hg : W.grownBy W' (some b)) : Lib.IsBuilderF T e B Bb bs W' := by
  have key : ∀ p, Lib.BuilderAtF T e B Bb p bs W → Lib.BuilderAtF T e B Bb p bs W' := by
    intro p ⟨hB, v, hbk, hown, hne⟩
    have h1 : Bb ≠ b := by
      intro x
      rw [x, hb] at hbk
      cases hbk
      exact hT rfl
    refine ⟨hB, v, (hg.block Bb (Array.getElem?_eq_some_iff.1 hbk).1 (fun x => h1 (Option.some.inj x))).trans hbk, hown.kept hg (Or.inr ?_), hne⟩
    intro x
    obtain ⟨c, f, hc⟩ := Lib.ownsRowF_kind hown b x
    rw [hb] at hc
    cases hc
    exact he rfl
  exact h.elim (fun x => .inl (key _ x)) (fun x => .inr (key _ x))
theorem below_grown {w w' : World} (h : Below w.heap.size w w') (row : Option Nat) : w.grownBy w' row := ⟨h.os, h.tape, h.output, h.size, fun k hk _ => h.block k hk⟩
theorem grown_ext {w W W' : World} {row : Option Nat} (h : w.grownBy W row) (k : Below w.heap.size W W') : w.grownBy W' row := ⟨k.os.trans h.os, k.tape.trans h.tape, k.output.trans h.output, Nat.le_trans h.size k.size, fun i hi hr => (k.block i hi).trans (h.block i hi hr)⟩
theorem Sc.below2 {B n : Nat} {w w' : World} {b : Nat} {v : Value} {sl : List Int} {k : Nat} (h : Sc B w b v sl k) (hb : Below n w w') (h1 : b < n) (h2 : ∀ g, v.ownBlock = some g → g < n) : Sc B w' b v sl k := by
  refine ⟨(hb.block b h1).trans h.blk, ⟨h.row.1, ?_⟩, h.ge⟩
  rcases h.row.2 with x | ⟨g, cap, cur, hv, hg, hh, rest⟩
  · exact .inl x
  · exact .inr ⟨g, cap, cur, hv, hg, (hb.block g (h2 g (by rw [hv]; rfl))).trans hh, rest⟩
theorem Sc.below3 {B : Nat} {w w' : World} {b : Nat} {v : Value} {sl : List Int} {k : Nat} (h : Sc B w b v sl k) (hb : Below w.heap.size w w') : Sc B w' b v sl k :=
  h.below2 hb (Array.getElem?_eq_some_iff.1 h.blk).1 (fun g hg => (World.ownsRow.lt h.row g hg).2)

set_option maxHeartbeats 4000000 in
set_option maxRecDepth 100000 in
theorem escape_letter {B : Nat} {w : World} {b : Nat} {v : Value} {sl : List Int} {k : Nat} {c n : Int} (h : Sc B w b v sl k) (hl : sl.length ≤ 4294967296) (hx : sl[k]? = some c) (hu : unl c = n) (h0 : 0 ≤ n)
    (t : TypeId) (fr : Nat × Nat) (htab : ∀ W, Same w W → W.heap[0]? = some (.cells escCells t fr)) :
    Calls Tryd.prog 134 #[.pointer (some ⟨b, 0, none⟩)] w fun e w' => e = .returned (.tuple #[.int .i32 n, .bool true]) ∧ Moves B w b v sl (k + 1) w' := by
  have hki : k < sl.length := (List.getElem?_eq_some_iff.1 hx).1
  have hP : ∀ W, Same w W → Calls Tryd.prog 87 #[.pointer (some ⟨b, 0, none⟩)] W fun e w' => e = .returned (.int .i32 c) ∧ Same w w' := fun W s => (peek_sign (s.sc h) hx hl).mono fun _ _ ⟨x, y⟩ => ⟨x, s.trans y⟩
  have hE : ∀ W, Same w W → Calls Tryd.prog 141 #[.int .i32 c] W fun e w' => e = .returned (.tuple #[.int .i32 n, .bool true]) ∧ Sc B w' b v sl k ∧ w.grownBy w' (some b) := fun W s => (escaped_any c W t fr (htab W s)).mono fun _ _ ⟨x, y⟩ => ⟨by rw [x, ← escRes_ok c n hu h0], (s.sc h).below3 y, grown_trans (same_grown s _) (below_grown y _)⟩
  have e1 : (c == 117) = false := by
    have : c ≠ 117 := by intro e; subst e; have : n = -1 := by rw [← hu]; rfl
                         omega
    simpa using this
  have e2 : (c == 85) = false := by
    have : c ≠ 85 := by intro e; subst e; have : n = -1 := by rw [← hu]; rfl
                        omega
    simpa using this
  have hs0 : Same w w := Same.refl w
  clear h hx hu htab
  go_enter Tryd.func134, Tryd.ntmps134
  go_wp2_with (first
    | (go_at_call 87; (with_reducible refine (hP _ (by assumption)).mono ?_); rintro e w3 ⟨rfl, hs3⟩)
    | (go_at_call 141; (with_reducible refine (hE _ (by assumption)).mono ?_); rintro e w4 ⟨rfl, hsc4, hg4⟩; have c14 := hsc4.c1; have f14 := hsc4.f1))
  go_ret2
  exact ⟨rfl, by exact hsc4.place (k + 1), grown_trans hg4 (grown_set w4 b 1 _)⟩

set_option maxHeartbeats 4000000 in
set_option maxRecDepth 100000 in
theorem escape_u {B : Nat} {w : World} {b : Nat} {v : Value} {sl ds : List Int} {k : Nat} (h : Sc B w b v sl k) (hl : sl.length ≤ 4294967296) (hx : sl[k]? = some 117) (hds : ds = (sl.drop (k + 1)).take ds.length) (hd4 : ds.length = 4)
    (hh : ∀ d ∈ ds, 0 ≤ hexv d) (hv : numV ds < 2147483648) (hs : sgn (numV ds) = true) :
    Calls Tryd.prog 134 #[.pointer (some ⟨b, 0, none⟩)] w fun e w' => e = .returned (.tuple #[.int .i32 (numV ds), .bool true]) ∧ Moves B w b v sl (k + 5) w' := by
  have hki : k < sl.length := (List.getElem?_eq_some_iff.1 hx).1
  have hP := peek_sign h hx hl
  have hN : ∀ W, Sc B W b v sl (k + 1) → Calls Tryd.prog 140 #[.pointer (some ⟨b, 0, none⟩), .int .i64 4] W fun e w' => e = .returned (.tuple #[.int .i32 (numV ds), .bool true]) ∧ Moves B W b v sl (k + 5) w' := fun W s => by
    have := number_good s hl hds (by omega) hh hv hs
    rw [hd4] at this
    exact this
  have HS := Lib.hid h
  obtain ⟨R, hR⟩ : ∃ R, R = numV ds := ⟨_, rfl⟩
  rw [← hR] at hN ⊢
  clear h hx hds hd4 hh hv hs hR
  go_enter Tryd.func134, Tryd.ntmps134
  go_wp2_with (first
    | (go_at_call 87; (with_reducible refine hP.mono ?_); rintro e w3 ⟨rfl, hs3⟩; have h3 := hs3.sc HS.out; have c13 := h3.c1; have f13 := h3.f1; have h4 : Sc B (w3.setCell ⟨b, 1, none⟩ (.int .i64 ((k : Int) + 1))) b v sl (k + 1) := h3.place (k + 1))
    | (go_at_call 140; (with_reducible refine (hN _ (by assumption)).mono ?_); rintro e w4 ⟨rfl, hM4⟩))
  go_ret2
  exact ⟨rfl, hM4.1, grown_trans (grown_trans (same_grown hs3 _) (grown_set w3 b 1 _)) hM4.2⟩
end Go.Proofs.YtcllamipcgbfiaaDoor
