/-
  WHETHER A TEXT IS AN IRI's, a literal's without a language: the program's.
-/
import Derived.Test.YtaoelnfflkkeeaaGreatDoorTCmp
import Derived.Test.YtaoelnfflkkeeaaGreatDoorMeas
import Derived.Test.YtaoelnfflkkeeaaGreatDoorTPl
namespace Go.Proofs.YtaoelnfflkkeeaaGreatDoor
open Go.RowKit
set_option linter.unusedVariables false

/-- May a sign stand in an IRI? -/
def okS (n : Int) : Bool := decide (¬ (n = 60 ∨ n = 62 ∨ n = 34 ∨ n = 123 ∨ n = 125 ∨ n = 124 ∨ n = 94 ∨ n = 96 ∨ n = 92) ∧ cls n ≠ 0 ∧ cls n ≠ 4)
set_option linter.unusedSimpArgs false in
set_option maxHeartbeats 2000000 in
theorem inIRI_any (n : Int) (w : World) : Calls Tryz.prog 91 #[.int .i32 n] w fun e w' => e = .returned (.bool (okS n)) ∧ w = w' := by
  have cC := class_any n
  obtain ⟨r, hr⟩ : ∃ r, r = okS n := ⟨_, rfl⟩
  rw [← hr]
  unfold okS at hr
  obtain ⟨k, hk⟩ : ∃ k, k = cls n := ⟨_, rfl⟩
  rw [← hk] at cC hr
  clear hk
  have HR := Lib.hid hr
  clear hr
  by_cases hb : n = 60 ∨ n = 62 ∨ n = 34 ∨ n = 123 ∨ n = 125 ∨ n = 124 ∨ n = 94 ∨ n = 96 ∨ n = 92
  · have H : Hid (r = false) := Lib.hid (by rw [HR.out]; simp [hb])
    rcases hb with rfl | rfl | rfl | rfl | rfl | rfl | rfl | rfl | rfl
    all_goals
      go_enter Tryz.func91, Tryz.ntmps91
      go_wp2
      go_ret
      exact ⟨ret_bool H.out.symm, rfl⟩
  · have h1 : (n == 60) = false := by simp; omega
    have h2 : (n == 62) = false := by simp; omega
    have h3 : (n == 34) = false := by simp; omega
    have h4 : (n == 123) = false := by simp; omega
    have h5 : (n == 125) = false := by simp; omega
    have h6 : (n == 124) = false := by simp; omega
    have h7 : (n == 94) = false := by simp; omega
    have h8 : (n == 96) = false := by simp; omega
    have h9 : (n == 92) = false := by simp; omega
    have H : Hid (r = decide (k ≠ 0 ∧ k ≠ 4)) := Lib.hid (by rw [HR.out]; simp only [hb, not_false_eq_true, true_and])
    clear hb HR
    by_cases k0 : k = 0
    · have hk0 : (k != 0) = false := by simp [k0]
      have H2 : Hid (r = false) := Lib.hid (by rw [H.out]; simp [k0])
      clear k0
      go_enter Tryz.func91, Tryz.ntmps91
      go_wp2_with (go_at_call 94; (with_reducible refine (cC _).mono ?_); rintro e w' ⟨rfl, rfl⟩)
      go_ret
      exact ⟨ret_bool H2.out.symm, rfl⟩
    · have hk0 : (k != 0) = true := by simp [k0]
      have H2 : Hid (r = (k != 4)) := Lib.hid (by rw [H.out, Bool.eq_iff_iff]; simp [k0])
      clear k0
      obtain ⟨q, hq⟩ : ∃ q, q = (k != 4) := ⟨_, rfl⟩
      go_enter Tryz.func91, Tryz.ntmps91
      go_wp2_with (go_at_call 94; (with_reducible refine (cC _).mono ?_); rintro e w' ⟨rfl, rfl⟩)
      go_ret
      exact ⟨ret_bool H2.out.symm, rfl⟩
/-- An IRI's text, of so many bytes, its signs, and what is none's behind them. -/
def iriB (n : Nat) (sl : List Int) (rest : List UInt8) : Bool := decide (rest = []) && (decide (n ≤ 4096) && (colonB sl && sl.all okS))
def IrI (w2 : World) (s : ByteArray) (sl : List Int) (g : Nat) (wr : World) : Prop :=
  ∃ a b, sl = a ++ b ∧ b.length = g ∧ a.all okS = true ∧ wr.heap[w2.heap.size]? = some (.stringIter s (encL a).length) ∧ Below w2.heap.size w2 wr
theorem iriB_no {n : Nat} {sl : List Int} {rest : List UInt8} (h : rest ≠ [] ∨ 4096 < n ∨ colonB sl = false) : iriB n sl rest = false := by
  unfold iriB
  rcases h with h | h | h
  · rw [decide_eq_false h]; rfl
  · rw [decide_eq_false (show ¬ n ≤ 4096 by omega)]; simp
  · rw [h]; simp
set_option maxHeartbeats 4000000 in
theorem iriGood_no (s : ByteArray) (sl : List Int) (rest : List UInt8) (hp : Parts s.data.toList sl rest) (hs : s.size ≤ 4294967296) (h : rest ≠ [] ∨ 4096 < s.size ∨ colonB sl = false) (w : World) :
    Calls Tryz.prog 88 #[.agg #[.string s]] w fun e w' => e = .returned (.bool false) ∧ Below w.heap.size w w' := by
  have cG := good_any s sl rest hp hs
  by_cases h1 : 4096 < s.size
  · have hz : (4096 : Int) < (s.size : Int) := by omega
    clear h cG hp
    go_enter Tryz.func88, Tryz.ntmps88
    go_wp2
    go_ret
    exact ⟨rfl, (Below.refl _ _).alloc (Nat.le_refl _) _⟩
  · have hz : ¬ (4096 : Int) < (s.size : Int) := by omega
    by_cases h2 : rest = []
    · have h3 : colonB sl = false := by
        rcases h with h | h | h
        · exact absurd h2 h
        · omega
        · exact h
      have cI : ∀ W, Calls Tryz.prog 90 #[.string s, .string ⟨#[58]⟩] W fun e w' => e = .returned (.int .i64 (Lib.indexByte s.data.toList 58)) ∧ w' = W := fun W => Tryz.strings_Index_one s 58 W
      obtain ⟨i, hi⟩ : ∃ i, i = Lib.indexByte s.data.toList 58 := ⟨_, rfl⟩
      rw [← hi] at cI
      have hi1 : i < 1 := by
        have := colon_at sl hp.all
        rw [h3, hp.eq] at *
        subst h2
        rw [List.append_nil] at hi
        rw [hi]
        simpa using this
      have hd : decide (rest = []) = true := decide_eq_true h2
      rw [hd] at cG
      have cII : ∀ W, Calls Tryz.prog 90 #[.string s, .string ⟨#[58]⟩] W fun e w' => e = .returned (.int .i64 i) ∧ W = w' := fun W => (cI W).mono fun _ _ ⟨a, b⟩ => ⟨a, b.symm⟩
      clear h h1 h2 h3 hd hp hi cI
      go_enter Tryz.func88, Tryz.ntmps88
      go_wp2_with (first
        | (go_at_call 89; (with_reducible refine (cG _).mono ?_); rintro e w2 ⟨rfl, hb2⟩; obtain ⟨hc, hf⟩ : _ ∧ _ := ⟨(Fb.new w 50 #[.string s]).below hb2, hb2.size⟩; have hcc := hc.cell 0; simp at hcc)
        | (go_at_call 90; (with_reducible refine (cII _).mono ?_); rintro e w' ⟨rfl, rfl⟩))
      go_ret
      exact ⟨rfl, ((Below.refl _ _).alloc (Nat.le_refl _) _).trans (hb2.mono (by simp))⟩
    · have hd : decide (rest = []) = false := decide_eq_false h2
      rw [hd] at cG
      clear h h1 h2 hd hp
      go_enter Tryz.func88, Tryz.ntmps88
      go_wp2_with (go_at_call 89; (with_reducible refine (cG _).mono ?_); rintro e w2 ⟨rfl, hb2⟩)
      go_ret
      exact ⟨rfl, ((Below.refl _ _).alloc (Nat.le_refl _) _).trans (hb2.mono (by simp))⟩
set_option maxHeartbeats 4000000 in
set_option maxRecDepth 100000 in
theorem iriGood_yes (s : ByteArray) (sl : List Int) (hp : Parts s.data.toList sl []) (hs : s.size ≤ 4096) (h : colonB sl = true) (w : World) :
    Calls Tryz.prog 88 #[.agg #[.string s]] w fun e w' => e = .returned (.bool (sl.all okS)) ∧ Below w.heap.size w w' := by
  have cG := good_any s sl [] hp (by omega)
  have hd : decide (([] : List UInt8) = []) = true := rfl
  rw [hd] at cG
  have cI : ∀ W, Calls Tryz.prog 90 #[.string s, .string ⟨#[58]⟩] W fun e w' => e = .returned (.int .i64 (Lib.indexByte s.data.toList 58)) ∧ w' = W := fun W => Tryz.strings_Index_one s 58 W
  obtain ⟨i, hi⟩ : ∃ i, i = Lib.indexByte s.data.toList 58 := ⟨_, rfl⟩
  rw [← hi] at cI
  have hi1 : ¬ i < 1 := by
    have := colon_at sl hp.all
    rw [h] at this
    rw [hp.eq, List.append_nil] at hi
    rw [hi]
    simpa using this
  have cII : ∀ W, Calls Tryz.prog 90 #[.string s, .string ⟨#[58]⟩] W fun e w' => e = .returned (.int .i64 i) ∧ W = w' := fun W => (cI W).mono fun _ _ ⟨a, b⟩ => ⟨a, b.symm⟩
  have hz : ¬ (4096 : Int) < (s.size : Int) := by omega
  have HP := Lib.hid hp
  clear hd hp h hi cI
  go_enter Tryz.func88, Tryz.ntmps88
  go_wp2_with (first
    | (go_at_call 89; (with_reducible refine (cG _).mono ?_); rintro e w2 ⟨rfl, hb2⟩; obtain ⟨hc, hf⟩ : _ ∧ _ := ⟨(Fb.new w 50 #[.string s]).below hb2, hb2.size⟩; have hcc := hc.cell 0; simp at hcc)
    | (go_at_call 90; (with_reducible refine (cII _).mono ?_); rintro e w' ⟨rfl, rfl⟩))
  have HB := Lib.hid (((Below.refl _ _).alloc (Nat.le_refl _) (.cells #[.string s] 50)).trans (hb2.mono (by simp)))
  clear hb2 hc hf hcc hi1 hz cG cII
  go_loopg [] sl.length (fun g wr => IrI w2 s sl g wr)
  case atStart => exact ⟨[], sl, rfl, rfl, rfl, World.iter_heap _ _ _, (Below.refl _ _).alloc (Nat.le_refl _) _⟩
  case round =>
    obtain ⟨a, bb, hab, hbl, hall, hit, hbw⟩ := hrel
    have hdat : s.data.toList = encL a ++ encL bb := by rw [HP.out.eq, List.append_nil, hab, encL_append]
    have HAB := Lib.hid hab
    have HBL := Lib.hid hbl
    have HALL := Lib.hid hall
    have HBW := Lib.hid (HB.out.trans (hbw.mono HB.out.size))
    cases gk with
    | zero =>
      obtain rfl : bb = [] := List.length_eq_zero_iff.1 hbl
      have hnx : ∀ ty, (Instr.next (.pointer (some ⟨w2.heap.size, 0, none⟩)) true ty).run Tryz.prog wr = _ := fun ty => next_done wr w2.heap.size s a (by rw [hdat]; simp [encL]) hit ty
      have HR : Hid (sl.all okS = true) := Lib.hid (by rw [hab, List.append_nil]; exact hall)
      clear hab hbl hdat hit hall hbw
      go_wp2
      go_ret
      exact ⟨ret_bool HR.out.symm, HBW.out⟩
    | succ g =>
      obtain ⟨n, b', rfl⟩ : ∃ n b', bb = n :: b' := by
        match bb, hbl with
        | n :: b', _ => exact ⟨n, b', rfl⟩
      have hn : sgn n = true := HP.out.all n (by rw [hab]; simp)
      have hnx : ∀ ty, (Instr.next (.pointer (some ⟨w2.heap.size, 0, none⟩)) true ty).run Tryz.prog wr = _ := fun ty => next_sign wr w2.heap.size s a n (encL b') (by rw [hdat, encL_cons]) hn hit ty
      obtain ⟨W, hW⟩ : ∃ W, W = wr.iterAt w2.heap.size s (encL (a ++ [n])).length := ⟨_, rfl⟩
      rw [← hW] at hnx
      have hitW : W.heap[w2.heap.size]? = some (.stringIter s (encL (a ++ [n])).length) := by rw [hW]; exact Lib.iterAt_heap _ _ _ _ _ hit
      have hbW : Below w2.heap.size w2 W := by rw [hW]; exact Lib.below_iterAt hbw (by omega) _ _
      have HBX := Lib.hid (HB.out.trans (hbW.mono HB.out.size))
      have cR := inIRI_any n
      cases hk : okS n
      · rw [hk] at cR
        have HR : Hid (sl.all okS = false) := Lib.hid (by rw [hab]; simp [hk])
        clear hab hbl hdat hit hall hbw hW hitW hbW hn hk
        go_wp2_with (go_at_call 91; (with_reducible refine (cR _).mono ?_); rintro e w' ⟨rfl, rfl⟩)
        (try rw [Exit.noGoto_ret])
        go_ret
        exact ⟨ret_bool HR.out.symm, HBX.out⟩
      · rw [hk] at cR
        have hfin : IrI w2 s sl g W := ⟨a ++ [n], b', by rw [hab]; simp, by simpa using hbl, by rw [List.all_append, hall]; simp [hk], hitW, hbW⟩
        have HF := Lib.hid hfin
        clear hab hbl hdat hit hall hbw hW hitW hbW hn hk hfin
        go_wp2_with (go_at_call 91; (with_reducible refine (cR _).mono ?_); rintro e w' ⟨rfl, rfl⟩)
        go_roundg g
        case measure => omega
        case rel => exact HF.out
theorem iriGood_any (s : ByteArray) (sl : List Int) (rest : List UInt8) (hp : Parts s.data.toList sl rest) (hs : s.size ≤ 4294967296) (w : World) :
    Calls Tryz.prog 88 #[.agg #[.string s]] w fun e w' => e = .returned (.bool (iriB s.size sl rest)) ∧ Below w.heap.size w w' := by
  by_cases h1 : rest = []
  · by_cases h2 : s.size ≤ 4096
    · cases h3 : colonB sl
      · rw [iriB_no (.inr (.inr h3))]
        exact iriGood_no s sl rest hp hs (.inr (.inr h3)) w
      · subst h1
        have := iriGood_yes s sl hp h2 h3 w
        unfold iriB
        rw [decide_eq_true h2, h3]
        exact this
    · have h4 : 4096 < s.size := by omega
      rw [iriB_no (.inr (.inl h4))]
      exact iriGood_no s sl rest hp hs (.inr (.inl h4)) w
  · rw [iriB_no (.inl h1)]
    exact iriGood_no s sl rest hp hs (.inl h1) w
/-- A literal's type that is not XLang. -/
def litB (n : Nat) (ok : Bool) (xl : Bool) (iri : Bool) : Bool := decide (n ≤ 4096) && (ok && (!xl && iri))
set_option maxHeartbeats 4000000 in
set_option maxRecDepth 100000 in
theorem litGood_any (a b : ByteArray) (sl tl : List Int) (rest rest' : List UInt8) (hp : Parts a.data.toList sl rest) (hq : Parts b.data.toList tl rest') (hs : a.size ≤ 4294967296) (hs' : b.size ≤ 4294967296) (w : World) :
    Calls Tryz.prog 104 #[.agg #[.string a, .string b, .string mt]] w fun e w' => e = .returned (.bool (litB a.size (decide (rest = [])) (b.toList == lL) (iriB b.size tl rest'))) ∧ Below w.heap.size w w' := by
  have cG := good_any a sl rest hp hs
  have cI := iriGood_any b tl rest' hq hs'
  obtain ⟨ok, hok⟩ : ∃ k, k = decide (rest = []) := ⟨_, rfl⟩
  obtain ⟨i, hi⟩ : ∃ k, k = iriB b.size tl rest' := ⟨_, rfl⟩
  rw [← hok] at cG
  rw [← hi] at cI
  rw [← hok, ← hi]
  obtain ⟨r, hr⟩ : ∃ k, k = litB a.size ok (b.toList == lL) i := ⟨_, rfl⟩
  rw [← hr]
  unfold litB at hr
  clear hok hi hp hq hs hs'
  by_cases h1 : 4096 < a.size
  · have hz : (4096 : Int) < (a.size : Int) := by omega
    have HR : Hid (r = false) := Lib.hid (by rw [hr, decide_eq_false (show ¬ a.size ≤ 4096 by omega)]; rfl)
    clear hr h1 cG cI
    go_enter Tryz.func104, Tryz.ntmps104
    go_wp2
    go_ret
    exact ⟨ret_bool HR.out.symm, (Below.refl _ _).alloc (Nat.le_refl _) _⟩
  · have hz : ¬ (4096 : Int) < (a.size : Int) := by omega
    rw [decide_eq_true (show a.size ≤ 4096 by omega), Bool.true_and] at hr
    clear h1
    cases ok
    · rw [Bool.false_and] at hr
      have HR := Lib.hid hr
      clear hr cI
      go_enter Tryz.func104, Tryz.ntmps104
      go_wp2_with (go_at_call 89; (with_reducible refine (cG _).mono ?_); rintro e w2 ⟨rfl, hb2⟩)
      go_ret
      exact ⟨ret_bool HR.out.symm, ((Below.refl _ _).alloc (Nat.le_refl _) _).trans (hb2.mono (by simp))⟩
    · rw [Bool.true_and] at hr
      cases hx : (b.toList == lL)
      · rw [hx, Bool.not_false, Bool.true_and] at hr
        have HR := Lib.hid hr
        clear hr
        go_enter Tryz.func104, Tryz.ntmps104
        go_wp2_with (first
          | (go_at_call 89; (with_reducible refine (cG _).mono ?_); rintro e w2 ⟨rfl, hb2⟩; have hz2 := hb2.size; have hc := (Fb.new w 53 #[.string a, .string b, .string mt]).below hb2; have c0 := hc.cell 0; have c1 := hc.cell 1; have c2 := hc.cell 2; simp at c0 c1 c2)
          | (go_at_call 88; (with_reducible refine (cI _).mono ?_); rintro e w3 ⟨rfl, hb3⟩))
        go_ret
        exact ⟨ret_bool HR.out.symm, (((Below.refl _ _).alloc (Nat.le_refl _) _).trans (hb2.mono (by simp))).trans (hb3.mono (by have := hb2.size; simp at this; omega))⟩
      · rw [hx, Bool.not_true, Bool.false_and] at hr
        have HR := Lib.hid hr
        clear hr cI
        go_enter Tryz.func104, Tryz.ntmps104
        go_wp2_with (go_at_call 89; (with_reducible refine (cG _).mono ?_); rintro e w2 ⟨rfl, hb2⟩; have hz2 := hb2.size; have hc := (Fb.new w 53 #[.string a, .string b, .string mt]).below hb2; have c0 := hc.cell 0; have c1 := hc.cell 1; have c2 := hc.cell 2; simp at c0 c1 c2)
        go_ret
        exact ⟨ret_bool HR.out.symm, ((Below.refl _ _).alloc (Nat.le_refl _) _).trans (hb2.mono (by simp))⟩
end Go.Proofs.YtaoelnfflkkeeaaGreatDoor
