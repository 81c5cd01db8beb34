/-
  MERGED (a claim has at most 60 files): Meas, TPl, TGood.
-/
import Derived.Test.YtehechbiajbobaaZ04
import Derived.Test.YtehechbiajbobaaZ01
import Derived.Lib.Bytealg
import Derived.Test.YtehechbiajbobaaZ00
/-
  THE PROGRAM's 'measure', 'Good', 'Len': how many signs, and how many bytes, stand ahead of what is no sign's.
-/
namespace Go.Proofs.Ytehechbiajbobaa
open Go.RowKit

theorem enc_bad : Lib.encodeRune 65533 = [239, 191, 189] := by decide
theorem pre_sign (r : List UInt8) : Lib.hasPrefix (Lib.encodeRune 65533 ++ r) [239, 191, 189] = true := by
  rw [enc_bad]; simp [Lib.hasPrefix]
theorem pre_bad (l : List UInt8) (h : Bad l) : Lib.hasPrefix l [239, 191, 189] = false := by
  rw [Bool.eq_false_iff]
  intro hp
  have : ∃ t, l = [239, 191, 189] ++ t := by
    simp [Lib.hasPrefix] at hp
    obtain ⟨t, ht⟩ := hp
    exact ⟨t, ht.symm⟩
  obtain ⟨t, rfl⟩ := this
  have := dec_good 65533 t (by decide)
  rw [enc_bad] at this
  exact this h.2

def MI (w : World) (s : ByteArray) (sl : List Int) (g : Nat) (c : Value) (wr : World) : Prop :=
  ∃ a b, sl = a ++ b ∧ b.length = g ∧ c = .int .i64 a.length ∧ wr.heap[w.heap.size]? = some (.stringIter s (encL a).length) ∧ Below w.heap.size w wr

set_option maxHeartbeats 4000000 in
set_option maxRecDepth 100000 in
theorem measure_any (s : ByteArray) (sl : List Int) (rest : List UInt8) (hp : Parts s.data.toList sl rest) (hsz : s.size ≤ 4294967296) (w : World) :
    Calls Try.prog 64 #[.string s] w fun e w' => e = .returned (.tuple #[.int .i64 sl.length, .int .i64 (encL sl).length]) ∧ Below w.heap.size w w' := by
  have hlen : (encL sl).length + rest.length = s.size := by rw [len_of s _ hp.eq]; simp
  have hsl := (encL_len sl).1
  have HP := Lib.hid hp
  clear hp
  go_enter Try.func64, Try.ntmps64
  go_wp2
  go_loopg [2] sl.length (fun g c wr => MI w s sl g c wr)
  case atStart => exact ⟨[], sl, rfl, rfl, rfl, World.iter_heap _ _ _, (Below.refl _ _).alloc (Nat.le_refl _) _⟩
  case round =>
    obtain ⟨a, b, hab, hbl, rfl, hit, hbw⟩ := hrel
    have hpl : (encL a).length ≤ (encL sl).length := by rw [hab, encL_append]; simp
    have hal := (encL_len a).1
    have hdat : s.data.toList = encL a ++ (encL b ++ rest) := by rw [HP.out.eq, hab, encL_append, List.append_assoc]
    have hext : (s.extract (encL a).length s.size).data.toList = encL b ++ rest := by rw [extract_end, hdat, List.drop_left]
    have HX := Lib.hid hext
    have HAB := Lib.hid hab
    have HBL := Lib.hid hbl
    clear hext
    cases gk with
    | zero =>
      obtain rfl : b = [] := List.length_eq_zero_iff.1 hbl
      have hasl : sl = a := by rw [hab, List.append_nil]
      have HA := Lib.hid hasl
      have hle : (encL sl).length = (encL a).length := by rw [hasl]
      by_cases hr : rest = []
      · have hnx : ∀ ty, (Instr.next (.pointer (some ⟨w.heap.size, 0, none⟩)) true ty).run Try.prog wr = _ := fun ty => next_done wr w.heap.size s a (by rw [hdat, hr]; simp [encL]) hit ty
        have hr0 : rest.length = 0 := by rw [hr]; rfl
        have hss : s.size = (encL a).length := by omega
        have HSS := Lib.hid hss
        clear hab hbl hdat hasl hle hr hr0 hss hlen
        go_wp2
        go_ret2
        exact ⟨ret_two ⟨by rw [HA.out], by rw [HA.out, HSS.out]⟩, hbw⟩
      · have hbad : Bad rest := HP.out.bad.resolve_left hr
        have hnx : ∀ ty, (Instr.next (.pointer (some ⟨w.heap.size, 0, none⟩)) true ty).run Try.prog wr = _ := fun ty => next_bad wr w.heap.size s a rest (by rw [hdat]; simp [encL]) hbad hit ty
        have cH : ∀ W, Calls Try.prog 69 #[.string (s.extract (encL a).length s.size), .string ⟨#[239, 191, 189]⟩] W fun e w' => e = .returned (.bool false) ∧ W = w' := fun W =>
          (Try.strings_HasPrefix _ _ W).mono fun e w' ⟨h1, h2⟩ => ⟨by rw [h1, HX.out]; rw [show (encL [] ++ rest) = rest from rfl, pre_bad rest hbad], h2.symm⟩
        have hb2 := Lib.below_iterAt hbw (k := w.heap.size) (by omega) s ((encL a).length + 1)
        clear hab hbl hdat hasl hle hr hbad hit
        go_wp2_with (go_at_call 69; refine (cH _).mono ?_; rintro e w' ⟨rfl, rfl⟩)
        go_ret2
        exact ⟨ret_two ⟨by rw [HA.out], by rw [HA.out]⟩, hb2⟩
    | succ g =>
      obtain ⟨n, b', rfl⟩ : ∃ n b', b = n :: b' := by
        match b, hbl with
        | n :: b', _ => exact ⟨n, b', rfl⟩
      have hn : sgn n = true := HP.out.all n (by rw [hab]; simp)
      have hnx : ∀ ty, (Instr.next (.pointer (some ⟨w.heap.size, 0, none⟩)) true ty).run Try.prog wr = _ := fun ty => next_sign wr w.heap.size s a n (encL b' ++ rest) (by rw [hdat, encL_cons, List.append_assoc]) hn hit ty
      have hfin : MI w s sl g (.int .i64 (a.length + 1)) (wr.iterAt w.heap.size s (encL (a ++ [n])).length) :=
        ⟨a ++ [n], b', by rw [hab]; simp, by simpa using hbl, by simp, Lib.iterAt_heap _ _ _ _ _ hit, Lib.below_iterAt hbw (by omega) _ _⟩
      have HF := Lib.hid hfin
      have cH : ∀ W, n = 65533 → Calls Try.prog 69 #[.string (s.extract (encL a).length s.size), .string ⟨#[239, 191, 189]⟩] W fun e w' => e = .returned (.bool true) ∧ W = w' := fun W hn =>
        (Try.strings_HasPrefix _ _ W).mono fun e w' ⟨h1, h2⟩ => ⟨by rw [h1, HX.out, encL_cons, hn, List.append_assoc]; rw [pre_sign], h2.symm⟩
      by_cases hc : n = 65533
      · have hcB : (n == 65533) = true := by simpa using hc
        have cH2 := fun W => cH W hc
        clear cH hc hab hbl hdat hn hfin hit
        go_wp2_with (go_at_call 69; refine (cH2 _).mono ?_; rintro e w' ⟨rfl, rfl⟩)
        go_roundg g
        case measure => omega
        case rel => exact HF.out
      · have hcB : (n == 65533) = false := by simpa using hc
        clear cH hc hab hbl hdat hn hfin hit
        go_wp2
        go_roundg g
        case measure => omega
        case rel => exact HF.out

theorem good_any (s : ByteArray) (sl : List Int) (rest : List UInt8) (hp : Parts s.data.toList sl rest) (hsz : s.size ≤ 4294967296) (w : World) :
    Calls Try.prog 61 #[.string s] w fun e w' => e = .returned (.bool (decide (rest = []))) ∧ Below w.heap.size w w' := by
  have hlen : (encL sl).length + rest.length = s.size := by rw [len_of s _ hp.eq]; simp
  have hm := measure_any s sl rest hp hsz
  clear hp
  by_cases hr : rest = []
  · have hr0 : rest.length = 0 := by rw [hr]; rfl
    have hd : decide (rest = []) = true := decide_eq_true hr
    have hB : (((encL sl).length : Int) == (s.size : Int)) = true := by simp; omega
    rw [hd]
    clear hr hd hr0 hlen
    go_enter Try.func61, Try.ntmps61
    go_wp2_with (go_at_call 64; refine (hm _).mono ?_; rintro e w2 ⟨rfl, hb⟩)
    go_ret
    exact ⟨ret_bool (by first | rfl | assumption), hb⟩
  · have hr0 : 0 < rest.length := List.length_pos_iff.2 hr
    have hd : decide (rest = []) = false := decide_eq_false hr
    have hB : (((encL sl).length : Int) == (s.size : Int)) = false := by simp; omega
    rw [hd]
    clear hr hd hr0 hlen
    go_enter Try.func61, Try.ntmps61
    go_wp2_with (go_at_call 64; refine (hm _).mono ?_; rintro e w2 ⟨rfl, hb⟩)
    go_ret
    exact ⟨ret_bool (by first | rfl | assumption), hb⟩
end Go.Proofs.Ytehechbiajbobaa

/-
  COLONS IN TEXTS, plain: the byte is where the sign is.
-/
namespace Go.Proofs.Ytehechbiajbobaa
open Go.Lib

theorem enc_colon : encodeRune 58 = [58] := by decide
theorem u8_ne {z : Int} (h0 : 0 ≤ z) (h1 : z < 256) (h : z ≠ 58) : z.toNat.toUInt8 ≠ 58 := by
  intro e
  have := congrArg UInt8.toNat e
  rw [u8n z h0 h1] at this
  have e2 : (58 : UInt8).toNat = 58 := rfl
  omega
theorem enc_nocolon (n : Int) (h : sgn n = true) (hn : n ≠ 58) : (58 : UInt8) ∉ encodeRune n := by
  obtain ⟨h0, h1, h2⟩ := (sgn_iff n).1 h
  unfold encodeRune
  by_cases a : n ≤ 127
  · rw [encodeRuneZ_one h0 a]
    simp only [List.map_cons, List.map_nil, List.mem_singleton]
    exact fun e => u8_ne h0 (by omega) hn e.symm
  by_cases b : n ≤ 2047
  · rw [encodeRuneZ_two (by omega) b]
    simp only [List.map_cons, List.map_nil, List.mem_cons, List.not_mem_nil, or_false, not_or]
    exact ⟨fun e => u8_ne (by omega) (by omega) (by omega) e.symm, fun e => u8_ne (by omega) (by omega) (by omega) e.symm⟩
  by_cases c : n ≤ 65535
  · rw [encodeRuneZ_three (by omega)]
    simp only [List.map_cons, List.map_nil, List.mem_cons, List.not_mem_nil, or_false, not_or]
    exact ⟨fun e => u8_ne (by omega) (by omega) (by omega) e.symm, fun e => u8_ne (by omega) (by omega) (by omega) e.symm, fun e => u8_ne (by omega) (by omega) (by omega) e.symm⟩
  · rw [encodeRuneZ_four (by omega) h1]
    simp only [List.map_cons, List.map_nil, List.mem_cons, List.not_mem_nil, or_false, not_or]
    exact ⟨fun e => u8_ne (by omega) (by omega) (by omega) e.symm, fun e => u8_ne (by omega) (by omega) (by omega) e.symm, fun e => u8_ne (by omega) (by omega) (by omega) e.symm, fun e => u8_ne (by omega) (by omega) (by omega) e.symm⟩
theorem indexByte_skip : ∀ (l r : List UInt8) (c : UInt8), c ∉ l → indexByte (l ++ r) c = if indexByte r c = -1 then -1 else indexByte r c + l.length
  | [], r, c, _ => by simp
  | b :: l, r, c, h => by
    have hb : (b == c) = false := by
      rw [beq_eq_false_iff_ne]
      exact fun e => h (by rw [e]; exact List.mem_cons_self ..)
    have hc : c ∉ l := fun e => h (List.mem_cons_of_mem _ e)
    have ih := indexByte_skip l r c hc
    have hg := indexByte_ge r c
    rw [List.cons_append, indexByte, hb, ih, List.length_cons, if_neg (by decide)]
    by_cases h1 : indexByte r c = -1
    · simp [h1]
    · rw [if_neg h1, if_neg h1, if_neg (by rw [beq_iff_eq]; omega)]; omega
/-- A colon, and something ahead of the first one. -/
def colonB (sl : List Int) : Bool := decide (58 ∈ sl ∧ sl.head? ≠ some 58)
theorem colon_none : ∀ (sl : List Int), AllS sl → (indexByte (encL sl) 58 = -1 ↔ 58 ∉ sl)
  | [], _ => by simp [encL, indexByte]
  | n :: sl, h => by
    have ih := colon_none sl h.tail
    by_cases hn : n = 58
    · subst hn
      rw [encL_cons, enc_colon]
      simp [indexByte]
    · rw [encL_cons, indexByte_skip _ _ _ (enc_nocolon n h.head hn)]
      have hg := indexByte_ge (encL sl) 58
      by_cases h1 : indexByte (encL sl) 58 = -1
      · rw [if_pos h1]
        have := ih.1 h1
        simp [this, Ne.symm hn]
      · rw [if_neg h1]
        have : 58 ∈ sl := Classical.byContradiction fun e => h1 (ih.2 e)
        simp [this]; omega
theorem colon_at (sl : List Int) (h : AllS sl) : decide (indexByte (encL sl) 58 < 1) = !colonB sl := by
  unfold colonB
  match sl, h with
  | [], _ => decide
  | n :: sl, h =>
    by_cases hn : n = 58
    · subst hn
      rw [encL_cons, enc_colon]
      simp [indexByte]
    · have hc := colon_none sl h.tail
      rw [encL_cons, indexByte_skip _ _ _ (enc_nocolon n h.head hn)]
      have hg := indexByte_ge (encL sl) 58
      have hl := (enc_len n).1
      by_cases h1 : indexByte (encL sl) 58 = -1
      · rw [if_pos h1]
        have := hc.1 h1
        simp [this, Ne.symm hn]
      · rw [if_neg h1]
        have : 58 ∈ sl := Classical.byContradiction fun e => h1 (hc.2 e)
        simp [this, hn]; omega
end Go.Proofs.Ytehechbiajbobaa

/-
  WHETHER A TEXT IS AN IRI's, a literal's without a language: the program's.
-/
namespace Go.Proofs.Ytehechbiajbobaa
open Go.RowKit
set_option linter.unusedVariables false

/-- May a sign stand in an IRI? -/
def okS (n : Int) : Bool := decide (¬ (n = 60 ∨ n = 62 ∨ n = 34 ∨ n = 123 ∨ n = 125 ∨ n = 124 ∨ n = 94 ∨ n = 96 ∨ n = 92) ∧ cls n ≠ 0 ∧ cls n ≠ 4)
set_option linter.unusedSimpArgs false in
set_option maxHeartbeats 2000000 in
theorem inIRI_any (n : Int) (w : World) : Calls Try.prog 68 #[.int .i32 n] w fun e w' => e = .returned (.bool (okS n)) ∧ w = w' := by
  have cC := class_any n
  obtain ⟨r, hr⟩ : ∃ r, r = okS n := ⟨_, rfl⟩
  rw [← hr]
  unfold okS at hr
  obtain ⟨k, hk⟩ : ∃ k, k = cls n := ⟨_, rfl⟩
  rw [← hk] at cC hr
  clear hk
  have HR := Lib.hid hr
  clear hr
  by_cases hb : n = 60 ∨ n = 62 ∨ n = 34 ∨ n = 123 ∨ n = 125 ∨ n = 124 ∨ n = 94 ∨ n = 96 ∨ n = 92
  · have H : Hid (r = false) := Lib.hid (by rw [HR.out]; simp [hb])
    rcases hb with rfl | rfl | rfl | rfl | rfl | rfl | rfl | rfl | rfl
    all_goals
      go_enter Try.func68, Try.ntmps68
      go_wp2
      go_ret
      exact ⟨ret_bool H.out.symm, rfl⟩
  · have h1 : (n == 60) = false := by simp; omega
    have h2 : (n == 62) = false := by simp; omega
    have h3 : (n == 34) = false := by simp; omega
    have h4 : (n == 123) = false := by simp; omega
    have h5 : (n == 125) = false := by simp; omega
    have h6 : (n == 124) = false := by simp; omega
    have h7 : (n == 94) = false := by simp; omega
    have h8 : (n == 96) = false := by simp; omega
    have h9 : (n == 92) = false := by simp; omega
    have H : Hid (r = decide (k ≠ 0 ∧ k ≠ 4)) := Lib.hid (by rw [HR.out]; simp only [hb, not_false_eq_true, true_and])
    clear hb HR
    by_cases k0 : k = 0
    · have hk0 : (k != 0) = false := by simp [k0]
      have H2 : Hid (r = false) := Lib.hid (by rw [H.out]; simp [k0])
      clear k0
      go_enter Try.func68, Try.ntmps68
      go_wp2_with (go_at_call 66; (with_reducible refine (cC _).mono ?_); rintro e w' ⟨rfl, rfl⟩)
      go_ret
      exact ⟨ret_bool H2.out.symm, rfl⟩
    · have hk0 : (k != 0) = true := by simp [k0]
      have H2 : Hid (r = (k != 4)) := Lib.hid (by rw [H.out, Bool.eq_iff_iff]; simp [k0])
      clear k0
      obtain ⟨q, hq⟩ : ∃ q, q = (k != 4) := ⟨_, rfl⟩
      go_enter Try.func68, Try.ntmps68
      go_wp2_with (go_at_call 66; (with_reducible refine (cC _).mono ?_); rintro e w' ⟨rfl, rfl⟩)
      go_ret
      exact ⟨ret_bool H2.out.symm, rfl⟩
/-- An IRI's text, of so many bytes, its signs, and what is none's behind them. -/
def iriB (n : Nat) (sl : List Int) (rest : List UInt8) : Bool := decide (rest = []) && (decide (n ≤ 4096) && (colonB sl && sl.all okS))
def IrI (w2 : World) (s : ByteArray) (sl : List Int) (g : Nat) (wr : World) : Prop :=
  ∃ a b, sl = a ++ b ∧ b.length = g ∧ a.all okS = true ∧ wr.heap[w2.heap.size]? = some (.stringIter s (encL a).length) ∧ Below w2.heap.size w2 wr
theorem iriB_no {n : Nat} {sl : List Int} {rest : List UInt8} (h : rest ≠ [] ∨ 4096 < n ∨ colonB sl = false) : iriB n sl rest = false := by
  unfold iriB
  rcases h with h | h | h
  · rw [decide_eq_false h]; rfl
  · rw [decide_eq_false (show ¬ n ≤ 4096 by omega)]; simp
  · rw [h]; simp
set_option maxHeartbeats 4000000 in
theorem iriGood_no (s : ByteArray) (sl : List Int) (rest : List UInt8) (hp : Parts s.data.toList sl rest) (hs : s.size ≤ 4294967296) (h : rest ≠ [] ∨ 4096 < s.size ∨ colonB sl = false) (w : World) :
    Calls Try.prog 63 #[.agg #[.string s]] w fun e w' => e = .returned (.bool false) ∧ Below w.heap.size w w' := by
  have cG := good_any s sl rest hp hs
  by_cases h1 : 4096 < s.size
  · have hz : (4096 : Int) < (s.size : Int) := by omega
    clear h cG hp
    go_enter Try.func63, Try.ntmps63
    go_wp2
    go_ret
    exact ⟨rfl, (Below.refl _ _).alloc (Nat.le_refl _) _⟩
  · have hz : ¬ (4096 : Int) < (s.size : Int) := by omega
    by_cases h2 : rest = []
    · have h3 : colonB sl = false := by
        rcases h with h | h | h
        · exact absurd h2 h
        · omega
        · exact h
      have cI : ∀ W, Calls Try.prog 67 #[.string s, .string ⟨#[58]⟩] W fun e w' => e = .returned (.int .i64 (Lib.indexByte s.data.toList 58)) ∧ w' = W := fun W => Try.strings_Index_one s 58 W
      obtain ⟨i, hi⟩ : ∃ i, i = Lib.indexByte s.data.toList 58 := ⟨_, rfl⟩
      rw [← hi] at cI
      have hi1 : i < 1 := by
        have := colon_at sl hp.all
        rw [h3, hp.eq] at *
        subst h2
        rw [List.append_nil] at hi
        rw [hi]
        simpa using this
      have hd : decide (rest = []) = true := decide_eq_true h2
      rw [hd] at cG
      have cII : ∀ W, Calls Try.prog 67 #[.string s, .string ⟨#[58]⟩] W fun e w' => e = .returned (.int .i64 i) ∧ W = w' := fun W => (cI W).mono fun _ _ ⟨a, b⟩ => ⟨a, b.symm⟩
      clear h h1 h2 h3 hd hp hi cI
      go_enter Try.func63, Try.ntmps63
      go_wp2_with (first
        | (go_at_call 61; (with_reducible refine (cG _).mono ?_); rintro e w2 ⟨rfl, hb2⟩; obtain ⟨hc, hf⟩ : _ ∧ _ := ⟨(Fb.new w 83 #[.string s]).below hb2, hb2.size⟩; have hcc := hc.cell 0; simp at hcc)
        | (go_at_call 67; (with_reducible refine (cII _).mono ?_); rintro e w' ⟨rfl, rfl⟩))
      go_ret
      exact ⟨rfl, ((Below.refl _ _).alloc (Nat.le_refl _) _).trans (hb2.mono (by simp))⟩
    · have hd : decide (rest = []) = false := decide_eq_false h2
      rw [hd] at cG
      clear h h1 h2 hd hp
      go_enter Try.func63, Try.ntmps63
      go_wp2_with (go_at_call 61; (with_reducible refine (cG _).mono ?_); rintro e w2 ⟨rfl, hb2⟩)
      go_ret
      exact ⟨rfl, ((Below.refl _ _).alloc (Nat.le_refl _) _).trans (hb2.mono (by simp))⟩
set_option maxHeartbeats 4000000 in
set_option maxRecDepth 100000 in
theorem iriGood_yes (s : ByteArray) (sl : List Int) (hp : Parts s.data.toList sl []) (hs : s.size ≤ 4096) (h : colonB sl = true) (w : World) :
    Calls Try.prog 63 #[.agg #[.string s]] w fun e w' => e = .returned (.bool (sl.all okS)) ∧ Below w.heap.size w w' := by
  have cG := good_any s sl [] hp (by omega)
  have hd : decide (([] : List UInt8) = []) = true := rfl
  rw [hd] at cG
  have cI : ∀ W, Calls Try.prog 67 #[.string s, .string ⟨#[58]⟩] W fun e w' => e = .returned (.int .i64 (Lib.indexByte s.data.toList 58)) ∧ w' = W := fun W => Try.strings_Index_one s 58 W
  obtain ⟨i, hi⟩ : ∃ i, i = Lib.indexByte s.data.toList 58 := ⟨_, rfl⟩
  rw [← hi] at cI
  have hi1 : ¬ i < 1 := by
    have := colon_at sl hp.all
    rw [h] at this
    rw [hp.eq, List.append_nil] at hi
    rw [hi]
    simpa using this
  have cII : ∀ W, Calls Try.prog 67 #[.string s, .string ⟨#[58]⟩] W fun e w' => e = .returned (.int .i64 i) ∧ W = w' := fun W => (cI W).mono fun _ _ ⟨a, b⟩ => ⟨a, b.symm⟩
  have hz : ¬ (4096 : Int) < (s.size : Int) := by omega
  have HP := Lib.hid hp
  clear hd hp h hi cI
  go_enter Try.func63, Try.ntmps63
  go_wp2_with (first
    | (go_at_call 61; (with_reducible refine (cG _).mono ?_); rintro e w2 ⟨rfl, hb2⟩; obtain ⟨hc, hf⟩ : _ ∧ _ := ⟨(Fb.new w 83 #[.string s]).below hb2, hb2.size⟩; have hcc := hc.cell 0; simp at hcc)
    | (go_at_call 67; (with_reducible refine (cII _).mono ?_); rintro e w' ⟨rfl, rfl⟩))
  have HB := Lib.hid (((Below.refl _ _).alloc (Nat.le_refl _) (.cells #[.string s] 83)).trans (hb2.mono (by simp)))
  clear hb2 hc hf hcc hi1 hz cG cII
  go_loopg [] sl.length (fun g wr => IrI w2 s sl g wr)
  case atStart => exact ⟨[], sl, rfl, rfl, rfl, World.iter_heap _ _ _, (Below.refl _ _).alloc (Nat.le_refl _) _⟩
  case round =>
    obtain ⟨a, bb, hab, hbl, hall, hit, hbw⟩ := hrel
    have hdat : s.data.toList = encL a ++ encL bb := by rw [HP.out.eq, List.append_nil, hab, encL_append]
    have HAB := Lib.hid hab
    have HBL := Lib.hid hbl
    have HALL := Lib.hid hall
    have HBW := Lib.hid (HB.out.trans (hbw.mono HB.out.size))
    cases gk with
    | zero =>
      obtain rfl : bb = [] := List.length_eq_zero_iff.1 hbl
      have hnx : ∀ ty, (Instr.next (.pointer (some ⟨w2.heap.size, 0, none⟩)) true ty).run Try.prog wr = _ := fun ty => next_done wr w2.heap.size s a (by rw [hdat]; simp [encL]) hit ty
      have HR : Hid (sl.all okS = true) := Lib.hid (by rw [hab, List.append_nil]; exact hall)
      clear hab hbl hdat hit hall hbw
      go_wp2
      go_ret
      exact ⟨ret_bool HR.out.symm, HBW.out⟩
    | succ g =>
      obtain ⟨n, b', rfl⟩ : ∃ n b', bb = n :: b' := by
        match bb, hbl with
        | n :: b', _ => exact ⟨n, b', rfl⟩
      have hn : sgn n = true := HP.out.all n (by rw [hab]; simp)
      have hnx : ∀ ty, (Instr.next (.pointer (some ⟨w2.heap.size, 0, none⟩)) true ty).run Try.prog wr = _ := fun ty => next_sign wr w2.heap.size s a n (encL b') (by rw [hdat, encL_cons]) hn hit ty
      obtain ⟨W, hW⟩ : ∃ W, W = wr.iterAt w2.heap.size s (encL (a ++ [n])).length := ⟨_, rfl⟩
      rw [← hW] at hnx
      have hitW : W.heap[w2.heap.size]? = some (.stringIter s (encL (a ++ [n])).length) := by rw [hW]; exact Lib.iterAt_heap _ _ _ _ _ hit
      have hbW : Below w2.heap.size w2 W := by rw [hW]; exact Lib.below_iterAt hbw (by omega) _ _
      have HBX := Lib.hid (HB.out.trans (hbW.mono HB.out.size))
      have cR := inIRI_any n
      cases hk : okS n
      · rw [hk] at cR
        have HR : Hid (sl.all okS = false) := Lib.hid (by rw [hab]; simp [hk])
        clear hab hbl hdat hit hall hbw hW hitW hbW hn hk
        go_wp2_with (go_at_call 68; (with_reducible refine (cR _).mono ?_); rintro e w' ⟨rfl, rfl⟩)
        (try rw [Exit.noGoto_ret])
        go_ret
        exact ⟨ret_bool HR.out.symm, HBX.out⟩
      · rw [hk] at cR
        have hfin : IrI w2 s sl g W := ⟨a ++ [n], b', by rw [hab]; simp, by simpa using hbl, by rw [List.all_append, hall]; simp [hk], hitW, hbW⟩
        have HF := Lib.hid hfin
        clear hab hbl hdat hit hall hbw hW hitW hbW hn hk hfin
        go_wp2_with (go_at_call 68; (with_reducible refine (cR _).mono ?_); rintro e w' ⟨rfl, rfl⟩)
        go_roundg g
        case measure => omega
        case rel => exact HF.out
theorem iriGood_any (s : ByteArray) (sl : List Int) (rest : List UInt8) (hp : Parts s.data.toList sl rest) (hs : s.size ≤ 4294967296) (w : World) :
    Calls Try.prog 63 #[.agg #[.string s]] w fun e w' => e = .returned (.bool (iriB s.size sl rest)) ∧ Below w.heap.size w w' := by
  by_cases h1 : rest = []
  · by_cases h2 : s.size ≤ 4096
    · cases h3 : colonB sl
      · rw [iriB_no (.inr (.inr h3))]
        exact iriGood_no s sl rest hp hs (.inr (.inr h3)) w
      · subst h1
        have := iriGood_yes s sl hp h2 h3 w
        unfold iriB
        rw [decide_eq_true h2, h3]
        exact this
    · have h4 : 4096 < s.size := by omega
      rw [iriB_no (.inr (.inl h4))]
      exact iriGood_no s sl rest hp hs (.inr (.inl h4)) w
  · rw [iriB_no (.inl h1)]
    exact iriGood_no s sl rest hp hs (.inl h1) w
/-- A literal's type that is not XLang. -/
def litB (n : Nat) (ok : Bool) (xl : Bool) (iri : Bool) : Bool := decide (n ≤ 4096) && (ok && (!xl && iri))
set_option maxHeartbeats 4000000 in
set_option maxRecDepth 100000 in
theorem litGood_any (a b : ByteArray) (sl tl : List Int) (rest rest' : List UInt8) (hp : Parts a.data.toList sl rest) (hq : Parts b.data.toList tl rest') (hs : a.size ≤ 4294967296) (hs' : b.size ≤ 4294967296) (w : World) :
    Calls Try.prog 60 #[.agg #[.string a, .string b, .string mt]] w fun e w' => e = .returned (.bool (litB a.size (decide (rest = [])) (b.toList == lL) (iriB b.size tl rest'))) ∧ Below w.heap.size w w' := by
  have cG := good_any a sl rest hp hs
  have cI := iriGood_any b tl rest' hq hs'
  obtain ⟨ok, hok⟩ : ∃ k, k = decide (rest = []) := ⟨_, rfl⟩
  obtain ⟨i, hi⟩ : ∃ k, k = iriB b.size tl rest' := ⟨_, rfl⟩
  rw [← hok] at cG
  rw [← hi] at cI
  rw [← hok, ← hi]
  obtain ⟨r, hr⟩ : ∃ k, k = litB a.size ok (b.toList == lL) i := ⟨_, rfl⟩
  rw [← hr]
  unfold litB at hr
  clear hok hi hp hq hs hs'
  by_cases h1 : 4096 < a.size
  · have hz : (4096 : Int) < (a.size : Int) := by omega
    have HR : Hid (r = false) := Lib.hid (by rw [hr, decide_eq_false (show ¬ a.size ≤ 4096 by omega)]; rfl)
    clear hr h1 cG cI
    go_enter Try.func60, Try.ntmps60
    go_wp2
    go_ret
    exact ⟨ret_bool HR.out.symm, (Below.refl _ _).alloc (Nat.le_refl _) _⟩
  · have hz : ¬ (4096 : Int) < (a.size : Int) := by omega
    rw [decide_eq_true (show a.size ≤ 4096 by omega), Bool.true_and] at hr
    clear h1
    cases ok
    · rw [Bool.false_and] at hr
      have HR := Lib.hid hr
      clear hr cI
      go_enter Try.func60, Try.ntmps60
      go_wp2_with (go_at_call 61; (with_reducible refine (cG _).mono ?_); rintro e w2 ⟨rfl, hb2⟩)
      go_ret
      exact ⟨ret_bool HR.out.symm, ((Below.refl _ _).alloc (Nat.le_refl _) _).trans (hb2.mono (by simp))⟩
    · rw [Bool.true_and] at hr
      cases hx : (b.toList == lL)
      · rw [hx, Bool.not_false, Bool.true_and] at hr
        have HR := Lib.hid hr
        clear hr
        go_enter Try.func60, Try.ntmps60
        go_wp2_with (first
          | (go_at_call 61; (with_reducible refine (cG _).mono ?_); rintro e w2 ⟨rfl, hb2⟩; have hz2 := hb2.size; have hc := (Fb.new w 72 #[.string a, .string b, .string mt]).below hb2; have c0 := hc.cell 0; have c1 := hc.cell 1; have c2 := hc.cell 2; simp at c0 c1 c2)
          | (go_at_call 63; (with_reducible refine (cI _).mono ?_); rintro e w3 ⟨rfl, hb3⟩))
        go_ret
        exact ⟨ret_bool HR.out.symm, (((Below.refl _ _).alloc (Nat.le_refl _) _).trans (hb2.mono (by simp))).trans (hb3.mono (by have := hb2.size; simp at this; omega))⟩
      · rw [hx, Bool.not_true, Bool.false_and] at hr
        have HR := Lib.hid hr
        clear hr cI
        go_enter Try.func60, Try.ntmps60
        go_wp2_with (go_at_call 61; (with_reducible refine (cG _).mono ?_); rintro e w2 ⟨rfl, hb2⟩; have hz2 := hb2.size; have hc := (Fb.new w 72 #[.string a, .string b, .string mt]).below hb2; have c0 := hc.cell 0; have c1 := hc.cell 1; have c2 := hc.cell 2; simp at c0 c1 c2)
        go_ret
        exact ⟨ret_bool HR.out.symm, ((Below.refl _ _).alloc (Nat.le_refl _) _).trans (hb2.mono (by simp))⟩
end Go.Proofs.Ytehechbiajbobaa
