/-
  THE PROGRAM's 'measure', 'Good', 'Len': how many signs, and how many bytes, stand ahead of what is no sign's.
-/
import Derived.Test.YtaoelnfflkkeeaaGreatDoorSigns
namespace Go.Proofs.YtaoelnfflkkeeaaGreatDoor
open Go.RowKit

theorem enc_bad : Lib.encodeRune 65533 = [239, 191, 189] := by decide
theorem pre_sign (r : List UInt8) : Lib.hasPrefix (Lib.encodeRune 65533 ++ r) [239, 191, 189] = true := by
  rw [enc_bad]; simp [Lib.hasPrefix]
theorem pre_bad (l : List UInt8) (h : Bad l) : Lib.hasPrefix l [239, 191, 189] = false := by
  rw [Bool.eq_false_iff]
  intro hp
  have : ∃ t, l = [239, 191, 189] ++ t := by
    simp [Lib.hasPrefix] at hp
    obtain ⟨t, ht⟩ := hp
    exact ⟨t, ht.symm⟩
  obtain ⟨t, rfl⟩ := this
  have := dec_good 65533 t (by decide)
  rw [enc_bad] at this
  exact this h.2

def MI (w : World) (s : ByteArray) (sl : List Int) (g : Nat) (c : Value) (wr : World) : Prop :=
  ∃ a b, sl = a ++ b ∧ b.length = g ∧ c = .int .i64 a.length ∧ wr.heap[w.heap.size]? = some (.stringIter s (encL a).length) ∧ Below w.heap.size w wr

set_option maxHeartbeats 4000000 in
set_option maxRecDepth 100000 in
theorem measure_any (s : ByteArray) (sl : List Int) (rest : List UInt8) (hp : Parts s.data.toList sl rest) (hsz : s.size ≤ 4294967296) (w : World) :
    Calls Tryz.prog 92 #[.string s] w fun e w' => e = .returned (.tuple #[.int .i64 sl.length, .int .i64 (encL sl).length]) ∧ Below w.heap.size w w' := by
  have hlen : (encL sl).length + rest.length = s.size := by rw [len_of s _ hp.eq]; simp
  have hsl := (encL_len sl).1
  have HP := Lib.hid hp
  clear hp
  go_enter Tryz.func92, Tryz.ntmps92
  go_wp2
  go_loopg [2] sl.length (fun g c wr => MI w s sl g c wr)
  case atStart => exact ⟨[], sl, rfl, rfl, rfl, World.iter_heap _ _ _, (Below.refl _ _).alloc (Nat.le_refl _) _⟩
  case round =>
    obtain ⟨a, b, hab, hbl, rfl, hit, hbw⟩ := hrel
    have hpl : (encL a).length ≤ (encL sl).length := by rw [hab, encL_append]; simp
    have hal := (encL_len a).1
    have hdat : s.data.toList = encL a ++ (encL b ++ rest) := by rw [HP.out.eq, hab, encL_append, List.append_assoc]
    have hext : (s.extract (encL a).length s.size).data.toList = encL b ++ rest := by rw [extract_end, hdat, List.drop_left]
    have HX := Lib.hid hext
    have HAB := Lib.hid hab
    have HBL := Lib.hid hbl
    clear hext
    cases gk with
    | zero =>
      obtain rfl : b = [] := List.length_eq_zero_iff.1 hbl
      have hasl : sl = a := by rw [hab, List.append_nil]
      have HA := Lib.hid hasl
      have hle : (encL sl).length = (encL a).length := by rw [hasl]
      by_cases hr : rest = []
      · have hnx : ∀ ty, (Instr.next (.pointer (some ⟨w.heap.size, 0, none⟩)) true ty).run Tryz.prog wr = _ := fun ty => next_done wr w.heap.size s a (by rw [hdat, hr]; simp [encL]) hit ty
        have hr0 : rest.length = 0 := by rw [hr]; rfl
        have hss : s.size = (encL a).length := by omega
        have HSS := Lib.hid hss
        clear hab hbl hdat hasl hle hr hr0 hss hlen
        go_wp2
        go_ret2
        exact ⟨ret_two ⟨by rw [HA.out], by rw [HA.out, HSS.out]⟩, hbw⟩
      · have hbad : Bad rest := HP.out.bad.resolve_left hr
        have hnx : ∀ ty, (Instr.next (.pointer (some ⟨w.heap.size, 0, none⟩)) true ty).run Tryz.prog wr = _ := fun ty => next_bad wr w.heap.size s a rest (by rw [hdat]; simp [encL]) hbad hit ty
        have cH : ∀ W, Calls Tryz.prog 95 #[.string (s.extract (encL a).length s.size), .string ⟨#[239, 191, 189]⟩] W fun e w' => e = .returned (.bool false) ∧ W = w' := fun W =>
          (Tryz.strings_HasPrefix _ _ W).mono fun e w' ⟨h1, h2⟩ => ⟨by rw [h1, HX.out]; rw [show (encL [] ++ rest) = rest from rfl, pre_bad rest hbad], h2.symm⟩
        have hb2 := Lib.below_iterAt hbw (k := w.heap.size) (by omega) s ((encL a).length + 1)
        clear hab hbl hdat hasl hle hr hbad hit
        go_wp2_with (go_at_call 95; refine (cH _).mono ?_; rintro e w' ⟨rfl, rfl⟩)
        go_ret2
        exact ⟨ret_two ⟨by rw [HA.out], by rw [HA.out]⟩, hb2⟩
    | succ g =>
      obtain ⟨n, b', rfl⟩ : ∃ n b', b = n :: b' := by
        match b, hbl with
        | n :: b', _ => exact ⟨n, b', rfl⟩
      have hn : sgn n = true := HP.out.all n (by rw [hab]; simp)
      have hnx : ∀ ty, (Instr.next (.pointer (some ⟨w.heap.size, 0, none⟩)) true ty).run Tryz.prog wr = _ := fun ty => next_sign wr w.heap.size s a n (encL b' ++ rest) (by rw [hdat, encL_cons, List.append_assoc]) hn hit ty
      have hfin : MI w s sl g (.int .i64 (a.length + 1)) (wr.iterAt w.heap.size s (encL (a ++ [n])).length) :=
        ⟨a ++ [n], b', by rw [hab]; simp, by simpa using hbl, by simp, Lib.iterAt_heap _ _ _ _ _ hit, Lib.below_iterAt hbw (by omega) _ _⟩
      have HF := Lib.hid hfin
      have cH : ∀ W, n = 65533 → Calls Tryz.prog 95 #[.string (s.extract (encL a).length s.size), .string ⟨#[239, 191, 189]⟩] W fun e w' => e = .returned (.bool true) ∧ W = w' := fun W hn =>
        (Tryz.strings_HasPrefix _ _ W).mono fun e w' ⟨h1, h2⟩ => ⟨by rw [h1, HX.out, encL_cons, hn, List.append_assoc]; rw [pre_sign], h2.symm⟩
      by_cases hc : n = 65533
      · have hcB : (n == 65533) = true := by simpa using hc
        have cH2 := fun W => cH W hc
        clear cH hc hab hbl hdat hn hfin hit
        go_wp2_with (go_at_call 95; refine (cH2 _).mono ?_; rintro e w' ⟨rfl, rfl⟩)
        go_roundg g
        case measure => omega
        case rel => exact HF.out
      · have hcB : (n == 65533) = false := by simpa using hc
        clear cH hc hab hbl hdat hn hfin hit
        go_wp2
        go_roundg g
        case measure => omega
        case rel => exact HF.out

theorem good_any (s : ByteArray) (sl : List Int) (rest : List UInt8) (hp : Parts s.data.toList sl rest) (hsz : s.size ≤ 4294967296) (w : World) :
    Calls Tryz.prog 89 #[.string s] w fun e w' => e = .returned (.bool (decide (rest = []))) ∧ Below w.heap.size w w' := by
  have hlen : (encL sl).length + rest.length = s.size := by rw [len_of s _ hp.eq]; simp
  have hm := measure_any s sl rest hp hsz
  clear hp
  by_cases hr : rest = []
  · have hr0 : rest.length = 0 := by rw [hr]; rfl
    have hd : decide (rest = []) = true := decide_eq_true hr
    have hB : (((encL sl).length : Int) == (s.size : Int)) = true := by simp; omega
    rw [hd]
    clear hr hd hr0 hlen
    go_enter Tryz.func89, Tryz.ntmps89
    go_wp2_with (go_at_call 92; refine (hm _).mono ?_; rintro e w2 ⟨rfl, hb⟩)
    go_ret
    exact ⟨ret_bool (by first | rfl | assumption), hb⟩
  · have hr0 : 0 < rest.length := List.length_pos_iff.2 hr
    have hd : decide (rest = []) = false := decide_eq_false hr
    have hB : (((encL sl).length : Int) == (s.size : Int)) = false := by simp; omega
    rw [hd]
    clear hr hd hr0 hlen
    go_enter Tryz.func89, Tryz.ntmps89
    go_wp2_with (go_at_call 92; refine (hm _).mono ?_; rintro e w2 ⟨rfl, hb⟩)
    go_ret
    exact ⟨ret_bool (by first | rfl | assumption), hb⟩
end Go.Proofs.YtaoelnfflkkeeaaGreatDoor
