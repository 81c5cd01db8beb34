/-
  MERGED (a claim has at most 60 files): Signs, Meas, New, Laid.
-/
import Derived.Test.YtcllamipcgbfiaaDoorZ03
import Derived.Test.YtcllamipcgbfiaaDoorZ04
import Derived.Laws.Rows
import Derived.Test.YtcllamipcgbfiaaDoorRows
import Derived.WalkKit
import Derived.ProofKit
import Derived.OpenShut
import Derived.Deep.DeepHandedRow
import Derived.Lib.LaidTab
import Derived.MakeChecks
/-
  THE DOCUMENT's 'Signs' and the program's 'measure': the signs of any bytes, as far as they are signs'.
-/
namespace Go.Proofs.YtcllamipcgbfiaaDoor
open Go.RowKit

theorem extract_end (s : ByteArray) (a : Nat) : (s.extract a s.size).data.toList = s.data.toList.drop a := by
  rw [Lib.extract_data, List.take_of_length_le (by rw [List.length_drop, ← Lib.size_eq]; exact Nat.le_refl _)]
structure Parts (l : List UInt8) (sl : List Int) (rest : List UInt8) : Prop where
  eq : l = encL sl ++ rest
  all : AllS sl
  bad : rest = [] ∨ Bad rest
theorem parts_of (l : List UInt8) : ∃ sl rest, Parts l sl rest := by
  obtain ⟨sl, rest, h1, h2, h3⟩ := split_bytes l
  exact ⟨sl, rest, h1, h2, h3⟩
theorem Parts.one {l : List UInt8} {a b : List Int} {r t : List UInt8} (h : Parts l a r) (k : Parts l b t) : a = b ∧ r = t :=
  split_one a b r t (h.eq.symm.trans k.eq) h.all k.all h.bad k.bad

theorem isempty_nil (r : List UInt8) (h : r = []) : decide (r = []) = true := by simp [h]
def intRow (l : List Int) : List Value := l.map (Value.int .i64)
theorem intRow_len (l : List Int) : (intRow l).length = l.length := by simp [intRow]

/-- A slice of integers that the call made. -/
def Ints (B : Nat) (w : World) (v : Value) (l : List Int) : Prop := w.ownsRow B 3 1 v l.length (intRow l)

theorem fstF_sign (s : ByteArray) (n : Int) (r : List UInt8) (h : s.data.toList = Lib.encodeRune n ++ r) (hn : sgn n = true) : fstF s = n ∧ sndF s = (Lib.encodeRune n).length := by
  have hd : Utf8.decode s 0 = (n.toNat, (Lib.encodeRune n).length) := by rw [← Lib.decodeL_drop, List.drop_zero, h, dec_enc n r hn]
  have := F_ok s _ _ hd (by intro h1 h2; have := dec_good n r hn; rw [dec_enc n r hn] at this; exact this ⟨h2, h1⟩) n (Lib.encodeRune n).length (by have := (sgn_iff n).1 hn; omega) rfl
  exact ⟨this.1.symm, this.2.symm⟩
theorem fstF_bad (s : ByteArray) (h : Bad s.data.toList) : fstF s = -1 ∧ sndF s = 0 := by
  have hd : Utf8.decode s 0 = (65533, 1) := by rw [← Lib.decodeL_drop, List.drop_zero]; exact Prod.ext h.2.1 h.2.2
  have := F_bad s hd
  exact ⟨this.1.symm, this.2.symm⟩

theorem intInfo : (Tryd.prog.info? 3).map (fun i => (i.zero, i.size, i.bytes)) = some (some (.int .i64 0), 1, 8) := by kernel_rfl
theorem runeInfo : (Tryd.prog.info? 21).map (fun i => (i.zero, i.size, i.bytes)) = some (some (.int .i32 0), 1, 4) := by kernel_rfl
theorem byteInfo : (Tryd.prog.info? 5).map (fun i => (i.zero, i.size, i.bytes)) = some (some (.int .u8 0), 1, 1) := by kernel_rfl

theorem ints_below {B : Nat} {w w' : World} {v : Value} {l : List Int} (h : Ints B w v l) (hb : Below w.heap.size w w') : Ints B w' v l := by
  refine ⟨h.1, ?_⟩
  rcases h.2 with x | ⟨g, cap, cur, hv, hg, hh, rest⟩
  · exact .inl x
  · exact .inr ⟨g, cap, cur, hv, hg, (hb.block g (Array.getElem?_eq_some_iff.1 hh).1).trans hh, rest⟩
theorem ints_mono {B B' : Nat} {w : World} {v : Value} {l : List Int} (h : Ints B w v l) (hB : B' ≤ B) : Ints B' w v l := by
  refine ⟨h.1, ?_⟩
  rcases h.2 with x | ⟨g, cap, cur, hv, hg, hh, rest⟩
  · exact .inl x
  · exact .inr ⟨g, cap, cur, hv, Nat.le_trans hB hg, hh, rest⟩
def SI (B : Nat) (w : World) (sl : List Int) (g : Nat) (v i : Value) (wr : World) : Prop :=
  ∃ a b, sl = a ++ b ∧ b.length = g ∧ i = .int .i64 (encL a).length ∧ Ints B wr v a ∧ Below B w wr
def SignsPost (w : World) (sl : List Int) (ok : Bool) (e : Ending) (w' : World) : Prop :=
  ∃ v, e = .returned (.tuple #[v, .bool ok]) ∧ Ints w.heap.size w' v sl ∧ Below w.heap.size w w'

set_option maxHeartbeats 4000000 in
set_option maxRecDepth 100000 in
theorem signs_any (s : ByteArray) (sl : List Int) (rest : List UInt8) (hp : Parts s.data.toList sl rest) (hsz : s.size ≤ 4294967296) (w : World) :
    Calls Tryd.prog 19 #[.string s] w (SignsPost w sl (decide (rest = []))) := by
  have hlen : (encL sl).length + rest.length = s.size := by rw [len_of s _ hp.eq]; simp
  have hsl := (encL_len sl).1
  have HP := Lib.hid hp
  clear hp
  obtain ⟨i0, hi, hz0, hz1, hz2⟩ := info_parts intInfo
  go_enter Tryd.func19, Tryd.ntmps19
  go_wp2
  go_loopg [4, 5] sl.length (fun g v i wr => SI w.heap.size w sl g v i wr)
  case atStart => exact ⟨[], sl, rfl, rfl, rfl, World.ownsRow_nil _ _ _ _, Below.refl _ _⟩
  case round =>
    obtain ⟨a, b, hab, hbl, rfl, hI, hbw⟩ := hrel
    have hpl : (encL a).length ≤ (encL sl).length := by rw [hab, encL_append]; simp
    have hal := (encL_len a).1
    have hdat : (s.extract (encL a).length s.size).data.toList = encL b ++ rest := by
      rw [extract_end, HP.out.eq, hab, encL_append, List.append_assoc, List.drop_left]
    have HD := Lib.hid hdat
    have hex : (s.extract (encL a).length s.size).size = s.size - (encL a).length := by rw [len_of _ _ hdat]; rw [hab, encL_append] at hlen; simp at *; omega
    have HAB := Lib.hid hab
    have HBL := Lib.hid hbl
    clear hdat hab
    have hI2 := hI
    cases gk with
    | zero =>
      obtain rfl : b = [] := List.length_eq_zero_iff.1 hbl
      clear hbl
      have hasl : sl = a := by rw [HAB.out, List.append_nil]
      have hle : (encL sl).length = (encL a).length := by rw [hasl]
      by_cases hr : rest = []
      · have hr0 : rest.length = 0 := by rw [hr]; rfl
        have hlt : ¬ ((encL a).length < s.size) := by omega
        have HR := Lib.hid hr
        have HA := Lib.hid hasl
        clear hr hasl hle hlen hex hr0
        go_wp2
        go_ret2
        exact ⟨u4, by rw [decide_eq_true HR.out]; rfl, by rw [HA.out]; exact hI, hbw⟩
      · have hr0 : 0 < rest.length := List.length_pos_iff.2 hr
        have hlt : (encL a).length < s.size := by omega
        have hbad : Bad (s.extract (encL a).length s.size).data.toList := by
          rw [HD.out]; exact HP.out.bad.resolve_left hr
        obtain ⟨f1, f2⟩ := fstF_bad _ hbad
        have cF : ∀ W, Calls Tryd.prog 55 #[.string (s.extract (encL a).length s.size)] W fun e w' => e = .returned (.tuple #[.int .i64 (-1), .int .i64 0]) ∧ Below W.heap.size W w' := fun W => by
          have := first_any (s.extract (encL a).length s.size) (by omega) (by omega) W
          rwa [f1, f2] at this
        have HR := Lib.hid hr
        have HA := Lib.hid hasl
        clear hr hasl hle hlen hex hr0 f1 f2 hbad
        go_wp2_with (go_at_call 55; refine (cF _).mono ?_; rintro e w2 ⟨rfl, hb2⟩)
        go_ret2
        exact ⟨u4, by rw [decide_eq_false HR.out]; rfl, by rw [HA.out]; exact ints_below hI hb2, hbw.trans (hb2.mono hbw.size)⟩
    | succ g =>
      obtain ⟨n, b', rfl⟩ : ∃ n b', b = n :: b' := by
        match b, hbl with
        | n :: b', _ => exact ⟨n, b', rfl⟩
      clear hbl
      have hn : sgn n = true := HP.out.all n (by rw [HAB.out]; simp)
      have hk := enc_len n
      have hd2 : (s.extract (encL a).length s.size).data.toList = Lib.encodeRune n ++ (encL b' ++ rest) := by rw [HD.out, encL_cons, List.append_assoc]
      have hpos : 0 < (s.extract (encL a).length s.size).size := by rw [len_of _ _ hd2]; simp; omega
      obtain ⟨f1, f2⟩ := fstF_sign _ n _ hd2 hn
      have cF : ∀ W, Calls Tryd.prog 55 #[.string (s.extract (encL a).length s.size)] W fun e w' => e = .returned (.tuple #[.int .i64 n, .int .i64 (Lib.encodeRune n).length]) ∧ Below W.heap.size W w' := fun W => by
        have := first_any (s.extract (encL a).length s.size) hpos (by omega) W
        rwa [f1, f2] at this
      have hlt : (encL a).length < s.size := by omega
      have hq : (encL a).length + (Lib.encodeRune n).length ≤ s.size := by rw [len_of _ _ hd2] at hex; simp at hex; omega
      have hst := enc_step a n
      have HST := Lib.hid hst
      have HBL2 := HBL
      have hz : ((Lib.encodeRune n).length : Int) ≠ 0 := by omega
      have hzb : (((Lib.encodeRune n).length : Int) == 0) = false := by simpa using hz
      clear hex f1 f2 hn hd2 hpos hz hst
      go_wp2_with (first
        | (go_at_call 55; refine (cF _).mono ?_; rintro e w2 ⟨rfl, hb2⟩; have hI3 := ints_below hI hb2)
        | (at_builtin; refine wpList_append_own _ rfl _ _ 37 rfl w.heap.size 3 i0 (.int .i64 0) 1 8 Tryd.underlying37 hi hz0 hz1 hz2 rfl (by decide) _ _ _ rfl (hI3.alloc _) ⟨w2.heap.size, 0, none⟩ 1 1 [.int .i64 n] rfl rfl ?c1 ?c2 ?c3 ?c4 ?c5 ?_))
      case c1 =>
        intro j u hj
        match j, hj with
        | 0, hj => simp at hj; subst hj; simp [Addr.add]
      case c2 => intro u hu; simp at hu; subst hu; rfl
      case c3 => unfold maxLen; omega
      case c4 => omega
      case c5 => have := hbw.size; have := hb2.size; simp; omega
      intro v' w3 hown hgrow _
      have hfin : SI w.heap.size w sl g v' (.int .i64 ((encL a).length + (Lib.encodeRune n).length)) w3 := by
        refine ⟨a ++ [n], b', by rw [HAB.out]; simp, by simpa using HBL.out, by rw [HST.out]; rfl, ?_, ?_⟩
        · unfold Ints intRow
          rw [List.length_append, List.map_append]
          exact hown
        · exact ((hbw.trans (hb2.mono hbw.size)).alloc (by have := hbw.size; have := hb2.size; omega) _).grown hgrow (by have := hbw.size; have := hb2.size; simp; omega) (fun k hk => (hI3.lt k hk).1)
      have HF := Lib.hid hfin
      clear hfin hown hgrow cF hI hI2 hI3
      go_wp2
      go_roundg g
      case measure => omega
      case rel => exact HF.out
end Go.Proofs.YtcllamipcgbfiaaDoor

/-
  THE PROGRAM's 'measure', 'Good', 'Len': how many signs, and how many bytes, stand ahead of what is no sign's.
-/
namespace Go.Proofs.YtcllamipcgbfiaaDoor
open Go.RowKit

theorem enc_bad : Lib.encodeRune 65533 = [239, 191, 189] := by decide
theorem pre_sign (r : List UInt8) : Lib.hasPrefix (Lib.encodeRune 65533 ++ r) [239, 191, 189] = true := by
  rw [enc_bad]; simp [Lib.hasPrefix]
theorem pre_bad (l : List UInt8) (h : Bad l) : Lib.hasPrefix l [239, 191, 189] = false := by
  rw [Bool.eq_false_iff]
  intro hp
  have : ∃ t, l = [239, 191, 189] ++ t := by
    simp [Lib.hasPrefix] at hp
    obtain ⟨t, ht⟩ := hp
    exact ⟨t, ht.symm⟩
  obtain ⟨t, rfl⟩ := this
  have := dec_good 65533 t (by decide)
  rw [enc_bad] at this
  exact this h.2

def MI (w : World) (s : ByteArray) (sl : List Int) (g : Nat) (c : Value) (wr : World) : Prop :=
  ∃ a b, sl = a ++ b ∧ b.length = g ∧ c = .int .i64 a.length ∧ wr.heap[w.heap.size]? = some (.stringIter s (encL a).length) ∧ Below w.heap.size w wr

set_option maxHeartbeats 4000000 in
set_option maxRecDepth 100000 in
theorem measure_any (s : ByteArray) (sl : List Int) (rest : List UInt8) (hp : Parts s.data.toList sl rest) (hsz : s.size ≤ 4294967296) (w : World) :
    Calls Tryd.prog 56 #[.string s] w fun e w' => e = .returned (.tuple #[.int .i64 sl.length, .int .i64 (encL sl).length]) ∧ Below w.heap.size w w' := by
  have hlen : (encL sl).length + rest.length = s.size := by rw [len_of s _ hp.eq]; simp
  have hsl := (encL_len sl).1
  have HP := Lib.hid hp
  clear hp
  go_enter Tryd.func56, Tryd.ntmps56
  go_wp2
  go_loopg [2] sl.length (fun g c wr => MI w s sl g c wr)
  case atStart => exact ⟨[], sl, rfl, rfl, rfl, World.iter_heap _ _ _, (Below.refl _ _).alloc (Nat.le_refl _) _⟩
  case round =>
    obtain ⟨a, b, hab, hbl, rfl, hit, hbw⟩ := hrel
    have hpl : (encL a).length ≤ (encL sl).length := by rw [hab, encL_append]; simp
    have hal := (encL_len a).1
    have hdat : s.data.toList = encL a ++ (encL b ++ rest) := by rw [HP.out.eq, hab, encL_append, List.append_assoc]
    have hext : (s.extract (encL a).length s.size).data.toList = encL b ++ rest := by rw [extract_end, hdat, List.drop_left]
    have HX := Lib.hid hext
    have HAB := Lib.hid hab
    have HBL := Lib.hid hbl
    clear hext
    cases gk with
    | zero =>
      obtain rfl : b = [] := List.length_eq_zero_iff.1 hbl
      have hasl : sl = a := by rw [hab, List.append_nil]
      have HA := Lib.hid hasl
      have hle : (encL sl).length = (encL a).length := by rw [hasl]
      by_cases hr : rest = []
      · have hnx : ∀ ty, (Instr.next (.pointer (some ⟨w.heap.size, 0, none⟩)) true ty).run Tryd.prog wr = _ := fun ty => next_done wr w.heap.size s a (by rw [hdat, hr]; simp [encL]) hit ty
        have hr0 : rest.length = 0 := by rw [hr]; rfl
        have hss : s.size = (encL a).length := by omega
        have HSS := Lib.hid hss
        clear hab hbl hdat hasl hle hr hr0 hss hlen
        go_wp2
        go_ret2
        exact ⟨ret_two ⟨by rw [HA.out], by rw [HA.out, HSS.out]⟩, hbw⟩
      · have hbad : Bad rest := HP.out.bad.resolve_left hr
        have hnx : ∀ ty, (Instr.next (.pointer (some ⟨w.heap.size, 0, none⟩)) true ty).run Tryd.prog wr = _ := fun ty => next_bad wr w.heap.size s a rest (by rw [hdat]; simp [encL]) hbad hit ty
        have cH : ∀ W, Calls Tryd.prog 86 #[.string (s.extract (encL a).length s.size), .string ⟨#[239, 191, 189]⟩] W fun e w' => e = .returned (.bool false) ∧ W = w' := fun W =>
          (Tryd.strings_HasPrefix _ _ W).mono fun e w' ⟨h1, h2⟩ => ⟨by rw [h1, HX.out]; rw [show (encL [] ++ rest) = rest from rfl, pre_bad rest hbad], h2.symm⟩
        have hb2 := Lib.below_iterAt hbw (k := w.heap.size) (by omega) s ((encL a).length + 1)
        clear hab hbl hdat hasl hle hr hbad hit
        go_wp2_with (go_at_call 86; refine (cH _).mono ?_; rintro e w' ⟨rfl, rfl⟩)
        go_ret2
        exact ⟨ret_two ⟨by rw [HA.out], by rw [HA.out]⟩, hb2⟩
    | succ g =>
      obtain ⟨n, b', rfl⟩ : ∃ n b', b = n :: b' := by
        match b, hbl with
        | n :: b', _ => exact ⟨n, b', rfl⟩
      have hn : sgn n = true := HP.out.all n (by rw [hab]; simp)
      have hnx : ∀ ty, (Instr.next (.pointer (some ⟨w.heap.size, 0, none⟩)) true ty).run Tryd.prog wr = _ := fun ty => next_sign wr w.heap.size s a n (encL b' ++ rest) (by rw [hdat, encL_cons, List.append_assoc]) hn hit ty
      have hfin : MI w s sl g (.int .i64 (a.length + 1)) (wr.iterAt w.heap.size s (encL (a ++ [n])).length) :=
        ⟨a ++ [n], b', by rw [hab]; simp, by simpa using hbl, by simp, Lib.iterAt_heap _ _ _ _ _ hit, Lib.below_iterAt hbw (by omega) _ _⟩
      have HF := Lib.hid hfin
      have cH : ∀ W, n = 65533 → Calls Tryd.prog 86 #[.string (s.extract (encL a).length s.size), .string ⟨#[239, 191, 189]⟩] W fun e w' => e = .returned (.bool true) ∧ W = w' := fun W hn =>
        (Tryd.strings_HasPrefix _ _ W).mono fun e w' ⟨h1, h2⟩ => ⟨by rw [h1, HX.out, encL_cons, hn, List.append_assoc]; rw [pre_sign], h2.symm⟩
      by_cases hc : n = 65533
      · have hcB : (n == 65533) = true := by simpa using hc
        have cH2 := fun W => cH W hc
        clear cH hc hab hbl hdat hn hfin hit
        go_wp2_with (go_at_call 86; refine (cH2 _).mono ?_; rintro e w' ⟨rfl, rfl⟩)
        go_roundg g
        case measure => omega
        case rel => exact HF.out
      · have hcB : (n == 65533) = false := by simpa using hc
        clear cH hc hab hbl hdat hn hfin hit
        go_wp2
        go_roundg g
        case measure => omega
        case rel => exact HF.out

theorem good_any (s : ByteArray) (sl : List Int) (rest : List UInt8) (hp : Parts s.data.toList sl rest) (hsz : s.size ≤ 4294967296) (w : World) :
    Calls Tryd.prog 113 #[.string s] w fun e w' => e = .returned (.bool (decide (rest = []))) ∧ Below w.heap.size w w' := by
  have hlen : (encL sl).length + rest.length = s.size := by rw [len_of s _ hp.eq]; simp
  have hm := measure_any s sl rest hp hsz
  clear hp
  by_cases hr : rest = []
  · have hr0 : rest.length = 0 := by rw [hr]; rfl
    have hd : decide (rest = []) = true := decide_eq_true hr
    have hB : (((encL sl).length : Int) == (s.size : Int)) = true := by simp; omega
    rw [hd]
    clear hr hd hr0 hlen
    go_enter Tryd.func113, Tryd.ntmps113
    go_wp2_with (go_at_call 56; refine (hm _).mono ?_; rintro e w2 ⟨rfl, hb⟩)
    go_ret
    exact ⟨ret_bool (by first | rfl | assumption), hb⟩
  · have hr0 : 0 < rest.length := List.length_pos_iff.2 hr
    have hd : decide (rest = []) = false := decide_eq_false hr
    have hB : (((encL sl).length : Int) == (s.size : Int)) = false := by simp; omega
    rw [hd]
    clear hr hd hr0 hlen
    go_enter Tryd.func113, Tryd.ntmps113
    go_wp2_with (go_at_call 56; refine (hm _).mono ?_; rintro e w2 ⟨rfl, hb⟩)
    go_ret
    exact ⟨ret_bool (by first | rfl | assumption), hb⟩
theorem len_any (s : ByteArray) (sl : List Int) (rest : List UInt8) (hp : Parts s.data.toList sl rest) (hsz : s.size ≤ 4294967296) (w : World) :
    Calls Tryd.prog 37 #[.string s] w fun e w' => e = .returned (.int .i64 sl.length) ∧ Below w.heap.size w w' := by
  have hm := measure_any s sl rest hp hsz
  clear hp
  go_enter Tryd.func37, Tryd.ntmps37
  go_wp2_with (go_at_call 56; refine (hm _).mono ?_; rintro e w2 ⟨rfl, hb⟩)
  go_ret
  exact ⟨rfl, hb⟩
end Go.Proofs.YtcllamipcgbfiaaDoor

/-
  A SCANNER: the block that holds it, the row of its signs; 'New' makes one of a text, or tells the place of what is no sign's.
-/
namespace Go.Proofs.YtcllamipcgbfiaaDoor
open Go.RowKit

def runeRow (l : List Int) : List Value := l.map (Value.int .i32)
/-- Block b is a scanner over the signs sl, at place k; its signs lie in a row from B on. -/
structure Sc (B : Nat) (w : World) (b : Nat) (v : Value) (sl : List Int) (k : Nat) : Prop where
  blk : w.heap[b]? = some (.cells #[v, .int .i64 k] 115 (0, 0))
  row : w.ownsRow B 21 1 v sl.length (runeRow sl)
  ge : B ≤ b
theorem Sc.ne {B : Nat} {w : World} {b : Nat} {v : Value} {sl : List Int} {k : Nat} (h : Sc B w b v sl k) : v.ownBlock ≠ some b := by
  intro e
  rcases h.row.2 with ⟨rfl, _⟩ | ⟨g, cap, cur, rfl, _, hg, _⟩
  · cases e
  · simp [Value.ownBlock] at e
    subst e
    rw [h.blk] at hg
    cases hg
theorem Sc.shape {B : Nat} {w : World} {b : Nat} {v : Value} {sl : List Int} {k : Nat} (h : Sc B w b v sl k) : ∃ ao cap, v = .slice ao sl.length cap := by
  rcases h.row.2 with ⟨hv, hl⟩ | ⟨g, cap, cur, hv, _⟩
  · exact ⟨none, 0, by rw [hv, hl]⟩
  · exact ⟨_, cap, hv⟩
theorem Sc.c0 {B : Nat} {w : World} {b : Nat} {v : Value} {sl : List Int} {k : Nat} (h : Sc B w b v sl k) : w.cell? ⟨b, 0, none⟩ = some v := by rw [Lib.cell_of_heap h.blk]; rfl
theorem Sc.c1 {B : Nat} {w : World} {b : Nat} {v : Value} {sl : List Int} {k : Nat} (h : Sc B w b v sl k) : w.cell? ⟨b, 1, none⟩ = some (.int .i64 k) := by rw [Lib.cell_of_heap h.blk]; rfl
theorem Sc.f1 {B : Nat} {w : World} {b : Nat} {v : Value} {sl : List Int} {k : Nat} (h : Sc B w b v sl k) : w.frozen? ⟨b, 1, none⟩ = false := Lib.frozen_of_heap h.blk 1
theorem Sc.drew {B : Nat} {w : World} {b : Nat} {v : Value} {sl : List Int} {k : Nat} (h : Sc B w b v sl k) : Sc B w.drew b v sl k := ⟨h.blk, h.row, h.ge⟩

theorem grown_set (w : World) (b i : Nat) (u : Value) : w.grownBy (w.setCell ⟨b, i, none⟩ u) (some b) := ⟨rfl, rfl, rfl, by simp [World.setCell], fun k _ hk => Below.heap_setCell _ _ _ _ (fun e => hk (by simp [e]))⟩
/-- The scanner's signs are stored anew. -/
theorem Sc.signs {B : Nat} {w : World} {b : Nat} {v v' : Value} {sl : List Int} {k : Nat} (hb : w.heap[b]? = some (.cells #[v, .int .i64 k] 115 (0, 0))) (hB : B ≤ b) (hown : w.ownsRow B 21 1 v' sl.length (runeRow sl)) : Sc B (w.setCell ⟨b, 0, none⟩ v') b v' sl k := by
  have hne : v'.ownBlock ≠ some b := by
    intro e
    rcases hown.2 with ⟨rfl, _⟩ | ⟨g, cap, cur, rfl, _, hg, _⟩
    · cases e
    · simp [Value.ownBlock] at e
      subst e
      rw [hb] at hg
      cases hg
  exact ⟨heap_setCell_same w b 0 _ _ v' hb, hown.kept (grown_set w b 0 v') (Or.inr hne), hB⟩
/-- Its place is stored anew. -/
theorem Sc.place {B : Nat} {w : World} {b : Nat} {v : Value} {sl : List Int} {k : Nat} (h : Sc B w b v sl k) (k' : Nat) : Sc B (w.setCell ⟨b, 1, none⟩ (.int .i64 k')) b v sl k' :=
  ⟨heap_setCell_same w b 1 _ _ _ h.blk, h.row.kept (grown_set w b 1 _) (Or.inr h.ne), h.ge⟩
def NI (B xb K : Nat) (w : World) (s : ByteArray) (sl : List Int) (g : Nat) (wr : World) : Prop :=
  ∃ v a b, sl = a ++ b ∧ b.length = g ∧ Sc B wr xb v a 0 ∧ wr.heap[K]? = some (.stringIter s (encL a).length) ∧ Below B w wr
def NewPost (w : World) (sl : List Int) (e : Ending) (w' : World) : Prop :=
  ∃ b v, e = .returned (.tuple #[.pointer (some ⟨b, 0, none⟩), .int .i64 0, .int .i64 0]) ∧ Sc w.heap.size w' b v sl 0 ∧ Below w.heap.size w w'

set_option maxHeartbeats 4000000 in
set_option maxRecDepth 100000 in
theorem new_bad (s : ByteArray) (sl : List Int) (rest : List UInt8) (hp : Parts s.data.toList sl rest) (hr : rest ≠ []) (hsz : s.size ≤ 4294967296) (w : World) :
    Calls Tryd.prog 20 #[.string s] w fun e w' => e = .returned (.tuple #[.pointer none, .int .i64 sl.length, .int .i64 1]) ∧ Below w.heap.size w w' := by
  have hlen : (encL sl).length + rest.length = s.size := by rw [len_of s _ hp.eq]; simp
  have hm := measure_any s sl rest hp hsz
  have hr0 : 0 < rest.length := List.length_pos_iff.2 hr
  have hlt : ((encL sl).length : Int) < (s.size : Int) := by omega
  clear hp hr hlen hr0
  go_enter Tryd.func20, Tryd.ntmps20
  go_wp2_with (go_at_call 56; (with_reducible refine (hm _).mono ?_); rintro e w2 ⟨rfl, hb⟩)
  go_ret3
  exact ⟨rfl, hb⟩

set_option maxHeartbeats 4000000 in
set_option maxRecDepth 100000 in
theorem new_good (s : ByteArray) (sl : List Int) (hp : Parts s.data.toList sl []) (hsz : s.size ≤ 4294967296) (w : World) :
    Calls Tryd.prog 20 #[.string s] w (NewPost w sl) := by
  have hlen : (encL sl).length = s.size := by rw [len_of s _ hp.eq]; simp
  have hm := measure_any s sl [] hp hsz
  have hsl := (encL_len sl).1
  have hsb : sl.length ≤ 4294967296 := by omega
  have hge : ¬ ((encL sl).length : Int) < (s.size : Int) := by omega
  have HP := Lib.hid hp
  obtain ⟨i0, hi, hz0, hz1, hz2⟩ := info_parts runeInfo
  have HL := Lib.hid hlen
  clear hp hlen
  go_enter Tryd.func20, Tryd.ntmps20
  go_wp2_with (first
    | (go_at_call 56; (with_reducible refine (hm _).mono ?_); rintro e w2 ⟨rfl, hb⟩)
    | (at_make; refine wpList_make_own _ rfl _ _ 113 rfl w.heap.size 21 i0 (.int .i32 0) 1 Tryd.underlying113 hi hz0 hz1 _ _ _ sl.length rfl rfl rfl ?b2 ?b3 ?b4 ?_))
  case b2 => rw [hz2]; omega
  case b3 => unfold maxLen; omega
  case b4 => exact hb.size
  intro w3 hown hgrow
  have hb3 : Below w.heap.size w w3 := hb.grown hgrow hb.size (by simp)
  have hs3 := hb3.size
  have hw2 : w2.heap.size < w3.heap.size := (hown.lt w2.heap.size rfl).2
  go_wp2
  go_loopg [] sl.length (fun g wr => NI w.heap.size w3.heap.size (w3.heap.size + 1) w s sl g wr)
  case atStart =>
    refine ⟨.slice (some ⟨w2.heap.size, 0, none⟩) 0 sl.length, [], sl, rfl, rfl, ⟨?_, ?_, hs3⟩, ?_, ?_⟩
    · exact (Lib.alloc_old _ _ _ (by simp)).trans (heap_alloc_new _ _)
    · exact (hown.alloc _).alloc _
    · have := World.iter_heap (w3.alloc (.cells #[.slice (some ⟨w2.heap.size, 0, none⟩) 0 sl.length, .int .i64 0] 115)) s 0
      rw [World.size_alloc] at this
      exact this
    · exact (hb3.alloc hs3 _).alloc (by simp; omega) _
  case round =>
    clear hown hgrow hb hb3
    obtain ⟨v, a, b, hab, hbl, hsc, hit, hbw⟩ := hrel
    have hdat : s.data.toList = encL a ++ encL b := by rw [HP.out.eq, List.append_nil, hab, encL_append]
    have hal : a.length ≤ sl.length := by rw [hab]; simp
    have HAB := Lib.hid hab
    have HBL := Lib.hid hbl
    have hbs := hbw.size
    obtain ⟨ao, cap, rfl⟩ := hsc.shape
    have c0 := hsc.c0
    have hxl : w3.heap.size < wr.heap.size := (Array.getElem?_eq_some_iff.1 hsc.blk).1
    cases gk with
    | zero =>
      obtain rfl : b = [] := List.length_eq_zero_iff.1 hbl
      have hnx : ∀ ty, (Instr.next (.pointer (some ⟨w3.heap.size + 1, 0, none⟩)) true ty).run Tryd.prog wr = _ := fun ty => next_done wr (w3.heap.size + 1) s a (by rw [hdat]; simp [encL]) hit ty
      have hfin : NewPost w sl (.returned (.tuple #[.pointer (some ⟨w3.heap.size, 0, none⟩), .int .i64 0, .int .i64 0])) wr := ⟨w3.heap.size, _, rfl, by rw [hab, List.append_nil]; exact hsc, hbw⟩
      have HF := Lib.hid hfin
      clear hfin hab hbl hdat hit hsc c0
      go_wp2
      go_ret3
      exact HF.out
    | succ g =>
      obtain ⟨n, b', rfl⟩ : ∃ n b', b = n :: b' := by
        match b, hbl with
        | n :: b', _ => exact ⟨n, b', rfl⟩
      have hn : sgn n = true := HP.out.all n (by rw [hab]; simp)
      have hnx : ∀ ty, (Instr.next (.pointer (some ⟨w3.heap.size + 1, 0, none⟩)) true ty).run Tryd.prog wr = _ := fun ty => next_sign wr (w3.heap.size + 1) s a n (encL b') (by rw [hdat, encL_cons]) hn hit ty
      have hkx : w3.heap.size ≠ w3.heap.size + 1 := by omega
      obtain ⟨W, hW⟩ : ∃ W, W = wr.iterAt (w3.heap.size + 1) s (encL (a ++ [n])).length := ⟨_, rfl⟩
      rw [← hW] at hnx
      have hscW : Sc w.heap.size W w3.heap.size (.slice ao a.length cap) a 0 := by
        rw [hW]
        refine ⟨(Lib.iterAt_other _ _ _ _ _ hkx).trans hsc.blk, ⟨hsc.row.1, ?_⟩, hsc.ge⟩
        rcases hsc.row.2 with x | ⟨g', cp, cur, hv, hg, hh, rest⟩
        · exact .inl x
        · refine .inr ⟨g', cp, cur, hv, hg, (Lib.iterAt_other _ _ _ _ _ ?_).trans hh, rest⟩
          intro e
          rw [e, hit] at hh
          cases hh
      have hitW : W.heap[w3.heap.size + 1]? = some (.stringIter s (encL (a ++ [n])).length) := by rw [hW]; exact Lib.iterAt_heap _ _ _ _ _ hit
      have hbW : Below w.heap.size w W := by rw [hW]; exact Lib.below_iterAt hbw (by omega) _ _
      have hWs := hbW.size
      clear hsc c0 hit hbw hW hdat hab hbl hn
      have c0 := hscW.c0
      have HSC := Lib.hid hscW
      have HIT := Lib.hid hitW
      have hrow := hscW.row
      have hne := hscW.ne
      clear hscW hitW
      go_wp2_with (at_builtin; refine wpList_append_own _ rfl _ _ 113 rfl w.heap.size 21 i0 (.int .i32 0) 1 4 Tryd.underlying113 hi hz0 hz1 hz2 rfl (by decide) _ _ _ rfl (hrow.alloc _) ⟨W.heap.size, 0, none⟩ 1 1 [.int .i32 n] rfl rfl ?c1 ?c2 ?c3 ?c4 ?c5 ?_)
      case c1 =>
        intro j u hj
        match j, hj with
        | 0, hj => simp at hj; subst hj; simp [Addr.add]
      case c2 => intro u hu; simp at hu; subst hu; rfl
      case c3 => unfold maxLen; omega
      case c4 => omega
      case c5 => simp; omega
      intro v' w5 hown' hgrow' _
      obtain ⟨ao', cap', rfl⟩ : ∃ ao' cap', v' = .slice ao' (a.length + 1) cap' := by
        rcases hown'.2 with ⟨_, h0⟩ | ⟨g', cp, cur, hv, _⟩
        · omega
        · exact ⟨_, cp, hv⟩
      have hA : (W.alloc (.cells #[.int .i32 n] 21)).heap[w3.heap.size]? = some (.cells #[.slice ao a.length cap, .int .i64 0] 115 (0, 0)) := (Lib.alloc_old _ _ _ (Array.getElem?_eq_some_iff.1 HSC.out.blk).1).trans HSC.out.blk
      have hIA : (W.alloc (.cells #[.int .i32 n] 21)).heap[w3.heap.size + 1]? = some (.stringIter s (encL (a ++ [n])).length) := (Lib.alloc_old _ _ _ (Array.getElem?_eq_some_iff.1 HIT.out).1).trans HIT.out
      have hb5 : w5.heap[w3.heap.size]? = some (.cells #[.slice ao a.length cap, .int .i64 0] 115 (0, 0)) := (hgrow'.block _ (Array.getElem?_eq_some_iff.1 hA).1 (fun e => hne e.symm)).trans hA
      have hi5 : w5.heap[w3.heap.size + 1]? = some (.stringIter s (encL (a ++ [n])).length) := by
        refine (hgrow'.block _ (Array.getElem?_eq_some_iff.1 hIA).1 (fun e => ?_)).trans hIA
        rcases hrow.2 with ⟨hv, _⟩ | ⟨g', cp, cur, hv, _, hh, _⟩
        · rw [hv] at e; cases e
        · rw [hv] at e
          simp [Value.ownBlock] at e
          rw [← e, HIT.out] at hh
          cases hh
      have d0 : w5.cell? ⟨w3.heap.size, 0, none⟩ = some (.slice ao a.length cap) := by rw [Lib.cell_of_heap hb5]; rfl
      have f0 : w5.frozen? ⟨w3.heap.size, 0, none⟩ = false := Lib.frozen_of_heap hb5 0
      have hown2 : w5.ownsRow w.heap.size 21 1 (.slice ao' (a.length + 1) cap') (a ++ [n]).length (runeRow (a ++ [n])) := by
        unfold runeRow
        rw [List.length_append, List.map_append]
        exact hown'
      have hbw5 : Below w.heap.size w w5 := (hbW.alloc hWs _).grown hgrow' (by simp; omega) (fun k hk => (hrow.lt k hk).1)
      have hfin : NI w.heap.size w3.heap.size (w3.heap.size + 1) w s sl g (w5.setCell ⟨w3.heap.size, 0, none⟩ (.slice ao' (a.length + 1) cap')) :=
        ⟨_, a ++ [n], b', by rw [HAB.out]; simp, by simpa using HBL.out, Sc.signs hb5 hs3 hown2, (Below.heap_setCell _ _ _ _ (by simp)).trans hi5, hbw5.setCell hs3 _⟩
      have HF := Lib.hid hfin
      clear hfin hA hIA hb5 hi5 hown2 hown' hgrow' hbw5 hrow hne
      go_wp2
      go_roundg g
      case measure => omega
      case rel => exact HF.out
end Go.Proofs.YtcllamipcgbfiaaDoor

/-
  WHAT THE ROWS' LIST GIVES: the cells of the table 'escapes'; and what every law's frame shares.
-/
namespace Go.Proofs.YtcllamipcgbfiaaDoor
open Go.ChangeShapes Go.RowKit

theorem own : ownKnob Tryd.prog.godebug = none := by kernel_rfl
set_option maxRecDepth 100000 in
theorem gEsc : Tryd.prog.globalNamed "beck/scan.escapes" = some 0 := by kernel_rfl
set_option maxRecDepth 100000 in
theorem gEscType : (Tryd.prog.globals[0]?).map (·.type) = some 181 := by kernel_rfl
set_option maxRecDepth 100000 in
theorem cellsEsc : Tryd.prog.cellsOf 180 = 2 := by kernel_rfl
set_option maxRecDepth 100000 in
theorem cellsEscs : Tryd.prog.cellsOf 181 = 14 := by kernel_rfl
set_option maxRecDepth 100000 in
theorem cellsRune : Tryd.prog.cellsOf 21 = 1 := by kernel_rfl

def escCells : Array Value := #[.int .i32 116, .int .i32 9, .int .i32 110, .int .i32 10, .int .i32 114, .int .i32 13, .int .i32 98, .int .i32 8, .int .i32 102, .int .i32 12, .int .i32 34, .int .i32 34, .int .i32 92, .int .i32 92]

set_option maxRecDepth 100000 in
theorem two_of {H : Type} {enc : TypeId × Value → H} {W : World} {sp : Nat → Bool} {f : Nat} {cs : List Value} {x : DataW H × List MemPlace} {a b : Int}
    (h : DataW.trod enc Tryd.prog W 0 sp false f 180 cs = some x) (hx : x.1 = .agg [.lit (.int .i32 a), .lit (.int .i32 b)]) : cs = [.int .i32 a, .int .i32 b] := by
  obtain ⟨y0, y1, n, rfl, hl, h0, h1⟩ := trod_struct2 Tryd.underlying180 h
  rw [cellsEsc] at hl
  match cs, hl with
  | [c0, c1], _ =>
    obtain ⟨p, e0, e1, _⟩ := DataW.trod_int Tryd.underlying21 h0
    obtain ⟨q, f0, f1, _⟩ := DataW.trod_int Tryd.underlying21 h1
    simp only [DataW.agg.injEq, List.cons.injEq, and_true] at hx
    rw [e1, f1] at hx
    simp only [DataW.lit.injEq, Lit.int.injEq, true_and] at hx
    obtain ⟨rfl, rfl⟩ := hx
    simp [cellsRune] at e0 f0
    subst e0 f0
    rfl

set_option maxRecDepth 100000 in
/-- THE TABLE's CELLS. -/
theorem table {W : World} (h : laidMetH Tryd.prog [("beck/scan.escapes", Rows.laid_beck_scan_escapes)] W) : ∃ t fr, W.heap[0]? = some (.cells escCells t fr) := by
  rw [MakeChecks.laidMetH_plain _ _ _ (by kernel_rfl)] at h
  obtain ⟨ps, ⟨g0, t0, cs0, f0, p0, q0, hg0, ht0, hv0, hd0, _, _⟩, _⟩ := h
  obtain rfl := Option.some.inj (gEsc.symm.trans hg0)
  obtain rfl := Option.some.inj (gEscType.symm.trans ht0)
  obtain ⟨xs, m, rfl, hx, hlen, hn, hel⟩ := DataW.trod_array Tryd.underlying181 hd0
  rw [cellsEscs] at hlen
  simp only [cellsEsc] at hel
  unfold World.var? at hv0
  rw [gEsc] at hv0
  simp only [Option.bind_some] at hv0
  match hh : W.heap[0]?, hv0 with
  | some (.cells cs t fr), hv0 =>
    simp only [Option.some.injEq] at hv0
    subst hv0
    refine ⟨t, fr, ?_⟩
    simp only [Prod.mk.injEq, Rows.laid_beck_scan_escapes, DataW.agg.injEq] at hx
    have hx := hx.1
    match xs, hn, hx, hel with
    | [x0, x1, x2, x3, x4, x5, x6], _, hx, hel =>
      simp only [List.map_cons, List.map_nil, List.cons.injEq, and_true] at hx
      obtain ⟨e0, e1, e2, e3, e4, e5, e6⟩ := hx
      have a0 := two_of (hel 0 (by decide)) e0.symm
      have a1 := two_of (hel 1 (by decide)) e1.symm
      have a2 := two_of (hel 2 (by decide)) e2.symm
      have a3 := two_of (hel 3 (by decide)) e3.symm
      have a4 := two_of (hel 4 (by decide)) e4.symm
      have a5 := two_of (hel 5 (by decide)) e5.symm
      have a6 := two_of (hel 6 (by decide)) e6.symm
      obtain ⟨l⟩ := cs
      congr 2
      match l, hlen with
      | [c0, c1, c2, c3, c4, c5, c6, c7, c8, c9, c10, c11, c12, c13], _ =>
        simp at a0 a1 a2 a3 a4 a5 a6
        obtain ⟨rfl, rfl⟩ := a0
        obtain ⟨rfl, rfl⟩ := a1
        obtain ⟨rfl, rfl⟩ := a2
        obtain ⟨rfl, rfl⟩ := a3
        obtain ⟨rfl, rfl⟩ := a4
        obtain ⟨rfl, rfl⟩ := a5
        obtain ⟨rfl, rfl⟩ := a6
        rfl
end Go.Proofs.YtcllamipcgbfiaaDoor
