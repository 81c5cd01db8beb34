/-
  MERGED (a claim has at most 60 files): Rng, Shelf, VShelf, Signs.
-/
import Derived.Test.YtehechbiajbobaaZ01
import Derived.Lib.OthersKept
import Derived.WalkKit
import Derived.Shelf.Strings.Prefix
import Derived.Test.YtehechbiajbobaaProg
import Derived.Shelf.Small.Utf8
import Derived.Shelf.Strings.Search1
import Derived.Shelf.Strings.Search2
import Derived.Shelf.Strings.Search3
import Derived.Shelf.Strings.Count
import Derived.Shelf.LaysM
import Derived.Shelf.Strings.Shaped
import Derived.Shelf.Strings.Split
import Derived.Shelf.Strings.SplitShaped
import Derived.Shelf.Unicode.DecodeSlow
import Derived.Test.YtehechbiajbobaaZ03
/-
  A RANGE OVER A STRING, sign by sign: what 'next' answers where signs' bytes stand, at the end, and where there is no sign.
-/
namespace Go.Proofs.Ytehechbiajbobaa
open Go.RowKit Go.Lib

variable {P : Program}
theorem len_of (s : ByteArray) (l : List UInt8) (h : s.data.toList = l) : s.size = l.length := by rw [Lib.size_eq, h]
theorem drop_enc (s : ByteArray) (a : List Int) (r : List UInt8) (h : s.data.toList = encL a ++ r) : s.data.toList.drop (encL a).length = r := by rw [h, List.drop_left]
theorem enc_step (a : List Int) (n : Int) : (encL (a ++ [n])).length = (encL a).length + (Lib.encodeRune n).length := by simp [encL]
theorem next_sign (w : World) (k : Nat) (s : ByteArray) (a : List Int) (n : Int) (r : List UInt8) (h : s.data.toList = encL a ++ (Lib.encodeRune n ++ r)) (hn : sgn n = true) (hk : w.heap[k]? = some (.stringIter s (encL a).length)) (ty : TypeId) :
    (Instr.next (.pointer (some ⟨k, 0, none⟩)) true ty).run P w = .ok (.tuple #[.bool true, .int .i64 (encL a).length, .int .i32 n]) (w.iterAt k s (encL (a ++ [n])).length) := by
  have hl := enc_len n
  have hp : (encL a).length < s.size := by rw [len_of s _ h]; simp; omega
  have hd : Utf8.decode s (encL a).length = (n.toNat, (Lib.encodeRune n).length) := by rw [← decodeL_drop, drop_enc s a _ h, dec_enc n r hn]
  rw [Lib.run_next_any_at w k s _ ty hk hp, hd, enc_step]
  rw [show ((n.toNat : Nat) : Int) = n by have := (sgn_iff n).1 hn; omega]
theorem next_done (w : World) (k : Nat) (s : ByteArray) (a : List Int) (h : s.data.toList = encL a) (hk : w.heap[k]? = some (.stringIter s (encL a).length)) (ty : TypeId) :
    (Instr.next (.pointer (some ⟨k, 0, none⟩)) true ty).run P w = .ok (.tuple #[.bool false]) w :=
  Lib.run_next_end_at w k s _ ty hk (by rw [len_of s _ h]; omega)
theorem next_bad (w : World) (k : Nat) (s : ByteArray) (a : List Int) (r : List UInt8) (h : s.data.toList = encL a ++ r) (hr : Bad r) (hk : w.heap[k]? = some (.stringIter s (encL a).length)) (ty : TypeId) :
    (Instr.next (.pointer (some ⟨k, 0, none⟩)) true ty).run P w = .ok (.tuple #[.bool true, .int .i64 (encL a).length, .int .i32 65533]) (w.iterAt k s ((encL a).length + 1)) := by
  have hp : (encL a).length < s.size := by rw [len_of s _ h]; have := List.length_pos_iff.2 hr.1; simp; omega
  have hd : Utf8.decode s (encL a).length = (65533, 1) := by rw [← decodeL_drop, drop_enc s a _ h]; exact Prod.ext hr.2.1 hr.2.2
  rw [Lib.run_next_any_at w k s _ ty hk hp, hd]
  rfl
end Go.Proofs.Ytehechbiajbobaa

/-
  THE LIBRARY's CONTRACT AT THIS PROGRAM (strings.HasPrefix), laid out of the compiled shelf by its table of numbers; no walk.
-/
namespace Go.Proofs
open Go.Shelf
def Try.lays206_ren : Go.Shelf.Ren := ⟨fun | 206 => 73 | n => n, fun | 3 => 3 | 4 => 4 | 9 => 9 | n => n, fun | n => n⟩
theorem Try.lays206 : Go.Proofs.Lays.n206 Try.prog Try.lays206_ren := {
  mixed := by kernel_rfl
  f206 := Try.func73.trans (congrArg some (by kernel_rfl))
  t3 := Try.underlying3
  a3 := Try.isAgg3
  z3 := Try.sizeOf3
  v3 := Try.zeroValue3
  t4 := Try.underlying4
  a4 := Try.isAgg4
  z4 := Try.sizeOf4
  v4 := Try.zeroValue4
  t9 := Try.underlying9
  a9 := Try.isAgg9
  z9 := Try.sizeOf9
  v9 := Try.zeroValue9 }
def Try.lays99_ren : Go.Shelf.Ren := ⟨fun | 99 => 69 | 206 => 73 | n => n, fun | 3 => 3 | 4 => 4 | 9 => 9 | n => n, fun | n => n⟩
theorem Try.lays99 : Go.Proofs.Lays.n99 Try.prog Try.lays99_ren := {
  mixed := by kernel_rfl
  f99 := Try.func69.trans (congrArg some (by kernel_rfl))
  f206 := Try.func73.trans (congrArg some (by kernel_rfl))
  t3 := Try.underlying3
  a3 := Try.isAgg3
  z3 := Try.sizeOf3
  v3 := Try.zeroValue3
  t4 := Try.underlying4
  a4 := Try.isAgg4
  z4 := Try.sizeOf4
  v4 := Try.zeroValue4
  t9 := Try.underlying9
  a9 := Try.isAgg9
  z9 := Try.sizeOf9
  v9 := Try.zeroValue9 }
theorem Try.strings_HasPrefix (s p : ByteArray) (w : World) :
    Calls Try.prog 69 #[.string s, .string p] w fun e w' => e = .returned (.bool (Lib.hasPrefix s.data.toList p.data.toList)) ∧ w' = w := Any.strings_HasPrefix Try.lays99 s p w
end Go.Proofs

/-
  THE LIBRARY's CONTRACTS AT THIS PROGRAM (strconv.ParseInt, strings.Index, Split), each laid out of the compiled shelf by its table of numbers; no walk.
-/
namespace Go.Proofs
open Go.Shelf
def Try.lays143_ren : Go.Shelf.Ren := ⟨fun | 143 => 67 | 219 => 72 | 217 => 76 | 225 => 77 | 224 => 78 | 267 => 79 | 266 => 83 | 314 => 84 | n => n, fun | 9 => 9 | 3 => 3 | 4 => 4 | 5 => 5 | 46 => 79 | 146 => 134 | 51 => 113 | n => n, fun | 1 => 0 | n => n⟩
theorem Try.lays143 : Go.Proofs.Lays.n143 Try.prog Try.lays143_ren := {
  mixed := by kernel_rfl
  f143 := Try.func67.trans (congrArg some (by kernel_rfl))
  f217 := Try.func76.trans (congrArg some (by kernel_rfl))
  f219 := Try.func72.trans (congrArg some (by kernel_rfl))
  f224 := Try.func78.trans (congrArg some (by kernel_rfl))
  f225 := Try.func77.trans (congrArg some (by kernel_rfl))
  f266 := Try.func83.trans (congrArg some (by kernel_rfl))
  f267 := Try.func79.trans (congrArg some (by kernel_rfl))
  f314 := Try.func84.trans (congrArg some (by kernel_rfl))
  t3 := Try.underlying3
  a3 := Try.isAgg3
  z3 := Try.sizeOf3
  v3 := Try.zeroValue3
  t4 := Try.underlying4
  a4 := Try.isAgg4
  z4 := Try.sizeOf4
  v4 := Try.zeroValue4
  t5 := Try.underlying5
  a5 := Try.isAgg5
  z5 := Try.sizeOf5
  v5 := Try.zeroValue5
  t9 := Try.underlying9
  a9 := Try.isAgg9
  z9 := Try.sizeOf9
  v9 := Try.zeroValue9
  t46 := Try.underlying79
  a46 := Try.isAgg79
  z46 := Try.sizeOf79
  v46 := Try.zeroValue79
  t51 := Try.underlying113
  a51 := Try.isAgg113
  z51 := Try.sizeOf113
  v51 := Try.zeroValue113
  t146 := Try.underlying134
  a146 := Try.isAgg134
  z146 := Try.sizeOf134
  v146 := Try.zeroValue134
  g1 := by kernel_rfl }
open Go.RowKit Go.Lib in
/-- strings.Index: "Index returns the index of the first instance of substr in s, or -1 if substr is not present in s.": AT A substr OF ONE BYTE c: IT RETURNS 'Lib.indexByte s c'; the world is as it was. (LAID: no walk: one application.) -/
theorem Try.strings_Index_one (s : ByteArray) (c : UInt8) (w : World) :
    Calls Try.prog 67 #[.string s, .string ⟨#[c]⟩] w fun e w' => e = .returned (.int .i64 (Lib.indexByte s.data.toList c)) ∧ w' = w := Any.strings_Index_one Try.lays143 s c w
def Try.laysM146_ren : Go.Shelf.Ren := ⟨fun | 146 => 65 | 221 => 70 | 268 => 74 | 138 => 75 | 143 => 67 | 195 => 80 | 197 => 81 | 218 => 82 | 219 => 72 | 260 => 85 | 217 => 76 | 225 => 77 | 224 => 78 | 267 => 79 | 266 => 83 | 314 => 84 | n => n, fun | 9 => 9 | 31 => 122 | 3 => 3 | 4 => 4 | 0 => 0 | 105 => 132 | 21 => 21 | 5 => 5 | 46 => 79 | 119 => 136 | 139 => 139 | 138 => 138 | 146 => 134 | 51 => 113 | n => n, fun | 1 => 0 | 3 => 1 | 4 => 2 | n => n⟩
theorem Try.laysM146 : Go.Proofs.LaysM.n146 Try.prog Try.laysM146_ren := {
  mixed := by kernel_rfl
  f138 := Try.func75.trans (congrArg some (by kernel_rfl))
  f143 := Try.func67.trans (congrArg some (by kernel_rfl))
  f146 := Try.func65.trans (congrArg some (by kernel_rfl))
  f195 := Try.func80.trans (congrArg some (by kernel_rfl))
  f197 := Try.func81.trans (congrArg some (by kernel_rfl))
  f217 := Try.func76.trans (congrArg some (by kernel_rfl))
  f218 := Try.func82.trans (congrArg some (by kernel_rfl))
  f219 := Try.func72.trans (congrArg some (by kernel_rfl))
  f221 := Try.func70.trans (congrArg some (by kernel_rfl))
  f224 := Try.func78.trans (congrArg some (by kernel_rfl))
  f225 := Try.func77.trans (congrArg some (by kernel_rfl))
  f260 := Try.func85.trans (congrArg some (by kernel_rfl))
  f266 := Try.func83.trans (congrArg some (by kernel_rfl))
  f267 := Try.func79.trans (congrArg some (by kernel_rfl))
  f268 := Try.func74.trans (congrArg some (by kernel_rfl))
  f314 := Try.func84.trans (congrArg some (by kernel_rfl))
  t0 := Try.underlying0
  a0 := Try.isAgg0
  z0 := Try.sizeOf0
  v0 := Try.zeroValue0
  t3 := Try.underlying3
  a3 := Try.isAgg3
  z3 := Try.sizeOf3
  v3 := Try.zeroValue3
  t4 := Try.underlying4
  a4 := Try.isAgg4
  z4 := Try.sizeOf4
  v4 := Try.zeroValue4
  t5 := Try.underlying5
  a5 := Try.isAgg5
  z5 := Try.sizeOf5
  v5 := Try.zeroValue5
  t9 := Try.underlying9
  a9 := Try.isAgg9
  z9 := Try.sizeOf9
  v9 := Try.zeroValue9
  t21 := Try.underlying21
  a21 := Try.isAgg21
  z21 := Try.sizeOf21
  v21 := Try.zeroValue21
  t31 := Try.underlying122
  a31 := Try.isAgg122
  z31 := Try.sizeOf122
  v31 := Try.zeroValue122
  t46 := Try.underlying79
  a46 := Try.isAgg79
  z46 := Try.sizeOf79
  v46 := Try.zeroValue79
  t51 := Try.underlying113
  a51 := Try.isAgg113
  z51 := Try.sizeOf113
  v51 := Try.zeroValue113
  t105 := Try.underlying132
  a105 := Try.isAgg132
  z105 := Try.sizeOf132
  v105 := Try.zeroValue132
  t119 := Try.underlying136
  a119 := Try.isAgg136
  z119 := Try.sizeOf136
  t138 := Try.underlying138
  a138 := Try.isAgg138
  z138 := Try.sizeOf138
  v138 := Try.zeroValue138
  t139 := Try.underlying139
  a139 := Try.isAgg139
  z139 := Try.sizeOf139
  v139 := Try.zeroValue139
  t146 := Try.underlying134
  a146 := Try.isAgg134
  z146 := Try.sizeOf134
  v146 := Try.zeroValue134
  g1 := by kernel_rfl
  g3 := by kernel_rfl
  g4 := by kernel_rfl
  i0 := by kernel_rfl
  i3 := by kernel_rfl
  i4 := by kernel_rfl
  i5 := by kernel_rfl
  i9 := by kernel_rfl
  i21 := by kernel_rfl
  i31 := by kernel_rfl
  i46 := by kernel_rfl
  i51 := by kernel_rfl
  i105 := by kernel_rfl
  i138 := by kernel_rfl
  i139 := by kernel_rfl
  i146 := by kernel_rfl
  m1 := by kernel_rfl
  s1_3 := fun w h => Go.Proofs.cell_of_shapedOpen_int (zero := #[.int .i64 0]) (t := 3) h (of_decide_eq_true (by kernel_rfl)) (by kernel_rfl) rfl (by kernel_rfl) (by kernel_rfl) Try.underlying3
  m3 := by kernel_rfl
  m4 := by kernel_rfl }
open Go.RowKit Go.Lib in
/-- strings.Split, sep not empty. (LAID: no walk: one application.) -/
theorem Try.strings_Split_shaped (s sep : ByteArray) (w : World) (h : w.ShapedOpen Try.prog) (hs : s.size < 4294967281) (h1 : 1 ≤ sep.size) :
    Calls Try.prog 65 #[.string s, .string sep] w fun e w' =>
      e = .returned (.slice (some ⟨w.heap.size, 0, none⟩) (Lib.countB s sep + 1) (Lib.countB s sep + 1)) ∧ w' = w.alloc (.cells ((Lib.splitB sep 0 (Lib.countB s sep) s).map Value.string).toArray 9) := Any.strings_Split_shaped Try.laysM146 s sep w h hs h1
end Go.Proofs

/-
  THE DOCUMENT's 'Signs' and the program's 'measure': the signs of any bytes, as far as they are signs'.
-/
namespace Go.Proofs.Ytehechbiajbobaa
open Go.RowKit

theorem extract_end (s : ByteArray) (a : Nat) : (s.extract a s.size).data.toList = s.data.toList.drop a := by
  rw [Lib.extract_data, List.take_of_length_le (by rw [List.length_drop, ← Lib.size_eq]; exact Nat.le_refl _)]
structure Parts (l : List UInt8) (sl : List Int) (rest : List UInt8) : Prop where
  eq : l = encL sl ++ rest
  all : AllS sl
  bad : rest = [] ∨ Bad rest
theorem parts_of (l : List UInt8) : ∃ sl rest, Parts l sl rest := by
  obtain ⟨sl, rest, h1, h2, h3⟩ := split_bytes l
  exact ⟨sl, rest, h1, h2, h3⟩
theorem Parts.one {l : List UInt8} {a b : List Int} {r t : List UInt8} (h : Parts l a r) (k : Parts l b t) : a = b ∧ r = t :=
  split_one a b r t (h.eq.symm.trans k.eq) h.all k.all h.bad k.bad

def intRow (l : List Int) : List Value := l.map (Value.int .i64)
/-- A slice of integers that the call made. -/
def Ints (B : Nat) (w : World) (v : Value) (l : List Int) : Prop := w.ownsRow B 3 1 v l.length (intRow l)

theorem fstF_sign (s : ByteArray) (n : Int) (r : List UInt8) (h : s.data.toList = Lib.encodeRune n ++ r) (hn : sgn n = true) : fstF s = n ∧ sndF s = (Lib.encodeRune n).length := by
  have hd : Utf8.decode s 0 = (n.toNat, (Lib.encodeRune n).length) := by rw [← Lib.decodeL_drop, List.drop_zero, h, dec_enc n r hn]
  have := F_ok s _ _ hd (by intro h1 h2; have := dec_good n r hn; rw [dec_enc n r hn] at this; exact this ⟨h2, h1⟩) n (Lib.encodeRune n).length (by have := (sgn_iff n).1 hn; omega) rfl
  exact ⟨this.1.symm, this.2.symm⟩
theorem fstF_bad (s : ByteArray) (h : Bad s.data.toList) : fstF s = -1 ∧ sndF s = 0 := by
  have hd : Utf8.decode s 0 = (65533, 1) := by rw [← Lib.decodeL_drop, List.drop_zero]; exact Prod.ext h.2.1 h.2.2
  have := F_bad s hd
  exact ⟨this.1.symm, this.2.symm⟩

theorem intInfo : (Try.prog.info? 3).map (fun i => (i.zero, i.size, i.bytes)) = some (some (.int .i64 0), 1, 8) := by kernel_rfl
theorem ints_below {B : Nat} {w w' : World} {v : Value} {l : List Int} (h : Ints B w v l) (hb : Below w.heap.size w w') : Ints B w' v l := by
  refine ⟨h.1, ?_⟩
  rcases h.2 with x | ⟨g, cap, cur, hv, hg, hh, rest⟩
  · exact .inl x
  · exact .inr ⟨g, cap, cur, hv, hg, (hb.block g (Array.getElem?_eq_some_iff.1 hh).1).trans hh, rest⟩
def SI (B : Nat) (w : World) (sl : List Int) (g : Nat) (v i : Value) (wr : World) : Prop :=
  ∃ a b, sl = a ++ b ∧ b.length = g ∧ i = .int .i64 (encL a).length ∧ Ints B wr v a ∧ Below B w wr
def SignsPost (w : World) (sl : List Int) (ok : Bool) (e : Ending) (w' : World) : Prop :=
  ∃ v, e = .returned (.tuple #[v, .bool ok]) ∧ Ints w.heap.size w' v sl ∧ Below w.heap.size w w'

set_option maxHeartbeats 4000000 in
set_option maxRecDepth 100000 in
theorem signs_any (s : ByteArray) (sl : List Int) (rest : List UInt8) (hp : Parts s.data.toList sl rest) (hsz : s.size ≤ 4294967296) (w : World) :
    Calls Try.prog 34 #[.string s] w (SignsPost w sl (decide (rest = []))) := by
  have hlen : (encL sl).length + rest.length = s.size := by rw [len_of s _ hp.eq]; simp
  have hsl := (encL_len sl).1
  have HP := Lib.hid hp
  clear hp
  obtain ⟨i0, hi, hz0, hz1, hz2⟩ := info_parts intInfo
  go_enter Try.func34, Try.ntmps34
  go_wp2
  go_loopg [4, 5] sl.length (fun g v i wr => SI w.heap.size w sl g v i wr)
  case atStart => exact ⟨[], sl, rfl, rfl, rfl, World.ownsRow_nil _ _ _ _, Below.refl _ _⟩
  case round =>
    obtain ⟨a, b, hab, hbl, rfl, hI, hbw⟩ := hrel
    have hpl : (encL a).length ≤ (encL sl).length := by rw [hab, encL_append]; simp
    have hal := (encL_len a).1
    have hdat : (s.extract (encL a).length s.size).data.toList = encL b ++ rest := by
      rw [extract_end, HP.out.eq, hab, encL_append, List.append_assoc, List.drop_left]
    have HD := Lib.hid hdat
    have hex : (s.extract (encL a).length s.size).size = s.size - (encL a).length := by rw [len_of _ _ hdat]; rw [hab, encL_append] at hlen; simp at *; omega
    have HAB := Lib.hid hab
    have HBL := Lib.hid hbl
    clear hdat hab
    have hI2 := hI
    cases gk with
    | zero =>
      obtain rfl : b = [] := List.length_eq_zero_iff.1 hbl
      clear hbl
      have hasl : sl = a := by rw [HAB.out, List.append_nil]
      have hle : (encL sl).length = (encL a).length := by rw [hasl]
      by_cases hr : rest = []
      · have hr0 : rest.length = 0 := by rw [hr]; rfl
        have hlt : ¬ ((encL a).length < s.size) := by omega
        have HR := Lib.hid hr
        have HA := Lib.hid hasl
        clear hr hasl hle hlen hex hr0
        go_wp2
        go_ret2
        exact ⟨u4, by rw [decide_eq_true HR.out]; rfl, by rw [HA.out]; exact hI, hbw⟩
      · have hr0 : 0 < rest.length := List.length_pos_iff.2 hr
        have hlt : (encL a).length < s.size := by omega
        have hbad : Bad (s.extract (encL a).length s.size).data.toList := by
          rw [HD.out]; exact HP.out.bad.resolve_left hr
        obtain ⟨f1, f2⟩ := fstF_bad _ hbad
        have cF : ∀ W, Calls Try.prog 41 #[.string (s.extract (encL a).length s.size)] W fun e w' => e = .returned (.tuple #[.int .i64 (-1), .int .i64 0]) ∧ Below W.heap.size W w' := fun W => by
          have := first_any (s.extract (encL a).length s.size) (by omega) (by omega) W
          rwa [f1, f2] at this
        have HR := Lib.hid hr
        have HA := Lib.hid hasl
        clear hr hasl hle hlen hex hr0 f1 f2 hbad
        go_wp2_with (go_at_call 41; refine (cF _).mono ?_; rintro e w2 ⟨rfl, hb2⟩)
        go_ret2
        exact ⟨u4, by rw [decide_eq_false HR.out]; rfl, by rw [HA.out]; exact ints_below hI hb2, hbw.trans (hb2.mono hbw.size)⟩
    | succ g =>
      obtain ⟨n, b', rfl⟩ : ∃ n b', b = n :: b' := by
        match b, hbl with
        | n :: b', _ => exact ⟨n, b', rfl⟩
      clear hbl
      have hn : sgn n = true := HP.out.all n (by rw [HAB.out]; simp)
      have hk := enc_len n
      have hd2 : (s.extract (encL a).length s.size).data.toList = Lib.encodeRune n ++ (encL b' ++ rest) := by rw [HD.out, encL_cons, List.append_assoc]
      have hpos : 0 < (s.extract (encL a).length s.size).size := by rw [len_of _ _ hd2]; simp; omega
      obtain ⟨f1, f2⟩ := fstF_sign _ n _ hd2 hn
      have cF : ∀ W, Calls Try.prog 41 #[.string (s.extract (encL a).length s.size)] W fun e w' => e = .returned (.tuple #[.int .i64 n, .int .i64 (Lib.encodeRune n).length]) ∧ Below W.heap.size W w' := fun W => by
        have := first_any (s.extract (encL a).length s.size) hpos (by omega) W
        rwa [f1, f2] at this
      have hlt : (encL a).length < s.size := by omega
      have hq : (encL a).length + (Lib.encodeRune n).length ≤ s.size := by rw [len_of _ _ hd2] at hex; simp at hex; omega
      have hst := enc_step a n
      have HST := Lib.hid hst
      have HBL2 := HBL
      have hz : ((Lib.encodeRune n).length : Int) ≠ 0 := by omega
      have hzb : (((Lib.encodeRune n).length : Int) == 0) = false := by simpa using hz
      clear hex f1 f2 hn hd2 hpos hz hst
      go_wp2_with (first
        | (go_at_call 41; refine (cF _).mono ?_; rintro e w2 ⟨rfl, hb2⟩; have hI3 := ints_below hI hb2)
        | (at_builtin; refine wpList_append_own _ rfl _ _ 93 rfl w.heap.size 3 i0 (.int .i64 0) 1 8 Try.underlying93 hi hz0 hz1 hz2 rfl (by decide) _ _ _ rfl (hI3.alloc _) ⟨w2.heap.size, 0, none⟩ 1 1 [.int .i64 n] rfl rfl ?c1 ?c2 ?c3 ?c4 ?c5 ?_))
      case c1 =>
        intro j u hj
        match j, hj with
        | 0, hj => simp at hj; subst hj; simp [Addr.add]
      case c2 => intro u hu; simp at hu; subst hu; rfl
      case c3 => unfold maxLen; omega
      case c4 => omega
      case c5 => have := hbw.size; have := hb2.size; simp; omega
      intro v' w3 hown hgrow _
      have hfin : SI w.heap.size w sl g v' (.int .i64 ((encL a).length + (Lib.encodeRune n).length)) w3 := by
        refine ⟨a ++ [n], b', by rw [HAB.out]; simp, by simpa using HBL.out, by rw [HST.out]; rfl, ?_, ?_⟩
        · unfold Ints intRow
          rw [List.length_append, List.map_append]
          exact hown
        · exact ((hbw.trans (hb2.mono hbw.size)).alloc (by have := hbw.size; have := hb2.size; omega) _).grown hgrow (by have := hbw.size; have := hb2.size; simp; omega) (fun k hk => (hI3.lt k hk).1)
      have HF := Lib.hid hfin
      clear hfin hown hgrow cF hI hI2 hI3
      go_wp2
      go_roundg g
      case measure => omega
      case rel => exact HF.out
end Go.Proofs.Ytehechbiajbobaa
