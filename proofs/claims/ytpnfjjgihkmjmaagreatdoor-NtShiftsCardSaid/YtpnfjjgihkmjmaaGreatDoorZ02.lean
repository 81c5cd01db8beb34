/-
  MERGED (a claim has at most 60 files): Rng, Shelf, VShelf, Signs, Meas.
-/
import Derived.Test.YtpnfjjgihkmjmaaGreatDoorZ00
import Derived.Lib.OthersKept
import Derived.WalkKit
import Derived.Shelf.Strings.BuilderK
import Derived.Shelf.Strings.BuilderRune
import Derived.Shelf.Strings.Prefix
import Derived.Test.YtpnfjjgihkmjmaaGreatDoorProg
import Derived.Shelf.Strings.Builder1
import Derived.Shelf.Small.Utf8
import Derived.Shelf.Strings.BuilderF
import Derived.Shelf.Strconv.Itoa0
import Derived.Shelf.Strconv.Itoa1
import Derived.Shelf.LaysM
import Derived.Shelf.Strconv.Itoa2
import Derived.Shelf.Strconv.Itoa3
import Derived.Shelf.Strconv.ParseIntEmpty
import Derived.Shelf.Strconv.Clone
import Derived.Shelf.Strconv.SyntaxError
import Derived.Shelf.LaysC
import Derived.Shelf.Strconv.ToError
import Derived.Shelf.Strconv.Lower
import Derived.Shelf.Strconv.ParseUint10
import Derived.Shelf.Strconv.ParseUint10Empty
import Derived.Shelf.Strconv.ParseUint10Any
import Derived.Shelf.Strconv.ParseInt10
import Derived.Shelf.Strconv.RangeError
import Derived.Shelf.Strconv.ToErrorRange
import Derived.Shelf.Strconv.ParseUintEmpty
import Derived.Shelf.Strconv.ParseUint10b64
import Derived.Shelf.Strconv.ParseUint10b32
import Derived.Shelf.Strconv.ParseUint10b16
import Derived.Shelf.Strconv.ParseUint10b8
import Derived.Shelf.Strconv.ParseUint10At
import Derived.Shelf.Strconv.ParseInt10At64
import Derived.Shelf.Strconv.ParseInt10At32
import Derived.Shelf.Strconv.ParseInt10At16
import Derived.Shelf.Strconv.ParseInt10At8
import Derived.Shelf.Strconv.ParseInt10All
import Derived.Shelf.Strconv.ParseIntPublic10
import Derived.Shelf.Strconv.ErrVarParseInt
import Derived.Shelf.Strings.Search1
import Derived.Shelf.Strings.Search2
import Derived.Shelf.Strings.Search3
import Derived.Shelf.Strings.Count
import Derived.Shelf.Strings.Shaped
import Derived.Shelf.Strings.Split
import Derived.Shelf.Strings.SplitShaped
import Derived.Shelf.Unicode.DecodeSlow
import Derived.Test.YtpnfjjgihkmjmaaGreatDoorZ01
/-
  A RANGE OVER A STRING, sign by sign: what 'next' answers where signs' bytes stand, at the end, and where there is no sign.
-/
namespace Go.Proofs.YtpnfjjgihkmjmaaGreatDoor
open Go.RowKit Go.Lib

variable {P : Program}
theorem len_of (s : ByteArray) (l : List UInt8) (h : s.data.toList = l) : s.size = l.length := by rw [Lib.size_eq, h]
theorem drop_enc (s : ByteArray) (a : List Int) (r : List UInt8) (h : s.data.toList = encL a ++ r) : s.data.toList.drop (encL a).length = r := by rw [h, List.drop_left]
theorem enc_step (a : List Int) (n : Int) : (encL (a ++ [n])).length = (encL a).length + (Lib.encodeRune n).length := by simp [encL]
theorem next_sign (w : World) (k : Nat) (s : ByteArray) (a : List Int) (n : Int) (r : List UInt8) (h : s.data.toList = encL a ++ (Lib.encodeRune n ++ r)) (hn : sgn n = true) (hk : w.heap[k]? = some (.stringIter s (encL a).length)) (ty : TypeId) :
    (Instr.next (.pointer (some ⟨k, 0, none⟩)) true ty).run P w = .ok (.tuple #[.bool true, .int .i64 (encL a).length, .int .i32 n]) (w.iterAt k s (encL (a ++ [n])).length) := by
  have hl := enc_len n
  have hp : (encL a).length < s.size := by rw [len_of s _ h]; simp; omega
  have hd : Utf8.decode s (encL a).length = (n.toNat, (Lib.encodeRune n).length) := by rw [← decodeL_drop, drop_enc s a _ h, dec_enc n r hn]
  rw [Lib.run_next_any_at w k s _ ty hk hp, hd, enc_step]
  rw [show ((n.toNat : Nat) : Int) = n by have := (sgn_iff n).1 hn; omega]
theorem next_done (w : World) (k : Nat) (s : ByteArray) (a : List Int) (h : s.data.toList = encL a) (hk : w.heap[k]? = some (.stringIter s (encL a).length)) (ty : TypeId) :
    (Instr.next (.pointer (some ⟨k, 0, none⟩)) true ty).run P w = .ok (.tuple #[.bool false]) w :=
  Lib.run_next_end_at w k s _ ty hk (by rw [len_of s _ h]; omega)
theorem next_bad (w : World) (k : Nat) (s : ByteArray) (a : List Int) (r : List UInt8) (h : s.data.toList = encL a ++ r) (hr : Bad r) (hk : w.heap[k]? = some (.stringIter s (encL a).length)) (ty : TypeId) :
    (Instr.next (.pointer (some ⟨k, 0, none⟩)) true ty).run P w = .ok (.tuple #[.bool true, .int .i64 (encL a).length, .int .i32 65533]) (w.iterAt k s ((encL a).length + 1)) := by
  have hp : (encL a).length < s.size := by rw [len_of s _ h]; have := List.length_pos_iff.2 hr.1; simp; omega
  have hd : Utf8.decode s (encL a).length = (65533, 1) := by rw [← decodeL_drop, drop_enc s a _ h]; exact Prod.ext hr.2.1 hr.2.2
  rw [Lib.run_next_any_at w k s _ ty hk hp, hd]
  rfl
end Go.Proofs.YtpnfjjgihkmjmaaGreatDoor

/-
  THE LIBRARY's CONTRACTS AT THIS PROGRAM (strings.Builder's writers, strings.HasPrefix): each laid out of the compiled shelf by its table of numbers; no walk.
-/
namespace Go.Proofs
open Go.Shelf
def Tryz.lays167_ren : Go.Shelf.Ren := ⟨fun | 167 => 46 | 240 => 74 | 276 => 95 | n => n, fun | 0 => 0 | 4 => 4 | 5 => 5 | 9 => 9 | 20 => 20 | 37 => 92 | 70 => 91 | 72 => 94 | 75 => 96 | 80 => 99 | 164 => 153 | n => n, fun | n => n⟩
theorem Tryz.lays167 : Go.Proofs.Lays.n167 Tryz.prog Tryz.lays167_ren := {
  mixed := by kernel_rfl
  f167 := Tryz.func46.trans (congrArg some (by kernel_rfl))
  f240 := Tryz.func74.trans (congrArg some (by kernel_rfl))
  f276 := Tryz.func95.trans (congrArg some (by kernel_rfl))
  t0 := Tryz.underlying0
  a0 := Tryz.isAgg0
  z0 := Tryz.sizeOf0
  v0 := Tryz.zeroValue0
  t4 := Tryz.underlying4
  a4 := Tryz.isAgg4
  z4 := Tryz.sizeOf4
  v4 := Tryz.zeroValue4
  t5 := Tryz.underlying5
  a5 := Tryz.isAgg5
  z5 := Tryz.sizeOf5
  v5 := Tryz.zeroValue5
  t9 := Tryz.underlying9
  a9 := Tryz.isAgg9
  z9 := Tryz.sizeOf9
  v9 := Tryz.zeroValue9
  t20 := Tryz.underlying20
  a20 := Tryz.isAgg20
  z20 := Tryz.sizeOf20
  v20 := Tryz.zeroValue20
  t37 := Tryz.underlying92
  a37 := Tryz.isAgg92
  z37 := Tryz.sizeOf92
  v37 := Tryz.zeroValue92
  t70 := Tryz.underlying91
  a70 := Tryz.isAgg91
  z70 := Tryz.sizeOf91
  v70 := Tryz.zeroValue91
  t72 := Tryz.underlying94
  a72 := Tryz.isAgg94
  z72 := Tryz.sizeOf94
  v72 := Tryz.zeroValue94
  t75 := Tryz.underlying96
  a75 := Tryz.isAgg96
  z75 := Tryz.sizeOf96
  v75 := Tryz.zeroValue96
  t164 := Tryz.underlying153
  a164 := Tryz.isAgg153
  z164 := Tryz.sizeOf153
  v164 := Tryz.zeroValue153 }
theorem Tryz.Builder_Extra_167 : Builder.Extra Tryz.prog Tryz.lays167_ren := {
  sizeBuilder := by kernel_rfl
  liesBuilder := by kernel_rfl
  t5 := Tryz.underlying5
  a5 := Tryz.isAgg5
  z5 := Tryz.sizeOf5
  v5 := Tryz.zeroValue5
  infoByte := by kernel_rfl
  cellsByte := by kernel_rfl
  sizeByte := by kernel_rfl
  neB5 := by decide }
theorem Tryz.Builder_WriteByte_k (B b : Nat) (bs : List Value) (c : Int) (w : World) (h : Lib.IsBuilderF 94 5 B b bs w) (hlen : bs.length + 1 ≤ 140737488355328) (hBw : B ≤ w.heap.size) :
    Calls Tryz.prog 46 #[.pointer (some ⟨b, 0, none⟩), .int .u8 c] w fun e w' => e = .returned .nilIface ∧ (Lib.BuilderAtF 94 5 B b (.pointer (some ⟨b, 0, none⟩)) (bs ++ [.int .u8 c]) w' ∧ RowKit.Below B w w' ∧ Lib.OthersKept 5 (some b) w w') := Any.Builder_WriteByte_k Tryz.lays167 Tryz.Builder_Extra_167 B b bs c w h hlen hBw
def Tryz.lays166_ren : Go.Shelf.Ren := ⟨fun | 166 => 44 | 240 => 74 | 276 => 95 | n => n, fun | 0 => 0 | 3 => 3 | 4 => 4 | 5 => 5 | 9 => 9 | 20 => 20 | 37 => 92 | 70 => 91 | 72 => 94 | 75 => 96 | 80 => 99 | 164 => 153 | n => n, fun | n => n⟩
theorem Tryz.lays166 : Go.Proofs.Lays.n166 Tryz.prog Tryz.lays166_ren := {
  mixed := by kernel_rfl
  f166 := Tryz.func44.trans (congrArg some (by kernel_rfl))
  f240 := Tryz.func74.trans (congrArg some (by kernel_rfl))
  f276 := Tryz.func95.trans (congrArg some (by kernel_rfl))
  t0 := Tryz.underlying0
  a0 := Tryz.isAgg0
  z0 := Tryz.sizeOf0
  v0 := Tryz.zeroValue0
  t3 := Tryz.underlying3
  a3 := Tryz.isAgg3
  z3 := Tryz.sizeOf3
  v3 := Tryz.zeroValue3
  t4 := Tryz.underlying4
  a4 := Tryz.isAgg4
  z4 := Tryz.sizeOf4
  v4 := Tryz.zeroValue4
  t9 := Tryz.underlying9
  a9 := Tryz.isAgg9
  z9 := Tryz.sizeOf9
  v9 := Tryz.zeroValue9
  t20 := Tryz.underlying20
  a20 := Tryz.isAgg20
  z20 := Tryz.sizeOf20
  v20 := Tryz.zeroValue20
  t37 := Tryz.underlying92
  a37 := Tryz.isAgg92
  z37 := Tryz.sizeOf92
  v37 := Tryz.zeroValue92
  t70 := Tryz.underlying91
  a70 := Tryz.isAgg91
  z70 := Tryz.sizeOf91
  v70 := Tryz.zeroValue91
  t72 := Tryz.underlying94
  a72 := Tryz.isAgg94
  z72 := Tryz.sizeOf94
  v72 := Tryz.zeroValue94
  t75 := Tryz.underlying96
  a75 := Tryz.isAgg96
  z75 := Tryz.sizeOf96
  v75 := Tryz.zeroValue96
  t164 := Tryz.underlying153
  a164 := Tryz.isAgg153
  z164 := Tryz.sizeOf153
  v164 := Tryz.zeroValue153 }
theorem Tryz.Builder_Extra_166 : Builder.Extra Tryz.prog Tryz.lays166_ren := {
  sizeBuilder := by kernel_rfl
  liesBuilder := by kernel_rfl
  t5 := Tryz.underlying5
  a5 := Tryz.isAgg5
  z5 := Tryz.sizeOf5
  v5 := Tryz.zeroValue5
  infoByte := by kernel_rfl
  cellsByte := by kernel_rfl
  sizeByte := by kernel_rfl
  neB5 := by decide }
theorem Tryz.Builder_WriteString_k (B b : Nat) (bs : List Value) (s : ByteArray) (w : World) (h : Lib.IsBuilderF 94 5 B b bs w) (hlen : bs.length + s.size ≤ 140737488355328) (hBw : B ≤ w.heap.size) :
    Calls Tryz.prog 44 #[.pointer (some ⟨b, 0, none⟩), .string s] w fun e w' => e = .returned (.tuple #[.int .i64 s.size, .nilIface]) ∧ (Lib.BuilderAtF 94 5 B b (.pointer (some ⟨b, 0, none⟩)) (bs ++ Lib.strCells s) w' ∧ RowKit.Below B w w' ∧ Lib.OthersKept 5 (some b) w w') := Any.Builder_WriteString_k Tryz.lays166 Tryz.Builder_Extra_166 B b bs s w h hlen hBw
def Tryz.lays168_ren : Go.Shelf.Ren := ⟨fun | 168 => 112 | 240 => 74 | 242 => 124 | 276 => 95 | 278 => 130 | n => n, fun | 0 => 0 | 3 => 3 | 4 => 4 | 5 => 5 | 9 => 9 | 20 => 20 | 21 => 21 | 37 => 92 | 46 => 105 | 51 => 195 | 70 => 91 | 72 => 94 | 75 => 96 | 80 => 99 | 164 => 153 | n => n, fun | n => n⟩
theorem Tryz.lays168 : Go.Proofs.Lays.n168 Tryz.prog Tryz.lays168_ren := {
  mixed := by kernel_rfl
  f168 := Tryz.func112.trans (congrArg some (by kernel_rfl))
  f240 := Tryz.func74.trans (congrArg some (by kernel_rfl))
  f242 := Tryz.func124.trans (congrArg some (by kernel_rfl))
  f276 := Tryz.func95.trans (congrArg some (by kernel_rfl))
  f278 := Tryz.func130.trans (congrArg some (by kernel_rfl))
  t0 := Tryz.underlying0
  a0 := Tryz.isAgg0
  z0 := Tryz.sizeOf0
  v0 := Tryz.zeroValue0
  t3 := Tryz.underlying3
  a3 := Tryz.isAgg3
  z3 := Tryz.sizeOf3
  v3 := Tryz.zeroValue3
  t4 := Tryz.underlying4
  a4 := Tryz.isAgg4
  z4 := Tryz.sizeOf4
  v4 := Tryz.zeroValue4
  t5 := Tryz.underlying5
  a5 := Tryz.isAgg5
  z5 := Tryz.sizeOf5
  v5 := Tryz.zeroValue5
  t9 := Tryz.underlying9
  a9 := Tryz.isAgg9
  z9 := Tryz.sizeOf9
  v9 := Tryz.zeroValue9
  t20 := Tryz.underlying20
  a20 := Tryz.isAgg20
  z20 := Tryz.sizeOf20
  v20 := Tryz.zeroValue20
  t21 := Tryz.underlying21
  a21 := Tryz.isAgg21
  z21 := Tryz.sizeOf21
  v21 := Tryz.zeroValue21
  t37 := Tryz.underlying92
  a37 := Tryz.isAgg92
  z37 := Tryz.sizeOf92
  v37 := Tryz.zeroValue92
  t46 := Tryz.underlying105
  a46 := Tryz.isAgg105
  z46 := Tryz.sizeOf105
  v46 := Tryz.zeroValue105
  t51 := Tryz.underlying195
  a51 := Tryz.isAgg195
  z51 := Tryz.sizeOf195
  v51 := Tryz.zeroValue195
  t70 := Tryz.underlying91
  a70 := Tryz.isAgg91
  z70 := Tryz.sizeOf91
  v70 := Tryz.zeroValue91
  t72 := Tryz.underlying94
  a72 := Tryz.isAgg94
  z72 := Tryz.sizeOf94
  v72 := Tryz.zeroValue94
  t75 := Tryz.underlying96
  a75 := Tryz.isAgg96
  z75 := Tryz.sizeOf96
  v75 := Tryz.zeroValue96
  t164 := Tryz.underlying153
  a164 := Tryz.isAgg153
  z164 := Tryz.sizeOf153
  v164 := Tryz.zeroValue153 }
theorem Tryz.Builder_Extra_168 : Builder.Extra Tryz.prog Tryz.lays168_ren := {
  sizeBuilder := by kernel_rfl
  liesBuilder := by kernel_rfl
  t5 := Tryz.underlying5
  a5 := Tryz.isAgg5
  z5 := Tryz.sizeOf5
  v5 := Tryz.zeroValue5
  infoByte := by kernel_rfl
  cellsByte := by kernel_rfl
  sizeByte := by kernel_rfl
  neB5 := by decide }
theorem Tryz.Builder_WriteRune_k (B b : Nat) (bs : List Value) (r : Int) (hr0 : -2147483648 ≤ r) (hr1 : r ≤ 2147483647) (w : World) (h : Lib.IsBuilderF 94 5 B b bs w) (hlen : bs.length + 4 ≤ 140737488355328) (hBw : B ≤ w.heap.size) :
    Calls Tryz.prog 112 #[.pointer (some ⟨b, 0, none⟩), .int .i32 r] w fun e w' => e = .returned (.tuple #[.int .i64 (Lib.runeCells r).length, .nilIface]) ∧ (Lib.BuilderAtF 94 5 B b (.pointer (some ⟨b, 0, none⟩)) (bs ++ Lib.runeCells r) w' ∧ RowKit.Below B w w' ∧ Lib.OthersKept 5 (some b) w w') := Any.Builder_WriteRune_k Tryz.lays168 Tryz.Builder_Extra_168 B b bs r hr0 hr1 w h hlen hBw
def Tryz.lays169_ren : Go.Shelf.Ren := ⟨fun | 169 => 47 | n => n, fun | 0 => 0 | 3 => 3 | 5 => 5 | 9 => 9 | 37 => 92 | 70 => 91 | 72 => 94 | 127 => 138 | n => n, fun | n => n⟩
theorem Tryz.lays169 : Go.Proofs.Lays.n169 Tryz.prog Tryz.lays169_ren := {
  mixed := by kernel_rfl
  f169 := Tryz.func47.trans (congrArg some (by kernel_rfl))
  t0 := Tryz.underlying0
  a0 := Tryz.isAgg0
  z0 := Tryz.sizeOf0
  v0 := Tryz.zeroValue0
  t3 := Tryz.underlying3
  a3 := Tryz.isAgg3
  z3 := Tryz.sizeOf3
  v3 := Tryz.zeroValue3
  t9 := Tryz.underlying9
  a9 := Tryz.isAgg9
  z9 := Tryz.sizeOf9
  v9 := Tryz.zeroValue9
  t37 := Tryz.underlying92
  a37 := Tryz.isAgg92
  z37 := Tryz.sizeOf92
  v37 := Tryz.zeroValue92
  t70 := Tryz.underlying91
  a70 := Tryz.isAgg91
  z70 := Tryz.sizeOf91
  v70 := Tryz.zeroValue91
  t72 := Tryz.underlying94
  a72 := Tryz.isAgg94
  z72 := Tryz.sizeOf94
  v72 := Tryz.zeroValue94
  t127 := Tryz.underlying138
  a127 := Tryz.isAgg138
  z127 := Tryz.sizeOf138
  v127 := Tryz.zeroValue138 }
theorem Tryz.Builder_Extra_169 : Builder.Extra Tryz.prog Tryz.lays169_ren := {
  sizeBuilder := by kernel_rfl
  liesBuilder := by kernel_rfl
  t5 := Tryz.underlying5
  a5 := Tryz.isAgg5
  z5 := Tryz.sizeOf5
  v5 := Tryz.zeroValue5
  infoByte := by kernel_rfl
  cellsByte := by kernel_rfl
  sizeByte := by kernel_rfl
  neB5 := by decide }
theorem Tryz.Builder_String_any_k (B b : Nat) (l : List UInt8) (w : World) (h : Lib.IsBuilderF 94 5 B b (Lib.byteCells l) w) (hBw : B ≤ w.heap.size) :
    Calls Tryz.prog 47 #[.pointer (some ⟨b, 0, none⟩)] w fun e w' => e = .returned (.string ⟨l.toArray⟩) ∧ (Lib.IsBuilderF 94 5 B b (Lib.byteCells l) w' ∧ RowKit.Below B w w' ∧ Lib.OthersKept 5 (some b) w w') := Any.Builder_String_any_k Tryz.lays169 Tryz.Builder_Extra_169 B b l w h hBw
def Tryz.lays206_ren : Go.Shelf.Ren := ⟨fun | 206 => 100 | n => n, fun | 3 => 3 | 4 => 4 | 9 => 9 | n => n, fun | n => n⟩
theorem Tryz.lays206 : Go.Proofs.Lays.n206 Tryz.prog Tryz.lays206_ren := {
  mixed := by kernel_rfl
  f206 := Tryz.func100.trans (congrArg some (by kernel_rfl))
  t3 := Tryz.underlying3
  a3 := Tryz.isAgg3
  z3 := Tryz.sizeOf3
  v3 := Tryz.zeroValue3
  t4 := Tryz.underlying4
  a4 := Tryz.isAgg4
  z4 := Tryz.sizeOf4
  v4 := Tryz.zeroValue4
  t9 := Tryz.underlying9
  a9 := Tryz.isAgg9
  z9 := Tryz.sizeOf9
  v9 := Tryz.zeroValue9 }
def Tryz.lays99_ren : Go.Shelf.Ren := ⟨fun | 99 => 89 | 206 => 100 | n => n, fun | 3 => 3 | 4 => 4 | 9 => 9 | n => n, fun | n => n⟩
theorem Tryz.lays99 : Go.Proofs.Lays.n99 Tryz.prog Tryz.lays99_ren := {
  mixed := by kernel_rfl
  f99 := Tryz.func89.trans (congrArg some (by kernel_rfl))
  f206 := Tryz.func100.trans (congrArg some (by kernel_rfl))
  t3 := Tryz.underlying3
  a3 := Tryz.isAgg3
  z3 := Tryz.sizeOf3
  v3 := Tryz.zeroValue3
  t4 := Tryz.underlying4
  a4 := Tryz.isAgg4
  z4 := Tryz.sizeOf4
  v4 := Tryz.zeroValue4
  t9 := Tryz.underlying9
  a9 := Tryz.isAgg9
  z9 := Tryz.sizeOf9
  v9 := Tryz.zeroValue9 }
theorem Tryz.strings_HasPrefix (s p : ByteArray) (w : World) :
    Calls Tryz.prog 89 #[.string s, .string p] w fun e w' => e = .returned (.bool (Lib.hasPrefix s.data.toList p.data.toList)) ∧ w' = w := Any.strings_HasPrefix Tryz.lays99 s p w
end Go.Proofs

/-
  THE LIBRARY's CONTRACTS AT THIS PROGRAM (strconv.ParseInt, strings.Index, Split), each laid out of the compiled shelf by its table of numbers; no walk.
-/
namespace Go.Proofs
open Go.Shelf
def Tryz.laysC174_ren : Go.Shelf.Ren := ⟨fun | 174 => 83 | 247 => 98 | 245 => 99 | 287 => 106 | 279 => 107 | 280 => 108 | 281 => 109 | 282 => 110 | 321 => 118 | 322 => 119 | 316 => 120 | 171 => 122 | 205 => 121 | 243 => 128 | 246 => 132 | 283 => 135 | 284 => 136 | 285 => 137 | 286 => 138 | 129 => 140 | 317 => 139 | 318 => 141 | 319 => 142 | 320 => 143 | 337 => 144 | 338 => 145 | n => n, fun | 9 => 9 | 3 => 3 | 2 => 2 | 75 => 96 | 85 => 143 | 4 => 4 | 167 => 164 | 5 => 5 | 53 => 165 | 175 => 166 | 46 => 105 | 168 => 168 | 37 => 92 | 0 => 0 | 210 => 184 | 21 => 21 | 127 => 138 | 145 => 194 | 143 => 192 | 171 => 200 | 173 => 203 | 212 => 206 | 51 => 195 | 20 => 20 | 213 => 207 | 232 => 210 | 233 => 211 | 80 => 99 | n => n, fun | 15 => 1 | 16 => 2 | 17 => 3 | 18 => 4 | 19 => 5 | n => n⟩
theorem Tryz.laysC174 : Go.Proofs.LaysC.n174 Tryz.prog Tryz.laysC174_ren := {
  mixed := by kernel_rfl
  f129 := Tryz.func140.trans (congrArg some (by kernel_rfl))
  f171 := Tryz.func122.trans (congrArg some (by kernel_rfl))
  f174 := Tryz.func83.trans (congrArg some (by kernel_rfl))
  f205 := Tryz.func121.trans (congrArg some (by kernel_rfl))
  f243 := Tryz.func128.trans (congrArg some (by kernel_rfl))
  f245 := Tryz.func99.trans (congrArg some (by kernel_rfl))
  f246 := Tryz.func132.trans (congrArg some (by kernel_rfl))
  f247 := Tryz.func98.trans (congrArg some (by kernel_rfl))
  f279 := Tryz.func107.trans (congrArg some (by kernel_rfl))
  f280 := Tryz.func108.trans (congrArg some (by kernel_rfl))
  f281 := Tryz.func109.trans (congrArg some (by kernel_rfl))
  f282 := Tryz.func110.trans (congrArg some (by kernel_rfl))
  f283 := Tryz.func135.trans (congrArg some (by kernel_rfl))
  f284 := Tryz.func136.trans (congrArg some (by kernel_rfl))
  f285 := Tryz.func137.trans (congrArg some (by kernel_rfl))
  f286 := Tryz.func138.trans (congrArg some (by kernel_rfl))
  f287 := Tryz.func106.trans (congrArg some (by kernel_rfl))
  f316 := Tryz.func120.trans (congrArg some (by kernel_rfl))
  f317 := Tryz.func139.trans (congrArg some (by kernel_rfl))
  f318 := Tryz.func141.trans (congrArg some (by kernel_rfl))
  f319 := Tryz.func142.trans (congrArg some (by kernel_rfl))
  f320 := Tryz.func143.trans (congrArg some (by kernel_rfl))
  f321 := Tryz.func118.trans (congrArg some (by kernel_rfl))
  f322 := Tryz.func119.trans (congrArg some (by kernel_rfl))
  f337 := Tryz.func144.trans (congrArg some (by kernel_rfl))
  f338 := Tryz.func145.trans (congrArg some (by kernel_rfl))
  t0 := Tryz.underlying0
  a0 := Tryz.isAgg0
  z0 := Tryz.sizeOf0
  v0 := Tryz.zeroValue0
  t2 := Tryz.underlying2
  a2 := Tryz.isAgg2
  z2 := Tryz.sizeOf2
  v2 := Tryz.zeroValue2
  t3 := Tryz.underlying3
  a3 := Tryz.isAgg3
  z3 := Tryz.sizeOf3
  v3 := Tryz.zeroValue3
  t4 := Tryz.underlying4
  a4 := Tryz.isAgg4
  z4 := Tryz.sizeOf4
  v4 := Tryz.zeroValue4
  t5 := Tryz.underlying5
  a5 := Tryz.isAgg5
  z5 := Tryz.sizeOf5
  v5 := Tryz.zeroValue5
  t9 := Tryz.underlying9
  a9 := Tryz.isAgg9
  z9 := Tryz.sizeOf9
  v9 := Tryz.zeroValue9
  t20 := Tryz.underlying20
  a20 := Tryz.isAgg20
  z20 := Tryz.sizeOf20
  v20 := Tryz.zeroValue20
  t21 := Tryz.underlying21
  a21 := Tryz.isAgg21
  z21 := Tryz.sizeOf21
  v21 := Tryz.zeroValue21
  t37 := Tryz.underlying92
  a37 := Tryz.isAgg92
  z37 := Tryz.sizeOf92
  v37 := Tryz.zeroValue92
  t46 := Tryz.underlying105
  a46 := Tryz.isAgg105
  z46 := Tryz.sizeOf105
  v46 := Tryz.zeroValue105
  t51 := Tryz.underlying195
  a51 := Tryz.isAgg195
  z51 := Tryz.sizeOf195
  v51 := Tryz.zeroValue195
  t53 := Tryz.underlying165
  a53 := Tryz.isAgg165
  z53 := Tryz.sizeOf165
  v53 := Tryz.zeroValue165
  t75 := Tryz.underlying96
  a75 := Tryz.isAgg96
  z75 := Tryz.sizeOf96
  v75 := Tryz.zeroValue96
  t85 := Tryz.underlying143
  a85 := Tryz.isAgg143
  z85 := Tryz.sizeOf143
  v85 := Tryz.zeroValue143
  t127 := Tryz.underlying138
  a127 := Tryz.isAgg138
  z127 := Tryz.sizeOf138
  v127 := Tryz.zeroValue138
  t143 := Tryz.underlying192
  a143 := Tryz.isAgg192
  z143 := Tryz.sizeOf192
  v143 := Tryz.zeroValue192
  t145 := Tryz.underlying194
  a145 := Tryz.isAgg194
  z145 := Tryz.sizeOf194
  v145 := Tryz.zeroValue194
  t167 := Tryz.underlying164
  a167 := Tryz.isAgg164
  z167 := Tryz.sizeOf164
  v167 := Tryz.zeroValue164
  t168 := Tryz.underlying168
  a168 := Tryz.isAgg168
  z168 := Tryz.sizeOf168
  v168 := Tryz.zeroValue168
  t171 := Tryz.underlying200
  a171 := Tryz.isAgg200
  z171 := Tryz.sizeOf200
  v171 := Tryz.zeroValue200
  t173 := Tryz.underlying203
  a173 := Tryz.isAgg203
  z173 := Tryz.sizeOf203
  v173 := Tryz.zeroValue203
  t175 := Tryz.underlying166
  a175 := Tryz.isAgg166
  z175 := Tryz.sizeOf166
  v175 := Tryz.zeroValue166
  t210 := Tryz.underlying184
  a210 := Tryz.isAgg184
  z210 := Tryz.sizeOf184
  v210 := Tryz.zeroValue184
  t212 := Tryz.underlying206
  a212 := Tryz.isAgg206
  z212 := Tryz.sizeOf206
  v212 := Tryz.zeroValue206
  t213 := Tryz.underlying207
  a213 := Tryz.isAgg207
  z213 := Tryz.sizeOf207
  t232 := Tryz.underlying210
  a232 := Tryz.isAgg210
  z232 := Tryz.sizeOf210
  v232 := Tryz.zeroValue210
  t233 := Tryz.underlying211
  a233 := Tryz.isAgg211
  z233 := Tryz.sizeOf211
  v233 := Tryz.zeroValue211
  g15 := by kernel_rfl
  g16 := by kernel_rfl
  g17 := by kernel_rfl
  g18 := by kernel_rfl
  g19 := by kernel_rfl
  t80 := Tryz.underlying99
  a80 := Tryz.isAgg99
  z80 := Tryz.sizeOf99
  v80 := Tryz.zeroValue99
  i0 := by kernel_rfl
  i2 := by kernel_rfl
  i3 := by kernel_rfl
  i4 := by kernel_rfl
  i5 := by kernel_rfl
  i9 := by kernel_rfl
  i20 := by kernel_rfl
  i21 := by kernel_rfl
  i37 := by kernel_rfl
  i46 := by kernel_rfl
  i51 := by kernel_rfl
  i53 := by kernel_rfl
  i75 := by kernel_rfl
  i80 := by kernel_rfl
  i85 := by kernel_rfl
  i127 := by kernel_rfl
  i143 := by kernel_rfl
  i145 := by kernel_rfl
  i167 := by kernel_rfl
  i168 := by kernel_rfl
  i171 := by kernel_rfl
  i173 := by kernel_rfl
  i175 := by kernel_rfl
  i210 := by kernel_rfl
  i212 := by kernel_rfl
  i232 := by kernel_rfl
  i233 := by kernel_rfl
  m15 := by kernel_rfl
  m16 := by kernel_rfl
  m17 := by kernel_rfl
  m18 := by kernel_rfl
  m19 := by kernel_rfl
  c0 := by kernel_rfl
  c2 := by kernel_rfl
  c3 := by kernel_rfl
  c4 := by kernel_rfl
  c5 := by kernel_rfl
  c9 := by kernel_rfl
  c20 := by kernel_rfl
  c21 := by kernel_rfl
  c37 := by kernel_rfl
  c46 := by kernel_rfl
  c51 := by kernel_rfl
  c53 := by kernel_rfl
  c75 := by kernel_rfl
  c80 := by kernel_rfl
  c85 := by kernel_rfl
  c127 := by kernel_rfl
  c143 := by kernel_rfl
  c145 := by kernel_rfl
  c167 := by kernel_rfl
  c168 := by kernel_rfl
  c171 := by kernel_rfl
  c173 := by kernel_rfl
  c175 := by kernel_rfl
  c210 := by kernel_rfl
  c212 := by kernel_rfl
  c213 := by kernel_rfl
  c232 := by kernel_rfl
  c233 := by kernel_rfl }
open Go.RowKit in
/-- strconv.ParseInt(s, 10, 64), AT EVERY STRING THAT SPELLS AN int64 ('Lib.parseIntB 64 s.data.toList = .ok v'): v, AND NO ERROR. (LAID: no walk: one application.) -/
theorem Tryz.strconv_ParseInt_10_at64_ok (s : ByteArray) (hmax : s.size ≤ 9223372036854775806) (v : Int) (h : Lib.parseIntB 64 s.data.toList = .ok v) (w : World) :
    Calls Tryz.prog 83 #[.string s, .int .i64 10, .int .i64 64] w fun e w' => e = .returned (.tuple #[.int .i64 v, .nilIface]) ∧ (w' = w ∨ ∃ t, w' = Lib.bytesWorld w 5 t) := Any.strconv_ParseInt_10_at64_ok Tryz.laysC174 s hmax v h w
open Go.RowKit in
theorem Tryz.strconv_ParseInt_10_at64_range_var (s : ByteArray) (hlim : s.size ≤ 281474976710656) (h : Lib.parseIntB 64 s.data.toList = .range) (tp : TypeId) (p : Value) (w : World) (hvar : w.var? Tryz.prog "strconv.ErrRange" = some #[.iface tp p]) :
    Calls Tryz.prog 83 #[.string s, .int .i64 10, .int .i64 64] w fun e w' => ∃ N, e = .returned (.tuple #[.int .i64 (Lib.intSat 64 s.data.toList), .iface 168 (.pointer (some ⟨N, 0, none⟩))]) ∧ w.heap.size ≤ N ∧ w'.heap[N]? = some (.cells #[.string ⟨#[80, 97, 114, 115, 101, 73, 110, 116]⟩, .string s, .iface tp p] 184 (0, 0)) ∧ Below w.heap.size w w' := Any.strconv_ParseInt_10_at64_range_var Tryz.laysC174 s hlim h tp p w hvar
def Tryz.lays143_ren : Go.Shelf.Ren := ⟨fun | 143 => 162 | 219 => 164 | 217 => 165 | 225 => 166 | 224 => 167 | 267 => 168 | 266 => 169 | 314 => 170 | n => n, fun | 9 => 9 | 3 => 3 | 4 => 4 | 5 => 5 | 46 => 105 | 146 => 226 | 51 => 195 | n => n, fun | 1 => 6 | n => n⟩
theorem Tryz.lays143 : Go.Proofs.Lays.n143 Tryz.prog Tryz.lays143_ren := {
  mixed := by kernel_rfl
  f143 := Tryz.func162.trans (congrArg some (by kernel_rfl))
  f217 := Tryz.func165.trans (congrArg some (by kernel_rfl))
  f219 := Tryz.func164.trans (congrArg some (by kernel_rfl))
  f224 := Tryz.func167.trans (congrArg some (by kernel_rfl))
  f225 := Tryz.func166.trans (congrArg some (by kernel_rfl))
  f266 := Tryz.func169.trans (congrArg some (by kernel_rfl))
  f267 := Tryz.func168.trans (congrArg some (by kernel_rfl))
  f314 := Tryz.func170.trans (congrArg some (by kernel_rfl))
  t3 := Tryz.underlying3
  a3 := Tryz.isAgg3
  z3 := Tryz.sizeOf3
  v3 := Tryz.zeroValue3
  t4 := Tryz.underlying4
  a4 := Tryz.isAgg4
  z4 := Tryz.sizeOf4
  v4 := Tryz.zeroValue4
  t5 := Tryz.underlying5
  a5 := Tryz.isAgg5
  z5 := Tryz.sizeOf5
  v5 := Tryz.zeroValue5
  t9 := Tryz.underlying9
  a9 := Tryz.isAgg9
  z9 := Tryz.sizeOf9
  v9 := Tryz.zeroValue9
  t46 := Tryz.underlying105
  a46 := Tryz.isAgg105
  z46 := Tryz.sizeOf105
  v46 := Tryz.zeroValue105
  t51 := Tryz.underlying195
  a51 := Tryz.isAgg195
  z51 := Tryz.sizeOf195
  v51 := Tryz.zeroValue195
  t146 := Tryz.underlying226
  a146 := Tryz.isAgg226
  z146 := Tryz.sizeOf226
  v146 := Tryz.zeroValue226
  g1 := by kernel_rfl }
open Go.RowKit Go.Lib in
/-- strings.Index: "Index returns the index of the first instance of substr in s, or -1 if substr is not present in s.": AT A substr OF ONE BYTE c: IT RETURNS 'Lib.indexByte s c'; the world is as it was. (LAID: no walk: one application.) -/
theorem Tryz.strings_Index_one (s : ByteArray) (c : UInt8) (w : World) :
    Calls Tryz.prog 162 #[.string s, .string ⟨#[c]⟩] w fun e w' => e = .returned (.int .i64 (Lib.indexByte s.data.toList c)) ∧ w' = w := Any.strings_Index_one Tryz.lays143 s c w
def Tryz.laysM146_ren : Go.Shelf.Ren := ⟨fun | 146 => 173 | 221 => 174 | 268 => 175 | 138 => 176 | 143 => 162 | 195 => 177 | 197 => 178 | 218 => 179 | 219 => 164 | 260 => 180 | 217 => 165 | 225 => 166 | 224 => 167 | 267 => 168 | 266 => 169 | 314 => 170 | n => n, fun | 9 => 9 | 31 => 228 | 3 => 3 | 4 => 4 | 0 => 0 | 105 => 233 | 21 => 21 | 5 => 5 | 46 => 105 | 119 => 235 | 139 => 238 | 138 => 237 | 146 => 226 | 51 => 195 | n => n, fun | 1 => 6 | 3 => 7 | 4 => 8 | n => n⟩
theorem Tryz.laysM146 : Go.Proofs.LaysM.n146 Tryz.prog Tryz.laysM146_ren := {
  mixed := by kernel_rfl
  f138 := Tryz.func176.trans (congrArg some (by kernel_rfl))
  f143 := Tryz.func162.trans (congrArg some (by kernel_rfl))
  f146 := Tryz.func173.trans (congrArg some (by kernel_rfl))
  f195 := Tryz.func177.trans (congrArg some (by kernel_rfl))
  f197 := Tryz.func178.trans (congrArg some (by kernel_rfl))
  f217 := Tryz.func165.trans (congrArg some (by kernel_rfl))
  f218 := Tryz.func179.trans (congrArg some (by kernel_rfl))
  f219 := Tryz.func164.trans (congrArg some (by kernel_rfl))
  f221 := Tryz.func174.trans (congrArg some (by kernel_rfl))
  f224 := Tryz.func167.trans (congrArg some (by kernel_rfl))
  f225 := Tryz.func166.trans (congrArg some (by kernel_rfl))
  f260 := Tryz.func180.trans (congrArg some (by kernel_rfl))
  f266 := Tryz.func169.trans (congrArg some (by kernel_rfl))
  f267 := Tryz.func168.trans (congrArg some (by kernel_rfl))
  f268 := Tryz.func175.trans (congrArg some (by kernel_rfl))
  f314 := Tryz.func170.trans (congrArg some (by kernel_rfl))
  t0 := Tryz.underlying0
  a0 := Tryz.isAgg0
  z0 := Tryz.sizeOf0
  v0 := Tryz.zeroValue0
  t3 := Tryz.underlying3
  a3 := Tryz.isAgg3
  z3 := Tryz.sizeOf3
  v3 := Tryz.zeroValue3
  t4 := Tryz.underlying4
  a4 := Tryz.isAgg4
  z4 := Tryz.sizeOf4
  v4 := Tryz.zeroValue4
  t5 := Tryz.underlying5
  a5 := Tryz.isAgg5
  z5 := Tryz.sizeOf5
  v5 := Tryz.zeroValue5
  t9 := Tryz.underlying9
  a9 := Tryz.isAgg9
  z9 := Tryz.sizeOf9
  v9 := Tryz.zeroValue9
  t21 := Tryz.underlying21
  a21 := Tryz.isAgg21
  z21 := Tryz.sizeOf21
  v21 := Tryz.zeroValue21
  t31 := Tryz.underlying228
  a31 := Tryz.isAgg228
  z31 := Tryz.sizeOf228
  v31 := Tryz.zeroValue228
  t46 := Tryz.underlying105
  a46 := Tryz.isAgg105
  z46 := Tryz.sizeOf105
  v46 := Tryz.zeroValue105
  t51 := Tryz.underlying195
  a51 := Tryz.isAgg195
  z51 := Tryz.sizeOf195
  v51 := Tryz.zeroValue195
  t105 := Tryz.underlying233
  a105 := Tryz.isAgg233
  z105 := Tryz.sizeOf233
  v105 := Tryz.zeroValue233
  t119 := Tryz.underlying235
  a119 := Tryz.isAgg235
  z119 := Tryz.sizeOf235
  t138 := Tryz.underlying237
  a138 := Tryz.isAgg237
  z138 := Tryz.sizeOf237
  v138 := Tryz.zeroValue237
  t139 := Tryz.underlying238
  a139 := Tryz.isAgg238
  z139 := Tryz.sizeOf238
  v139 := Tryz.zeroValue238
  t146 := Tryz.underlying226
  a146 := Tryz.isAgg226
  z146 := Tryz.sizeOf226
  v146 := Tryz.zeroValue226
  g1 := by kernel_rfl
  g3 := by kernel_rfl
  g4 := by kernel_rfl
  i0 := by kernel_rfl
  i3 := by kernel_rfl
  i4 := by kernel_rfl
  i5 := by kernel_rfl
  i9 := by kernel_rfl
  i21 := by kernel_rfl
  i31 := by kernel_rfl
  i46 := by kernel_rfl
  i51 := by kernel_rfl
  i105 := by kernel_rfl
  i138 := by kernel_rfl
  i139 := by kernel_rfl
  i146 := by kernel_rfl
  m1 := by kernel_rfl
  s1_3 := fun w h => Go.Proofs.cell_of_shapedOpen_int (zero := #[.int .i64 0]) (t := 3) h (of_decide_eq_true (by kernel_rfl)) (by kernel_rfl) rfl (by kernel_rfl) (by kernel_rfl) Tryz.underlying3
  m3 := by kernel_rfl
  m4 := by kernel_rfl }
open Go.RowKit Go.Lib in
/-- strings.Split, sep not empty. (LAID: no walk: one application.) -/
theorem Tryz.strings_Split_shaped (s sep : ByteArray) (w : World) (h : w.ShapedOpen Tryz.prog) (hs : s.size < 4294967281) (h1 : 1 ≤ sep.size) :
    Calls Tryz.prog 173 #[.string s, .string sep] w fun e w' =>
      e = .returned (.slice (some ⟨w.heap.size, 0, none⟩) (Lib.countB s sep + 1) (Lib.countB s sep + 1)) ∧ w' = w.alloc (.cells ((Lib.splitB sep 0 (Lib.countB s sep) s).map Value.string).toArray 9) := Any.strings_Split_shaped Tryz.laysM146 s sep w h hs h1
end Go.Proofs

/-
  THE DOCUMENT's 'Signs' and the program's 'measure': the signs of any bytes, as far as they are signs'.
-/
namespace Go.Proofs.YtpnfjjgihkmjmaaGreatDoor
open Go.RowKit

theorem extract_end (s : ByteArray) (a : Nat) : (s.extract a s.size).data.toList = s.data.toList.drop a := by
  rw [Lib.extract_data, List.take_of_length_le (by rw [List.length_drop, ← Lib.size_eq]; exact Nat.le_refl _)]
structure Parts (l : List UInt8) (sl : List Int) (rest : List UInt8) : Prop where
  eq : l = encL sl ++ rest
  all : AllS sl
  bad : rest = [] ∨ Bad rest
theorem parts_of (l : List UInt8) : ∃ sl rest, Parts l sl rest := by
  obtain ⟨sl, rest, h1, h2, h3⟩ := split_bytes l
  exact ⟨sl, rest, h1, h2, h3⟩
theorem Parts.one {l : List UInt8} {a b : List Int} {r t : List UInt8} (h : Parts l a r) (k : Parts l b t) : a = b ∧ r = t :=
  split_one a b r t (h.eq.symm.trans k.eq) h.all k.all h.bad k.bad

theorem isempty_nil (r : List UInt8) (h : r = []) : decide (r = []) = true := by simp [h]
def intRow (l : List Int) : List Value := l.map (Value.int .i64)
theorem intRow_len (l : List Int) : (intRow l).length = l.length := by simp [intRow]

/-- A slice of integers that the call made. -/
def Ints (B : Nat) (w : World) (v : Value) (l : List Int) : Prop := w.ownsRow B 3 1 v l.length (intRow l)

theorem fstF_sign (s : ByteArray) (n : Int) (r : List UInt8) (h : s.data.toList = Lib.encodeRune n ++ r) (hn : sgn n = true) : fstF s = n ∧ sndF s = (Lib.encodeRune n).length := by
  have hd : Utf8.decode s 0 = (n.toNat, (Lib.encodeRune n).length) := by rw [← Lib.decodeL_drop, List.drop_zero, h, dec_enc n r hn]
  have := F_ok s _ _ hd (by intro h1 h2; have := dec_good n r hn; rw [dec_enc n r hn] at this; exact this ⟨h2, h1⟩) n (Lib.encodeRune n).length (by have := (sgn_iff n).1 hn; omega) rfl
  exact ⟨this.1.symm, this.2.symm⟩
theorem fstF_bad (s : ByteArray) (h : Bad s.data.toList) : fstF s = -1 ∧ sndF s = 0 := by
  have hd : Utf8.decode s 0 = (65533, 1) := by rw [← Lib.decodeL_drop, List.drop_zero]; exact Prod.ext h.2.1 h.2.2
  have := F_bad s hd
  exact ⟨this.1.symm, this.2.symm⟩

theorem intInfo : (Tryz.prog.info? 3).map (fun i => (i.zero, i.size, i.bytes)) = some (some (.int .i64 0), 1, 8) := by kernel_rfl
theorem runeInfo : (Tryz.prog.info? 21).map (fun i => (i.zero, i.size, i.bytes)) = some (some (.int .i32 0), 1, 4) := by kernel_rfl
theorem byteInfo : (Tryz.prog.info? 5).map (fun i => (i.zero, i.size, i.bytes)) = some (some (.int .u8 0), 1, 1) := by kernel_rfl

theorem ints_below {B : Nat} {w w' : World} {v : Value} {l : List Int} (h : Ints B w v l) (hb : Below w.heap.size w w') : Ints B w' v l := by
  refine ⟨h.1, ?_⟩
  rcases h.2 with x | ⟨g, cap, cur, hv, hg, hh, rest⟩
  · exact .inl x
  · exact .inr ⟨g, cap, cur, hv, hg, (hb.block g (Array.getElem?_eq_some_iff.1 hh).1).trans hh, rest⟩
theorem ints_mono {B B' : Nat} {w : World} {v : Value} {l : List Int} (h : Ints B w v l) (hB : B' ≤ B) : Ints B' w v l := by
  refine ⟨h.1, ?_⟩
  rcases h.2 with x | ⟨g, cap, cur, hv, hg, hh, rest⟩
  · exact .inl x
  · exact .inr ⟨g, cap, cur, hv, Nat.le_trans hB hg, hh, rest⟩
def SI (B : Nat) (w : World) (sl : List Int) (g : Nat) (v i : Value) (wr : World) : Prop :=
  ∃ a b, sl = a ++ b ∧ b.length = g ∧ i = .int .i64 (encL a).length ∧ Ints B wr v a ∧ Below B w wr
def SignsPost (w : World) (sl : List Int) (ok : Bool) (e : Ending) (w' : World) : Prop :=
  ∃ v, e = .returned (.tuple #[v, .bool ok]) ∧ Ints w.heap.size w' v sl ∧ Below w.heap.size w w'

set_option maxHeartbeats 4000000 in
set_option maxRecDepth 100000 in
theorem signs_any (s : ByteArray) (sl : List Int) (rest : List UInt8) (hp : Parts s.data.toList sl rest) (hsz : s.size ≤ 4294967296) (w : World) :
    Calls Tryz.prog 14 #[.string s] w (SignsPost w sl (decide (rest = []))) := by
  have hlen : (encL sl).length + rest.length = s.size := by rw [len_of s _ hp.eq]; simp
  have hsl := (encL_len sl).1
  have HP := Lib.hid hp
  clear hp
  obtain ⟨i0, hi, hz0, hz1, hz2⟩ := info_parts intInfo
  go_enter Tryz.func14, Tryz.ntmps14
  go_wp2
  go_loopg [4, 5] sl.length (fun g v i wr => SI w.heap.size w sl g v i wr)
  case atStart => exact ⟨[], sl, rfl, rfl, rfl, World.ownsRow_nil _ _ _ _, Below.refl _ _⟩
  case round =>
    obtain ⟨a, b, hab, hbl, rfl, hI, hbw⟩ := hrel
    have hpl : (encL a).length ≤ (encL sl).length := by rw [hab, encL_append]; simp
    have hal := (encL_len a).1
    have hdat : (s.extract (encL a).length s.size).data.toList = encL b ++ rest := by
      rw [extract_end, HP.out.eq, hab, encL_append, List.append_assoc, List.drop_left]
    have HD := Lib.hid hdat
    have hex : (s.extract (encL a).length s.size).size = s.size - (encL a).length := by rw [len_of _ _ hdat]; rw [hab, encL_append] at hlen; simp at *; omega
    have HAB := Lib.hid hab
    have HBL := Lib.hid hbl
    clear hdat hab
    have hI2 := hI
    cases gk with
    | zero =>
      obtain rfl : b = [] := List.length_eq_zero_iff.1 hbl
      clear hbl
      have hasl : sl = a := by rw [HAB.out, List.append_nil]
      have hle : (encL sl).length = (encL a).length := by rw [hasl]
      by_cases hr : rest = []
      · have hr0 : rest.length = 0 := by rw [hr]; rfl
        have hlt : ¬ ((encL a).length < s.size) := by omega
        have HR := Lib.hid hr
        have HA := Lib.hid hasl
        clear hr hasl hle hlen hex hr0
        go_wp2
        go_ret2
        exact ⟨u4, by rw [decide_eq_true HR.out]; rfl, by rw [HA.out]; exact hI, hbw⟩
      · have hr0 : 0 < rest.length := List.length_pos_iff.2 hr
        have hlt : (encL a).length < s.size := by omega
        have hbad : Bad (s.extract (encL a).length s.size).data.toList := by
          rw [HD.out]; exact HP.out.bad.resolve_left hr
        obtain ⟨f1, f2⟩ := fstF_bad _ hbad
        have cF : ∀ W, Calls Tryz.prog 50 #[.string (s.extract (encL a).length s.size)] W fun e w' => e = .returned (.tuple #[.int .i64 (-1), .int .i64 0]) ∧ Below W.heap.size W w' := fun W => by
          have := first_any (s.extract (encL a).length s.size) (by omega) (by omega) W
          rwa [f1, f2] at this
        have HR := Lib.hid hr
        have HA := Lib.hid hasl
        clear hr hasl hle hlen hex hr0 f1 f2 hbad
        go_wp2_with (go_at_call 50; refine (cF _).mono ?_; rintro e w2 ⟨rfl, hb2⟩)
        go_ret2
        exact ⟨u4, by rw [decide_eq_false HR.out]; rfl, by rw [HA.out]; exact ints_below hI hb2, hbw.trans (hb2.mono hbw.size)⟩
    | succ g =>
      obtain ⟨n, b', rfl⟩ : ∃ n b', b = n :: b' := by
        match b, hbl with
        | n :: b', _ => exact ⟨n, b', rfl⟩
      clear hbl
      have hn : sgn n = true := HP.out.all n (by rw [HAB.out]; simp)
      have hk := enc_len n
      have hd2 : (s.extract (encL a).length s.size).data.toList = Lib.encodeRune n ++ (encL b' ++ rest) := by rw [HD.out, encL_cons, List.append_assoc]
      have hpos : 0 < (s.extract (encL a).length s.size).size := by rw [len_of _ _ hd2]; simp; omega
      obtain ⟨f1, f2⟩ := fstF_sign _ n _ hd2 hn
      have cF : ∀ W, Calls Tryz.prog 50 #[.string (s.extract (encL a).length s.size)] W fun e w' => e = .returned (.tuple #[.int .i64 n, .int .i64 (Lib.encodeRune n).length]) ∧ Below W.heap.size W w' := fun W => by
        have := first_any (s.extract (encL a).length s.size) hpos (by omega) W
        rwa [f1, f2] at this
      have hlt : (encL a).length < s.size := by omega
      have hq : (encL a).length + (Lib.encodeRune n).length ≤ s.size := by rw [len_of _ _ hd2] at hex; simp at hex; omega
      have hst := enc_step a n
      have HST := Lib.hid hst
      have HBL2 := HBL
      have hz : ((Lib.encodeRune n).length : Int) ≠ 0 := by omega
      have hzb : (((Lib.encodeRune n).length : Int) == 0) = false := by simpa using hz
      clear hex f1 f2 hn hd2 hpos hz hst
      go_wp2_with (first
        | (go_at_call 50; refine (cF _).mono ?_; rintro e w2 ⟨rfl, hb2⟩; have hI3 := ints_below hI hb2)
        | (at_builtin; refine wpList_append_own _ rfl _ _ 41 rfl w.heap.size 3 i0 (.int .i64 0) 1 8 Tryz.underlying41 hi hz0 hz1 hz2 rfl (by decide) _ _ _ rfl (hI3.alloc _) ⟨w2.heap.size, 0, none⟩ 1 1 [.int .i64 n] rfl rfl ?c1 ?c2 ?c3 ?c4 ?c5 ?_))
      case c1 =>
        intro j u hj
        match j, hj with
        | 0, hj => simp at hj; subst hj; simp [Addr.add]
      case c2 => intro u hu; simp at hu; subst hu; rfl
      case c3 => unfold maxLen; omega
      case c4 => omega
      case c5 => have := hbw.size; have := hb2.size; simp; omega
      intro v' w3 hown hgrow _
      have hfin : SI w.heap.size w sl g v' (.int .i64 ((encL a).length + (Lib.encodeRune n).length)) w3 := by
        refine ⟨a ++ [n], b', by rw [HAB.out]; simp, by simpa using HBL.out, by rw [HST.out]; rfl, ?_, ?_⟩
        · unfold Ints intRow
          rw [List.length_append, List.map_append]
          exact hown
        · exact ((hbw.trans (hb2.mono hbw.size)).alloc (by have := hbw.size; have := hb2.size; omega) _).grown hgrow (by have := hbw.size; have := hb2.size; simp; omega) (fun k hk => (hI3.lt k hk).1)
      have HF := Lib.hid hfin
      clear hfin hown hgrow cF hI hI2 hI3
      go_wp2
      go_roundg g
      case measure => omega
      case rel => exact HF.out
end Go.Proofs.YtpnfjjgihkmjmaaGreatDoor

/-
  THE PROGRAM's 'measure', 'Good', 'Len': how many signs, and how many bytes, stand ahead of what is no sign's.
-/
namespace Go.Proofs.YtpnfjjgihkmjmaaGreatDoor
open Go.RowKit

theorem enc_bad : Lib.encodeRune 65533 = [239, 191, 189] := by decide
theorem pre_sign (r : List UInt8) : Lib.hasPrefix (Lib.encodeRune 65533 ++ r) [239, 191, 189] = true := by
  rw [enc_bad]; simp [Lib.hasPrefix]
theorem pre_bad (l : List UInt8) (h : Bad l) : Lib.hasPrefix l [239, 191, 189] = false := by
  rw [Bool.eq_false_iff]
  intro hp
  have : ∃ t, l = [239, 191, 189] ++ t := by
    simp [Lib.hasPrefix] at hp
    obtain ⟨t, ht⟩ := hp
    exact ⟨t, ht.symm⟩
  obtain ⟨t, rfl⟩ := this
  have := dec_good 65533 t (by decide)
  rw [enc_bad] at this
  exact this h.2

def MI (w : World) (s : ByteArray) (sl : List Int) (g : Nat) (c : Value) (wr : World) : Prop :=
  ∃ a b, sl = a ++ b ∧ b.length = g ∧ c = .int .i64 a.length ∧ wr.heap[w.heap.size]? = some (.stringIter s (encL a).length) ∧ Below w.heap.size w wr

set_option maxHeartbeats 4000000 in
set_option maxRecDepth 100000 in
theorem measure_any (s : ByteArray) (sl : List Int) (rest : List UInt8) (hp : Parts s.data.toList sl rest) (hsz : s.size ≤ 4294967296) (w : World) :
    Calls Tryz.prog 64 #[.string s] w fun e w' => e = .returned (.tuple #[.int .i64 sl.length, .int .i64 (encL sl).length]) ∧ Below w.heap.size w w' := by
  have hlen : (encL sl).length + rest.length = s.size := by rw [len_of s _ hp.eq]; simp
  have hsl := (encL_len sl).1
  have HP := Lib.hid hp
  clear hp
  go_enter Tryz.func64, Tryz.ntmps64
  go_wp2
  go_loopg [2] sl.length (fun g c wr => MI w s sl g c wr)
  case atStart => exact ⟨[], sl, rfl, rfl, rfl, World.iter_heap _ _ _, (Below.refl _ _).alloc (Nat.le_refl _) _⟩
  case round =>
    obtain ⟨a, b, hab, hbl, rfl, hit, hbw⟩ := hrel
    have hpl : (encL a).length ≤ (encL sl).length := by rw [hab, encL_append]; simp
    have hal := (encL_len a).1
    have hdat : s.data.toList = encL a ++ (encL b ++ rest) := by rw [HP.out.eq, hab, encL_append, List.append_assoc]
    have hext : (s.extract (encL a).length s.size).data.toList = encL b ++ rest := by rw [extract_end, hdat, List.drop_left]
    have HX := Lib.hid hext
    have HAB := Lib.hid hab
    have HBL := Lib.hid hbl
    clear hext
    cases gk with
    | zero =>
      obtain rfl : b = [] := List.length_eq_zero_iff.1 hbl
      have hasl : sl = a := by rw [hab, List.append_nil]
      have HA := Lib.hid hasl
      have hle : (encL sl).length = (encL a).length := by rw [hasl]
      by_cases hr : rest = []
      · have hnx : ∀ ty, (Instr.next (.pointer (some ⟨w.heap.size, 0, none⟩)) true ty).run Tryz.prog wr = _ := fun ty => next_done wr w.heap.size s a (by rw [hdat, hr]; simp [encL]) hit ty
        have hr0 : rest.length = 0 := by rw [hr]; rfl
        have hss : s.size = (encL a).length := by omega
        have HSS := Lib.hid hss
        clear hab hbl hdat hasl hle hr hr0 hss hlen
        go_wp2
        go_ret2
        exact ⟨ret_two ⟨by rw [HA.out], by rw [HA.out, HSS.out]⟩, hbw⟩
      · have hbad : Bad rest := HP.out.bad.resolve_left hr
        have hnx : ∀ ty, (Instr.next (.pointer (some ⟨w.heap.size, 0, none⟩)) true ty).run Tryz.prog wr = _ := fun ty => next_bad wr w.heap.size s a rest (by rw [hdat]; simp [encL]) hbad hit ty
        have cH : ∀ W, Calls Tryz.prog 89 #[.string (s.extract (encL a).length s.size), .string ⟨#[239, 191, 189]⟩] W fun e w' => e = .returned (.bool false) ∧ W = w' := fun W =>
          (Tryz.strings_HasPrefix _ _ W).mono fun e w' ⟨h1, h2⟩ => ⟨by rw [h1, HX.out]; rw [show (encL [] ++ rest) = rest from rfl, pre_bad rest hbad], h2.symm⟩
        have hb2 := Lib.below_iterAt hbw (k := w.heap.size) (by omega) s ((encL a).length + 1)
        clear hab hbl hdat hasl hle hr hbad hit
        go_wp2_with (go_at_call 89; refine (cH _).mono ?_; rintro e w' ⟨rfl, rfl⟩)
        go_ret2
        exact ⟨ret_two ⟨by rw [HA.out], by rw [HA.out]⟩, hb2⟩
    | succ g =>
      obtain ⟨n, b', rfl⟩ : ∃ n b', b = n :: b' := by
        match b, hbl with
        | n :: b', _ => exact ⟨n, b', rfl⟩
      have hn : sgn n = true := HP.out.all n (by rw [hab]; simp)
      have hnx : ∀ ty, (Instr.next (.pointer (some ⟨w.heap.size, 0, none⟩)) true ty).run Tryz.prog wr = _ := fun ty => next_sign wr w.heap.size s a n (encL b' ++ rest) (by rw [hdat, encL_cons, List.append_assoc]) hn hit ty
      have hfin : MI w s sl g (.int .i64 (a.length + 1)) (wr.iterAt w.heap.size s (encL (a ++ [n])).length) :=
        ⟨a ++ [n], b', by rw [hab]; simp, by simpa using hbl, by simp, Lib.iterAt_heap _ _ _ _ _ hit, Lib.below_iterAt hbw (by omega) _ _⟩
      have HF := Lib.hid hfin
      have cH : ∀ W, n = 65533 → Calls Tryz.prog 89 #[.string (s.extract (encL a).length s.size), .string ⟨#[239, 191, 189]⟩] W fun e w' => e = .returned (.bool true) ∧ W = w' := fun W hn =>
        (Tryz.strings_HasPrefix _ _ W).mono fun e w' ⟨h1, h2⟩ => ⟨by rw [h1, HX.out, encL_cons, hn, List.append_assoc]; rw [pre_sign], h2.symm⟩
      by_cases hc : n = 65533
      · have hcB : (n == 65533) = true := by simpa using hc
        have cH2 := fun W => cH W hc
        clear cH hc hab hbl hdat hn hfin hit
        go_wp2_with (go_at_call 89; refine (cH2 _).mono ?_; rintro e w' ⟨rfl, rfl⟩)
        go_roundg g
        case measure => omega
        case rel => exact HF.out
      · have hcB : (n == 65533) = false := by simpa using hc
        clear cH hc hab hbl hdat hn hfin hit
        go_wp2
        go_roundg g
        case measure => omega
        case rel => exact HF.out

theorem good_any (s : ByteArray) (sl : List Int) (rest : List UInt8) (hp : Parts s.data.toList sl rest) (hsz : s.size ≤ 4294967296) (w : World) :
    Calls Tryz.prog 90 #[.string s] w fun e w' => e = .returned (.bool (decide (rest = []))) ∧ Below w.heap.size w w' := by
  have hlen : (encL sl).length + rest.length = s.size := by rw [len_of s _ hp.eq]; simp
  have hm := measure_any s sl rest hp hsz
  clear hp
  by_cases hr : rest = []
  · have hr0 : rest.length = 0 := by rw [hr]; rfl
    have hd : decide (rest = []) = true := decide_eq_true hr
    have hB : (((encL sl).length : Int) == (s.size : Int)) = true := by simp; omega
    rw [hd]
    clear hr hd hr0 hlen
    go_enter Tryz.func90, Tryz.ntmps90
    go_wp2_with (go_at_call 64; refine (hm _).mono ?_; rintro e w2 ⟨rfl, hb⟩)
    go_ret
    exact ⟨ret_bool (by first | rfl | assumption), hb⟩
  · have hr0 : 0 < rest.length := List.length_pos_iff.2 hr
    have hd : decide (rest = []) = false := decide_eq_false hr
    have hB : (((encL sl).length : Int) == (s.size : Int)) = false := by simp; omega
    rw [hd]
    clear hr hd hr0 hlen
    go_enter Tryz.func90, Tryz.ntmps90
    go_wp2_with (go_at_call 64; refine (hm _).mono ?_; rintro e w2 ⟨rfl, hb⟩)
    go_ret
    exact ⟨ret_bool (by first | rfl | assumption), hb⟩
end Go.Proofs.YtpnfjjgihkmjmaaGreatDoor
