/-
  THE DOCUMENT's 'Signs' and the program's 'measure': the signs of any bytes, as far as they are signs'.
-/
import Derived.Test.YtaoelnfflkkeeaaGreatDoorFirst
import Derived.Test.YtaoelnfflkkeeaaGreatDoorRng
import Derived.Test.YtaoelnfflkkeeaaGreatDoorVShelf
namespace Go.Proofs.YtaoelnfflkkeeaaGreatDoor
open Go.RowKit

theorem extract_end (s : ByteArray) (a : Nat) : (s.extract a s.size).data.toList = s.data.toList.drop a := by
  rw [Lib.extract_data, List.take_of_length_le (by rw [List.length_drop, ← Lib.size_eq]; exact Nat.le_refl _)]
structure Parts (l : List UInt8) (sl : List Int) (rest : List UInt8) : Prop where
  eq : l = encL sl ++ rest
  all : AllS sl
  bad : rest = [] ∨ Bad rest
theorem parts_of (l : List UInt8) : ∃ sl rest, Parts l sl rest := by
  obtain ⟨sl, rest, h1, h2, h3⟩ := split_bytes l
  exact ⟨sl, rest, h1, h2, h3⟩
theorem Parts.one {l : List UInt8} {a b : List Int} {r t : List UInt8} (h : Parts l a r) (k : Parts l b t) : a = b ∧ r = t :=
  split_one a b r t (h.eq.symm.trans k.eq) h.all k.all h.bad k.bad

def intRow (l : List Int) : List Value := l.map (Value.int .i64)
/-- A slice of integers that the call made. -/
def Ints (B : Nat) (w : World) (v : Value) (l : List Int) : Prop := w.ownsRow B 3 1 v l.length (intRow l)

theorem fstF_sign (s : ByteArray) (n : Int) (r : List UInt8) (h : s.data.toList = Lib.encodeRune n ++ r) (hn : sgn n = true) : fstF s = n ∧ sndF s = (Lib.encodeRune n).length := by
  have hd : Utf8.decode s 0 = (n.toNat, (Lib.encodeRune n).length) := by rw [← Lib.decodeL_drop, List.drop_zero, h, dec_enc n r hn]
  have := F_ok s _ _ hd (by intro h1 h2; have := dec_good n r hn; rw [dec_enc n r hn] at this; exact this ⟨h2, h1⟩) n (Lib.encodeRune n).length (by have := (sgn_iff n).1 hn; omega) rfl
  exact ⟨this.1.symm, this.2.symm⟩
theorem fstF_bad (s : ByteArray) (h : Bad s.data.toList) : fstF s = -1 ∧ sndF s = 0 := by
  have hd : Utf8.decode s 0 = (65533, 1) := by rw [← Lib.decodeL_drop, List.drop_zero]; exact Prod.ext h.2.1 h.2.2
  have := F_bad s hd
  exact ⟨this.1.symm, this.2.symm⟩

theorem intInfo : (Tryz.prog.info? 3).map (fun i => (i.zero, i.size, i.bytes)) = some (some (.int .i64 0), 1, 8) := by kernel_rfl
theorem ints_below {B : Nat} {w w' : World} {v : Value} {l : List Int} (h : Ints B w v l) (hb : Below w.heap.size w w') : Ints B w' v l := by
  refine ⟨h.1, ?_⟩
  rcases h.2 with x | ⟨g, cap, cur, hv, hg, hh, rest⟩
  · exact .inl x
  · exact .inr ⟨g, cap, cur, hv, hg, (hb.block g (Array.getElem?_eq_some_iff.1 hh).1).trans hh, rest⟩
def SI (B : Nat) (w : World) (sl : List Int) (g : Nat) (v i : Value) (wr : World) : Prop :=
  ∃ a b, sl = a ++ b ∧ b.length = g ∧ i = .int .i64 (encL a).length ∧ Ints B wr v a ∧ Below B w wr
def SignsPost (w : World) (sl : List Int) (ok : Bool) (e : Ending) (w' : World) : Prop :=
  ∃ v, e = .returned (.tuple #[v, .bool ok]) ∧ Ints w.heap.size w' v sl ∧ Below w.heap.size w w'

set_option maxHeartbeats 4000000 in
set_option maxRecDepth 100000 in
theorem signs_any (s : ByteArray) (sl : List Int) (rest : List UInt8) (hp : Parts s.data.toList sl rest) (hsz : s.size ≤ 4294967296) (w : World) :
    Calls Tryz.prog 27 #[.string s] w (SignsPost w sl (decide (rest = []))) := by
  have hlen : (encL sl).length + rest.length = s.size := by rw [len_of s _ hp.eq]; simp
  have hsl := (encL_len sl).1
  have HP := Lib.hid hp
  clear hp
  obtain ⟨i0, hi, hz0, hz1, hz2⟩ := info_parts intInfo
  go_enter Tryz.func27, Tryz.ntmps27
  go_wp2
  go_loopg [4, 5] sl.length (fun g v i wr => SI w.heap.size w sl g v i wr)
  case atStart => exact ⟨[], sl, rfl, rfl, rfl, World.ownsRow_nil _ _ _ _, Below.refl _ _⟩
  case round =>
    obtain ⟨a, b, hab, hbl, rfl, hI, hbw⟩ := hrel
    have hpl : (encL a).length ≤ (encL sl).length := by rw [hab, encL_append]; simp
    have hal := (encL_len a).1
    have hdat : (s.extract (encL a).length s.size).data.toList = encL b ++ rest := by
      rw [extract_end, HP.out.eq, hab, encL_append, List.append_assoc, List.drop_left]
    have HD := Lib.hid hdat
    have hex : (s.extract (encL a).length s.size).size = s.size - (encL a).length := by rw [len_of _ _ hdat]; rw [hab, encL_append] at hlen; simp at *; omega
    have HAB := Lib.hid hab
    have HBL := Lib.hid hbl
    clear hdat hab
    have hI2 := hI
    cases gk with
    | zero =>
      obtain rfl : b = [] := List.length_eq_zero_iff.1 hbl
      clear hbl
      have hasl : sl = a := by rw [HAB.out, List.append_nil]
      have hle : (encL sl).length = (encL a).length := by rw [hasl]
      by_cases hr : rest = []
      · have hr0 : rest.length = 0 := by rw [hr]; rfl
        have hlt : ¬ ((encL a).length < s.size) := by omega
        have HR := Lib.hid hr
        have HA := Lib.hid hasl
        clear hr hasl hle hlen hex hr0
        go_wp2
        go_ret2
        exact ⟨u4, by rw [decide_eq_true HR.out]; rfl, by rw [HA.out]; exact hI, hbw⟩
      · have hr0 : 0 < rest.length := List.length_pos_iff.2 hr
        have hlt : (encL a).length < s.size := by omega
        have hbad : Bad (s.extract (encL a).length s.size).data.toList := by
          rw [HD.out]; exact HP.out.bad.resolve_left hr
        obtain ⟨f1, f2⟩ := fstF_bad _ hbad
        have cF : ∀ W, Calls Tryz.prog 44 #[.string (s.extract (encL a).length s.size)] W fun e w' => e = .returned (.tuple #[.int .i64 (-1), .int .i64 0]) ∧ Below W.heap.size W w' := fun W => by
          have := first_any (s.extract (encL a).length s.size) (by omega) (by omega) W
          rwa [f1, f2] at this
        have HR := Lib.hid hr
        have HA := Lib.hid hasl
        clear hr hasl hle hlen hex hr0 f1 f2 hbad
        go_wp2_with (go_at_call 44; refine (cF _).mono ?_; rintro e w2 ⟨rfl, hb2⟩)
        go_ret2
        exact ⟨u4, by rw [decide_eq_false HR.out]; rfl, by rw [HA.out]; exact ints_below hI hb2, hbw.trans (hb2.mono hbw.size)⟩
    | succ g =>
      obtain ⟨n, b', rfl⟩ : ∃ n b', b = n :: b' := by
        match b, hbl with
        | n :: b', _ => exact ⟨n, b', rfl⟩
      clear hbl
      have hn : sgn n = true := HP.out.all n (by rw [HAB.out]; simp)
      have hk := enc_len n
      have hd2 : (s.extract (encL a).length s.size).data.toList = Lib.encodeRune n ++ (encL b' ++ rest) := by rw [HD.out, encL_cons, List.append_assoc]
      have hpos : 0 < (s.extract (encL a).length s.size).size := by rw [len_of _ _ hd2]; simp; omega
      obtain ⟨f1, f2⟩ := fstF_sign _ n _ hd2 hn
      have cF : ∀ W, Calls Tryz.prog 44 #[.string (s.extract (encL a).length s.size)] W fun e w' => e = .returned (.tuple #[.int .i64 n, .int .i64 (Lib.encodeRune n).length]) ∧ Below W.heap.size W w' := fun W => by
        have := first_any (s.extract (encL a).length s.size) hpos (by omega) W
        rwa [f1, f2] at this
      have hlt : (encL a).length < s.size := by omega
      have hq : (encL a).length + (Lib.encodeRune n).length ≤ s.size := by rw [len_of _ _ hd2] at hex; simp at hex; omega
      have hst := enc_step a n
      have HST := Lib.hid hst
      have HBL2 := HBL
      have hz : ((Lib.encodeRune n).length : Int) ≠ 0 := by omega
      have hzb : (((Lib.encodeRune n).length : Int) == 0) = false := by simpa using hz
      clear hex f1 f2 hn hd2 hpos hz hst
      go_wp2_with (first
        | (go_at_call 44; refine (cF _).mono ?_; rintro e w2 ⟨rfl, hb2⟩; have hI3 := ints_below hI hb2)
        | (at_builtin; refine wpList_append_own _ rfl _ _ 35 rfl w.heap.size 3 i0 (.int .i64 0) 1 8 Tryz.underlying35 hi hz0 hz1 hz2 rfl (by decide) _ _ _ rfl (hI3.alloc _) ⟨w2.heap.size, 0, none⟩ 1 1 [.int .i64 n] rfl rfl ?c1 ?c2 ?c3 ?c4 ?c5 ?_))
      case c1 =>
        intro j u hj
        match j, hj with
        | 0, hj => simp at hj; subst hj; simp [Addr.add]
      case c2 => intro u hu; simp at hu; subst hu; rfl
      case c3 => unfold maxLen; omega
      case c4 => omega
      case c5 => have := hbw.size; have := hb2.size; simp; omega
      intro v' w3 hown hgrow _
      have hfin : SI w.heap.size w sl g v' (.int .i64 ((encL a).length + (Lib.encodeRune n).length)) w3 := by
        refine ⟨a ++ [n], b', by rw [HAB.out]; simp, by simpa using HBL.out, by rw [HST.out]; rfl, ?_, ?_⟩
        · unfold Ints intRow
          rw [List.length_append, List.map_append]
          exact hown
        · exact ((hbw.trans (hb2.mono hbw.size)).alloc (by have := hbw.size; have := hb2.size; omega) _).grown hgrow (by have := hbw.size; have := hb2.size; simp; omega) (fun k hk => (hI3.lt k hk).1)
      have HF := Lib.hid hfin
      clear hfin hown hgrow cF hI hI2 hI3
      go_wp2
      go_roundg g
      case measure => omega
      case rel => exact HF.out
end Go.Proofs.YtaoelnfflkkeeaaGreatDoor
