/-
  THE DOCUMENT's 'Signs' and the program's 'measure': the signs of any bytes, as far as they are signs'.
-/
import Derived.Test.YtbecjlmbalcgeaaDoorFirst
import Derived.Test.YtbecjlmbalcgeaaDoorRng
import Derived.Test.YtbecjlmbalcgeaaDoorVShelf
namespace Go.Proofs.YtbecjlmbalcgeaaDoor
open Go.RowKit

theorem extract_end (s : ByteArray) (a : Nat) : (s.extract a s.size).data.toList = s.data.toList.drop a := by
  rw [Lib.extract_data, List.take_of_length_le (by rw [List.length_drop, ← Lib.size_eq]; exact Nat.le_refl _)]
structure Parts (l : List UInt8) (sl : List Int) (rest : List UInt8) : Prop where
  eq : l = encL sl ++ rest
  all : AllS sl
  bad : rest = [] ∨ Bad rest
theorem Parts.one {l : List UInt8} {a b : List Int} {r t : List UInt8} (h : Parts l a r) (k : Parts l b t) : a = b ∧ r = t :=
  split_one a b r t (h.eq.symm.trans k.eq) h.all k.all h.bad k.bad

end Go.Proofs.YtbecjlmbalcgeaaDoor
