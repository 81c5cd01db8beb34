/-
  WHAT THE LAWS SHARE: each contract over every world that is the first one below its size.
-/
import Derived.Test.YtjnajpfolppniaaDoorMeas
import Derived.Test.YtjnajpfolppniaaDoorQuoteB
namespace Go.Proofs.YtjnajpfolppniaaDoor
open Go.RowKit

/-- In every world that is w below w's size: the call ends so, and so it stays. -/
def Ever (w : World) (f : FuncId) (args : Array Value) (x : Ending) : Prop := ∀ W, Below w.heap.size w W → Calls Tryd.prog f args W fun e w' => e = x ∧ Below w.heap.size w w'
theorem ever_of {w : World} {f : FuncId} {args : Array Value} {x : Ending} (h : ∀ W, Calls Tryd.prog f args W fun e w' => e = x ∧ Below W.heap.size W w') : Ever w f args x :=
  fun W hb => (h W).mono fun _ _ ⟨a, b⟩ => ⟨a, hb.trans (b.mono hb.size)⟩
theorem Ever.at {w : World} {f : FuncId} {args : Array Value} {x : Ending} (h : Ever w f args x) {W : World} (hb : Below w.heap.size w W) : Calls Tryd.prog f args W fun e w' => e = x ∧ Below w.heap.size w w' := h W hb
theorem ever_awake {w : World} {t : TypeId} {fr : Nat × Nat} (htab : w.heap[0]? = some (.cells escCells t fr)) : Ever w 4 #[] (.returned (.bool true)) := by
  intro W hb
  have h0 : 0 < w.heap.size := (Array.getElem?_eq_some_iff.1 htab).1
  exact (awake_any W t fr (tab_below htab hb h0)).mono fun _ _ ⟨a, b⟩ => ⟨a, hb.trans (b.mono hb.size)⟩
theorem ints_shape {B : Nat} {w : World} {v : Value} {l : List Int} (h : Ints B w v l) : ∃ ao cap, v = .slice ao l.length cap := by
  rcases h.2 with ⟨hv, hl⟩ | ⟨g, cap, cur, hv, _⟩
  · exact ⟨none, 0, by rw [hv, hl]⟩
  · exact ⟨_, cap, hv⟩
theorem Parts.size {s : ByteArray} {sl : List Int} {rest : List UInt8} (h : Parts s.data.toList sl rest) : s.size = (encL sl).length + rest.length := by rw [len_of s _ h.eq]; simp
theorem Parts.join {a b : ByteArray} {la lb : List Int} (h : Parts a.data.toList la []) (k : Parts b.data.toList lb []) : Parts (a ++ b).data.toList (la ++ lb) [] := by
  refine ⟨?_, h.all.append k.all, .inl rfl⟩
  rw [encL_append, List.append_nil, ← (show encL la ++ [] = encL la from List.append_nil _), ← (show encL lb ++ [] = encL lb from List.append_nil _), ← h.eq, ← k.eq]
  simp
theorem Parts.nil {s : ByteArray} {sl : List Int} (h : Parts s.data.toList sl []) : s.data.toList = encL sl := by rw [h.eq, List.append_nil]
/-- The bytes of signs. -/
def textOf (l : List Int) : ByteArray := ⟨(encL l).toArray⟩
theorem textOf_list (l : List Int) : (textOf l).data.toList = encL l := by simp [textOf]
theorem Parts.text {s : ByteArray} {sl : List Int} (h : Parts s.data.toList sl []) : s = textOf sl := by
  obtain ⟨⟨d⟩⟩ := s
  have := h.nil
  simp at this
  rw [this]; rfl
theorem parts_text {l : List Int} (h : AllS l) : Parts (textOf l).data.toList l [] := ⟨by rw [textOf_list, List.append_nil], h, .inl rfl⟩
/-- What Quote makes of a text. -/
def quo (l : List Int) : ByteArray := ⟨(quoteL l).toArray⟩
theorem quo_list (l : List Int) : (quo l).data.toList = quoteL l := by simp [quo]
theorem quo_size (l : List Int) : (quo l).size = (quoteL l).length := by rw [Lib.size_eq, quo_list]
theorem quoteL_len (l : List Int) : 2 ≤ (quoteL l).length ∧ (quoteL l).length ≤ 6 * l.length + 2 := by
  have := escL_len l
  simp [quoteL]; omega
theorem ever_quote {w : World} {t : TypeId} {fr : Nat × Nat} (htab : w.heap[0]? = some (.cells escCells t fr)) {s : ByteArray} {sl : List Int} (hp : Parts s.data.toList sl []) (hs : s.size ≤ 4294967296) : Ever w 19 #[.string s] (.returned (.string (quo sl))) := by
  intro W hb
  have h0 : 0 < w.heap.size := (Array.getElem?_eq_some_iff.1 htab).1
  exact (quote_any s sl W hp.nil hp.all hs t fr (tab_below htab hb h0)).mono fun _ _ ⟨a, b⟩ => ⟨a, hb.trans (b.mono hb.size)⟩
theorem bytes_ext {a b : ByteArray} (h : a.data.toList = b.data.toList) : a = b := by
  obtain ⟨⟨x⟩⟩ := a
  obtain ⟨⟨y⟩⟩ := b
  simp at h
  rw [h]
theorem quo_join (a b : List Int) : quo (a ++ b) = (quo a).extract 0 ((quo a).size - 1) ++ (quo b).extract 1 (quo b).size := by
  apply bytes_ext
  have e1 : ((quo a).extract 0 ((quo a).size - 1)).data.toList = 34 :: escL a := by
    rw [Lib.extract_data, quo_list, quo_size]
    unfold quoteL
    simp
  have e2 : ((quo b).extract 1 (quo b).size).data.toList = escL b ++ [34] := by
    rw [extract_end, quo_list]
    unfold quoteL
    simp
  have e3 : ((quo a).extract 0 ((quo a).size - 1) ++ (quo b).extract 1 (quo b).size).data.toList = ((quo a).extract 0 ((quo a).size - 1)).data.toList ++ ((quo b).extract 1 (quo b).size).data.toList := by simp
  rw [e3, e1, e2, quo_list]
  simp [quoteL, escL]
end Go.Proofs.YtjnajpfolppniaaDoor
