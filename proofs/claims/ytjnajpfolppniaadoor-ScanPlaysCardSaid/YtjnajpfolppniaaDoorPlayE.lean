/-
  ScanPlays: how far the loops of the statement go.
-/
import Derived.Test.YtjnajpfolppniaaDoorPlayD
import Derived.Test.YtjnajpfolppniaaDoorPlayC
import Derived.Test.YtjnajpfolppniaaDoorUntilA
import Derived.Test.YtjnajpfolppniaaDoorKit2
import Derived.Deep.RegionHeld3
namespace Go.Proofs.YtjnajpfolppniaaDoor
open Go.RowKit
set_option linter.unusedVariables false

theorem runN_at (cs : List Int) : ∀ (l : List Int) (p : Nat), p < runN cs l → ∃ n, l[p]? = some n ∧ cls n ∈ cs
  | [], p, h => by simp [runN] at h
  | n :: l, p, h => by
    unfold runN at h
    split at h
    · rename_i hc
      cases p with
      | zero => exact ⟨n, rfl, hc⟩
      | succ p =>
        obtain ⟨m, h1, h2⟩ := runN_at cs l p (by omega)
        exact ⟨m, by simpa using h1, h2⟩
    · omega
theorem runN_end (cs : List Int) : ∀ (l : List Int) (n : Int), l[runN cs l]? = some n → cls n ∉ cs
  | [], n, h => by simp [runN] at h
  | m :: l, n, h => by
    unfold runN at h
    split at h
    · exact runN_end cs l n (by simpa using h)
    · rename_i hc
      have : m = n := by simpa using h
      subst this
      exact hc
theorem idxFrom_none (x : Int) : ∀ (l : List Int) (i : Nat), idxFrom x i l = -1 → x ∉ l
  | [], _, _ => by simp
  | n :: l, i, h => by
    unfold idxFrom at h
    by_cases e : n = x
    · rw [if_pos e] at h; omega
    · rw [if_neg e] at h
      have := idxFrom_none x l (i + 1) h
      simp [this, Ne.symm e]
theorem idx_none (x : Int) (l : List Int) (h : idx x l = -1) : x ∉ l := idxFrom_none x l 0 h
theorem same_cell {a b : World} (h : Same a b) (p : Addr) : b.cell? p = a.cell? p := World.cell?_of_block (w := a) (by rw [h.heap])
theorem TS.from {w : World} {b : Nat} {v vI : Value} {sl : List Int} {k : Nat} {W W' : World} (h : TS w b v vI sl k W) (s : Same W W') : TS w b v vI sl k W' := h.same s
theorem alloc_cell (W : World) (o : Obj) {g i : Nat} (hg : g < W.heap.size) : (W.alloc o).cell? ⟨g, i, none⟩ = W.cell? ⟨g, i, none⟩ := ((Below.refl _ _).alloc (Nat.le_refl _) o).cell (p := ⟨g, i, none⟩) hg
theorem drop_at {sl : List Int} {k p : Nat} {n : Int} (h : (sl.drop k)[p]? = some n) : sl[k + p]? = some n := by rwa [List.getElem?_drop] at h
theorem same_draw (w : World) (m : Nat) : Same w (w.drewN m) := ⟨rfl, rfl, rfl, rfl⟩
theorem ints_cap {B : Nat} {W : World} {ao : Option Addr} {n c : Nat} {l : List Int} (h : Ints B W (.slice ao n c) l) : n ≤ c := by
  rcases id h.2 with ⟨hv, h0⟩ | ⟨g, cap, cur, hv, _, _, hc, _⟩
  · injection hv with _ h1 _; omega
  · injection hv with _ h1 h2; omega
theorem nf_irr {q n : Nat} (h : q = n) : ¬ q < n := by omega
theorem nf_dt {q n : Nat} (h : q < n) : decide ((q : Int) < (n : Int)) = true := decide_eq_true (by omega)
theorem nf_df {q n : Nat} (h : ¬ q < n) : decide ((q : Int) < (n : Int)) = false := decide_eq_false (by omega)
theorem nf_le {q n : Nat} (h : q ≤ n) : (q : Int) ≤ (n : Int) := by omega
theorem nf_tr {a b c : Nat} (h : a ≤ b) (k : b ≤ c) : (a : Int) ≤ (c : Int) := by omega
theorem nf_ge {q n : Nat} (h : n ≤ q) : ¬ (q : Int) < (n : Int) := by omega
theorem nf_nck {k q n c : Nat} (h1 : k ≤ q ∧ q < n) (h2 : n ≤ c) : ¬ c = k := by omega
theorem nf_l200 {q n : Nat} (h1 : q < n) (h2 : n ≤ 200) : q < 200 := by omega
theorem nf_st {k e : Nat} (h : k ≤ e) : k + (e - k) = e := by omega
theorem nf_go {q g2 e k : Nat} (h1 : q + (g2 + 1) = e) (h2 : k ≤ q) (h3 : q < 200) : q + 1 + g2 = e ∧ k ≤ q + 1 ∧ q < 200 := ⟨by omega, by omega, h3⟩
theorem nf_lt {q g2 e n : Nat} (h1 : q + (g2 + 1) = e) (h2 : e ≤ n) : q < n := by omega
theorem nf_lt2 {q g2 e : Nat} (h1 : q + (g2 + 1) = e) : q < e := by omega
theorem nf_200 {q n : Nat} (h1 : q < n) (h2 : n ≤ 200) : q < 200 := by omega
theorem nf_eq {q e : Nat} (h1 : q + 0 = e) : q = e := h1
theorem nf_int {q n : Nat} (h : q < n) : (q : Int) < (n : Int) := by omega
theorem nf_nint {q n : Nat} (h : ¬ q < n) : ¬ (q : Int) < (n : Int) := by omega
theorem nf_nn {q : Nat} : (0 : Int) ≤ (q : Int) := by omega
theorem nf_pos {q n : Nat} (h : q < n) : 0 < n := by omega
theorem nf_end {q g e n : Nat} (h1 : q + g = e) (h2 : e ≤ n) (h3 : ¬ q < n) : q = e ∧ g = 0 := by omega
theorem nf_suc {q : Nat} (h : q < 200) : Value.int IntKind.i64 (wrap64 ((q : Int) + 1)) = .int .i64 ((q + 1 : Nat) : Int) := by rw [IntWalk.wrap64_in _ ⟨by omega, by omega⟩, Int.natCast_succ]
/-- The scanner, and the act's own variable. -/
def TB (w : World) (b : Nat) (v vI : Value) (sl : List Int) (k g : Nat) (t : TypeId) (cs : Array Value) (W : World) : Prop := TS w b v vI sl k W ∧ W.heap[g]? = some (.cells cs t (0, 0))
theorem TB.same {w : World} {b : Nat} {v vI : Value} {sl : List Int} {k g : Nat} {t : TypeId} {cs : Array Value} {W W' : World} (h : TB w b v vI sl k g t cs W) (s : Same W W') : TB w b v vI sl k g t cs W' := ⟨h.1.same s, by rw [s.heap]; exact h.2⟩
theorem TB.below {w : World} {b : Nat} {v vI : Value} {sl : List Int} {k g : Nat} {t : TypeId} {cs : Array Value} {W W' : World} (h : TB w b v vI sl k g t cs W) (hb : Below W.heap.size W W') : TB w b v vI sl k g t cs W' := ⟨h.1.below hb, (hb.block g (Array.getElem?_eq_some_iff.1 h.2).1).trans h.2⟩
theorem TB.moves {w : World} {b : Nat} {v vI : Value} {sl : List Int} {k k' g : Nat} {t : TypeId} {cs : Array Value} {W W' : World} (h : TB w b v vI sl k g t cs W) (hg : g ≠ b) (m : Moves w.heap.size W b v sl k' W') : TB w b v vI sl k' g t cs W' :=
  ⟨h.1.moves m, (m.2.block g (Array.getElem?_eq_some_iff.1 h.2).1 (fun e => by injection e with e; exact hg e)).trans h.2⟩
theorem TB.cell {w : World} {b : Nat} {v vI : Value} {sl : List Int} {k g : Nat} {t : TypeId} {cs : Array Value} {W : World} (h : TB w b v vI sl k g t cs W) (i : Nat) : W.cell? ⟨g, i, none⟩ = cs[i]? := Lib.cell_of_heap h.2 i
theorem TB.c4 {w : World} {b : Nat} {v vI : Value} {sl : List Int} {k g : Nat} {t : TypeId} {a0 a1 a2 a3 a4 : Value} {W : World} (h : TB w b v vI sl k g t #[a0, a1, a2, a3, a4] W) : W.cell? ⟨g, 4, none⟩ = some a4 := Lib.cell_of_heap h.2 4
theorem TB.c2 {w : World} {b : Nat} {v vI : Value} {sl : List Int} {k g : Nat} {t : TypeId} {a0 a1 a2 a3 a4 : Value} {W : World} (h : TB w b v vI sl k g t #[a0, a1, a2, a3, a4] W) : W.cell? ⟨g, 2, none⟩ = some a2 := Lib.cell_of_heap h.2 2
theorem nf_keq {k e : Nat} (h : e ≤ k) (h2 : k ≤ e) : k = e := by omega
theorem nf_no {k e : Nat} (h : e ≤ k) : ¬ k < e := by omega
theorem TS.cellI {w : World} {b : Nat} {v : Value} {sl : List Int} {k gI n c : Nat} {W : World} (h : TS w b v (.slice (some ⟨gI, 0, none⟩) n c) sl k W) {j : Nat} {x : Int} (hx : sl[j]? = some x) : W.cell? ⟨gI, j, none⟩ = some (.int .i64 x) := by
  have := World.ownsRow.cells h.2.1 (g := gI) rfl j (.int .i64 x) (by simp [intRow, hx])
  rw [addr_add] at this
  exact this
/-- What the statement asks of the scanner, whatever the classes. -/
theorem cls_in {w : World} {A : Option Addr} {cl : List Int} (c : Nat) (h : CAt w A cl) (hl : cl.length ≤ 8) (n : Int) {W : World} (hb : Below w.heap.size w W) : Calls Tryd.prog 12 #[.slice A cl.length c, .int .i64 n] W fun e w' => e = .returned (.bool (decide (n ∈ cl))) ∧ W = w' := by
  cases cl with
  | nil => exact (in_nil n W c A).mono fun e w' ⟨h1, h2⟩ => ⟨by rw [h1]; simp, h2⟩
  | cons x cl =>
    obtain ⟨g, o, rfl, hg, _⟩ := h 0 x rfl
    refine in_any n W g o c (x :: cl) (fun j y hy => ?_) (by omega)
    obtain ⟨g', o', e, hg', hc⟩ := h j y hy
    injection e with e
    injection e with e1 e2
    subst e1 e2
    exact (hb.cell (p := ⟨g, o + j, none⟩) hg).trans hc
theorem cls_run {w : World} {A : Option Addr} {cl : List Int} (c : Nat) (h : CAt w A cl) (hl : cl.length ≤ 8) {b : Nat} {v vI : Value} {sl : List Int} {k : Nat} {W : World} (hT : TS w b v vI sl k W) (hk : k ≤ sl.length) (hl2 : sl.length ≤ 200) (hall : AllS sl) :
    Calls Tryd.prog 13 #[.pointer (some ⟨b, 0, none⟩), .slice A cl.length c] W (RunPost w.heap.size W b v sl cl k) := by
  cases cl with
  | nil => exact run_nil hT.1 hk (by omega) hall c A
  | cons x cl =>
    obtain ⟨g, o, rfl, hg, _⟩ := h 0 x rfl
    have hs := hT.2.2.size
    refine run_any hT.1 hk (by omega) hall g o c (by omega) (by have := hT.1.ge; omega) (fun j y hy => ?_) (by omega)
    obtain ⟨g', o', e, hg', hc⟩ := h j y hy
    injection e with e
    injection e with e1 e2
    subst e1 e2
    exact (hT.2.2.cell (p := ⟨g, o + j, none⟩) hg).trans hc
/-- The document's Text of the signs from a place to another. -/
theorem txt_at {w : World} {b : Nat} {v : Value} {ao : Option Addr} {sl : List Int} {n c p k e : Nat} (hall : AllS sl) (hl : sl.length ≤ 200) (hke : k ≤ e) (he : e ≤ sl.length) {W : World} (h : TS w b v (.slice ao n c) sl p W) (A' : Option Addr) (c' : Nat) (hA : k < e → ∃ gg, ao = some ⟨gg, 0, none⟩ ∧ A' = some ⟨gg, k, none⟩) :
    Calls Tryd.prog 8 #[.slice A' (e - k) c'] W fun x w' => x = .returned (.string (textOf ((sl.drop k).take (e - k)))) ∧ Below W.heap.size W w' := by
  have hlen : ((sl.drop k).take (e - k)).length = e - k := by rw [List.length_take, List.length_drop]; omega
  rcases Nat.lt_or_ge k e with hlt | hge
  · obtain ⟨gg, rfl, rfl⟩ := hA hlt
    have hg : gg < W.heap.size := (World.ownsRow.lt h.2.1 gg rfl).2
    have ht := text_any ((sl.drop k).take (e - k)) (fun n hn => hall n (List.mem_of_mem_drop (List.mem_of_mem_take hn))) (by omega) (some ⟨gg, k, none⟩) gg k c' W (fun h0 => ⟨rfl, hg⟩) (fun j x hx => by
      rw [List.getElem?_take] at hx
      split at hx
      · rw [List.getElem?_drop] at hx
        exact h.cellI hx
      · cases hx)
    rw [hlen] at ht
    exact ht
  · have ht := text_any ((sl.drop k).take (e - k)) (fun n hn => hall n (List.mem_of_mem_drop (List.mem_of_mem_take hn))) (by omega) A' 0 0 c' W (fun h0 => by omega) (fun j x hx => by have := (List.getElem?_eq_some_iff.1 hx).1; omega)
    rw [hlen] at ht
    exact ht
theorem k1_nums {k t n : Nat} (hn : n ≤ 200) (ht : t ≤ 50) (hfit : k + t ≤ n) : IntKind.i64.wrap ((k : Int) + (t : Int)) = ((k + t : Nat) : Int) ∧ wrap64 ((k : Int) + (t : Int)) = ((k + t : Nat) : Int) ∧ decide (((k + t : Nat) : Int) ≤ (n : Int)) = true ∧ decide (k + t ≤ n) = true ∧ ((k + t : Nat) : Int) ≤ (n : Int) ∧ k ≤ k + t ∧ (k : Int) ≤ ((k + t : Nat) : Int) :=
  ⟨by rw [IntWalk.i64_in _ (by omega)]; omega, by (first | exact (IntWalk.i64_in _ (by omega)).trans (by omega) | (unfold wrap64; omega)), decide_eq_true (by omega), decide_eq_true hfit, by omega, by omega, by omega⟩
structure Kn (k t n e : Nat) : Prop where
  w1 : IntKind.i64.wrap ((k : Int) + (t : Int)) = (e : Int)
  w2 : wrap64 ((k : Int) + (t : Int)) = (e : Int)
  d1 : decide ((e : Int) ≤ (n : Int)) = true
  d2 : decide (e ≤ n) = true
  z : (e : Int) ≤ (n : Int)
  ke : k ≤ e
  kz : (k : Int) ≤ (e : Int)
  en : e ≤ n
  k0 : (0 : Int) ≤ (k : Int)
theorem kn_of {k t n e : Nat} (hn : n ≤ 200) (ht : t ≤ 50) (he : e = k + t) (hfit : k + t ≤ n) : Kn k t n e := by
  subst he
  obtain ⟨a, b, c, d, f, g, h⟩ := k1_nums hn ht hfit
  exact ⟨a, b, c, d, f, g, h, hfit, by omega⟩
theorem nf_t50 {n : Nat} (h : ¬ (50 : Int) < (n : Int)) : n ≤ 50 := by omega
theorem nf_wr {e n : Nat} (h : e ≤ n) (h2 : n ≤ 200) : IntKind.i64.wrap (e : Int) = (e : Int) ∧ wrap64 (e : Int) = (e : Int) := ⟨IntWalk.i64_in _ (by omega), by (first | exact IntWalk.i64_in _ (by omega) | (unfold wrap64; omega))⟩
theorem nf_cap {e n c : Nat} (h : e ≤ n) (h2 : n ≤ c) : (e : Int) ≤ (c : Int) := by omega
theorem nf_ck {k e t n c : Nat} (he : e = k + t) (h0 : 0 < t) (h : e ≤ n) (h2 : n ≤ c) : ¬ c = k := by omega
theorem nf_sl {k e t n : Nat} (he : e = k + t) (h0 : 0 < t) (h : e ≤ n) : 0 < n := by omega
theorem k1_nums2 {k t n : Nat} (hk : k ≤ n) (hn : n ≤ 200) (ht : t ≤ 50) (hfit : ¬ k + t ≤ n) : ∃ e : Nat, IntKind.i64.wrap ((k : Int) + (t : Int)) = (e : Int) ∧ decide ((e : Int) ≤ (n : Int)) = false ∧ decide (e ≤ n) = false ∧ ¬ (e : Int) ≤ (n : Int) ∧ wrap64 ((k : Int) + (t : Int)) = (e : Int) :=
  ⟨k + t, by rw [IntWalk.i64_in _ (by omega)]; omega, decide_eq_false (by omega), decide_eq_false hfit, by omega, by (first | exact (IntWalk.i64_in _ (by omega)).trans (by omega) | (unfold wrap64; omega))⟩
theorem k1_min {e n : Nat} (h : e ≤ n) (ts : Array TypeId) (ty : TypeId) (W : World) : (Builtin.min_ ts ty #[.int .i64 (e : Int), .int .i64 (n : Int)]).run Tryd.prog W = .ok (.int .i64 (e : Int)) W := by
  rw [run_min_int2, if_neg (by omega)]
theorem k1_signs {w : World} {b : Nat} {v vI : Value} {sl tl : List Int} {rest : List UInt8} {k g : Nat} {t : TypeId} {cs : Array Value} {tx : ByteArray} (hp : Parts tx.data.toList tl rest) (hs : tx.size ≤ 50) {W : World} (h : TB w b v vI sl k g t cs W) :
    Calls Tryd.prog 5 #[.string tx] W fun x w' => ∃ A5 c5, x = .returned (.tuple #[.slice A5 tl.length c5, .bool (decide (rest = []))]) ∧ TB w b v vI sl k g t cs w' :=
  (signs_any tx tl rest hp (by omega) W).mono fun x w' ⟨vI, p, q, r⟩ => by
    obtain ⟨A5, c5, rfl⟩ := ints_shape q
    exact ⟨A5, c5, p, h.below r⟩
theorem k1_is {w : World} {b : Nat} {v vI : Value} {sl tl : List Int} {k g : Nat} {t : TypeId} {cs : Array Value} {tx : ByteArray} (hp : Parts tx.data.toList tl []) (hs : tx.size ≤ 50) (hk : k ≤ sl.length) (hl : sl.length ≤ 200) {W : World} (h : TB w b v vI sl k g t cs W) :
    Calls Tryd.prog 9 #[.pointer (some ⟨b, 0, none⟩), .string tx] W fun x w' => x = .returned (.bool (tl.isPrefixOf (sl.drop k))) ∧ TS w b v vI sl (k + isN tl sl k) w' :=
  (is_any h.1.1 hk (by omega) tx tl hp (by omega)).mono fun x w' ⟨p, q⟩ => ⟨p, h.1.moves q⟩
theorem k1_len {tx : ByteArray} {tl : List Int} {rest : List UInt8} (hp : Parts tx.data.toList tl rest) (hs : tx.size ≤ 50) : tl.length ≤ 50 := by have := hp.size; have := encL_len tl; omega
theorem k1_far {sl tl : List Int} {k : Nat} (h : ¬ k + tl.length ≤ sl.length) (hk : k ≤ sl.length) : tl.isPrefixOf (sl.drop k) = false := by
  cases hx : tl.isPrefixOf (sl.drop k) with
  | false => rfl
  | true =>
    exfalso
    have := (List.isPrefixOf_iff_prefix.1 hx).length_le
    rw [List.length_drop] at this
    omega
theorem k1_eq {tx : ByteArray} {sl tl : List Int} {k : Nat} (hp : Parts tx.data.toList tl []) (hall : AllS sl) : textOf ((sl.drop k).take tl.length) = tx ↔ tl.isPrefixOf (sl.drop k) = true := by
  constructor
  · intro h
    have h1 := parts_text (l := (sl.drop k).take tl.length) (fun n hn => hall n (List.mem_of_mem_drop (List.mem_of_mem_take hn)))
    rw [h] at h1
    have h2 := (h1.one hp).1
    exact List.isPrefixOf_iff_prefix.2 (List.prefix_iff_eq_take.2 h2.symm)
  · intro h
    rw [← List.prefix_iff_eq_take.1 (List.isPrefixOf_iff_prefix.1 h)]
    exact hp.text.symm
structure K1 (sl tl : List Int) (k e : Nat) (tx : ByteArray) (B : Bool) : Prop where
  b : tl.isPrefixOf (sl.drop k) = B
  f2 : ((textOf ((sl.drop k).take (e - k))).toList == tx.toList) = B
  f3 : decide (textOf ((sl.drop k).take (e - k)) = tx) = B
theorem k1_bs {tx : ByteArray} {sl tl : List Int} {k e : Nat} (hp : Parts tx.data.toList tl []) (hall : AllS sl) (he : e = k + tl.length) : K1 sl tl k e tx (tl.isPrefixOf (sl.drop k)) := by
  have h := k1_eq (k := k) hp hall
  have h2 : e - k = tl.length := by omega
  rw [← h2] at h
  refine ⟨rfl, ?_, ?_⟩
  · rw [Bool.eq_iff_iff, beq_iff_eq, ← h, ByteArray.toList_eq, ByteArray.toList_eq]
    constructor
    · intro x; exact ByteArray.ext (Array.toList_inj.1 x)
    · intro x; rw [x]
  · rw [Bool.eq_iff_iff, decide_eq_true_iff]; exact h
theorem k1_isN {sl tl : List Int} {k : Nat} : isN tl sl k = if tl.isPrefixOf (sl.drop k) = true then tl.length else 0 := rfl
def BlR (W0 : World) (k e : Nat) (g : Nat) (s13 : Value) (wr : World) : Prop := ∃ q : Nat, q + g = e ∧ k ≤ q ∧ s13 = .int .i64 q ∧ Same W0 wr
end Go.Proofs.YtjnajpfolppniaaDoor
