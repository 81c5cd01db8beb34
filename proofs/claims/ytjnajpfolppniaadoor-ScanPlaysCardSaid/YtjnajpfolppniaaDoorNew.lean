/-
  A SCANNER: the block that holds it, the row of its signs; 'New' makes one of a text, or tells the place of what is no sign's.
-/
import Derived.Test.YtjnajpfolppniaaDoorMeas
import Derived.Laws.Rows
namespace Go.Proofs.YtjnajpfolppniaaDoor
open Go.RowKit

def runeRow (l : List Int) : List Value := l.map (Value.int .i32)
/-- Block b is a scanner over the signs sl, at place k; its signs lie in a row from B on. -/
structure Sc (B : Nat) (w : World) (b : Nat) (v : Value) (sl : List Int) (k : Nat) : Prop where
  blk : w.heap[b]? = some (.cells #[v, .int .i64 k] 49 (0, 0))
  row : w.ownsRow B 21 1 v sl.length (runeRow sl)
  ge : B ≤ b
theorem Sc.ne {B : Nat} {w : World} {b : Nat} {v : Value} {sl : List Int} {k : Nat} (h : Sc B w b v sl k) : v.ownBlock ≠ some b := by
  intro e
  rcases h.row.2 with ⟨rfl, _⟩ | ⟨g, cap, cur, rfl, _, hg, _⟩
  · cases e
  · simp [Value.ownBlock] at e
    subst e
    rw [h.blk] at hg
    cases hg
theorem Sc.shape {B : Nat} {w : World} {b : Nat} {v : Value} {sl : List Int} {k : Nat} (h : Sc B w b v sl k) : ∃ ao cap, v = .slice ao sl.length cap := by
  rcases h.row.2 with ⟨hv, hl⟩ | ⟨g, cap, cur, hv, _⟩
  · exact ⟨none, 0, by rw [hv, hl]⟩
  · exact ⟨_, cap, hv⟩
theorem Sc.c0 {B : Nat} {w : World} {b : Nat} {v : Value} {sl : List Int} {k : Nat} (h : Sc B w b v sl k) : w.cell? ⟨b, 0, none⟩ = some v := by rw [Lib.cell_of_heap h.blk]; rfl
theorem Sc.c1 {B : Nat} {w : World} {b : Nat} {v : Value} {sl : List Int} {k : Nat} (h : Sc B w b v sl k) : w.cell? ⟨b, 1, none⟩ = some (.int .i64 k) := by rw [Lib.cell_of_heap h.blk]; rfl
theorem Sc.f1 {B : Nat} {w : World} {b : Nat} {v : Value} {sl : List Int} {k : Nat} (h : Sc B w b v sl k) : w.frozen? ⟨b, 1, none⟩ = false := Lib.frozen_of_heap h.blk 1
theorem Sc.drew {B : Nat} {w : World} {b : Nat} {v : Value} {sl : List Int} {k : Nat} (h : Sc B w b v sl k) : Sc B w.drew b v sl k := ⟨h.blk, h.row, h.ge⟩

theorem grown_set (w : World) (b i : Nat) (u : Value) : w.grownBy (w.setCell ⟨b, i, none⟩ u) (some b) := ⟨rfl, rfl, rfl, by simp [World.setCell], fun k _ hk => Below.heap_setCell _ _ _ _ (fun e => hk (by simp [e]))⟩
/-- The scanner's signs are stored anew. -/
theorem Sc.signs {B : Nat} {w : World} {b : Nat} {v v' : Value} {sl : List Int} {k : Nat} (hb : w.heap[b]? = some (.cells #[v, .int .i64 k] 49 (0, 0))) (hB : B ≤ b) (hown : w.ownsRow B 21 1 v' sl.length (runeRow sl)) : Sc B (w.setCell ⟨b, 0, none⟩ v') b v' sl k := by
  have hne : v'.ownBlock ≠ some b := by
    intro e
    rcases hown.2 with ⟨rfl, _⟩ | ⟨g, cap, cur, rfl, _, hg, _⟩
    · cases e
    · simp [Value.ownBlock] at e
      subst e
      rw [hb] at hg
      cases hg
  exact ⟨heap_setCell_same w b 0 _ _ v' hb, hown.kept (grown_set w b 0 v') (Or.inr hne), hB⟩
/-- Its place is stored anew. -/
theorem Sc.place {B : Nat} {w : World} {b : Nat} {v : Value} {sl : List Int} {k : Nat} (h : Sc B w b v sl k) (k' : Nat) : Sc B (w.setCell ⟨b, 1, none⟩ (.int .i64 k')) b v sl k' :=
  ⟨heap_setCell_same w b 1 _ _ _ h.blk, h.row.kept (grown_set w b 1 _) (Or.inr h.ne), h.ge⟩
def NI (B xb K : Nat) (w : World) (s : ByteArray) (sl : List Int) (g : Nat) (wr : World) : Prop :=
  ∃ v a b, sl = a ++ b ∧ b.length = g ∧ Sc B wr xb v a 0 ∧ wr.heap[K]? = some (.stringIter s (encL a).length) ∧ Below B w wr
def NewPost (w : World) (sl : List Int) (e : Ending) (w' : World) : Prop :=
  ∃ b v, e = .returned (.tuple #[.pointer (some ⟨b, 0, none⟩), .int .i64 0, .int .i64 0]) ∧ Sc w.heap.size w' b v sl 0 ∧ Below w.heap.size w w'

set_option maxHeartbeats 4000000 in
set_option maxRecDepth 100000 in
theorem new_bad (s : ByteArray) (sl : List Int) (rest : List UInt8) (hp : Parts s.data.toList sl rest) (hr : rest ≠ []) (hsz : s.size ≤ 4294967296) (w : World) :
    Calls Tryd.prog 6 #[.string s] w fun e w' => e = .returned (.tuple #[.pointer none, .int .i64 sl.length, .int .i64 1]) ∧ Below w.heap.size w w' := by
  have hlen : (encL sl).length + rest.length = s.size := by rw [len_of s _ hp.eq]; simp
  have hm := measure_any s sl rest hp hsz
  have hr0 : 0 < rest.length := List.length_pos_iff.2 hr
  have hlt : ((encL sl).length : Int) < (s.size : Int) := by omega
  clear hp hr hlen hr0
  go_enter Tryd.func6, Tryd.ntmps6
  go_wp2_with (go_at_call 21; (with_reducible refine (hm _).mono ?_); rintro e w2 ⟨rfl, hb⟩)
  go_ret3
  exact ⟨rfl, hb⟩

set_option maxHeartbeats 4000000 in
set_option maxRecDepth 100000 in
theorem new_good (s : ByteArray) (sl : List Int) (hp : Parts s.data.toList sl []) (hsz : s.size ≤ 4294967296) (w : World) :
    Calls Tryd.prog 6 #[.string s] w (NewPost w sl) := by
  have hlen : (encL sl).length = s.size := by rw [len_of s _ hp.eq]; simp
  have hm := measure_any s sl [] hp hsz
  have hsl := (encL_len sl).1
  have hsb : sl.length ≤ 4294967296 := by omega
  have hge : ¬ ((encL sl).length : Int) < (s.size : Int) := by omega
  have HP := Lib.hid hp
  obtain ⟨i0, hi, hz0, hz1, hz2⟩ := info_parts runeInfo
  have HL := Lib.hid hlen
  clear hp hlen
  go_enter Tryd.func6, Tryd.ntmps6
  go_wp2_with (first
    | (go_at_call 21; (with_reducible refine (hm _).mono ?_); rintro e w2 ⟨rfl, hb⟩)
    | (at_make; refine wpList_make_own _ rfl _ _ 47 rfl w.heap.size 21 i0 (.int .i32 0) 1 Tryd.underlying47 hi hz0 hz1 _ _ _ sl.length rfl rfl rfl ?b2 ?b3 ?b4 ?_))
  case b2 => rw [hz2]; omega
  case b3 => unfold maxLen; omega
  case b4 => exact hb.size
  intro w3 hown hgrow
  have hb3 : Below w.heap.size w w3 := hb.grown hgrow hb.size (by simp)
  have hs3 := hb3.size
  have hw2 : w2.heap.size < w3.heap.size := (hown.lt w2.heap.size rfl).2
  go_wp2
  go_loopg [] sl.length (fun g wr => NI w.heap.size w3.heap.size (w3.heap.size + 1) w s sl g wr)
  case atStart =>
    refine ⟨.slice (some ⟨w2.heap.size, 0, none⟩) 0 sl.length, [], sl, rfl, rfl, ⟨?_, ?_, hs3⟩, ?_, ?_⟩
    · exact (Lib.alloc_old _ _ _ (by simp)).trans (heap_alloc_new _ _)
    · exact (hown.alloc _).alloc _
    · have := World.iter_heap (w3.alloc (.cells #[.slice (some ⟨w2.heap.size, 0, none⟩) 0 sl.length, .int .i64 0] 49)) s 0
      rw [World.size_alloc] at this
      exact this
    · exact (hb3.alloc hs3 _).alloc (by simp; omega) _
  case round =>
    clear hown hgrow hb hb3
    obtain ⟨v, a, b, hab, hbl, hsc, hit, hbw⟩ := hrel
    have hdat : s.data.toList = encL a ++ encL b := by rw [HP.out.eq, List.append_nil, hab, encL_append]
    have hal : a.length ≤ sl.length := by rw [hab]; simp
    have HAB := Lib.hid hab
    have HBL := Lib.hid hbl
    have hbs := hbw.size
    obtain ⟨ao, cap, rfl⟩ := hsc.shape
    have c0 := hsc.c0
    have hxl : w3.heap.size < wr.heap.size := (Array.getElem?_eq_some_iff.1 hsc.blk).1
    cases gk with
    | zero =>
      obtain rfl : b = [] := List.length_eq_zero_iff.1 hbl
      have hnx : ∀ ty, (Instr.next (.pointer (some ⟨w3.heap.size + 1, 0, none⟩)) true ty).run Tryd.prog wr = _ := fun ty => next_done wr (w3.heap.size + 1) s a (by rw [hdat]; simp [encL]) hit ty
      have hfin : NewPost w sl (.returned (.tuple #[.pointer (some ⟨w3.heap.size, 0, none⟩), .int .i64 0, .int .i64 0])) wr := ⟨w3.heap.size, _, rfl, by rw [hab, List.append_nil]; exact hsc, hbw⟩
      have HF := Lib.hid hfin
      clear hfin hab hbl hdat hit hsc c0
      go_wp2
      go_ret3
      exact HF.out
    | succ g =>
      obtain ⟨n, b', rfl⟩ : ∃ n b', b = n :: b' := by
        match b, hbl with
        | n :: b', _ => exact ⟨n, b', rfl⟩
      have hn : sgn n = true := HP.out.all n (by rw [hab]; simp)
      have hnx : ∀ ty, (Instr.next (.pointer (some ⟨w3.heap.size + 1, 0, none⟩)) true ty).run Tryd.prog wr = _ := fun ty => next_sign wr (w3.heap.size + 1) s a n (encL b') (by rw [hdat, encL_cons]) hn hit ty
      have hkx : w3.heap.size ≠ w3.heap.size + 1 := by omega
      obtain ⟨W, hW⟩ : ∃ W, W = wr.iterAt (w3.heap.size + 1) s (encL (a ++ [n])).length := ⟨_, rfl⟩
      rw [← hW] at hnx
      have hscW : Sc w.heap.size W w3.heap.size (.slice ao a.length cap) a 0 := by
        rw [hW]
        refine ⟨(Lib.iterAt_other _ _ _ _ _ hkx).trans hsc.blk, ⟨hsc.row.1, ?_⟩, hsc.ge⟩
        rcases hsc.row.2 with x | ⟨g', cp, cur, hv, hg, hh, rest⟩
        · exact .inl x
        · refine .inr ⟨g', cp, cur, hv, hg, (Lib.iterAt_other _ _ _ _ _ ?_).trans hh, rest⟩
          intro e
          rw [e, hit] at hh
          cases hh
      have hitW : W.heap[w3.heap.size + 1]? = some (.stringIter s (encL (a ++ [n])).length) := by rw [hW]; exact Lib.iterAt_heap _ _ _ _ _ hit
      have hbW : Below w.heap.size w W := by rw [hW]; exact Lib.below_iterAt hbw (by omega) _ _
      have hWs := hbW.size
      clear hsc c0 hit hbw hW hdat hab hbl hn
      have c0 := hscW.c0
      have HSC := Lib.hid hscW
      have HIT := Lib.hid hitW
      have hrow := hscW.row
      have hne := hscW.ne
      clear hscW hitW
      go_wp2_with (at_builtin; refine wpList_append_own _ rfl _ _ 47 rfl w.heap.size 21 i0 (.int .i32 0) 1 4 Tryd.underlying47 hi hz0 hz1 hz2 rfl (by decide) _ _ _ rfl (hrow.alloc _) ⟨W.heap.size, 0, none⟩ 1 1 [.int .i32 n] rfl rfl ?c1 ?c2 ?c3 ?c4 ?c5 ?_)
      case c1 =>
        intro j u hj
        match j, hj with
        | 0, hj => simp at hj; subst hj; simp [Addr.add]
      case c2 => intro u hu; simp at hu; subst hu; rfl
      case c3 => unfold maxLen; omega
      case c4 => omega
      case c5 => simp; omega
      intro v' w5 hown' hgrow' _
      obtain ⟨ao', cap', rfl⟩ : ∃ ao' cap', v' = .slice ao' (a.length + 1) cap' := by
        rcases hown'.2 with ⟨_, h0⟩ | ⟨g', cp, cur, hv, _⟩
        · omega
        · exact ⟨_, cp, hv⟩
      have hA : (W.alloc (.cells #[.int .i32 n] 21)).heap[w3.heap.size]? = some (.cells #[.slice ao a.length cap, .int .i64 0] 49 (0, 0)) := (Lib.alloc_old _ _ _ (Array.getElem?_eq_some_iff.1 HSC.out.blk).1).trans HSC.out.blk
      have hIA : (W.alloc (.cells #[.int .i32 n] 21)).heap[w3.heap.size + 1]? = some (.stringIter s (encL (a ++ [n])).length) := (Lib.alloc_old _ _ _ (Array.getElem?_eq_some_iff.1 HIT.out).1).trans HIT.out
      have hb5 : w5.heap[w3.heap.size]? = some (.cells #[.slice ao a.length cap, .int .i64 0] 49 (0, 0)) := (hgrow'.block _ (Array.getElem?_eq_some_iff.1 hA).1 (fun e => hne e.symm)).trans hA
      have hi5 : w5.heap[w3.heap.size + 1]? = some (.stringIter s (encL (a ++ [n])).length) := by
        refine (hgrow'.block _ (Array.getElem?_eq_some_iff.1 hIA).1 (fun e => ?_)).trans hIA
        rcases hrow.2 with ⟨hv, _⟩ | ⟨g', cp, cur, hv, _, hh, _⟩
        · rw [hv] at e; cases e
        · rw [hv] at e
          simp [Value.ownBlock] at e
          rw [← e, HIT.out] at hh
          cases hh
      have d0 : w5.cell? ⟨w3.heap.size, 0, none⟩ = some (.slice ao a.length cap) := by rw [Lib.cell_of_heap hb5]; rfl
      have f0 : w5.frozen? ⟨w3.heap.size, 0, none⟩ = false := Lib.frozen_of_heap hb5 0
      have hown2 : w5.ownsRow w.heap.size 21 1 (.slice ao' (a.length + 1) cap') (a ++ [n]).length (runeRow (a ++ [n])) := by
        unfold runeRow
        rw [List.length_append, List.map_append]
        exact hown'
      have hbw5 : Below w.heap.size w w5 := (hbW.alloc hWs _).grown hgrow' (by simp; omega) (fun k hk => (hrow.lt k hk).1)
      have hfin : NI w.heap.size w3.heap.size (w3.heap.size + 1) w s sl g (w5.setCell ⟨w3.heap.size, 0, none⟩ (.slice ao' (a.length + 1) cap')) :=
        ⟨_, a ++ [n], b', by rw [HAB.out]; simp, by simpa using HBL.out, Sc.signs hb5 hs3 hown2, (Below.heap_setCell _ _ _ _ (by simp)).trans hi5, hbw5.setCell hs3 _⟩
      have HF := Lib.hid hfin
      clear hfin hA hIA hb5 hi5 hown2 hown' hgrow' hbw5 hrow hne
      go_wp2
      go_roundg g
      case measure => omega
      case rel => exact HF.out
end Go.Proofs.YtjnajpfolppniaaDoor
