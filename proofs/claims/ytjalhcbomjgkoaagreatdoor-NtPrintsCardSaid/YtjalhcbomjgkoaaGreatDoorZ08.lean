/-
  MERGED (a claim has at most 60 files): Text, Kit2, PlayB, NRd, NIri, UntilA.
-/
import Derived.Test.YtjalhcbomjgkoaaGreatDoorZ06
import Derived.Laws.IdiomStrings
import Derived.Laws.BytesString
import Derived.Test.YtjalhcbomjgkoaaGreatDoorZ07
/-
  THE DOCUMENT's 'Text': the bytes of signs, one behind the other, are the text.
-/
namespace Go.Proofs.YtjalhcbomjgkoaaGreatDoor
open Go.RowKit
set_option linter.unusedVariables false

def U8s (B : Nat) (w : World) (v : Value) (l : List UInt8) : Prop := w.ownsRow B 5 1 v l.length (Lib.byteCells l)
theorem u8s_shape {B : Nat} {w : World} {v : Value} {l : List UInt8} (h : U8s B w v l) : ∃ ao cap, v = .slice ao l.length cap := by
  rcases h.2 with ⟨hv, hl⟩ | ⟨g, cap, cur, hv, _⟩
  · exact ⟨none, 0, by rw [hv, hl]⟩
  · exact ⟨_, cap, hv⟩
theorem bytes_text {B : Nat} {w : World} {v : Value} {l : List UInt8} (h : U8s B w v l) : (convert 103 9 v).run Tryz.prog w = .ok (.string ⟨l.toArray⟩) w := by
  rcases h.2 with ⟨rfl, hl⟩ | ⟨g, cap, cur, rfl, _⟩
  · obtain rfl : l = [] := List.length_eq_zero_iff.1 hl
    rw [run_convert_bytes_string w 103 9 5 _ _ _ Tryz.underlying103 Tryz.underlying5 Tryz.underlying9]
    rfl
  · refine run_convert_bytes_back w 103 9 5 ⟨g, 0, none⟩ cap l Tryz.underlying103 Tryz.underlying5 Tryz.underlying9 ?_
    intro j hj
    exact World.ownsRow.cells h (g := g) rfl j _ (by simp [Lib.byteCells, List.getElem?_eq_getElem hj])
def XIt (B : Nat) (w : World) (l : List Int) (g : Nat) (v i : Value) (wr : World) : Prop :=
  ∃ a b, l = a ++ b ∧ b.length = g ∧ i = .int .i64 a.length ∧ U8s B wr v (encL a) ∧ Below B w wr

set_option maxHeartbeats 4000000 in
set_option maxRecDepth 100000 in
theorem text_any (l : List Int) (hall : AllS l) (hl : l.length ≤ 1000000) (ao : Option Addr) (gc oc cap : Nat) (w : World) (hao : 0 < l.length → ao = some ⟨gc, oc, none⟩ ∧ gc < w.heap.size)
    (hc : ∀ (j : Nat) (x : Int), l[j]? = some x → w.cell? ⟨gc, oc + j, none⟩ = some (.int .i64 x)) :
    Calls Tryz.prog 93 #[.slice ao l.length cap] w fun e w' => e = .returned (.string (textOf l)) ∧ Below w.heap.size w w' := by
  have HC := Lib.hid hc
  have HA := Lib.hid hall
  have HO := Lib.hid hao
  obtain ⟨i0, hi, hz0, hz1, hz2⟩ := info_parts byteInfo
  clear hc hall hao
  go_enter Tryz.func93, Tryz.ntmps93
  go_wp2
  go_loopg [3, 7] l.length (fun g v i wr => XIt w.heap.size w l g v i wr)
  case atStart => exact ⟨[], l, rfl, rfl, rfl, World.ownsRow_nil _ _ _ _, Below.refl _ _⟩
  case round =>
    obtain ⟨a, b, hab, hbl, rfl, hU, hbw⟩ := hrel
    obtain ⟨av, cv, rfl⟩ := u8s_shape hU
    have hla : a.length + b.length = l.length := by rw [hab]; simp
    have hen := (encL_len a).2
    have HAB := Lib.hid hab
    have hbs := hbw.size
    cases gk with
    | zero =>
      obtain rfl : b = [] := List.length_eq_zero_iff.1 hbl
      have hal : a.length = l.length := by simp at hla; omega
      have hge : ¬ ((a.length : Int) < (l.length : Int)) := by omega
      have hcv := bytes_text hU
      have hres : (⟨(encL a).toArray⟩ : ByteArray) = textOf l := by rw [hab, List.append_nil]; rfl
      rw [hres] at hcv
      clear hab hbl hla hal hU hres
      go_wp2
      go_ret
      exact ⟨rfl, hbw⟩
    | succ g =>
      obtain ⟨n, b', rfl⟩ : ∃ n b', b = n :: b' := by
        match b, hbl with
        | n :: b', _ => exact ⟨n, b', rfl⟩
      have hlt : (a.length : Int) < (l.length : Int) := by simp at hla; omega
      have hn : l[a.length]? = some n := by rw [hab]; simp
      obtain ⟨rfl, hgc⟩ := HO.out (by simp at hla; omega)
      have hcell : wr.cell? ⟨gc, oc + a.length, none⟩ = some (.int .i64 n) := (hbw.cell (p := ⟨gc, oc + a.length, none⟩) hgc).trans (HC.out _ _ hn)
      have hsg := HA.out n (List.mem_of_getElem? hn)
      have hB := bytes_any n hsg wr
      have hk := enc_len n
      have HBL := Lib.hid hbl
      have HU := Lib.hid hU
      clear hab hbl hla hn hsg
      go_wp2_with (first
        | (go_at_call 82; (with_reducible refine hB.mono ?_); rintro e w2 ⟨rfl, rfl⟩)
        | (at_builtin; refine wpList_append_own _ rfl _ _ 103 rfl w.heap.size 5 i0 (.int .u8 0) 1 1 Tryz.underlying103 hi hz0 hz1 hz2 rfl (by decide) _ _ _ rfl (hU.alloc _) ⟨wr.heap.size, 0, none⟩ (Lib.encodeRune n).length (Lib.encodeRune n).length (Lib.runeCells n) rfl ?c0 ?c1 ?c2 ?c3 ?c4 ?c5 ?_))
      case c0 => rw [Lib.runeCells_length, Nat.mul_one]
      case c1 =>
        intro j u hj
        have hh : (wr.alloc (.cells (rowOf n) 5)).heap[wr.heap.size]? = some (.cells (rowOf n) 5 (0, 0)) := heap_alloc_new _ _
        have ha : (⟨wr.heap.size, 0, none⟩ : Addr).add j = ⟨wr.heap.size, j, none⟩ := by
          by_cases hj0 : j = 0
          · subst hj0; simp [Addr.add]
          · simp [Addr.add, hj0]
        rw [ha, Lib.cell_of_heap hh]
        simpa [rowOf] using hj
      case c2 =>
        intro u hu
        simp only [Lib.runeCells, List.mem_map] at hu
        obtain ⟨x, _, rfl⟩ := hu
        rfl
      case c3 => unfold maxLen; omega
      case c4 => omega
      case c5 => simp; omega
      intro v' w5 hown' hgrow' _
      have hfin : XIt w.heap.size w l g v' (.int .i64 ((a.length : Int) + 1)) w5 := by
        refine ⟨a ++ [n], b', by rw [HAB.out]; simp, by simpa using HBL.out, by simp, ?_, ?_⟩
        · unfold U8s
          rw [encL_append, Lib.byteCells_append, List.length_append, show encL [n] = Lib.encodeRune n by simp [encL], Lib.byteCells_encodeRune]
          exact hown'
        · exact (hbw.alloc hbs _).grown hgrow' (by simp; omega) (fun k hk => (World.ownsRow.lt HU.out k hk).1)
      have HF := Lib.hid hfin
      clear hfin hown' hgrow' hU
      go_wp2
      go_roundg g
      case measure => omega
      case rel => exact HF.out
end Go.Proofs.YtjalhcbomjgkoaaGreatDoor

/-
  WHAT THE LAWS OVER A SCANNER SHARE: Run over all classes, the document's Text, a scanner made.
-/
namespace Go.Proofs.YtjalhcbomjgkoaaGreatDoor
open Go.RowKit
set_option linter.unusedVariables false

theorem addr_add (g j : Nat) : (⟨g, 0, none⟩ : Addr).add j = ⟨g, j, none⟩ := by
  by_cases hj : j = 0
  · subst hj; simp [Addr.add]
  · simp [Addr.add, hj]
theorem Sc.mono {B B' : Nat} {w : World} {b : Nat} {v : Value} {sl : List Int} {k : Nat} (h : Sc B w b v sl k) (hB : B' ≤ B) : Sc B' w b v sl k := by
  refine ⟨h.blk, ⟨h.row.1, ?_⟩, Nat.le_trans hB h.ge⟩
  rcases h.row.2 with x | ⟨g, cap, cur, hv, hg, hh, rest⟩
  · exact .inl x
  · exact .inr ⟨g, cap, cur, hv, Nat.le_trans hB hg, hh, rest⟩
theorem Sc.below {B : Nat} {w w' : World} {b : Nat} {v : Value} {sl : List Int} {k : Nat} (h : Sc B w b v sl k) (hb : Below w.heap.size w w') : Sc B w' b v sl k := by
  refine ⟨(hb.block b (Array.getElem?_eq_some_iff.1 h.blk).1).trans h.blk, ⟨h.row.1, ?_⟩, h.ge⟩
  rcases h.row.2 with x | ⟨g, cap, cur, hv, hg, hh, rest⟩
  · exact .inl x
  · exact .inr ⟨g, cap, cur, hv, hg, (hb.block g (Array.getElem?_eq_some_iff.1 hh).1).trans hh, rest⟩
theorem TS.below {w : World} {b : Nat} {v vI : Value} {sl : List Int} {k : Nat} {W W' : World} (h : TS w b v vI sl k W) (hb : Below W.heap.size W W') : TS w b v vI sl k W' :=
  ⟨h.1.below hb, ints_below h.2.1 hb, h.2.2.trans (hb.mono h.2.2.size)⟩
theorem TS.alloc {w : World} {b : Nat} {v vI : Value} {sl : List Int} {k : Nat} {W : World} (h : TS w b v vI sl k W) (o : Obj) : TS w b v vI sl k (W.alloc o) := h.below ((Below.refl _ _).alloc (Nat.le_refl _) o)
theorem TS.drew {w : World} {b : Nat} {v vI : Value} {sl : List Int} {k : Nat} {W : World} (h : TS w b v vI sl k W) : TS w b v vI sl k W.drew := h.same ⟨rfl, rfl, rfl, rfl⟩
def six : List Int := [0, 1, 2, 3, 4, 5]
theorem cls_six (n : Int) (h : sgn n = true) : cls n ∈ six := by
  obtain ⟨h0, h1, h2⟩ := (sgn_iff n).1 h
  have : 0 ≤ cls n ∧ cls n ≤ 5 := by unfold cls; omega
  have h6 : cls n = 0 ∨ cls n = 1 ∨ cls n = 2 ∨ cls n = 3 ∨ cls n = 4 ∨ cls n = 5 := by omega
  unfold six
  rcases h6 with h | h | h | h | h | h <;> rw [h] <;> simp
theorem runN_six : ∀ l : List Int, AllS l → runN six l = l.length
  | [], _ => rfl
  | n :: l, h => by simp only [runN, if_pos (cls_six n h.head), runN_six l h.tail, List.length_cons]
abbrev sixObj : Obj := .cells #[.int .i64 0, .int .i64 1, .int .i64 2, .int .i64 3, .int .i64 4, .int .i64 5] 3 (0, 0)
section
variable {w : World} {b : Nat} {v vI : Value} {sl : List Int} {k : Nat}
theorem ts_run_at {W : World} (h : TS w b v vI sl k W) (hk : k ≤ sl.length) (hl : sl.length ≤ 4294967296) (hall : AllS sl) (g : Nat) (hg : W.heap[g]? = some sixObj) :
    Calls Tryz.prog 126 #[.pointer (some ⟨b, 0, none⟩), .slice (some ⟨g, 0, none⟩) 6 6] W fun e w' => e = .returned (.string (textOf (sl.drop k))) ∧ TS w b v vI sl sl.length w' := by
  have hgb : g ≠ b := by
    intro e
    rw [e, h.1.blk] at hg
    cases hg
  have hcs : ClsAt W g 0 six := by
    intro j x hx
    rw [Lib.cell_of_heap hg]
    unfold six at hx
    match j, hx with
    | 0, hx => simp at hx; subst hx; rfl
    | 1, hx => simp at hx; subst hx; rfl
    | 2, hx => simp at hx; subst hx; rfl
    | 3, hx => simp at hx; subst hx; rfl
    | 4, hx => simp at hx; subst hx; rfl
    | 5, hx => simp at hx; subst hx; rfl
    | j + 6, hx => simp at hx
  refine (run_any h.1 hk hl hall g 0 6 (Array.getElem?_eq_some_iff.1 hg).1 hgb hcs (by decide)).mono fun e w' ⟨h1, h2⟩ => ?_
  rw [runN_six _ (fun n hn => hall n (List.mem_of_mem_drop hn))] at h1 h2
  rw [List.take_length] at h1
  rw [List.length_drop, show k + (sl.length - k) = sl.length by omega] at h2
  exact ⟨h1, h.moves h2⟩
theorem ts_run (hk : k ≤ sl.length) (hl : sl.length ≤ 4294967296) (hall : AllS sl) (W : World) (h : TS w b v vI sl k W) :
    Calls Tryz.prog 126 #[.pointer (some ⟨b, 0, none⟩), .slice (some ⟨W.heap.size, 0, none⟩) 6 6] (W.alloc sixObj) fun e w' => e = .returned (.string (textOf (sl.drop k))) ∧ TS w b v vI sl sl.length w' :=
  ts_run_at (h.alloc _) hk hl hall W.heap.size (heap_alloc_new _ _)
theorem ts_run_drew (hk : k ≤ sl.length) (hl : sl.length ≤ 4294967296) (hall : AllS sl) (W : World) (h : TS w b v vI sl k W) :
    Calls Tryz.prog 126 #[.pointer (some ⟨b, 0, none⟩), .slice (some ⟨W.heap.size, 0, none⟩) 6 6] (W.alloc sixObj).drew fun e w' => e = .returned (.string (textOf (sl.drop k))) ∧ TS w b v vI sl sl.length w' :=
  ts_run_at (h.alloc _).drew hk hl hall W.heap.size (heap_alloc_new W sixObj)
/-- The document's Text of the signs from a place on. -/
theorem ts_text {g cap n : Nat} (hall : AllS sl) (hl : sl.length ≤ 1000000) (q : Nat) (ao : Option Addr) (c : Nat) (hao : q < sl.length → ao = some ⟨g, q, none⟩) (W : World) (h : TS w b v (.slice (some ⟨g, 0, none⟩) n cap) sl k W) :
    Calls Tryz.prog 93 #[.slice ao (sl.length - q) c] W fun e w' => e = .returned (.string (textOf (sl.drop q))) ∧ TS w b v (.slice (some ⟨g, 0, none⟩) n cap) sl k w' := by
  have hlt : g < W.heap.size := (World.ownsRow.lt h.2.1 g rfl).2
  have hcl : ∀ (j : Nat) (x : Int), (sl.drop q)[j]? = some x → W.cell? ⟨g, q + j, none⟩ = some (.int .i64 x) := by
    intro j x hx
    rw [List.getElem?_drop] at hx
    have := World.ownsRow.cells h.2.1 (g := g) rfl (q + j) (.int .i64 x) (by simp [intRow, hx])
    rw [addr_add] at this
    exact this
  have := text_any (sl.drop q) (fun n hn => hall n (List.mem_of_mem_drop hn)) (by simp; omega) ao g q c W (fun h0 => ⟨hao (by simp at h0; omega), hlt⟩) hcl
  rw [List.length_drop] at this
  exact this.mono fun e w' ⟨x, y⟩ => ⟨x, h.below y⟩
end
end Go.Proofs.YtjalhcbomjgkoaaGreatDoor

/-
  THE SCANNER's 'Is', asked for a text of signs.
-/
namespace Go.Proofs.YtjalhcbomjgkoaaGreatDoor
open Go.RowKit
set_option linter.unusedVariables false

/-- How far 'Is' goes. -/
def isN (tl sl : List Int) (k : Nat) : Nat := if tl.isPrefixOf (sl.drop k) then tl.length else 0
def IsPost (B : Nat) (w : World) (b : Nat) (v : Value) (sl tl : List Int) (k : Nat) (e : Ending) (w' : World) : Prop :=
  e = .returned (.bool (tl.isPrefixOf (sl.drop k))) ∧ Moves B w b v sl (k + isN tl sl k) w'
/-- a is through, b is to come: the signs from k on begin with a. -/
def II (w2 : World) (s : ByteArray) (sl tl : List Int) (k : Nat) (g : Nat) (c : Value) (wr : World) : Prop :=
  ∃ a b p, tl = a ++ b ∧ b.length = g ∧ p = k + a.length ∧ c = .int .i64 (p : Nat) ∧ sl.drop k = a ++ sl.drop p ∧ p ≤ sl.length ∧ wr.heap[w2.heap.size]? = some (.stringIter s (encL a).length) ∧ Below w2.heap.size w2 wr
theorem below_grow {w w' : World} (h : Below w.heap.size w w') (row : Option Nat) : w.grownBy w' row := ⟨h.os, h.tape, h.output, h.size, fun k hk _ => h.block k hk⟩
theorem pre_app (a b r : List Int) : (a ++ b).isPrefixOf (a ++ r) = b.isPrefixOf r := by
  induction a with
  | nil => rfl
  | cons x a ih => simp [ih]
set_option maxHeartbeats 4000000 in
set_option maxRecDepth 100000 in
theorem is_any {B : Nat} {w : World} {b : Nat} {v : Value} {sl : List Int} {k : Nat} (h : Sc B w b v sl k) (hk : k ≤ sl.length) (hl : sl.length ≤ 4294967296)
    (s : ByteArray) (tl : List Int) (hp : Parts s.data.toList tl []) (hsz : s.size ≤ 4294967296) :
    Calls Tryz.prog 88 #[.pointer (some ⟨b, 0, none⟩), .string s] w (IsPost B w b v sl tl k) := by
  have hg := good_any s tl [] hp hsz
  have HS := Lib.hid h
  have HP := Lib.hid hp
  clear h hp
  go_enter Tryz.func88, Tryz.ntmps88
  go_wp2_with (go_at_call 103; (with_reducible refine (hg _).mono ?_); rintro e w2 ⟨rfl, hb2⟩; have hs2 := HS.out.below hb2; have c1 := hs2.c1)
  have HS2 := Lib.hid hs2
  clear hs2 hg
  go_loopg [5] tl.length (fun g c wr => II w2 s sl tl k g c wr)
  case atStart => exact ⟨[], tl, k, rfl, rfl, rfl, rfl, rfl, hk, World.iter_heap _ _ _, (Below.refl _ _).alloc (Nat.le_refl _) _⟩
  case round =>
    clear c1
    obtain ⟨a, bb, p, hab, hbl, hpk, rfl, hdr, hps, hit, hbw⟩ := hrel
    have hdat : s.data.toList = encL a ++ encL bb := by rw [HP.out.eq, List.append_nil, hab, encL_append]
    have HAB := Lib.hid hab
    have HBL := Lib.hid hbl
    have HDR := Lib.hid hdr
    have HPK := Lib.hid hpk
    have hsr := HS2.out.below hbw
    cases gk with
    | zero =>
      obtain rfl : bb = [] := List.length_eq_zero_iff.1 hbl
      have hnx : ∀ ty, (Instr.next (.pointer (some ⟨w2.heap.size, 0, none⟩)) true ty).run Tryz.prog wr = _ := fun ty => next_done wr w2.heap.size s a (by rw [hdat]; simp [encL]) hit ty
      have hta : tl = a := by rw [hab, List.append_nil]
      have hpre : tl.isPrefixOf (sl.drop k) = true := by rw [hdr, hta]; have := pre_app a [] (sl.drop p); rw [List.append_nil] at this; rw [this]; rfl
      have hfin : IsPost B w b v sl tl k (.returned (.bool true)) (wr.setCell ⟨b, 1, none⟩ (.int .i64 p)) := by
        refine ⟨by rw [hpre], ?_⟩
        have : k + isN tl sl k = p := by unfold isN; rw [hpre, if_pos rfl, hta, hpk]
        rw [this]
        exact ⟨hsr.place p, grown_trans (below_grow hb2 _) (grown_trans (below_grow hbw _) (grown_set wr b 1 _))⟩
      have HF := Lib.hid hfin
      have c1 := hsr.c1
      have f1 := hsr.f1
      clear hfin hab hbl hdat hit hdr hpk hsr hpre hta
      go_wp2
      (try rw [Exit.noGoto_ret])
      go_ret
      exact HF.out
    | succ g =>
      obtain ⟨n, b', rfl⟩ : ∃ n b', bb = n :: b' := by
        match bb, hbl with
        | n :: b', _ => exact ⟨n, b', rfl⟩
      have hn : sgn n = true := HP.out.all n (by rw [hab]; simp)
      have hnx : ∀ ty, (Instr.next (.pointer (some ⟨w2.heap.size, 0, none⟩)) true ty).run Tryz.prog wr = _ := fun ty => next_sign wr w2.heap.size s a n (encL b') (by rw [hdat, encL_cons]) hn hit ty
      obtain ⟨W, hW⟩ : ∃ W, W = wr.iterAt w2.heap.size s (encL (a ++ [n])).length := ⟨_, rfl⟩
      rw [← hW] at hnx
      have hitW : W.heap[w2.heap.size]? = some (.stringIter s (encL (a ++ [n])).length) := by rw [hW]; exact Lib.iterAt_heap _ _ _ _ _ hit
      have hbW : Below w2.heap.size w2 W := by rw [hW]; exact Lib.below_iterAt hbw (by omega) _ _
      have hsW := HS2.out.below hbW
      have HSW := Lib.hid hsW
      have HIT := Lib.hid hitW
      have HBW := Lib.hid hbW
      have hno : tl.isPrefixOf (sl.drop k) = false → IsPost B w b v sl tl k (.returned (.bool false)) W := by
        intro hpre
        refine ⟨by rw [hpre], ?_⟩
        have : k + isN tl sl k = k := by unfold isN; rw [hpre]; rfl
        rw [this]
        exact ⟨hsW, grown_trans (below_grow hb2 _) (below_grow hbW _)⟩
      have HNO := Lib.hid hno
      have c0 := hsW.c0
      by_cases he : p = sl.length
      · have hB : ((p : Int) == (sl.length : Int)) = true := by simp [he]
        have hpre : tl.isPrefixOf (sl.drop k) = false := by
          rw [hdr, hab, pre_app, he, List.drop_length]; rfl
        have HF := Lib.hid (HNO.out hpre)
        obtain ⟨ao, cap, rfl⟩ := hsW.shape
        clear hab hbl hdat hit hdr hpk hsr hpre hno hW hsW hitW hbW hn he
        go_wp2
        (try rw [Exit.noGoto_ret])
        go_ret
        exact HF.out
      · have hB : ((p : Int) == (sl.length : Int)) = false := by simp; omega
        have hlt : p < sl.length := by omega
        obtain ⟨m, hm⟩ : ∃ m, sl[p]? = some m := ⟨_, List.getElem?_eq_getElem hlt⟩
        obtain ⟨g', cap, rfl, hcap⟩ := hsW.shape1 (by omega)
        have cc := hsW.cell p m hm
        have HM := Lib.hid hm
        have k1 : (0 : Int) ≤ (p : Int) := by omega
        have k2 : (p : Int) < (sl.length : Int) := by omega
        by_cases hmn : m = n
        · have hB2 : (m == n) = true := by simpa using hmn
          have hfin : II w2 s sl tl k g (.int .i64 ((p : Int) + 1)) W := by
            refine ⟨a ++ [n], b', p + 1, by rw [hab]; simp, by simpa using hbl, by rw [hpk]; simp; omega, by go_num, ?_, by omega, hitW, hbW⟩
            rw [hdr, drop_cons sl p m hm, hmn]; simp
          have HF := Lib.hid hfin
          clear hab hbl hdat hit hdr hpk hsr hno hW hsW hitW hbW hn he hm hmn hfin
          go_wp2
          go_roundg g
          case measure => omega
          case rel => exact HF.out
        · have hB2 : (m == n) = false := by simpa using hmn
          have hpre : tl.isPrefixOf (sl.drop k) = false := by
            rw [hdr, hab, pre_app, drop_cons sl p m hm]
            simp [List.isPrefixOf, Ne.symm hmn]
          have HF := Lib.hid (HNO.out hpre)
          clear hab hbl hdat hit hdr hpk hsr hpre hno hW hsW hitW hbW hn he hm hmn
          go_wp2
          (try rw [Exit.noGoto_ret])
          go_ret
          exact HF.out
end Go.Proofs.YtjalhcbomjgkoaaGreatDoor

/-
  READING A SIGN'S NUMBER, an escape, an IRI (package nt): all ways.
-/
namespace Go.Proofs.YtjalhcbomjgkoaaGreatDoor
open Go.RowKit
set_option linter.unusedVariables false

theorem parts_one (c : Int) (h0 : 0 ≤ c) (h1 : c ≤ 127) : Parts (⟨#[c.toNat.toUInt8]⟩ : ByteArray).data.toList [c] [] := by
  refine ⟨?_, fun n hn => ?_, .inl rfl⟩
  · rw [List.append_nil, encL_cons, encL_nil, List.append_nil]
    unfold Lib.encodeRune
    rw [Lib.encodeRuneZ_one h0 h1]
    rfl
  · simp at hn
    subst hn
    rw [sgn_iff]; omega
set_option maxHeartbeats 4000000 in
set_option maxRecDepth 100000 in
theorem nnumber_any {B : Nat} {w : World} {b : Nat} {v : Value} {sl : List Int} {k : Nat} (h : Sc B w b v sl k) (hk : k ≤ sl.length) (hl : sl.length ≤ 4294967296) (m : Nat) (hm0 : 0 < m) (hm : m ≤ 8) :
    Calls Tryz.prog 129 #[.pointer (some ⟨b, 0, none⟩), .int .i64 m] w (RdPost B w b v sl (rd m 0 (sl.drop k) k)) := by
  have HS := Lib.hid h
  clear h
  go_enter Tryz.func129, Tryz.ntmps129
  go_wp2
  go_loopg [6, 9] m (fun g s6 s9 wr => NumA B w b v sl m k g s6 s9 wr)
  case atStart => exact ⟨0, 0, by omega, by omega, by omega, by omega, rfl, rfl, rfl, HS.out, same_grown (Same.refl _) _⟩
  case round =>
    obtain ⟨i, S, hig, hki, hS0, hS1, rfl, rfl, hrd, hM⟩ := hrel
    have HRD := Lib.hid hrd
    have HM := Lib.hid hM
    obtain ⟨R, hR⟩ : ∃ R, R = w32 S := ⟨_, rfl⟩
    have HR := Lib.hid hR
    cases gk with
    | zero =>
      have him : i = m := by omega
      have hge : ¬ ((i : Int) < (m : Int)) := by omega
      have c1 := hM.1.c1
      have f1 := hM.1.f1
      have hS2 : S < 4294967296 := by
        have : (16 : Int) ^ i ≤ 16 ^ 8 := by
          have := Nat.pow_le_pow_right (show 0 < 16 by decide) (show i ≤ 8 by omega)
          exact_mod_cast this
        omega
      have hcl : cls R = 6 ↔ ¬ sgn S = true := by
        rw [sgn_iff, hR]; unfold cls w32; split <;> omega
      rw [← hR]
      by_cases hs : sgn S = true
      · have hnot : (cls R == 6) = false := by
          have : cls R ≠ 6 := fun x => (hcl.1 x) hs
          simpa using this
        have hRS : R = S := by
          have := (sgn_iff _).1 hs
          rw [hR]; unfold w32; rw [if_pos (by omega)]
        have hfin : RdPost B w b v sl (rd m 0 (sl.drop k) k) (.returned (.tuple #[.int .i32 R, .bool true])) wr := by
          rw [hrd, rd_zero, if_pos hs]; exact ⟨by rw [hRS]; rfl, hM⟩
        have HF := Lib.hid hfin
        clear hM hrd hR hcl hs hRS hfin hS0 hS1 hS2
        go_wp2_with (go_at_call 99; (with_reducible refine (class_any R _).mono ?_); rintro e w' ⟨rfl, rfl⟩)
        go_ret2
        exact HF.out
      · have hyes : (cls R == 6) = true := by simpa using hcl.2 hs
        have hPl : ∀ W, Same wr W → Calls Tryz.prog 62 #[.pointer (some ⟨b, 0, none⟩)] W fun e w' => e = .returned (.int .i64 ((k : Int) + (i : Int))) ∧ Same wr w' := fun W s => (place_any (s.sc hM.1)).mono fun _ _ ⟨x, y⟩ => ⟨by rw [x, Int.natCast_add], s.trans y⟩
        have hBk : ∀ W, Same wr W → Calls Tryz.prog 105 #[.pointer (some ⟨b, 0, none⟩), .int .i64 ((k : Int) + (i : Int) - 1)] W fun e w' => e = .returned (.bool true) ∧ Sc B w' b v sl (k + i - 1) ∧ wr.grownBy w' (some b) := fun W s => by
          have := back_yes (s.sc hM.1) (k + i - 1) (by omega) hl
          rw [show ((k + i - 1 : Nat) : Int) = (k : Int) + (i : Int) - 1 by omega] at this
          exact this.mono fun _ _ ⟨x, y, z⟩ => ⟨x, y, grown_trans (same_grown s _) z⟩
        have hfin : ∀ w3, Sc B w3 b v sl (k + i - 1) ∧ wr.grownBy w3 (some b) → RdPost B w b v sl (rd m 0 (sl.drop k) k) (.returned (.tuple #[.int .i32 0, .bool false])) w3 := fun w3 h3 => by
          rw [hrd, rd_zero, if_neg hs]
          exact ⟨rfl, h3.1, grown_trans hM.2 h3.2⟩
        have HF := Lib.hid hfin
        have hs0 : Same wr wr := Same.refl wr
        clear hM hrd hR hcl hs hfin hS0 hS1 hS2 him c1 f1
        go_wp2_with (first
          | (go_at_call 99; (with_reducible refine (class_any R _).mono ?_); rintro e w' ⟨rfl, rfl⟩)
          | (go_at_call 62; (with_reducible refine (hPl _ (by assumption)).mono ?_); rintro e w3 ⟨rfl, hs3⟩)
          | (go_at_call 105; (with_reducible refine (hBk _ (by assumption)).mono ?_); rintro e w4 ⟨rfl, hs4⟩))
        go_ret2
        exact HF.out _ hs4
    | succ g =>
      have hi2 : (i : Int) < (m : Int) := by omega
      have hS2 : S < 268435456 := by
        have : (16 : Int) ^ i ≤ 16 ^ 7 := by
          have := Nat.pow_le_pow_right (show 0 < 16 by decide) (show i ≤ 7 by omega)
          exact_mod_cast this
        omega
      have hRS : R = S := by rw [hR]; unfold w32; rw [if_pos (by omega)]
      rw [← hR]
      by_cases he : k + i = sl.length
      · have hP := peek_end hM.1 he hl
        have hH : ∀ W, Calls Tryz.prog 133 #[.int .i32 (-1)] W fun e w' => e = .returned (.int .i64 (-1)) ∧ W = w' := fun W => hex_any (-1) W
        have hfin : ∀ w3, Same wr w3 → RdPost B w b v sl (rd m 0 (sl.drop k) k) (.returned (.tuple #[.int .i32 0, .bool false])) w3 := fun w3 s3 => by
          rw [hrd, he, List.drop_length, rd_end, ← he]; exact ⟨rfl, s3.sc hM.1, grown_trans hM.2 (same_grown s3 _)⟩
        have HF := Lib.hid hfin
        clear hM hrd hR hfin hS0 hS1 hS2 hRS he
        go_wp2_with (first
          | (go_at_call 86; (with_reducible refine hP.mono ?_); rintro e w3 ⟨rfl, hs3⟩)
          | (go_at_call 133; (with_reducible refine (hH _).mono ?_); rintro e w' ⟨rfl, rfl⟩))
        go_ret2
        exact HF.out _ hs3
      · have hx0 : k + i < sl.length := by omega
        obtain ⟨d, hx⟩ : ∃ d, sl[k + i]? = some d := ⟨_, List.getElem?_eq_getElem hx0⟩
        have hP := peek_sign hM.1 hx hl
        have hdr := drop_cons sl (k + i) d hx
        obtain ⟨D, hD⟩ : ∃ D, D = hexv d := ⟨_, rfl⟩
        have hh1 : D ≤ 15 := by rw [hD]; unfold hexv; omega
        have hHx : ∀ W, Calls Tryz.prog 133 #[.int .i32 d] W fun e w' => e = .returned (.int .i64 D) ∧ W = w' := fun W => by have := hex_any d W; rwa [← hD] at this
        by_cases hneg : D < 0
        · have hfin : ∀ w3, Same wr w3 → RdPost B w b v sl (rd m 0 (sl.drop k) k) (.returned (.tuple #[.int .i32 0, .bool false])) w3 := fun w3 s3 => by
            rw [hrd, hdr, rd_cons, if_pos (by omega)]; exact ⟨rfl, s3.sc hM.1, grown_trans hM.2 (same_grown s3 _)⟩
          have HF := Lib.hid hfin
          clear hM hrd hR hfin hS0 hS1 hS2 hRS he hdr hx hD
          go_wp2_with (first
            | (go_at_call 86; (with_reducible refine hP.mono ?_); rintro e w3 ⟨rfl, hs3⟩)
            | (go_at_call 133; (with_reducible refine (hHx _).mono ?_); rintro e w' ⟨rfl, rfl⟩))
          go_ret2
          exact HF.out _ hs3
        · have hD0 : 0 ≤ D := by omega
          have hstep : ∀ w3, Sc B w3 b v sl (k + i + 1) ∧ wr.grownBy w3 (some b) → NumA B w b v sl m k g (.int .i32 (w32 (S * 16 + D))) (.int .i64 ((i : Int) + 1)) w3 := fun w3 h3 => by
            refine ⟨i + 1, S * 16 + D, by omega, by omega, by omega, ?_, rfl, by rfl, ?_, ?_, grown_trans hM.2 h3.2⟩
            · rw [Int.pow_succ]; omega
            · rw [hrd, hdr, rd_cons, if_neg (by omega), ← hD, Nat.add_assoc]
            · exact h3.1
          have hNx : ∀ W, Same wr W → Calls Tryz.prog 87 #[.pointer (some ⟨b, 0, none⟩)] W fun e w' => e = .returned (.int .i32 d) ∧ Sc B w' b v sl (k + i + 1) ∧ wr.grownBy w' (some b) := fun W s => (next_sign' (s.sc hM.1) hx hl).mono fun _ _ ⟨x, y, z⟩ => ⟨x, y, grown_trans (same_grown s _) z⟩
          have HST := Lib.hid hstep
          rw [hRS]
          by_cases hbig : S * 16 + D < 2147483648
          · have hor : bits .or .i32 (S * 16) D = S * 16 + D := bits_join .i32 31 (by decide) wraps_i32 4 (S * 16) D (by omega) (by omega) (by omega) (by omega) (by omega) (by omega)
            have hw : w32 (S * 16 + D) = S * 16 + D := by unfold w32; rw [if_pos hbig]
            rw [hw] at HST
            clear hM hrd hR hRS he hdr hx hD hstep hw hS1
            go_wp2_with (first
              | (go_at_call 86; (with_reducible refine hP.mono ?_); rintro e w3 ⟨rfl, hs3⟩)
              | (go_at_call 133; (with_reducible refine (hHx _).mono ?_); rintro e w' ⟨rfl, rfl⟩)
              | (go_at_call 87; (with_reducible refine (hNx _ (by assumption)).mono ?_); rintro e w4 ⟨rfl, hs4⟩))
            have HF := Lib.hid (HST.out _ hs4)
            go_roundg g
            case measure => omega
            case rel => exact HF.out
          · have hor : bits .or .i32 (S * 16 - 4294967296) D = S * 16 - 4294967296 + D := bits_high (S * 16) D (by omega) (by omega) (by omega) (by omega) (by omega)
            have hw : w32 (S * 16 + D) = S * 16 - 4294967296 + D := by unfold w32; rw [if_neg hbig]; omega
            rw [hw] at HST
            have hshift : IntKind.i32.wrap (S * 16) = S * 16 - 4294967296 := by rw [IntKind.wrap_i32]; omega
            clear hM hrd hR hRS he hdr hx hD hstep hw hS1
            go_wp2_with (first
              | (go_at_call 86; (with_reducible refine hP.mono ?_); rintro e w3 ⟨rfl, hs3⟩)
              | (go_at_call 133; (with_reducible refine (hHx _).mono ?_); rintro e w' ⟨rfl, rfl⟩)
              | (go_at_call 87; (with_reducible refine (hNx _ (by assumption)).mono ?_); rintro e w4 ⟨rfl, hs4⟩))
            have HF := Lib.hid (HST.out _ hs4)
            go_roundg g
            case measure => omega
            case rel => exact HF.out
theorem p9 : Parts (⟨#[9]⟩ : ByteArray).data.toList [9] [] := parts_one 9 (by decide) (by decide)
theorem p10 : Parts (⟨#[10]⟩ : ByteArray).data.toList [10] [] := parts_one 10 (by decide) (by decide)
theorem p32 : Parts (⟨#[32]⟩ : ByteArray).data.toList [32] [] := parts_one 32 (by decide) (by decide)
theorem p46 : Parts (⟨#[46]⟩ : ByteArray).data.toList [46] [] := parts_one 46 (by decide) (by decide)
theorem p58 : Parts (⟨#[58]⟩ : ByteArray).data.toList [58] [] := parts_one 58 (by decide) (by decide)
theorem p60 : Parts (⟨#[60]⟩ : ByteArray).data.toList [60] [] := parts_one 60 (by decide) (by decide)
theorem p64 : Parts (⟨#[64]⟩ : ByteArray).data.toList [64] [] := parts_one 64 (by decide) (by decide)
theorem p85 : Parts (⟨#[85]⟩ : ByteArray).data.toList [85] [] := parts_one 85 (by decide) (by decide)
theorem p117 : Parts (⟨#[117]⟩ : ByteArray).data.toList [117] [] := parts_one 117 (by decide) (by decide)
/-- What stands behind an IRI's backslash. -/
def nef (sl : List Int) (p : Nat) : Nat × Option Int :=
  if sl[p]? = some 117 then rd 4 0 (sl.drop (p + 1)) (p + 1) else if sl[p]? = some 85 then rd 8 0 (sl.drop (p + 1)) (p + 1) else (p, none)
theorem pre_one (c : Int) (sl : List Int) (p : Nat) : [c].isPrefixOf (sl.drop p) = decide (sl[p]? = some c) := by
  cases hx : sl[p]? with
  | none => rw [List.drop_eq_nil_of_le (List.getElem?_eq_none_iff.1 hx)]; rfl
  | some d =>
    rw [drop_cons sl p d hx, Bool.eq_iff_iff]
    show ((c == d) && true) = true ↔ _
    rw [Bool.and_true, beq_iff_eq, decide_eq_true_eq, Option.some.injEq]
    exact eq_comm
/-- 'Is', asked for one sign. -/
theorem is_one {B : Nat} {w : World} {b : Nat} {v : Value} {sl : List Int} {k : Nat} (h : Sc B w b v sl k) (hk : k ≤ sl.length) (hl : sl.length ≤ 4294967296) (c : Int) (s : ByteArray) (hp : Parts s.data.toList [c] []) (hsz : s.size ≤ 4294967296) :
    Calls Tryz.prog 88 #[.pointer (some ⟨b, 0, none⟩), .string s] w fun e w' => e = .returned (.bool (decide (sl[k]? = some c))) ∧ Moves B w b v sl (k + if sl[k]? = some c then 1 else 0) w' :=
  (is_any h hk hl s [c] hp hsz).mono fun e w' ⟨x, y⟩ => by
    unfold isN at y
    rw [pre_one] at x y
    refine ⟨x, ?_⟩
    by_cases hc : sl[k]? = some c
    · rw [if_pos hc]; rw [decide_eq_true hc, if_pos rfl] at y; exact y
    · rw [if_neg hc]; rw [decide_eq_false hc, if_neg (by decide)] at y; exact y
set_option maxHeartbeats 4000000 in
set_option maxRecDepth 100000 in
theorem nescape_any {B : Nat} {w : World} {b : Nat} {v : Value} {sl : List Int} {k : Nat} (h : Sc B w b v sl k) (hk : k ≤ sl.length) (hl : sl.length ≤ 4294967296) :
    Calls Tryz.prog 124 #[.pointer (some ⟨b, 0, none⟩)] w (RdPost B w b v sl (nef sl k)) := by
  have hu : Parts (⟨#[117]⟩ : ByteArray).data.toList [117] [] := parts_one 117 (by decide) (by decide)
  have hU : Parts (⟨#[85]⟩ : ByteArray).data.toList [85] [] := parts_one 85 (by decide) (by decide)
  obtain ⟨r, hr⟩ : ∃ r, r = nef sl k := ⟨_, rfl⟩
  rw [← hr]
  unfold nef at hr
  have c1 := is_one h hk hl 117 _ hu (by decide)
  by_cases h1 : sl[k]? = some 117
  · rw [if_pos h1] at hr
    have hki : k < sl.length := (List.getElem?_eq_some_iff.1 h1).1
    rw [if_pos h1, decide_eq_true h1] at c1
    have hN : ∀ W, Sc B W b v sl (k + 1) → Calls Tryz.prog 129 #[.pointer (some ⟨b, 0, none⟩), .int .i64 4] W (RdPost B W b v sl r) := fun W s => by
      rw [hr]; exact nnumber_any s (by omega) hl 4 (by omega) (by omega)
    clear h h1 hr hu hU
    go_enter Tryz.func124, Tryz.ntmps124
    go_wp2_with (first
      | (go_at_call 88; (with_reducible refine c1.mono ?_); rintro e w3 ⟨rfl, h3, g3⟩)
      | (go_at_call 129; (with_reducible refine (hN _ (by assumption)).mono ?_); rintro e w4 ⟨rfl, hM4⟩))
    go_ret2
    exact ⟨rfl, hM4.1, grown_trans g3 hM4.2⟩
  · rw [if_neg h1] at hr
    rw [if_neg h1, decide_eq_false h1, Nat.add_zero] at c1
    have c2 : ∀ W, Sc B W b v sl k → _ := fun W s => is_one s hk hl 85 _ hU (by decide)
    by_cases h2 : sl[k]? = some 85
    · rw [if_pos h2] at hr
      have hki : k < sl.length := (List.getElem?_eq_some_iff.1 h2).1
      rw [if_pos h2, decide_eq_true h2] at c2
      have hN : ∀ W, Sc B W b v sl (k + 1) → Calls Tryz.prog 129 #[.pointer (some ⟨b, 0, none⟩), .int .i64 8] W (RdPost B W b v sl r) := fun W s => by
        rw [hr]; exact nnumber_any s (by omega) hl 8 (by omega) (by omega)
      clear h h1 h2 hr hu hU
      go_enter Tryz.func124, Tryz.ntmps124
      go_wp2_with (first
        | (go_at_call 88; (with_reducible refine c1.mono ?_); rintro e w3 ⟨rfl, h3, g3⟩)
        | (go_at_call 88; (with_reducible refine (c2 _ (by assumption)).mono ?_); rintro e w5 ⟨rfl, h5, g5⟩)
        | (go_at_call 129; (with_reducible refine (hN _ (by assumption)).mono ?_); rintro e w4 ⟨rfl, hM4⟩))
      go_ret2
      exact ⟨rfl, hM4.1, grown_trans g3 (grown_trans g5 hM4.2)⟩
    · rw [if_neg h2] at hr
      rw [if_neg h2, decide_eq_false h2, Nat.add_zero] at c2
      have HR := Lib.hid hr
      clear h h1 h2 hr hu hU
      go_enter Tryz.func124, Tryz.ntmps124
      go_wp2_with (first
        | (go_at_call 88; (with_reducible refine c1.mono ?_); rintro e w3 ⟨rfl, h3, g3⟩)
        | (go_at_call 88; (with_reducible refine (c2 _ (by assumption)).mono ?_); rintro e w5 ⟨rfl, h5, g5⟩))
      go_ret2
      rw [HR.out]
      exact ⟨rfl, h5, grown_trans g3 g5⟩
end Go.Proofs.YtjalhcbomjgkoaaGreatDoor

/-
  READING AN IRI (package nt): all ways.
-/
namespace Go.Proofs.YtjalhcbomjgkoaaGreatDoor
open Go.RowKit
set_option linter.unusedVariables false

/-- An IRI's text from place p on, acc being read; at most f signs are to come. -/
def irf (sl : List Int) : Nat → Nat → List Int → Nat × Option (List Int)
  | 0, p, _ => (p, none)
  | f + 1, p, acc => match sl[p]? with
    | none => (p, none)
    | some c => if c = 62 then (p + 1, some acc) else if c = 10 then (p, none) else if c = 92 then
        (match (nef sl (p + 1)).2 with
          | none => ((nef sl (p + 1)).1, none)
          | some n => irf sl f (nef sl (p + 1)).1 (acc ++ [n]))
      else irf sl f (p + 1) (acc ++ [c])
/-- An IRI's text at place k. -/
def irP (sl : List Int) (k : Nat) : Nat × Option (List Int) := if sl[k]? = some 60 then irf sl (sl.length - (k + 1)) (k + 1) [] else (k, none)
theorem nef_le (sl : List Int) (p : Nat) (h : p ≤ sl.length) : (nef sl p).1 ≤ sl.length ∧ p ≤ (nef sl p).1 := by
  unfold nef
  have h4 := rd_le 4 0 (sl.drop (p + 1)) (p + 1)
  have h8 := rd_le 8 0 (sl.drop (p + 1)) (p + 1)
  rw [List.length_drop] at h4 h8
  split
  · rename_i hx
    have hp := (List.getElem?_eq_some_iff.1 hx).1
    omega
  split
  · rename_i hx
    have hp := (List.getElem?_eq_some_iff.1 hx).1
    omega
  · exact ⟨h, Nat.le_refl _⟩
theorem nef_sgn (sl : List Int) (p : Nat) (n : Int) (h : (nef sl p).2 = some n) : sgn n = true := by
  unfold nef at h
  split at h
  · exact (rd_sgn _ _ _ _ _ h).1
  split at h
  · exact (rd_sgn _ _ _ _ _ h).1
  · cases h
/-- The loop's relation. -/
def NA (w : World) (B b : Nat) (v : Value) (sl : List Int) (N : Nat) (r : Nat × Option (List Int)) (g : Nat) (wr : World) : Prop :=
  ∃ p acc, r = irf sl g p acc ∧ p ≤ sl.length ∧ sl.length - p ≤ g ∧ acc.length + g ≤ 100000 ∧ RS w B b v sl N p acc wr
section
variable {w : World} {B b : Nat} {v : Value} {sl : List Int} {N k : Nat} {acc : List Int}
theorem rs_peek {x : Int} (hx : sl[k]? = some x) (hl : sl.length ≤ 4294967296) : EverT (RS w B b v sl N k acc) 86 #[.pointer (some ⟨b, 0, none⟩)] (.returned (.int .i32 x)) (RS w B b v sl N k acc) :=
  fun _ h => (peek_sign h.1 hx hl).mono fun _ _ ⟨x, y⟩ => ⟨x, h.same y⟩
theorem rs_nescape (hk : k ≤ sl.length) (hl : sl.length ≤ 4294967296) (q : Nat) (o : Option Int) (he1 : (nef sl k).1 = q) (he2 : (nef sl k).2 = o) :
    EverT (RS w B b v sl N k acc) 124 #[.pointer (some ⟨b, 0, none⟩)] (.returned (.tuple #[.int .i32 (o.getD 0), .bool o.isSome])) (RS w B b v sl N q acc) := by
  subst he1 he2
  exact fun _ h => (nescape_any h.1 hk hl).mono fun _ _ ⟨x, y⟩ => ⟨x, h.grown y⟩
/-- A builder is made. -/
theorem rs_start {W : World} (h : Sc B W b v sl k) (hN : N = W.heap.size) : RS W B b v sl N k [] (W.alloc (.cells #[.pointer none, .slice none 0 0] 105)) := by
  subst hN
  exact ⟨h.below3 ((Below.refl _ _).alloc (Nat.le_refl _) _), Lib.IsBuilderF.of (Lib.fresh_isBuilder 105 5 W), below_grown ((Below.refl _ _).alloc (Nat.le_refl _) _) _, rfl, (Array.getElem?_eq_some_iff.1 h.blk).1, fun g hg => (World.ownsRow.lt h.row g hg).2⟩
end
set_option maxHeartbeats 8000000 in
set_option maxRecDepth 100000 in
theorem niri_yes {B : Nat} {w : World} {b : Nat} {v : Value} {sl : List Int} {k : Nat} (h : Sc B w b v sl k) (hl : sl.length ≤ 100000) (hall : AllS sl) (hx0 : sl[k]? = some 60) :
    Calls Tryz.prog 115 #[.pointer (some ⟨b, 0, none⟩)] w (QPost B w b v sl (irf sl (sl.length - (k + 1)) (k + 1) [])) := by
  have hkl : k < sl.length := (List.getElem?_eq_some_iff.1 hx0).1
  have c1 := is_one h (by omega) (by omega) 60 _ p60 (by decide)
  rw [if_pos hx0, decide_eq_true hx0] at c1
  have HA := Lib.hid hall
  obtain ⟨r, hr⟩ : ∃ r, r = irf sl (sl.length - (k + 1)) (k + 1) [] := ⟨_, rfl⟩
  have HR := Lib.hid hr
  rw [← hr]
  clear h hall hx0 hr
  go_enter Tryz.func115, Tryz.ntmps115
  go_wp2_with (go_at_call 88; (with_reducible refine c1.mono ?_); rintro e w3 ⟨rfl, h3, g3⟩)
  obtain ⟨N, hN⟩ : ∃ N, N = w3.heap.size := ⟨_, rfl⟩
  have HST := Lib.hid (rs_start h3 hN)
  have HG := Lib.hid g3
  clear c1 h3 g3
  rw [← hN]
  have HNN := Lib.hid hN
  clear hN
  go_loopg [] (sl.length - (k + 1)) (fun g wr => NA w3 B b v sl N r g wr)
  case atStart => exact ⟨k + 1, [], HR.out, by omega, by omega, by simp; omega, HST.out⟩
  case round =>
    clear HR HST
    obtain ⟨p, acc, hq, hpl, hpg, hag, hR⟩ := hrel
    have hacc : acc.length ≤ 1000000 := by omega
    by_cases hpe : p = sl.length
    · have hrr : r = (p, none) := by
        rw [hq]
        cases gk with
        | zero => rfl
        | succ g => unfold irf; rw [hpe, List.getElem?_eq_none (Nat.le_refl _)]
      have cE := rs_endy (w := w3) (B := B) (b := b) (v := v) (N := N) (acc := acc) hpe (by omega)
      have HRR := Lib.hid hrr
      clear hq hrr hpe
      go_wp2_with (go_at_call 59; (with_reducible refine (cE.at (by assumption)).mono ?_); rintro e x1 ⟨rfl, hR1⟩)
      go_ret2
      rw [HRR.out]
      exact ⟨by rw [show ((p, (none : Option (List Int))).2.getD []) = [] from rfl, text_nil]; rfl, hR1.1, grown_trans HG.out hR1.2.2.1⟩
    · have hpl2 : p < sl.length := by omega
      obtain ⟨g, rfl⟩ : ∃ g, gk = g + 1 := ⟨gk - 1, by omega⟩
      obtain ⟨c, hx⟩ : ∃ c, sl[p]? = some c := ⟨_, List.getElem?_eq_getElem hpl2⟩
      have hcs : sgn c = true := HA.out c (List.mem_of_getElem? hx)
      have cE := rs_end (w := w3) (B := B) (b := b) (v := v) (N := N) (acc := acc) hpl2 (by omega)
      have cP := rs_peek (w := w3) (B := B) (b := b) (v := v) (N := N) (acc := acc) hx (by omega)
      have cN := rs_next (w := w3) (B := B) (b := b) (v := v) (N := N) (acc := acc) hx (by omega)
      unfold irf at hq
      rw [hx] at hq
      dsimp only at hq
      clear hx hpe
      by_cases h34 : c = 62
      · rw [if_pos h34] at hq
        subst h34
        have cS := rs_string (w := w3) (B := B) (b := b) (v := v) (sl := sl) (N := N) (k := p + 1) (acc := acc)
        have HQ := Lib.hid hq
        clear hq hcs
        go_wp2_with (first
          | (go_at_call 59; (with_reducible refine (cE.at (by assumption)).mono ?_); rintro e x1 ⟨rfl, hR1⟩)
          | (go_at_call 86; (with_reducible refine (cP.at (by assumption)).mono ?_); rintro e x4 ⟨rfl, hR4⟩)
          | (go_at_call 87; (with_reducible refine (cN.at (by assumption)).mono ?_); rintro e x2 ⟨rfl, hR2⟩)
          | (go_at_call 57; (with_reducible refine (cS.at (by assumption)).mono ?_); rintro e x3 ⟨rfl, hR3⟩))
        go_ret2
        rw [HQ.out]
        exact ⟨rfl, hR3.1, grown_trans HG.out hR3.2.2.1⟩
      rw [if_neg h34] at hq
      have g34 : (c == 62) = false := by simpa using h34
      by_cases hnl : c = 10
      · rw [if_pos hnl] at hq
        have HQ := Lib.hid hq
        subst hnl
        clear hq hcs h34 g34
        go_wp2_with (first
          | (go_at_call 59; (with_reducible refine (cE.at (by assumption)).mono ?_); rintro e x1 ⟨rfl, hR1⟩)
          | (go_at_call 86; (with_reducible refine (cP.at (by assumption)).mono ?_); rintro e x4 ⟨rfl, hR4⟩))
        go_ret2
        rw [HQ.out]
        exact ⟨by rw [show ((p, (none : Option (List Int))).2.getD []) = [] from rfl, text_nil]; rfl, hR4.1, grown_trans HG.out hR4.2.2.1⟩
      rw [if_neg hnl] at hq
      have g10 : (c == 10) = false := by simpa using hnl
      have g10' : (c != 10) = true := by simpa using hnl
      by_cases h92 : c = 92
      · rw [if_pos h92] at hq
        subst h92
        obtain ⟨hle1, hle2⟩ := nef_le sl (p + 1) (by omega)
        obtain ⟨q, hq1⟩ : ∃ q, (nef sl (p + 1)).1 = q := ⟨_, rfl⟩
        rw [hq1] at hq hle1 hle2
        clear g34 g10 g10' h34 hnl hcs
        cases ho : (nef sl (p + 1)).2 with
        | none =>
          rw [ho] at hq
          dsimp only at hq
          have cL := rs_nescape (w := w3) (B := B) (b := b) (v := v) (N := N) (acc := acc) (k := p + 1) (by omega) (by omega) q none hq1 ho
          have HQ := Lib.hid hq
          clear hq ho hq1
          go_wp2_with (first
            | (go_at_call 59; (with_reducible refine (cE.at (by assumption)).mono ?_); rintro e x1 ⟨rfl, hR1⟩)
            | (go_at_call 86; (with_reducible refine (cP.at (by assumption)).mono ?_); rintro e x4 ⟨rfl, hR4⟩)
            | (go_at_call 87; (with_reducible refine (cN.at (by assumption)).mono ?_); rintro e x2 ⟨rfl, hR2⟩)
            | (go_at_call 124; (with_reducible refine (cL.at (by assumption)).mono ?_); rintro e x3 ⟨rfl, hR3⟩))
          go_ret2
          rw [HQ.out]
          exact ⟨by rw [show ((q, (none : Option (List Int))).2.getD []) = [] from rfl, text_nil]; rfl, hR3.1, grown_trans HG.out hR3.2.2.1⟩
        | some n =>
          rw [ho] at hq
          dsimp only at hq
          have hn := nef_sgn sl (p + 1) n ho
          have cL := rs_nescape (w := w3) (B := B) (b := b) (v := v) (N := N) (acc := acc) (k := p + 1) (by omega) (by omega) q (some n) hq1 ho
          have cW := rs_write (w := w3) (B := B) (b := b) (v := v) (sl := sl) (N := N) (k := q) (acc := acc) n hn hacc
          have hfin : ∀ W, RS w3 B b v sl N q (acc ++ [n]) W → NA w3 B b v sl N r g W := fun W x => ⟨q, acc ++ [n], hq, hle1, by omega, by simp; omega, x⟩
          have HF := Lib.hid hfin
          clear hq ho hq1 hfin hn
          go_wp2_with (first
            | (go_at_call 59; (with_reducible refine (cE.at (by assumption)).mono ?_); rintro e x1 ⟨rfl, hR1⟩)
            | (go_at_call 86; (with_reducible refine (cP.at (by assumption)).mono ?_); rintro e x4 ⟨rfl, hR4⟩)
            | (go_at_call 87; (with_reducible refine (cN.at (by assumption)).mono ?_); rintro e x2 ⟨rfl, hR2⟩)
            | (go_at_call 124; (with_reducible refine (cL.at (by assumption)).mono ?_); rintro e x3 ⟨rfl, hR3⟩)
            | (go_at_call 98; (with_reducible refine (cW.at (by assumption)).mono ?_); rintro e x5 ⟨rfl, hR5⟩))
          go_roundg g
          case measure => omega
          case rel => exact HF.out _ hR5
      · rw [if_neg h92] at hq
        have g92 : (c == 92) = false := by simpa using h92
        have cW := rs_write (w := w3) (B := B) (b := b) (v := v) (sl := sl) (N := N) (k := p + 1) (acc := acc) c hcs hacc
        have hfin : ∀ W, RS w3 B b v sl N (p + 1) (acc ++ [c]) W → NA w3 B b v sl N r g W := fun W x => ⟨p + 1, acc ++ [c], hq, by omega, by omega, by simp; omega, x⟩
        have HF := Lib.hid hfin
        clear hq hfin hcs h34 hnl h92
        go_wp2_with (first
          | (go_at_call 59; (with_reducible refine (cE.at (by assumption)).mono ?_); rintro e x1 ⟨rfl, hR1⟩)
          | (go_at_call 86; (with_reducible refine (cP.at (by assumption)).mono ?_); rintro e x4 ⟨rfl, hR4⟩)
          | (go_at_call 87; (with_reducible refine (cN.at (by assumption)).mono ?_); rintro e x2 ⟨rfl, hR2⟩)
          | (go_at_call 98; (with_reducible refine (cW.at (by assumption)).mono ?_); rintro e x3 ⟨rfl, hR3⟩))
        go_roundg g
        case measure => omega
        case rel => exact HF.out _ hR3
theorem niri_any {B : Nat} {w : World} {b : Nat} {v : Value} {sl : List Int} {k : Nat} (h : Sc B w b v sl k) (hk : k ≤ sl.length) (hl : sl.length ≤ 100000) (hall : AllS sl) :
    Calls Tryz.prog 115 #[.pointer (some ⟨b, 0, none⟩)] w (QPost B w b v sl (irP sl k)) := by
  unfold irP
  by_cases hx : sl[k]? = some 60
  · rw [if_pos hx]; exact niri_yes h hl hall hx
  · rw [if_neg hx]
    have c1 := is_one h hk (by omega) 60 _ p60 (by decide)
    rw [if_neg hx, decide_eq_false hx, Nat.add_zero] at c1
    clear h hx
    go_enter Tryz.func115, Tryz.ntmps115
    go_wp2_with (go_at_call 88; (with_reducible refine c1.mono ?_); rintro e w3 ⟨rfl, h3, g3⟩)
    go_ret2
    exact ⟨by rw [show ((k, (none : Option (List Int))).2.getD []) = [] from rfl, text_nil]; rfl, h3, g3⟩
end Go.Proofs.YtjalhcbomjgkoaaGreatDoor

/-
  THE SCANNER's 'Until': the signs ahead of one.
-/
namespace Go.Proofs.YtjalhcbomjgkoaaGreatDoor
open Go.RowKit
set_option linter.unusedVariables false

/-- The place of the first x, or -1. -/
def idxFrom (x : Int) : Nat → List Int → Int
  | _, [] => -1
  | i, n :: l => if n = x then i else idxFrom x (i + 1) l
def idx (x : Int) (l : List Int) : Int := idxFrom x 0 l
theorem idxFrom_drop (x : Int) (l : List Int) (i : Nat) (n : Int) (h : l[i]? = some n) : idxFrom x i (l.drop i) = if n = x then (i : Int) else idxFrom x (i + 1) (l.drop (i + 1)) := by
  rw [drop_cons l i n h]
  rfl

set_option maxHeartbeats 4000000 in
theorem index_any (l : List Int) (x : Int) (hl : l.length ≤ 4294967296) (ao : Option Addr) (g o c : Nat) (w : World) (hao : 0 < l.length → ao = some ⟨g, o, none⟩)
    (hc : ∀ (j : Nat) (n : Int), l[j]? = some n → w.cell? ⟨g, o + j, none⟩ = some (.int .i32 n)) :
    Calls Tryz.prog 131 #[.slice ao l.length c, .int .i32 x] w fun e w' => e = .returned (.int .i64 (idx x l)) ∧ w' = w := by
  have HC := Lib.hid hc
  have HO := Lib.hid hao
  clear hc hao
  go_enter Tryz.func131, Tryz.ntmps131
  go_wp2
  go_loop [8] (fun i => ∃ k : Nat, k ≤ l.length ∧ i = .int .i64 k ∧ Hid (idxFrom x k (l.drop k) = idx x l)) (fun i => l.length - (intOf i).toNat)
  case atStart => exact ⟨0, Nat.zero_le _, rfl, Lib.hid rfl⟩
  case round =>
    obtain ⟨k, hk, rfl, HI⟩ := hrel
    by_cases hlt : k < l.length
    · obtain ⟨n, hn⟩ : ∃ n, l[k]? = some n := ⟨_, List.getElem?_eq_getElem hlt⟩
      obtain rfl := HO.out (by omega)
      have hcell := HC.out k n hn
      have HN := Lib.hid hn
      clear hn
      by_cases he : x = n
      · have hB : (x == n) = true := by simpa using he
        have HE := Lib.hid he
        clear he
        go_wp2
        go_ret
        exact ⟨ret_int (by rw [← HI.out, idxFrom_drop x l k n HN.out, if_pos HE.out.symm]), rfl⟩
      · have hB : (x == n) = false := by simpa using he
        have HE := Lib.hid he
        clear he
        go_wp2
        go_round
        case rel => exact ⟨k + 1, by omega, by go_num, Lib.hid (by rw [← HI.out, idxFrom_drop x l k n HN.out, if_neg (fun e => HE.out e.symm)])⟩
        case measure => simp [intOf]; omega
    · have hk2 : k = l.length := by omega
      have HK := Lib.hid hk2
      clear hk2
      go_wp2
      go_ret
      exact ⟨ret_int (by rw [← HI.out, HK.out, List.drop_length]; rfl), rfl⟩
theorem idxFrom_range (x : Int) : ∀ (l : List Int) (i : Nat), idxFrom x i l = -1 ∨ ∃ m : Nat, m < l.length ∧ idxFrom x i l = (i + m : Nat) ∧ l[m]? = some x ∧ x ∉ l.take m
  | [], i => .inl rfl
  | n :: l, i => by
    unfold idxFrom
    by_cases h : n = x
    · rw [if_pos h]; exact .inr ⟨0, by simp, by simp, by simp [h], by simp⟩
    · rw [if_neg h]
      rcases idxFrom_range x l (i + 1) with h1 | ⟨m, h1, h2, h3, h4⟩
      · exact .inl h1
      · refine .inr ⟨m + 1, by simp; omega, by rw [h2]; congr 1; omega, by simpa using h3, ?_⟩
        simp only [List.take_succ_cons, List.mem_cons, not_or]
        exact ⟨fun e => h e.symm, h4⟩
theorem idx_range (x : Int) (l : List Int) : idx x l = -1 ∨ ∃ m : Nat, m < l.length ∧ idx x l = (m : Nat) ∧ l[m]? = some x ∧ x ∉ l.take m := by
  have := idxFrom_range x l 0
  simpa [idx] using this
end Go.Proofs.YtjalhcbomjgkoaaGreatDoor
