/-
  MERGED (a claim has at most 60 files): VFits, VRParse, TRef, TRefB, EFind.
-/
import Derived.Test.YtehechbiajbobaaZ16
import Derived.Laws.AppendOwn
import Derived.Laws.OwnMore
import Derived.OwnWalk
import Derived.Test.YtehechbiajbobaaZ08
import Derived.Deep.AppendLies
import Derived.Deep.RegionLaw
import Derived.Deep.DrawnRows
import Derived.Lib.Strings
import Derived.Test.YtehechbiajbobaaZ09
import Derived.Test.YtehechbiajbobaaZ11
import Derived.Test.YtehechbiajbobaaZ14
import Derived.Deep.RegionHeld3
/-
  THE DOCUMENT's 'Same' and 'Fits'.
-/
namespace Go.Proofs.Ytehechbiajbobaa
open Go.RowKit
set_option linter.unusedVariables false

def F64 (x : Int) : Prop := -9223372036854775808 ≤ x ∧ x ≤ 9223372036854775807
theorem DAt.blk {w : World} {A : Option Addr} {l : List Int} (h : DAt w A l) (o : Obj) : DAt (w.alloc o) A l := h.below ((Below.refl _ _).alloc (Nat.le_refl _) o)
end Go.Proofs.Ytehechbiajbobaa

/-
  THE DOCUMENT's 'Parse': a text as a number.
-/
namespace Go.Proofs.Ytehechbiajbobaa
open Go.RowKit
set_option linter.unusedVariables false

abbrev noBig (code : Int) : Value := .tuple #[.agg #[.bool false, .slice none 0 0], .int .i64 code]
end Go.Proofs.Ytehechbiajbobaa

/-
  THE DOCUMENT's 'Less', 'AsInt', 'AsBool', 'known'.
-/
namespace Go.Proofs.Ytehechbiajbobaa
open Go.RowKit
set_option linter.unusedVariables false

/-- Is one ahead of another one? -/
def lessT (k : Int) (a b c : ByteArray) (k' : Int) (a' b' c' : ByteArray) : Bool :=
  if (k != k') = true then decide (k < k') else if (a.toList == a'.toList) = false then Op.bytesLess a.toList a'.toList else if (b.toList == b'.toList) = false then Op.bytesLess b.toList b'.toList else Op.bytesLess c.toList c'.toList
/-- What the document's AsInt says. -/
def RaPost (w : World) (t : Tm) (e : Ending) (w' : World) : Prop :=
  if (asI t).2 = 0 then ∃ v, e = .returned (.tuple #[v, .int .i64 0]) ∧ BigV w' v (asI t).1 ∧ Below w.heap.size w w' else e = .returned (noBig (asI t).2) ∧ Below w.heap.size w w'
theorem asI_lit (a b c : ByteArray) (h : (b.toList == lI) = true) : asI (.lit a b c) = asT a := by
  unfold asI
  simp only [Tm.isLit, Tm.tb, h, if_true]
  rfl
def IntPost (w : World) (a : ByteArray) (e : Ending) (w' : World) : Prop :=
  if (asT a).2 = 0 then ∃ v, e = .returned (.tuple #[v, .int .i64 0]) ∧ BigV w' v (asT a).1 ∧ Below w.heap.size w w' else e = .returned (noBig (asT a).2) ∧ Below w.heap.size w w'
theorem asT_form {a : ByteArray} (h : isNum a.data.toList = false) : asT a = (0, 3) := by
  unfold asT prs
  rw [h]
  rfl
theorem asT_fit {a : ByteArray} (h : isNum a.data.toList = true) (hf : F64 (numZ a.data.toList)) : asT a = (numZ a.data.toList, 0) := by
  unfold asT prs
  unfold F64 at hf
  rw [h, if_pos rfl, if_pos hf]
  rfl
theorem asT_over {a : ByteArray} (h : isNum a.data.toList = true) (hf : ¬ F64 (numZ a.data.toList)) : asT a = (0, 9) := by
  unfold asT prs
  unfold F64 at hf
  rw [h, if_pos rfl, if_neg hf]
  rfl
/-- A box of four, behind a call that makes memory. -/
theorem box4 {w w4 : World} {k : Int} {a b c : ByteArray} {cs : Array Value} {t' : TypeId} (hb : Below ((w.alloc (.cells #[.int .i64 k, .string a, .string b, .string c] 32)).alloc (.cells cs t')).heap.size ((w.alloc (.cells #[.int .i64 k, .string a, .string b, .string c] 32)).alloc (.cells cs t')) w4) :
    Fb w4 w.heap.size 32 #[.int .i64 k, .string a, .string b, .string c] ∧ Fb w4 (w.heap.size + 1) t' cs := by
  refine ⟨((Fb.new w 32 _).alloc _).below hb, ?_⟩
  have := (Fb.new (w.alloc (.cells #[.int .i64 k, .string a, .string b, .string c] 32)) t' cs).below hb
  simpa using this
theorem intPost_no {w : World} {a : ByteArray} {code : Int} (h : asT a = (0, code)) (hc : code ≠ 0) {e : Ending} {w' : World} (hp : e = .returned (noBig code) ∧ Below w.heap.size w w') : IntPost w a e w' := by
  unfold IntPost
  rw [h, if_neg hc]
  exact hp
def FitPost (w : World) (z : Int) (e : Ending) (w' : World) : Prop := ∃ v, e = .returned (.tuple #[v, .int .i64 0]) ∧ BigV w' v z ∧ Below w.heap.size w w'
theorem intPost_yes {w : World} {a : ByteArray} {z : Int} (h : asT a = (z, 0)) {e : Ending} {w' : World} (hp : FitPost w z e w') : IntPost w a e w' := by
  unfold IntPost
  rw [h, if_pos rfl]
  exact hp
end Go.Proofs.Ytehechbiajbobaa

/-
  THE DOCUMENT's 'AsBool' and 'Equal'.
-/
namespace Go.Proofs.Ytehechbiajbobaa
open Go.RowKit
set_option linter.unusedVariables false

theorem eql4T (k : Int) (a b c : ByteArray) (k' : Int) (a' b' c' : ByteArray) (w : World) :
    (binOp .eql 32 (F4 k a b c) (F4 k' a' b' c')).run Try.prog w = .ok (.bool ((k == k') && ((a.toList == a'.toList) && ((b.toList == b'.toList) && (c.toList == c'.toList))))) w := by
  go_simp
  by_cases hk : k = k'
  · by_cases h1 : a.toList = a'.toList <;> by_cases h2 : b.toList = b'.toList <;> by_cases h3 : c.toList = c'.toList <;> simp [hk, h1, h2, h3]
  · simp [hk]
end Go.Proofs.Ytehechbiajbobaa

/-
  THE DOCUMENT's DICTIONARY: a list of terms in a row; Find.
-/
namespace Go.Proofs.Ytehechbiajbobaa
open Go.RowKit
set_option linter.unusedVariables false
set_option linter.unusedSimpArgs false
set_option maxRecDepth 100000

/-- The document's terms in a row. -/
def DtL (B : Nat) (W : World) (v : Value) (L : List Tm) : Prop := W.ownsRow B 32 4 v L.length (L.flatMap c4)
theorem dtL_nil (B : Nat) (W : World) : DtL B W (.slice none 0 0) [] := World.ownsRow_nil _ _ _ _
theorem DtL.below {B : Nat} {W W' : World} {v : Value} {L : List Tm} (h : DtL B W v L) (hb : Below W.heap.size W W') : DtL B W' v L := by
  refine ⟨h.1, ?_⟩
  rcases id h.2 with hn | ⟨g, cap, cur, hv, hge, hg, rest⟩
  · exact .inl hn
  · exact .inr ⟨g, cap, cur, hv, hge, (hb.block g (Array.getElem?_eq_some_iff.1 hg).1).trans hg, rest⟩
theorem DtL.mono {B B' : Nat} {W : World} {v : Value} {L : List Tm} (h : DtL B W v L) (hB : B' ≤ B) : DtL B' W v L := by
  refine ⟨h.1, ?_⟩
  rcases id h.2 with hn | ⟨g, cap, cur, hv, hge, rest⟩
  · exact .inl hn
  · exact .inr ⟨g, cap, cur, hv, Nat.le_trans hB hge, rest⟩
theorem DtL.shape {B : Nat} {W : World} {v : Value} {L : List Tm} (h : DtL B W v L) : ∃ A c, v = .slice A L.length c := by
  rcases id h.2 with ⟨hv, hl⟩ | ⟨g, cap, cur, hv, _⟩
  · exact ⟨none, 0, by rw [hv, hl]⟩
  · exact ⟨_, cap, hv⟩
theorem c4_len (t : Tm) : (c4 t).length = 4 := rfl
theorem dtL_at {B : Nat} {W : World} {v : Value} {L : List Tm} (h : DtL B W v L) {i : Nat} {t : Tm} (hi : L[i]? = some t) :
    ∃ g cap, v = .slice (some ⟨g, 0, none⟩) L.length cap ∧ g < W.heap.size ∧ W.cell? ⟨g, i * 4, none⟩ = some (.int .i64 t.kind) ∧ W.cell? ⟨g, i * 4 + 1, none⟩ = some (.string t.ta) ∧ W.cell? ⟨g, i * 4 + 2, none⟩ = some (.string t.tb) ∧ W.cell? ⟨g, i * 4 + 3, none⟩ = some (.string t.tc) := by
  rcases id h.2 with ⟨hv, hl⟩ | ⟨g, cap, cur, hv, _⟩
  · have := (List.getElem?_eq_some_iff.1 hi).1
    omega
  · have key : ∀ (j : Nat) (u : Value), (c4 t)[j]? = some u → W.cell? ⟨g, i * 4 + j, none⟩ = some u := fun j u hu => by
      have hj : j < 4 := (List.getElem?_eq_some_iff.1 hu).1
      have h1 := flat_at (f := c4) L i j t (fun y _ => c4_len y) hi hj
      have := World.ownsRow.cells h (g := g) (by rw [hv]; rfl) (i * 4 + j) u (by rw [h1, hu])
      rwa [at_add, Nat.zero_add] at this
    exact ⟨g, cap, hv, (World.ownsRow.lt h g (by rw [hv]; rfl)).2, key 0 _ rfl, key 1 _ rfl, key 2 _ rfl, key 3 _ rfl⟩
/-- The same four fields. -/
def eF4 (x y : Tm) : Bool := (x.kind == y.kind) && ((x.ta.toList == y.ta.toList) && ((x.tb.toList == y.tb.toList) && (x.tc.toList == y.tc.toList)))
theorem eF4_same {x y : Tm} (hx : x.kind < 3) (hy : y.kind < 3) : eF4 x y = sameB y x := by
  have h1 : eF4 x y = true ↔ x = y := by
    constructor
    · intro h
      refine d_eq ?_
      unfold sameB same4
      have : (x.kind != 3) = true := by rw [bne_iff_ne]; omega
      rw [this, Bool.true_and]; exact h
    · rintro rfl
      unfold eF4; simp
  have h2 : sameB y x = true ↔ x = y := by
    constructor
    · intro h; exact (d_eq h).symm
    · rintro rfl; exact d_refl hx
  cases h3 : eF4 x y with
  | true => exact (h2.2 (h1.1 h3)).symm
  | false =>
    cases h4 : sameB y x with
    | false => rfl
    | true => rw [h1.2 (h2.1 h4)] at h3; cases h3
/-- A number, or -1. -/
def numM : Option Nat → Int
  | some j => j
  | none => -1
/-- The first place from k on. -/
def fromK (t : Tm) (g : Bool) : List Tm → Nat → Int
  | [], _ => -1
  | u :: l, k => if (sameB t u && g) = true then (k : Int) else fromK t g l (k + 1)
theorem fromK_no (t : Tm) : ∀ (l : List Tm) (k : Nat), fromK t false l k = -1
  | [], k => rfl
  | u :: l, k => by
    show (if (sameB t u && false) = true then (k : Int) else fromK t false l (k + 1)) = _
    rw [Bool.and_false, if_neg (by decide), fromK_no t l]
theorem fromK_nm (t : Tm) : ∀ (l : List Tm) (k : Nat), fromK t true l k = match nm t l with | some j => ((k + j : Nat) : Int) | none => -1
  | [], k => rfl
  | u :: l, k => by
    show (if (sameB t u && true) = true then (k : Int) else fromK t true l (k + 1)) = _
    rw [Bool.and_true, fromK_nm t l]
    show _ = match (if sameB t u = true then some 0 else (nm t l).map (· + 1)) with | some j => ((k + j : Nat) : Int) | none => -1
    by_cases h : sameB t u = true
    · rw [if_pos h, if_pos h]; rfl
    · rw [if_neg h, if_neg h]
      cases nm t l with
      | none => rfl
      | some j =>
        show ((k + 1 + j : Nat) : Int) = ((k + (j + 1) : Nat) : Int)
        congr 1; omega
theorem fromK_find (t : Tm) (L : List Tm) : fromK t (goodT t) L 0 = numM (findP L t) := by
  unfold findP
  cases goodT t with
  | false => rw [fromK_no, if_neg (by decide)]; rfl
  | true =>
    rw [fromK_nm, if_pos rfl]
    cases nm t L with
    | none => rfl
    | some j =>
      show ((0 + j : Nat) : Int) = (j : Int)
      rw [Nat.zero_add]
def EfI (w : World) (r : Int) (t : Tm) (g : Bool) (L : List Tm) (gk : Nat) (s9 : Value) (wr : World) : Prop := ∃ i : Nat, i + gk = L.length ∧ s9 = .int .i64 i ∧ Hid (r = fromK t g (L.drop i) i) ∧ Below w.heap.size w wr
set_option maxHeartbeats 16000000 in
theorem efind_any {B : Nat} {W : World} {v : Value} {L : List Tm} (hL : DtL B W v L) (hk : Ks L) (hl : L.length ≤ 100000) (room : Int) (t : Tm) (ht : t.kind < 3) (hz : t.few) :
    Calls Try.prog 12 #[.agg #[.int .i64 room, v], T4 t] W fun e w' => e = .returned (.int .i64 (numM (findP L t))) ∧ Below W.heap.size W w' := by
  obtain ⟨r, hr⟩ : ∃ r, r = numM (findP L t) := ⟨_, rfl⟩
  rw [← hr]
  rw [← fromK_find] at hr
  have cG := rgoodT_any t hz
  unfold T4 at cG ⊢
  have hsame : ∀ u : Tm, u.kind < 3 → eF4 u t = sameB t u := fun u hu => eF4_same hu ht
  have hE := fun (u : Tm) => eql4T u.kind u.ta u.tb u.tc t.kind t.ta t.tb t.tc
  generalize goodT t = g at cG hr
  have HSM := Lib.hid hsame
  have HE := Lib.hid hE
  have HR := Lib.hid hr
  have HK := Lib.hid hk
  have HDL := Lib.hid hL
  have HN := Lib.hid hl
  obtain ⟨A, c, rfl⟩ := hL.shape
  obtain ⟨tk, htk⟩ : ∃ y, y = t.kind := ⟨_, rfl⟩
  obtain ⟨ta, hta⟩ : ∃ y, y = t.ta := ⟨_, rfl⟩
  obtain ⟨tb, htb⟩ : ∃ y, y = t.tb := ⟨_, rfl⟩
  obtain ⟨tc, htc⟩ : ∃ y, y = t.tc := ⟨_, rfl⟩
  rw [← htk, ← hta, ← htb, ← htc] at cG HE ⊢
  have HT := Lib.hid (show tk = t.kind ∧ ta = t.ta ∧ tb = t.tb ∧ tc = t.tc from ⟨htk, hta, htb, htc⟩)
  obtain ⟨W2, hW2⟩ : ∃ W2, W2 = (W.alloc (.cells #[.int .i64 room, .slice A L.length c] 30)).alloc (.cells #[.int .i64 tk, .string ta, .string tb, .string tc] 32) := ⟨_, rfl⟩
  have hb2 : Below W.heap.size W W2 := by rw [hW2]; exact ((Below.refl _ _).alloc (Nat.le_refl _) _).alloc (by simp) _
  have hx2 : Fb W2 W.heap.size 30 #[.int .i64 room, .slice A L.length c] := by rw [hW2]; exact (Fb.new _ _ _).alloc _
  have hx3 : Fb W2 (W.heap.size + 1) 32 #[.int .i64 tk, .string ta, .string tb, .string tc] := by
    have := Fb.new (W.alloc (.cells #[.int .i64 room, .slice A L.length c] 30)) 32 #[.int .i64 tk, .string ta, .string tb, .string tc]
    rw [hW2]
    simpa using this
  have HB2 := Lib.hid hb2
  have HX2 := Lib.hid hx2
  have HX3 := Lib.hid hx3
  have y1 := hx2.cell 1
  clear hr hE hsame hk hL hl htk hta htb htc hz ht hb2 hx2 hx3
  go_enter Try.func12, Try.ntmps12
  go_wp2
  rw [← hW2]
  clear hW2
  go_loopg [9] L.length (fun gk s9 wr => EfI W2 r t g L gk s9 wr)
  case atStart => exact ⟨0, by omega, rfl, Lib.hid (by rw [List.drop_zero]; exact HR.out), Below.refl _ _⟩
  case round =>
    clear HR y1
    obtain ⟨i, hig, rfl, HRi, hbw⟩ := hrel
    cases gk with
    | zero =>
      have hin : ¬ (i : Int) < (L.length : Int) := by omega
      have hr2 : r = -1 := by rw [HRi.out, List.drop_of_length_le (by omega)]; rfl
      have HBW := Lib.hid (HB2.out.trans (hbw.mono HB2.out.size))
      subst hr2
      clear hig hbw HRi
      go_wp2
      go_ret
      exact ⟨rfl, HBW.out⟩
    | succ gg =>
      have hin : (i : Int) < (L.length : Int) := by omega
      have hiz : (0 : Int) ≤ (i : Int) := by omega
      obtain ⟨u, hu⟩ : ∃ u, L[i]? = some u := ⟨_, List.getElem?_eq_getElem (by omega)⟩
      obtain ⟨gb, cb, ev, hgb, q0, q1, q2, q3⟩ := dtL_at HDL.out hu
      injection ev with ev1 ev2 ev3
      subst ev1
      clear ev2 ev3
      have hdr : L.drop i = u :: L.drop (i + 1) := by rw [List.drop_eq_getElem?_toList_append, hu]; rfl
      have hku := HK.out u (List.mem_of_getElem? hu)
      have hbi := HSM.out u hku
      have hEu := HE.out u
      have hT := HT.out
      have e5 : ((u.kind == tk) && ((u.ta.toList == ta.toList) && ((u.tb.toList == tb.toList) && (u.tc.toList == tc.toList)))) = sameB t u := by rw [hT.1, hT.2.1, hT.2.2.1, hT.2.2.2]; exact hbi
      have hEu2 : ∀ w, (binOp .eql 32 (F4 u.kind u.ta u.tb u.tc) (F4 tk ta tb tc)).run Try.prog w = .ok (.bool (sameB t u)) w := fun w => by rw [hEu w, e5]
      have hri := HRi.out
      rw [hdr] at hri
      have hri : r = if (sameB t u && g) = true then (i : Int) else fromK t g (L.drop (i + 1)) (i + 1) := hri
      generalize sameB t u = b at hEu2 hri
      generalize u.kind = uk at q0 hEu2
      generalize u.ta = ua at q1 hEu2
      generalize u.tb = ub at q2 hEu2
      generalize u.tc = uc at q3 hEu2
      have hgW : gb < W2.heap.size := Nat.lt_of_lt_of_le hgb HB2.out.size
      have hx2 := HX2.out
      have hx3 := HX3.out
      have K : ∀ w, Below W2.heap.size W2 w → w.cell? ⟨W.heap.size, 1, none⟩ = some (.slice (some ⟨gb, 0, none⟩) L.length c) ∧ w.cell? ⟨W.heap.size + 1, 0, none⟩ = some (.int .i64 tk) ∧ w.cell? ⟨W.heap.size + 1, 1, none⟩ = some (.string ta) ∧ w.cell? ⟨W.heap.size + 1, 2, none⟩ = some (.string tb) ∧ w.cell? ⟨W.heap.size + 1, 3, none⟩ = some (.string tc) ∧ w.cell? ⟨gb, i * 4, none⟩ = some (.int .i64 uk) ∧ w.cell? ⟨gb, i * 4 + 1, none⟩ = some (.string ua) ∧ w.cell? ⟨gb, i * 4 + 2, none⟩ = some (.string ub) ∧ w.cell? ⟨gb, i * 4 + 3, none⟩ = some (.string uc) := fun w hb =>
        have h2 := hx2.below hb
        have h3 := hx3.below hb
        have hq := HB2.out.trans (hb.mono HB2.out.size)
        ⟨h2.cell 1, h3.cell 0, h3.cell 1, h3.cell 2, h3.cell 3, (hq.cell (p := ⟨gb, i * 4, none⟩) hgb).trans q0, (hq.cell (p := ⟨gb, i * 4 + 1, none⟩) hgb).trans q1, (hq.cell (p := ⟨gb, i * 4 + 2, none⟩) hgb).trans q2, (hq.cell (p := ⟨gb, i * 4 + 3, none⟩) hgb).trans q3⟩
      have CG : ∀ {w : World}, Below W2.heap.size W2 w → Calls Try.prog 26 #[F4 tk ta tb tc] w fun e w' => e = .returned (.bool g) ∧ Below W2.heap.size W2 w' := fun {w} hb => (cG w).mono fun _ _ ⟨x, y⟩ => ⟨x, hb.trans (y.mono hb.size)⟩
      have HRI := Lib.hid hri
      have HI := Lib.hid (show i + 1 + gg = L.length from by omega)
      have HI9 := Lib.hid (show i < 100000 from by have := HN.out; omega)
      clear hu q0 q1 q2 q3 hdr hku hbi hEu hT e5 hri HRi hig hgb hgW hx2 hx3 cG
      cases b with
      | false =>
        go_wp2
        obtain ⟨k1, k2, k3, k4, k5, k6, k7, k8, k9⟩ := K _ hbw
        go_region
        all_goals
          go_wp2
          go_roundg gg
          case measure => exact Nat.lt_succ_self gg
          case rel => exact ⟨i + 1, HI.out, by have := HI9.out; first | rfl | (rw [IntWalk.wrap64_in _ ⟨by omega, by omega⟩, Int.natCast_succ]), Lib.hid (by rw [HRI.out]; rfl), by repeat (first | assumption | refine Below.drew ?_)⟩
      | true =>
        cases g with
        | false =>
          go_wp2
          go_region_held3 (fun w => w.cell? ⟨W.heap.size, 1, none⟩ = some (.slice (some ⟨gb, 0, none⟩) L.length c) ∧ w.cell? ⟨W.heap.size + 1, 0, none⟩ = some (.int .i64 tk) ∧ w.cell? ⟨W.heap.size + 1, 1, none⟩ = some (.string ta) ∧ w.cell? ⟨W.heap.size + 1, 2, none⟩ = some (.string tb) ∧ w.cell? ⟨W.heap.size + 1, 3, none⟩ = some (.string tc) ∧ w.cell? ⟨gb, i * 4, none⟩ = some (.int .i64 uk) ∧ w.cell? ⟨gb, i * 4 + 1, none⟩ = some (.string ua) ∧ w.cell? ⟨gb, i * 4 + 2, none⟩ = some (.string ub) ∧ w.cell? ⟨gb, i * 4 + 3, none⟩ = some (.string uc))
            (first | (refine K _ ?_; repeat (first | assumption | refine Below.drew ?_ | refine Below.alloc ?_ (by first | exact Nat.le_refl _ | simp) _)))
            (first | (go_at_call 26; (with_reducible refine (CG (by repeat (first | assumption | refine Below.drew ?_))).mono ?_); rintro e wa ⟨rfl, hBa⟩))
          all_goals
            go_wp2
            go_roundg gg
            case measure => exact Nat.lt_succ_self gg
            case rel => exact ⟨i + 1, HI.out, by have := HI9.out; first | rfl | (rw [IntWalk.wrap64_in _ ⟨by omega, by omega⟩, Int.natCast_succ]), Lib.hid (by rw [HRI.out]; rfl), by repeat (first | assumption | refine Below.drew ?_)⟩
        | true =>
          go_wp2
          go_region_held3 (fun w => w.cell? ⟨W.heap.size, 1, none⟩ = some (.slice (some ⟨gb, 0, none⟩) L.length c) ∧ w.cell? ⟨W.heap.size + 1, 0, none⟩ = some (.int .i64 tk) ∧ w.cell? ⟨W.heap.size + 1, 1, none⟩ = some (.string ta) ∧ w.cell? ⟨W.heap.size + 1, 2, none⟩ = some (.string tb) ∧ w.cell? ⟨W.heap.size + 1, 3, none⟩ = some (.string tc) ∧ w.cell? ⟨gb, i * 4, none⟩ = some (.int .i64 uk) ∧ w.cell? ⟨gb, i * 4 + 1, none⟩ = some (.string ua) ∧ w.cell? ⟨gb, i * 4 + 2, none⟩ = some (.string ub) ∧ w.cell? ⟨gb, i * 4 + 3, none⟩ = some (.string uc))
            (first | (refine K _ ?_; repeat (first | assumption | refine Below.drew ?_ | refine Below.alloc ?_ (by first | exact Nat.le_refl _ | simp) _)))
            (first | (go_at_call 26; (with_reducible refine (CG (by repeat (first | assumption | refine Below.drew ?_))).mono ?_); rintro e wa ⟨rfl, hBa⟩))
          all_goals
            go_wp2
            (try rw [Exit.noGoto_ret])
            go_ret
            exact ⟨by rw [HRI.out]; rfl, HB2.out.trans ((show Below W2.heap.size W2 _ from by repeat (first | assumption | refine Below.drew ?_)).mono HB2.out.size)⟩
end Go.Proofs.Ytehechbiajbobaa
