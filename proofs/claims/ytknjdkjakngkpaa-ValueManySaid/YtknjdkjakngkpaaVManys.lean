/-
  ValueMany, WHATEVER THE INTEGERS: the sum, and the product, of any, one after the other, end as soon as one is none: the law returns true, and its argument reads as before.
-/
import Derived.Test.YtknjdkjakngkpaaVRes
import Derived.Test.YtknjdkjakngkpaaRows
import Derived.ProofKit
import Derived.OpenShut
import Derived.ChangeSlices
import Derived.RegionTactic
import Derived.Deep.DeepHandedRow
namespace Go.Proofs.Ytknjdkjakngkpaa
open Go.ChangeShapes Go.WideShapes Go.ChangeAt Go.RowKit
set_option linter.unusedVariables false

theorem two_inj {a b c d : Int} (h : two a b = two c d) : a = c ∧ b = d := by
  injection h with h
  simpa using h
theorem out_two2 : ∀ o : Option Int, ∃ n e, outZ o = two n e
  | some z => ⟨z, 0, rfl⟩
  | none => ⟨0, 9, rfl⟩
/-- Where the reckoning stands before l[k]. -/
def Stt (op : Int → Int → Int) (z : Int) (l : List Int) (k : Nat) (v : Int) (o : Bool) : Prop :=
  foZ op z l = (if o then foZ op v (l.drop k) else none) ∧ (o = true → fit v) ∧ (o = false → ¬ fit v) ∧ v.natAbs ≤ 10000000000000000000000000000000000000000
theorem Stt.skip {op : Int → Int → Int} {z : Int} {l : List Int} {k : Nat} {v : Int} (h : Stt op z l k v false) : Stt op z l (k + 1) v false := ⟨h.1, h.2⟩
theorem Stt.step {op : Int → Int → Int} {z : Int} {l : List Int} {k : Nat} {v x : Int} (h : Stt op z l k v true) (hx : l[k]? = some x) (hb : (op v x).natAbs ≤ 10000000000000000000000000000000000000000) : Stt op z l (k + 1) (op v x) (decide (F64 (op v x))) := by
  have e : foZ op v (l.drop k) = if fit (op v x) then foZ op (op v x) (l.drop (k + 1)) else none := by rw [drop_get hx]; rfl
  have hf : fit (op v x) ↔ F64 (op v x) := Iff.rfl
  by_cases hc : F64 (op v x)
  · rw [decide_eq_true hc]
    refine ⟨?_, fun _ => hc, (fun h => by cases h), hb⟩
    rw [h.1, if_pos rfl, e, if_pos (hf.2 hc), if_pos rfl]
  · rw [decide_eq_false hc]
    refine ⟨?_, (fun h => by cases h), fun _ => hc, hb⟩
    rw [h.1, if_pos rfl, e, if_neg (fun q => hc (hf.1 q))]; rfl
theorem Stt.res {op : Int → Int → Int} {z : Int} {l : List Int} {k : Nat} {v n e : Int} {o : Bool} (h : Stt op z l k v o) (hk : l.length ≤ k) (hr : outZ (foZ op z l) = two n e) : Res v n e := by
  rw [h.1, List.drop_eq_nil_of_le hk] at hr
  cases o with
  | true =>
    left
    obtain ⟨r1, r2⟩ := two_inj (hr : two v 0 = two n e)
    exact ⟨h.2.1 rfl, r1.symm, r2.symm⟩
  | false =>
    right
    obtain ⟨r1, r2⟩ := two_inj (hr : two 0 9 = two n e)
    exact ⟨h.2.2.1 rfl, r1.symm, r2.symm⟩
theorem BigV.parts2 {w : World} {z : Int} {A : Option Addr} {c : Nat} (h : BigV w (bigv z A c) z) : ((digs z.natAbs).length ≤ c ∧ c ≤ maxLen) ∧ DAt w A (digs z.natAbs) := by
  obtain ⟨A', c', e, h1, h2⟩ := h
  injection e with e
  have e2 := congrArg (fun x => x[1]?) e
  simp at e2
  obtain ⟨rfl, rfl⟩ := e2
  exact ⟨h1, h2⟩
/-- A number's box. -/
def Bo (W : World) (g : Nat) (v : Int) (A : Option Addr) (c : Nat) : Prop := Bk W g 32 #[.bool (decide (v < 0)), .slice A (digs v.natAbs).length c] ∧ ((digs v.natAbs).length ≤ c ∧ c ≤ maxLen) ∧ DAt W A (digs v.natAbs)
theorem Bo.below {W W' : World} {g : Nat} {v : Int} {A : Option Addr} {c : Nat} (h : Bo W g v A c) (hb : Below W.heap.size W W') : Bo W' g v A c := ⟨h.1.below hb h.1.lt, h.2.1, h.2.2.below hb⟩
theorem Bo.big {W : World} {g : Nat} {v : Int} {A : Option Addr} {c : Nat} (h : Bo W g v A c) : BigV W (bigv v A c) v := BigV.mk h.2.1 h.2.2
theorem Bo.cells {W : World} {g : Nat} {v : Int} {A : Option Addr} {c : Nat} (h : Bo W g v A c) : W.cell? ⟨g, 0, none⟩ = some (.bool (decide (v < 0))) ∧ W.cell? ⟨g, 1, none⟩ = some (.slice A (digs v.natAbs).length c) ∧ W.frozen? ⟨g, 0, none⟩ = false ∧ W.frozen? ⟨g, 1, none⟩ = false := by
  refine ⟨?_, ?_, h.1.free 0, h.1.free 1⟩
  · rw [h.1.cell]; rfl
  · rw [h.1.cell]; rfl
theorem Bo.drew {W : World} {g : Nat} {v : Int} {A : Option Addr} {c : Nat} (h : Bo W g v A c) : Bo W.drew g v A c := h
/-- Both boxes. -/
def MB (w : World) (g : Nat) (v p : Int) (A B : Option Addr) (c d : Nat) (W : World) : Prop := Below w.heap.size w W ∧ w.heap.size ≤ g ∧ Bo W g v A c ∧ Bo W (g + 1) p B d
theorem MB.drew {w W : World} {g : Nat} {v p : Int} {A B : Option Addr} {c d : Nat} (h : MB w g v p A B c d W) : MB w g v p A B c d W.drew := ⟨Below.drew h.1, h.2.1, h.2.2.1, h.2.2.2⟩
theorem MB.below {w W W' : World} {g : Nat} {v p : Int} {A B : Option Addr} {c d : Nat} (h : MB w g v p A B c d W) (hb : Below W.heap.size W W') : MB w g v p A B c d W' := ⟨h.1.trans (hb.mono h.1.size), h.2.1, h.2.2.1.below hb, h.2.2.2.below hb⟩
theorem MB.store1 {w W : World} {g : Nat} {v p v' : Int} {A B A' : Option Addr} {c d c' : Nat} (h : MB w g v p A B c d W) (hv : BigV W (bigv v' A' c') v') :
    MB w g v' p A' B c' d ((W.setCell ⟨g, 0, none⟩ (.bool (decide (v' < 0)))).setCell ⟨g, 1, none⟩ (.slice A' (digs v'.natAbs).length c')) := by
  obtain ⟨h1, h2, h3, h4⟩ := h
  have hp := hv.parts2
  refine ⟨(h1.setCell (by simpa using h2) _).setCell (by simpa using h2) _, h2, ⟨?_, hp.1, hp.2.set2 h3.1⟩, ⟨(h4.1.far (by simp) _).far (by simp) _, h4.2.1, h4.2.2.set2 h3.1⟩⟩
  have := (h3.1.set 0 (.bool (decide (v' < 0)))).set 1 (.slice A' (digs v'.natAbs).length c')
  simpa using this
theorem MB.store2 {w W : World} {g : Nat} {v p p' : Int} {A B B' : Option Addr} {c d d' : Nat} (h : MB w g v p A B c d W) (hv : BigV W (bigv p' B' d') p') :
    MB w g v p' A B' c d' ((W.setCell ⟨g + 1, 0, none⟩ (.bool (decide (p' < 0)))).setCell ⟨g + 1, 1, none⟩ (.slice B' (digs p'.natAbs).length d')) := by
  obtain ⟨h1, h2, h3, h4⟩ := h
  have hp := hv.parts2
  refine ⟨(h1.setCell (by simp; omega) _).setCell (by simp; omega) _, h2, ⟨(h3.1.far (by simp) _).far (by simp) _, h3.2.1, h3.2.2.set2 h4.1⟩, ⟨?_, hp.1, hp.2.set2 h4.1⟩⟩
  have := (h4.1.set 0 (.bool (decide (p' < 0)))).set 1 (.slice B' (digs p'.natAbs).length d')
  simpa using this
theorem sum_40 {v x : Int} (hv : fit v) (hx : fit x) : (v + x).natAbs ≤ 10000000000000000000000000000000000000000 := by unfold fit at hv hx; omega
theorem mul_40 {v x : Int} (hv : fit v) (hx : fit x) : (v * x).natAbs ≤ 10000000000000000000000000000000000000000 := by
  have h1 : v.natAbs ≤ 9223372036854775808 := by unfold fit at hv; omega
  have h2 : x.natAbs ≤ 9223372036854775808 := by unfold fit at hx; omega
  rw [Int.natAbs_mul]; exact Nat.le_trans (Nat.mul_le_mul h1 h2) (by decide)
def MnI (w : World) (gb : Nat) (l : List Int) (g : Nat) (s5 s6 s25 : Value) (wr : World) : Prop :=
  ∃ (k : Nat) (v p : Int) (o1 o2 : Bool) (A B : Option Addr) (c d : Nat), k + g = l.length ∧ s25 = .int .i64 k ∧ s5 = .bool o1 ∧ s6 = .bool o2 ∧ MB w gb v p A B c d wr ∧ Stt (· + ·) 0 l k v o1 ∧ Stt (· * ·) 1 l k p o2
theorem digs_40 {z : Int} (h : z.natAbs ≤ 10000000000000000000000000000000000000000) : (digs z.natAbs).length ≤ 1000 := len_two (by omega)
set_option maxHeartbeats 16000000 in
set_option maxRecDepth 100000 in
theorem many_walk (l : List Int) (hl : AllFit l) (A : Option Addr) (cap : Nat) (hlc : l.length ≤ cap) (hcm : cap ≤ maxLen) (w : World) (hat : LAt w A l) :
    Calls Try.prog 5 #[.slice A l.length cap] w fun e w' => e = .returned (.bool true) ∧ Below w.heap.size w w' := by
  have hb0 : Below w.heap.size w w := Below.refl _ _
  by_cases h20 : 20 < l.length
  · have h20' : (20 : Int) < (l.length : Int) := by omega
    clear hl hat hlc hcm h20
    go_enter Try.func5, Try.ntmps5
    go_wp2_with (go_at_call 11; (with_reducible refine (vawake_at (w := w) _ (by assumption)).mono ?_); rintro e w' ⟨rfl, hb2⟩)
    go_ret
    exact ⟨rfl, by assumption⟩
  · have h20' : ¬ (20 : Int) < (l.length : Int) := by omega
    have HL := Lib.hid hl
    have HT := Lib.hid hat
    have cO0 : ∀ W, Below w.heap.size w W → Calls Try.prog 16 #[.int .i64 0] W (BgP (fun w' => Below w.heap.size w w' ∧ Below W.heap.size W w') 0) := fun W hW => bg_open (fun w' h => ⟨hW.trans (h.mono hW.size), h⟩) (of_big 0 (by omega) W)
    have cO1 : ∀ W, Below w.heap.size w W → Calls Try.prog 16 #[.int .i64 1] W (BgP (fun w' => Below w.heap.size w w' ∧ Below W.heap.size W w') 1) := fun W hW => bg_open (fun w' h => ⟨hW.trans (h.mono hW.size), h⟩) (of_big 1 (by omega) W)
    clear hl hat hlc hcm
    go_enter Try.func5, Try.ntmps5
    go_wp2_with (first
      | (go_at_call 11; (with_reducible refine (vawake_at (w := w) _ hb0).mono ?_); rintro e w0 ⟨rfl, hbb⟩)
      | (go_at_call 16; (with_reducible refine (cO0 _ hbb).mono ?_); rintro e w1 ⟨A1, k1, rfl, hv1, hb1, hc1⟩)
      | (go_at_call 16; (with_reducible refine (cO1 _ hb1).mono ?_); rintro e w2 ⟨A2, k2, rfl, hv2, hb2, hc2⟩))
    obtain ⟨gx, hgx⟩ : ∃ gx, gx = w2.heap.size := ⟨_, rfl⟩
    rw [← hgx]
    have HG := Lib.hid hgx
    clear hgx
    go_loopg [5, 6, 25] l.length (fun g s5 s6 s25 wr => MnI w gx l g s5 s6 s25 wr)
    case atStart =>
      rw [HG.out]
      refine ⟨0, 0, 1, true, true, A1, A2, k1, k2, by omega, rfl, rfl, rfl, ⟨(hb2.alloc hb2.size _).alloc (by have := hb2.size; simp; omega) _, hb2.size, ?_, ?_⟩, ⟨rfl, (fun _ => by decide), (fun h => by cases h), by decide⟩, ⟨rfl, (fun _ => by decide), (fun h => by cases h), by decide⟩⟩
      · have hp := (hv1.below hc2).parts2
        exact ⟨(Bk.new w2 32 #[.bool false, .slice A1 (digs 0).length k1]).alloc _, hp.1, (hp.2.below ((Below.refl _ _).alloc (Nat.le_refl _) _)).below ((Below.refl _ _).alloc (Nat.le_refl _) _)⟩
      · have hp := hv2.parts2
        refine ⟨?_, hp.1, (hp.2.below ((Below.refl _ _).alloc (Nat.le_refl _) _)).below ((Below.refl _ _).alloc (Nat.le_refl _) _)⟩
        have := Bk.new (w2.alloc (.cells #[.bool false, .slice A1 (digs 0).length k1] 32)) 32 #[.bool false, .slice A2 (digs 1).length k2]
        simpa using this
    case round =>
      clear hb0 hbb hb1 hb2 hc1 hc2 hv1 hv2
      obtain ⟨k, v, p, o1, o2, A5, B5, c5, d5, hkg, rfl, rfl, rfl, hM, hs1, hs2⟩ := hrel
      cases gk with
      | zero =>
        have hge : ¬ (k : Int) < (l.length : Int) := by omega
        obtain ⟨n, e, hn⟩ := out_two2 (foZ (· + ·) 0 l)
        obtain ⟨m, f, hm⟩ := out_two2 (foZ (· * ·) 1 l)
        have R1 := hs1.res (by omega) hn
        have R2 := hs2.res (by omega) hm
        have hlv := digs_40 hs1.2.2.2
        have hlp := digs_40 hs2.2.2.2
        have cA : ∀ W, MB w gx v p A5 B5 c5 d5 W → Calls Try.prog 17 #[.slice A l.length cap] W fun x w' => x = .returned (two n e) ∧ MB w gx v p A5 B5 c5 d5 w' := fun W h =>
          (add_many l HL.out (by omega) A cap W (HT.out.below h.1)).mono fun x w' ⟨a, b⟩ => ⟨by rw [a, hn], h.below b⟩
        have cM : ∀ W, MB w gx v p A5 B5 c5 d5 W → Calls Try.prog 19 #[.slice A l.length cap] W fun x w' => x = .returned (two m f) ∧ MB w gx v p A5 B5 c5 d5 w' := fun W h =>
          (mul_many l HL.out (by omega) A cap W (HT.out.below h.1)).mono fun x w' ⟨a, b⟩ => ⟨by rw [a, hm], h.below b⟩
        have cI1 : ∀ W, MB w gx v p A5 B5 c5 d5 W → Calls Try.prog 20 #[.int .i64 n, .int .i64 e, bigv v A5 c5] W fun x w' => x = .returned (.bool true) ∧ MB w gx v p A5 B5 c5 d5 w' := fun W h =>
          (is_ok R1 hlv _ W h.2.2.1.big).mono fun x w' ⟨a, b⟩ => ⟨a, h.below b⟩
        have cI2 : ∀ W, MB w gx v p A5 B5 c5 d5 W → Calls Try.prog 20 #[.int .i64 m, .int .i64 f, bigv p B5 d5] W fun x w' => x = .returned (.bool true) ∧ MB w gx v p A5 B5 c5 d5 w' := fun W h =>
          (is_ok R2 hlp _ W h.2.2.2.big).mono fun x w' ⟨a, b⟩ => ⟨a, h.below b⟩
        have HM := Lib.hid hM
        clear hn hm R1 R2 hlv hlp hs1 hs2 hM hkg
        go_wp2_with (first
          | (go_at_call 17; (with_reducible refine (cA _ HM.out).mono ?_); rintro x w4 ⟨rfl, hS4⟩)
          | (go_at_call 19; (with_reducible refine (cM _ hS4).mono ?_); rintro x w5 ⟨rfl, hS5⟩; obtain ⟨y0, y1, y2, y3⟩ := hS5.2.2.1.cells)
          | (go_at_call 20; (with_reducible refine (cI1 _ hS5).mono ?_); rintro x w6 ⟨rfl, hS6⟩; obtain ⟨z0, z1, z2, z3⟩ := hS6.2.2.2.cells)
          | (go_at_call 20; (with_reducible refine (cI2 _ hS6).mono ?_); rintro x w7 ⟨rfl, hS7⟩))
        go_ret
        exact ⟨rfl, hS7.1⟩
      | succ g =>
        have hlt : (k : Int) < (l.length : Int) := by omega
        obtain ⟨x, hx⟩ : ∃ x, l[k]? = some x := ⟨_, List.getElem?_eq_getElem (by omega)⟩
        obtain ⟨gb, o, rfl, hgb, hcell0⟩ := HT.out k x hx
        have hcell : wr.cell? ⟨gb, o + k, none⟩ = some (.int .i64 x) := (hM.1.cell (p := ⟨gb, o + k, none⟩) hgb).trans hcell0
        have hxf : fit x := HL.out x (List.mem_of_getElem? hx)
        have HX := Lib.hid hx
        have HM := Lib.hid hM
        have S1 := Lib.hid hs1
        have S2 := Lib.hid hs2
        have cOx : ∀ (v p : Int) (A B : Option Addr) (c d : Nat) (W : World), MB w gx v p A B c d W → Calls Try.prog 16 #[.int .i64 x] W (BgP (MB w gx v p A B c d) x) := fun v p A B c d W h => bg_open (fun _ hb => h.below hb) (of_big x hxf W)
        have hvb := hs1.2.2.2
        have hpb := hs2.2.2.2
        have cAdd : ∀ (p : Int) (A B : Option Addr) (c d : Nat) (u : Value) (W : World), MB w gx v p A B c d W → BigV W u x → Calls Try.prog 21 #[bigv v A c, u] W (BgP (MB w gx v p A B c d) (v + x)) := fun p A B c d u W h hu => bg_open (fun _ hb => h.below hb) (add_big v x (digs_40 hvb) (len_two (by unfold fit at hxf; omega)) _ u W h.2.2.1.big hu)
        have cMul : ∀ (v : Int) (A B : Option Addr) (c d : Nat) (u : Value) (W : World), MB w gx v p A B c d W → BigV W u x → Calls Try.prog 23 #[bigv p B d, u] W (BgP (MB w gx v p A B c d) (p * x)) := fun v A B c d u W h hu => bg_open (fun _ hb => h.below hb) (mul_big p x (digs_40 hpb) (len_two (by unfold fit at hxf; omega)) _ u W h.2.2.2.big hu)
        have cF1 : ∀ (v p : Int) (A B : Option Addr) (c d : Nat) (W : World), v.natAbs ≤ 10000000000000000000000000000000000000000 → MB w gx v p A B c d W → Calls Try.prog 26 #[bigv v A c] W fun e w' => e = .returned (.bool (decide (F64 v))) ∧ MB w gx v p A B c d w' := fun v p A B c d W hv h => (fits_big v (digs_40 hv) _ W h.2.2.1.big).mono fun _ _ ⟨a, b⟩ => ⟨a, h.below b⟩
        have cF2 : ∀ (v p : Int) (A B : Option Addr) (c d : Nat) (W : World), p.natAbs ≤ 10000000000000000000000000000000000000000 → MB w gx v p A B c d W → Calls Try.prog 26 #[bigv p B d] W fun e w' => e = .returned (.bool (decide (F64 p))) ∧ MB w gx v p A B c d w' := fun v p A B c d W hv h => (fits_big p (digs_40 hv) _ W h.2.2.2.big).mono fun _ _ ⟨a, b⟩ => ⟨a, h.below b⟩
        have hXF := Lib.hid hxf
        obtain ⟨q0, q1, q2, q3⟩ := hM.2.2.1.cells
        obtain ⟨r0, r1, r2, r3⟩ := hM.2.2.2.cells
        clear hx hcell0 hM hs1 hs2 hvb hpb
        cases o1 <;> cases o2
        · go_wp2
          go_roundg g
          case measure => omega
          case rel => exact ⟨k + 1, v, p, false, false, A5, B5, c5, d5, by omega, by go_num, rfl, rfl, HM.out, S1.out.skip, S2.out.skip⟩
        · go_wp2
          go_region_with (first
            | (go_at_call 16; (with_reducible refine (cOx _ _ _ _ _ _ _ HM.out.drew).mono ?_); rintro e w15 ⟨A16, k16, rfl, hv16, hS16⟩; obtain ⟨u0, u1, u2, u3⟩ := hS16.2.2.2.cells)
            | (go_at_call 23; (with_reducible refine (cMul _ _ _ _ _ _ _ hS16 hv16).mono ?_); rintro e w17 ⟨A17, k17, rfl, hv17, hS17⟩; obtain ⟨y0, y1, y2, y3⟩ := hS17.2.2.2.cells))
          all_goals
            have hS18 := hS17.store2 hv17
            obtain ⟨W18, hW18⟩ : ∃ W18, W18 = ((w17.setCell ⟨gx + 1, 0, none⟩ (.bool (decide (p * x < 0)))).setCell ⟨gx + 1, 1, none⟩ (.slice A17 (digs (p * x).natAbs).length k17)) := ⟨_, rfl⟩
            rw [← hW18] at hS18 ⊢
            clear hW18 hv17 hS17 y0 y1 y2 y3 u0 u1 u2 u3 hv16 hS16
            obtain ⟨y0, y1, y2, y3⟩ := hS18.2.2.2.cells
            have hpx := mul_40 (S2.out.2.1 rfl) hXF.out
            have St2 := Lib.hid (S2.out.step HX.out hpx)
            go_wp2_with (go_at_call 26; (with_reducible refine (cF2 _ _ _ _ _ _ _ hpx hS18).mono ?_); rintro e w19 ⟨rfl, hS19⟩)
            go_roundg g
            case measure => omega
            case rel => exact ⟨k + 1, v, p * x, false, decide (F64 (p * x)), A5, A17, c5, k17, by omega, by go_num, rfl, rfl, hS19, S1.out.skip, St2.out⟩
        · go_wp2
          go_region_with (first
            | (go_at_call 16; (with_reducible refine (cOx _ _ _ _ _ _ _ HM.out.drew).mono ?_); rintro e w5 ⟨A6, k6, rfl, hv6, hS6⟩; obtain ⟨u0, u1, u2, u3⟩ := hS6.2.2.1.cells)
            | (go_at_call 21; (with_reducible refine (cAdd _ _ _ _ _ _ _ hS6 hv6).mono ?_); rintro e w7 ⟨A7, k7, rfl, hv7, hS7⟩; obtain ⟨y0, y1, y2, y3⟩ := hS7.2.2.1.cells))
          all_goals
            have hS8 := hS7.store1 hv7
            obtain ⟨W8, hW8⟩ : ∃ W8, W8 = ((w7.setCell ⟨gx, 0, none⟩ (.bool (decide (v + x < 0)))).setCell ⟨gx, 1, none⟩ (.slice A7 (digs (v + x).natAbs).length k7)) := ⟨_, rfl⟩
            rw [← hW8] at hS8 ⊢
            clear hW8 hv7 hS7 y0 y1 y2 y3 q0 q1 q2 q3 r0 r1 r2 r3 u0 u1 u2 u3 hv6 hS6
            obtain ⟨y0, y1, y2, y3⟩ := hS8.2.2.1.cells
            have hvx := sum_40 (S1.out.2.1 rfl) hXF.out
            have St1 := Lib.hid (S1.out.step HX.out hvx)
            go_wp2_with (go_at_call 26; (with_reducible refine (cF1 _ _ _ _ _ _ _ hvx hS8).mono ?_); rintro e w9 ⟨rfl, hS9⟩; obtain ⟨j0, j1, j2, j3⟩ := hS9.2.2.2.cells)
            go_roundg g
            case measure => omega
            case rel => exact ⟨k + 1, v + x, p, decide (F64 (v + x)), false, A7, B5, k7, d5, by omega, by go_num, rfl, rfl, hS9, St1.out, S2.out.skip⟩
        · go_wp2
          go_region_with (first
            | (go_at_call 16; (with_reducible refine (cOx _ _ _ _ _ _ _ HM.out.drew).mono ?_); rintro e w5 ⟨A6, k6, rfl, hv6, hS6⟩; obtain ⟨u0, u1, u2, u3⟩ := hS6.2.2.1.cells)
            | (go_at_call 21; (with_reducible refine (cAdd _ _ _ _ _ _ _ hS6 hv6).mono ?_); rintro e w7 ⟨A7, k7, rfl, hv7, hS7⟩; obtain ⟨y0, y1, y2, y3⟩ := hS7.2.2.1.cells))
          all_goals
            have hS8 := hS7.store1 hv7
            obtain ⟨W8, hW8⟩ : ∃ W8, W8 = ((w7.setCell ⟨gx, 0, none⟩ (.bool (decide (v + x < 0)))).setCell ⟨gx, 1, none⟩ (.slice A7 (digs (v + x).natAbs).length k7)) := ⟨_, rfl⟩
            rw [← hW8] at hS8 ⊢
            clear hW8 hv7 hS7 y0 y1 y2 y3 q0 q1 q2 q3 r0 r1 r2 r3 u0 u1 u2 u3 hv6 hS6
            obtain ⟨y0, y1, y2, y3⟩ := hS8.2.2.1.cells
            have hvx := sum_40 (S1.out.2.1 rfl) hXF.out
            have St1 := Lib.hid (S1.out.step HX.out hvx)
            go_wp2_with (go_at_call 26; (with_reducible refine (cF1 _ _ _ _ _ _ _ hvx hS8).mono ?_); rintro e w9 ⟨rfl, hS9⟩; obtain ⟨j0, j1, j2, j3⟩ := hS9.2.2.2.cells)
            go_region_with (first
              | (go_at_call 16; (with_reducible refine (cOx _ _ _ _ _ _ _ hS9.drew).mono ?_); rintro e w15 ⟨A16, k16, rfl, hv16, hS16⟩; obtain ⟨u0, u1, u2, u3⟩ := hS16.2.2.2.cells)
              | (go_at_call 23; (with_reducible refine (cMul _ _ _ _ _ _ _ hS16 hv16).mono ?_); rintro e w17 ⟨A17, k17, rfl, hv17, hS17⟩; obtain ⟨y0, y1, y2, y3⟩ := hS17.2.2.2.cells))
            all_goals
              have hS18 := hS17.store2 hv17
              obtain ⟨W18, hW18⟩ : ∃ W18, W18 = ((w17.setCell ⟨gx + 1, 0, none⟩ (.bool (decide (p * x < 0)))).setCell ⟨gx + 1, 1, none⟩ (.slice A17 (digs (p * x).natAbs).length k17)) := ⟨_, rfl⟩
              rw [← hW18] at hS18 ⊢
              clear hW18 hv17 hS17 y0 y1 y2 y3 u0 u1 u2 u3 hv16 hS16
              obtain ⟨y0, y1, y2, y3⟩ := hS18.2.2.2.cells
              have hpx := mul_40 (S2.out.2.1 rfl) hXF.out
              have St2 := Lib.hid (S2.out.step HX.out hpx)
              go_wp2_with (go_at_call 26; (with_reducible refine (cF2 _ _ _ _ _ _ _ hpx hS18).mono ?_); rintro e w19 ⟨rfl, hS19⟩)
              go_roundg g
              case measure => omega
              case rel => exact ⟨k + 1, v + x, p * x, decide (F64 (v + x)), decide (F64 (p * x)), A7, A17, k7, k17, by omega, by go_num, rfl, rfl, hS19, St1.out, St2.out⟩

namespace ValueManyF
theorem own : ownKnob Try.prog.godebug = none := by kernel_rfl
theorem laidOut : laidOutB Try.prog = true := by kernel_rfl
theorem cellsE : Try.prog.cellsOf 2 = 1 := by kernel_rfl

set_option maxRecDepth 100000 in
theorem lifted (os : Os) (started : os.Started) (H : Type) (enc : TypeId × Value → H) :
    ReturnsInHanded {} Try.checked os 5 .any (Rows.valueManySpec.pre6 enc Try.prog Try.f5 Rows.valueManyRow.domain false) (Rows.valueManySpec.post enc Try.prog Try.f5 false true false false) := by
  refine returnsInHanded_of_change (C := Try.checked) own started (by kernel_rfl) Try.func5
    (ChangeSpec.witness6 (enc := enc) (C := Try.checked) false ⟨#[], #[.slice none 0 0], []⟩ 8 (by kernel_rfl) (by kernel_rfl) (by kernel_rfl) (by kernel_rfl)) ?_
  intro W base args ds gs before hval0 hW hcnd _
  have hval : ∀ (j : Nat) t v, Try.f5.params[j]? = some t → args[j]? = some v → Value.okWide Try.prog W .any base t v := hval0
  have hW' := hW
  obtain ⟨p, q, hA0, hV, rfl, hfz, hnd⟩ := hW
  have hA : DataW.TrodAll enc Try.prog W 0 (fun _ => true) true Try.f5.params.toList args.toList ds p := hA0
  rw [Try.params5] at hA hval
  obtain ⟨v0, vs0, d0, ds0, p0, q0, hargs, rfl, rfl, h0, r0⟩ := trodAll_cons hA
  obtain ⟨rfl, rfl, rfl⟩ := trodAll_nil r0
  obtain rfl : args = #[v0] := by cases args; simp_all
  obtain ⟨rfl, rfl⟩ := trodVars_none hV
  obtain ⟨a0, len0, cap0, rfl⟩ := okWide_slice Try.underlying43 (hval 0 43 v0 rfl rfl)
  have hk0 := h0
  obtain ⟨fu0, hf0⟩ := h0
  clear hA0 hval0
  simp only [List.append_nil] at hW'
  have hlt : ∀ x ∈ p0, x.block < W.heap.size := fun x hx => by
    have := hW'.lt x (by first | exact hx | simp [hx])
    simpa using this
  have hargs0 : ∀ (W' : World), Below W.heap.size W W' → DataW.Trod enc Try.prog W' 0 (fun b => decide (b < W.heap.size)) true 43 (.slice a0 len0 cap0) d0 p0 :=
    fun W' hn => Below.trod laidOut (by kernel_rfl) (of_decide_eq_true (by kernel_rfl)) hk0 hn hlt
  obtain ⟨l, hll, hlc, hcm, hsh, hlf, hat⟩ : ∃ l : List Int, l.length = len0 ∧ len0 ≤ cap0 ∧ cap0 ≤ maxLen ∧ ((a0 = none → cap0 = 0) ∧ ∀ ad, a0 = some ad → cap0 ≠ 0 → ∃ g o, ad = ⟨g, o, none⟩) ∧ (∀ x ∈ l, True ∧ (Lit.int .i64 x).wf = true) ∧ ∀ (j : Nat) (x : Int), l[j]? = some x → ∃ g o, a0 = some ⟨g, o, none⟩ ∧ g < W.heap.size ∧ W.cell? ⟨g, o + j, none⟩ = some (.int .i64 x) := by
    rcases open_ints Try.underlying43 Try.underlying2 cellsE hf0 with ⟨hcs, hx⟩ | ⟨a, len', cap', zs, hcs, _, hl, hm, hz, hx, hcell, hwz⟩
    · simp [Value.cells] at hcs
      obtain ⟨rfl, rfl, rfl⟩ := hcs
      exact ⟨[], rfl, Nat.le_refl _, by decide, ⟨(fun _ => rfl), (fun ad e => by cases e)⟩, (fun x hx => by cases hx), (fun j x hx => by simp at hx)⟩
    · simp [Value.cells] at hcs
      obtain ⟨rfl, rfl, rfl⟩ := hcs
      simp only [Prod.mk.injEq] at hx
      obtain ⟨rfl, rfl⟩ := hx
      simp only [if_true] at hz
      refine ⟨zs.take len0, by simp; omega, hl, hm, ⟨(fun e => by cases e), (fun ad e hc0 => ?_)⟩, fun x hx => ⟨trivial, hwz x (List.mem_of_mem_take hx)⟩, fun j x hx => ?_⟩
      · obtain ⟨b, off, spot⟩ := a
        have hspot : spot = none := by simpa [Addr.add] using World.cell?_spot (hcell 0 (by omega))
        subst hspot
        injection e with e
        exact ⟨b, off, e.symm⟩
      have hj : j < len0 := by have := (List.getElem?_eq_some_iff.1 hx).1; simp at this; omega
      have hxz : zs.getD j 0 = x := by rw [List.getElem?_take_of_lt hj] at hx; simp [List.getD, hx]
      obtain ⟨b, off, spot⟩ := a
      have hspot : spot = none := by simpa [Addr.add] using World.cell?_spot (hcell 0 (by omega))
      subst hspot
      have hbW : b < W.heap.size := hlt (.cell b off) (MemPlace.mem_row.2 ⟨0, by omega, by simp⟩)
      refine ⟨b, off, rfl, hbW, ?_⟩
      rw [← add_plain, ← hxz]
      exact hcell j (by omega)
  subst hll
  refine (many_walk l (fun x hx => bounds_i64 (hlf x hx).2) a0 cap0 hlc hcm  W hat).mono fun e W' ⟨he, hb⟩ => ?_
  subst he
  refine ⟨_, rfl, _, _, _, [], _, [], hW', trodAll_mk1 (shut_bool Try.underlying4 _), trodAll_cons_mk (hargs0 _ hb) (trodAll_mk0), rfl, hb.frame _, fun h => by cases h⟩
end ValueManyF
theorem valueMany_holds : Rows.ValueManySaid :=
  OpenClaim.holds_of_wide 5 Try.f5 rfl rfl rfl rfl rfl rfl rfl ⟨rfl, rfl, rfl, rfl, rfl⟩ rfl rfl rfl rfl rfl (by kernel_rfl) Try.func5 (by kernel_rfl)
    (of_decide_eq_true (by kernel_rfl)) (by unfold Func.isWrapper; first | (rw [if_pos (by decide +kernel)]; kernel_rfl) | (rw [if_neg (by decide +kernel)]; exact ⟨rfl, rfl⟩))
    (fun os started H enc _ => ValueManyF.lifted os started H enc)

end Go.Proofs.Ytknjdkjakngkpaa
