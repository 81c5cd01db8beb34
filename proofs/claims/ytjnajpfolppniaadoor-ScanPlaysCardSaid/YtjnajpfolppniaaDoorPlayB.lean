/-
  THE SCANNER's 'Is', asked for a text of signs.
-/
import Derived.Test.YtjnajpfolppniaaDoorPlayA
import Derived.Test.YtjnajpfolppniaaDoorKit2
namespace Go.Proofs.YtjnajpfolppniaaDoor
open Go.RowKit
set_option linter.unusedVariables false

/-- How far 'Is' goes. -/
def isN (tl sl : List Int) (k : Nat) : Nat := if tl.isPrefixOf (sl.drop k) then tl.length else 0
def IsPost (B : Nat) (w : World) (b : Nat) (v : Value) (sl tl : List Int) (k : Nat) (e : Ending) (w' : World) : Prop :=
  e = .returned (.bool (tl.isPrefixOf (sl.drop k))) ∧ Moves B w b v sl (k + isN tl sl k) w'
/-- a is through, b is to come: the signs from k on begin with a. -/
def II (w2 : World) (s : ByteArray) (sl tl : List Int) (k : Nat) (g : Nat) (c : Value) (wr : World) : Prop :=
  ∃ a b p, tl = a ++ b ∧ b.length = g ∧ p = k + a.length ∧ c = .int .i64 (p : Nat) ∧ sl.drop k = a ++ sl.drop p ∧ p ≤ sl.length ∧ wr.heap[w2.heap.size]? = some (.stringIter s (encL a).length) ∧ Below w2.heap.size w2 wr
theorem below_grow {w w' : World} (h : Below w.heap.size w w') (row : Option Nat) : w.grownBy w' row := ⟨h.os, h.tape, h.output, h.size, fun k hk _ => h.block k hk⟩
theorem pre_app (a b r : List Int) : (a ++ b).isPrefixOf (a ++ r) = b.isPrefixOf r := by
  induction a with
  | nil => rfl
  | cons x a ih => simp [ih]
set_option maxHeartbeats 4000000 in
set_option maxRecDepth 100000 in
theorem is_any {B : Nat} {w : World} {b : Nat} {v : Value} {sl : List Int} {k : Nat} (h : Sc B w b v sl k) (hk : k ≤ sl.length) (hl : sl.length ≤ 4294967296)
    (s : ByteArray) (tl : List Int) (hp : Parts s.data.toList tl []) (hsz : s.size ≤ 4294967296) :
    Calls Tryd.prog 9 #[.pointer (some ⟨b, 0, none⟩), .string s] w (IsPost B w b v sl tl k) := by
  have hg := good_any s tl [] hp hsz
  have HS := Lib.hid h
  have HP := Lib.hid hp
  clear h hp
  go_enter Tryd.func9, Tryd.ntmps9
  go_wp2_with (go_at_call 23; (with_reducible refine (hg _).mono ?_); rintro e w2 ⟨rfl, hb2⟩; have hs2 := HS.out.below hb2; have c1 := hs2.c1)
  have HS2 := Lib.hid hs2
  clear hs2 hg
  go_loopg [5] tl.length (fun g c wr => II w2 s sl tl k g c wr)
  case atStart => exact ⟨[], tl, k, rfl, rfl, rfl, rfl, rfl, hk, World.iter_heap _ _ _, (Below.refl _ _).alloc (Nat.le_refl _) _⟩
  case round =>
    clear c1
    obtain ⟨a, bb, p, hab, hbl, hpk, rfl, hdr, hps, hit, hbw⟩ := hrel
    have hdat : s.data.toList = encL a ++ encL bb := by rw [HP.out.eq, List.append_nil, hab, encL_append]
    have HAB := Lib.hid hab
    have HBL := Lib.hid hbl
    have HDR := Lib.hid hdr
    have HPK := Lib.hid hpk
    have hsr := HS2.out.below hbw
    cases gk with
    | zero =>
      obtain rfl : bb = [] := List.length_eq_zero_iff.1 hbl
      have hnx : ∀ ty, (Instr.next (.pointer (some ⟨w2.heap.size, 0, none⟩)) true ty).run Tryd.prog wr = _ := fun ty => next_done wr w2.heap.size s a (by rw [hdat]; simp [encL]) hit ty
      have hta : tl = a := by rw [hab, List.append_nil]
      have hpre : tl.isPrefixOf (sl.drop k) = true := by rw [hdr, hta]; have := pre_app a [] (sl.drop p); rw [List.append_nil] at this; rw [this]; rfl
      have hfin : IsPost B w b v sl tl k (.returned (.bool true)) (wr.setCell ⟨b, 1, none⟩ (.int .i64 p)) := by
        refine ⟨by rw [hpre], ?_⟩
        have : k + isN tl sl k = p := by unfold isN; rw [hpre, if_pos rfl, hta, hpk]
        rw [this]
        exact ⟨hsr.place p, grown_trans (below_grow hb2 _) (grown_trans (below_grow hbw _) (grown_set wr b 1 _))⟩
      have HF := Lib.hid hfin
      have c1 := hsr.c1
      have f1 := hsr.f1
      clear hfin hab hbl hdat hit hdr hpk hsr hpre hta
      go_wp2
      (try rw [Exit.noGoto_ret])
      go_ret
      exact HF.out
    | succ g =>
      obtain ⟨n, b', rfl⟩ : ∃ n b', bb = n :: b' := by
        match bb, hbl with
        | n :: b', _ => exact ⟨n, b', rfl⟩
      have hn : sgn n = true := HP.out.all n (by rw [hab]; simp)
      have hnx : ∀ ty, (Instr.next (.pointer (some ⟨w2.heap.size, 0, none⟩)) true ty).run Tryd.prog wr = _ := fun ty => next_sign wr w2.heap.size s a n (encL b') (by rw [hdat, encL_cons]) hn hit ty
      obtain ⟨W, hW⟩ : ∃ W, W = wr.iterAt w2.heap.size s (encL (a ++ [n])).length := ⟨_, rfl⟩
      rw [← hW] at hnx
      have hitW : W.heap[w2.heap.size]? = some (.stringIter s (encL (a ++ [n])).length) := by rw [hW]; exact Lib.iterAt_heap _ _ _ _ _ hit
      have hbW : Below w2.heap.size w2 W := by rw [hW]; exact Lib.below_iterAt hbw (by omega) _ _
      have hsW := HS2.out.below hbW
      have HSW := Lib.hid hsW
      have HIT := Lib.hid hitW
      have HBW := Lib.hid hbW
      have hno : tl.isPrefixOf (sl.drop k) = false → IsPost B w b v sl tl k (.returned (.bool false)) W := by
        intro hpre
        refine ⟨by rw [hpre], ?_⟩
        have : k + isN tl sl k = k := by unfold isN; rw [hpre]; rfl
        rw [this]
        exact ⟨hsW, grown_trans (below_grow hb2 _) (below_grow hbW _)⟩
      have HNO := Lib.hid hno
      have c0 := hsW.c0
      by_cases he : p = sl.length
      · have hB : ((p : Int) == (sl.length : Int)) = true := by simp [he]
        have hpre : tl.isPrefixOf (sl.drop k) = false := by
          rw [hdr, hab, pre_app, he, List.drop_length]; rfl
        have HF := Lib.hid (HNO.out hpre)
        obtain ⟨ao, cap, rfl⟩ := hsW.shape
        clear hab hbl hdat hit hdr hpk hsr hpre hno hW hsW hitW hbW hn he
        go_wp2
        (try rw [Exit.noGoto_ret])
        go_ret
        exact HF.out
      · have hB : ((p : Int) == (sl.length : Int)) = false := by simp; omega
        have hlt : p < sl.length := by omega
        obtain ⟨m, hm⟩ : ∃ m, sl[p]? = some m := ⟨_, List.getElem?_eq_getElem hlt⟩
        obtain ⟨g', cap, rfl, hcap⟩ := hsW.shape1 (by omega)
        have cc := hsW.cell p m hm
        have HM := Lib.hid hm
        have k1 : (0 : Int) ≤ (p : Int) := by omega
        have k2 : (p : Int) < (sl.length : Int) := by omega
        by_cases hmn : m = n
        · have hB2 : (m == n) = true := by simpa using hmn
          have hfin : II w2 s sl tl k g (.int .i64 ((p : Int) + 1)) W := by
            refine ⟨a ++ [n], b', p + 1, by rw [hab]; simp, by simpa using hbl, by rw [hpk]; simp; omega, by go_num, ?_, by omega, hitW, hbW⟩
            rw [hdr, drop_cons sl p m hm, hmn]; simp
          have HF := Lib.hid hfin
          clear hab hbl hdat hit hdr hpk hsr hno hW hsW hitW hbW hn he hm hmn hfin
          go_wp2
          go_roundg g
          case measure => omega
          case rel => exact HF.out
        · have hB2 : (m == n) = false := by simpa using hmn
          have hpre : tl.isPrefixOf (sl.drop k) = false := by
            rw [hdr, hab, pre_app, drop_cons sl p m hm]
            simp [List.isPrefixOf, Ne.symm hmn]
          have HF := Lib.hid (HNO.out hpre)
          clear hab hbl hdat hit hdr hpk hsr hpre hno hW hsW hitW hbW hn he hm hmn
          go_wp2
          (try rw [Exit.noGoto_ret])
          go_ret
          exact HF.out
end Go.Proofs.YtjnajpfolppniaaDoor
