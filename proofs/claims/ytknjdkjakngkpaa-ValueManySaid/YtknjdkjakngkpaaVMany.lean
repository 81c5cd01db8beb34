/-
  'fold', Add and Mul of a list in memory.
-/
import Derived.Test.YtknjdkjakngkpaaVSum
namespace Go.Proofs.Ytknjdkjakngkpaa
open Go.RowKit
set_option linter.unusedVariables false

/-- One integer of many, one after the other. -/
def foZ (op : Int → Int → Int) : Int → List Int → Option Int
  | acc, [] => some acc
  | acc, n :: l => if fit (op acc n) then foZ op (op acc n) l else none
def outZ : Option Int → Value
  | some z => two z 0
  | none => two 0 9
/-- Integers in memory. -/
def LAt (w : World) (A : Option Addr) (l : List Int) : Prop := ∀ (j : Nat) (x : Int), l[j]? = some x → ∃ g o, A = some ⟨g, o, none⟩ ∧ g < w.heap.size ∧ w.cell? ⟨g, o + j, none⟩ = some (.int .i64 x)
theorem LAt.below {w w' : World} {A : Option Addr} {l : List Int} (h : LAt w A l) (hb : Below w.heap.size w w') : LAt w' A l := by
  intro j x hx
  obtain ⟨g, o, e, hg, hc⟩ := h j x hx
  exact ⟨g, o, e, Nat.lt_of_lt_of_le hg hb.size, (hb.cell (p := ⟨g, o + j, none⟩) hg).trans hc⟩
def FoPost (B : Nat) (w : World) (r : Option Int) (e : Ending) (w' : World) : Prop := e = .returned (outZ r) ∧ Below B w w'
theorem fo_none {B : Nat} {f : FuncId} {args : Array Value} {w : World} (h : Calls Try.prog f args w (FoPost B w none)) : Calls Try.prog f args w fun e w' => e = .returned (two 0 9) ∧ Below B w w' := h
theorem fo_some {B : Nat} {f : FuncId} {args : Array Value} {w : World} {z : Int} (h : Calls Try.prog f args w (FoPost B w (some z))) : Calls Try.prog f args w fun e w' => e = .returned (two z 0) ∧ Below B w w' := h
def FoI (w : World) (op : Int → Int → Int) (l : List Int) (r : Option Int) (g : Nat) (s8 s9 s15 : Value) (wr : World) : Prop :=
  ∃ (k : Nat) (acc : Int), k + g = l.length ∧ s15 = .int .i64 k ∧ s8 = .int .i64 acc ∧ fit acc ∧ (∃ b, s9 = .bool b) ∧ r = foZ op acc (l.drop k) ∧ Below w.heap.size w wr
def AllFit (l : List Int) : Prop := ∀ x ∈ l, fit x
theorem below_drewN' {B : Nat} {a w : World} (h : Below B a w) (n : Nat) : Below B a (w.drewN n) := ⟨h.os, h.tape, h.output, h.size, h.block⟩
theorem LAt.cellAt {w : World} {g o : Nat} {l : List Int} (h : LAt w (some ⟨g, o, none⟩) l) {j : Nat} {x : Int} (hx : l[j]? = some x) : g < w.heap.size ∧ w.cell? ⟨g, o + j, none⟩ = some (.int .i64 x) := by
  obtain ⟨g', o', e, hg, hc⟩ := h j x hx
  injection e with e
  injection e with e1 e2
  subst e1; subst e2
  exact ⟨hg, hc⟩

set_option maxHeartbeats 1000000 in
theorem fold_add (l : List Int) (hf : AllFit l) (hl : l.length ≤ 1000000) (z : Int) (hz : fit z) (A : Option Addr) (cap : Nat) (w : World) (h : LAt w A l) :
    Calls Try.prog 31 #[.slice A l.length cap, .int .i64 z, .func (.func 32) #[] #[]] w (FoPost w.heap.size w (foZ (· + ·) z l)) := by
  have H := Lib.hid h
  have HF := Lib.hid hf
  obtain ⟨r, hr⟩ : ∃ r, r = foZ (· + ·) z l := ⟨_, rfl⟩
  rw [← hr]
  have HR := Lib.hid hr
  have HZ := Lib.hid hz
  clear h hr hf hz
  go_enter Try.func31, Try.ntmps31
  go_wp2
  go_loopg [8, 9, 15] l.length (fun g s8 s9 s15 wr => FoI w (· + ·) l r g s8 s9 s15 wr)
  case atStart => exact ⟨0, _, by omega, rfl, rfl, HZ.out, ⟨_, rfl⟩, HR.out, Below.refl _ _⟩
  case round =>
    obtain ⟨k, acc, hkg, rfl, rfl, hacc, ⟨b, rfl⟩, hrr, hbw⟩ := hrel
    have HRR := Lib.hid hrr
    have HA := Lib.hid hacc
    clear hrr hacc HZ
    cases gk with
    | zero =>
      have hge : ¬ ((k : Int) < (l.length : Int)) := by omega
      have hres : r = some acc := by rw [HRR.out, List.drop_eq_nil_of_le (by omega)]; rfl
      have HS := Lib.hid hres
      clear hres
      go_wp2
      go_ret2
      exact ⟨by rw [HS.out]; rfl, hbw⟩
    | succ g =>
      have hlt : (k : Int) < (l.length : Int) := by omega
      obtain ⟨x, hx⟩ : ∃ x, l[k]? = some x := ⟨_, List.getElem?_eq_getElem (by omega)⟩
      obtain ⟨gb, o, rfl, hgb, hcell0⟩ := H.out k x hx
      have hcell : wr.cell? ⟨gb, o + k, none⟩ = some (.int .i64 x) := (hbw.cell (p := ⟨gb, o + k, none⟩) hgb).trans hcell0
      have hd : foZ (· + ·) acc (l.drop k) = if fit (acc + x) then foZ (· + ·) (acc + x) (l.drop (k + 1)) else none := by rw [drop_get hx]; rfl
      have HD := Lib.hid hd
      have hxf : fit x := HF.out x (List.mem_of_getElem? hx)
      have hS : ∀ W, Calls Try.prog 32 #[.int .i64 acc, .int .i64 x] W fun e w' => e = .returned (twoB (wr64 (acc + x)) (decide (fit (acc + x)))) ∧ ∃ n, w' = W.drewN n := fun W => addA_any acc x HA.out hxf W
      clear hd hx hxf hcell0
      obtain ⟨c, hc⟩ : ∃ c, c = wr64 (acc + x) := ⟨_, rfl⟩
      rw [← hc] at hS
      by_cases hfit : fit (acc + x)
      · rw [decide_eq_true hfit] at hS
        have hres : r = foZ (· + ·) (acc + x) (l.drop (k + 1)) := by rw [HRR.out, HD.out, if_pos hfit]
        rw [← wr64_fit hfit, ← hc] at hres
        have hcf : fit c := by rw [hc, wr64_fit hfit]; exact hfit
        have HS := Lib.hid hres
        have HC := Lib.hid hcf
        clear hres hfit hc hcf
        go_wp2_with (go_at_call 32; (with_reducible refine (hS _).mono ?_); rintro e w' ⟨rfl, nn, rfl⟩)
        go_roundg g
        case measure => omega
        case rel => exact ⟨k + 1, _, by omega, by go_num, rfl, HC.out, ⟨_, rfl⟩, HS.out, below_drewN' hbw _⟩
      · rw [decide_eq_false hfit] at hS
        have hres : r = none := by rw [HRR.out, HD.out, if_neg hfit]
        have HS := Lib.hid hres
        clear hres hfit hc
        go_wp2_with (go_at_call 32; (with_reducible refine (hS _).mono ?_); rintro e w' ⟨rfl, nn, rfl⟩)
        go_ret2
        exact ⟨by rw [HS.out]; rfl, below_drewN' hbw _⟩
theorem add_many (l : List Int) (hf : AllFit l) (hl : l.length ≤ 1000000) (A : Option Addr) (cap : Nat) (w : World) (h : LAt w A l) :
    Calls Try.prog 17 #[.slice A l.length cap] w (FoPost w.heap.size w (foZ (· + ·) 0 l)) := by
  have hF := fold_add l hf hl 0 (by decide) A cap w h
  obtain ⟨r, hr⟩ : ∃ r, r = foZ (· + ·) 0 l := ⟨_, rfl⟩
  rw [← hr] at hF ⊢
  clear h hf hr
  go_enter Try.func17, Try.ntmps17
  cases r with
  | none =>
    go_wp2_with (go_at_call 31; (with_reducible refine (fo_none hF).mono ?_); rintro e w' ⟨rfl, hb⟩)
    go_ret2
    exact ⟨rfl, hb⟩
  | some z =>
    go_wp2_with (go_at_call 31; (with_reducible refine (fo_some hF).mono ?_); rintro e w' ⟨rfl, hb⟩)
    go_ret2
    exact ⟨rfl, hb⟩

set_option maxHeartbeats 1000000 in
theorem fold_mul (l : List Int) (hf : AllFit l) (hl : l.length ≤ 1000000) (z : Int) (hz : fit z) (A : Option Addr) (cap : Nat) (w : World) (h : LAt w A l) :
    Calls Try.prog 31 #[.slice A l.length cap, .int .i64 z, .func (.func 33) #[] #[]] w (FoPost w.heap.size w (foZ (· * ·) z l)) := by
  have H := Lib.hid h
  have HF := Lib.hid hf
  obtain ⟨r, hr⟩ : ∃ r, r = foZ (· * ·) z l := ⟨_, rfl⟩
  rw [← hr]
  have HR := Lib.hid hr
  have HZ := Lib.hid hz
  clear h hr hf hz
  go_enter Try.func31, Try.ntmps31
  go_wp2
  go_loopg [8, 9, 15] l.length (fun g s8 s9 s15 wr => FoI w (· * ·) l r g s8 s9 s15 wr)
  case atStart => exact ⟨0, _, by omega, rfl, rfl, HZ.out, ⟨_, rfl⟩, HR.out, Below.refl _ _⟩
  case round =>
    obtain ⟨k, acc, hkg, rfl, rfl, hacc, ⟨b, rfl⟩, hrr, hbw⟩ := hrel
    have HRR := Lib.hid hrr
    have HA := Lib.hid hacc
    clear hrr hacc HZ
    cases gk with
    | zero =>
      have hge : ¬ ((k : Int) < (l.length : Int)) := by omega
      have hres : r = some acc := by rw [HRR.out, List.drop_eq_nil_of_le (by omega)]; rfl
      have HS := Lib.hid hres
      clear hres
      go_wp2
      go_ret2
      exact ⟨by rw [HS.out]; rfl, hbw⟩
    | succ g =>
      have hlt : (k : Int) < (l.length : Int) := by omega
      obtain ⟨x, hx⟩ : ∃ x, l[k]? = some x := ⟨_, List.getElem?_eq_getElem (by omega)⟩
      obtain ⟨gb, o, rfl, hgb, hcell0⟩ := H.out k x hx
      have hcell : wr.cell? ⟨gb, o + k, none⟩ = some (.int .i64 x) := (hbw.cell (p := ⟨gb, o + k, none⟩) hgb).trans hcell0
      have hd : foZ (· * ·) acc (l.drop k) = if fit (acc * x) then foZ (· * ·) (acc * x) (l.drop (k + 1)) else none := by rw [drop_get hx]; rfl
      have HD := Lib.hid hd
      have hxf : fit x := HF.out x (List.mem_of_getElem? hx)
      have hS : ∀ W, Calls Try.prog 33 #[.int .i64 acc, .int .i64 x] W fun e w' => e = .returned (twoB (wr64 (acc * x)) (decide (fit (acc * x)))) ∧ ∃ n, w' = W.drewN n := fun W => mulA_any acc x HA.out hxf W
      clear hd hx hxf hcell0
      obtain ⟨c, hc⟩ : ∃ c, c = wr64 (acc * x) := ⟨_, rfl⟩
      rw [← hc] at hS
      by_cases hfit : fit (acc * x)
      · rw [decide_eq_true hfit] at hS
        have hres : r = foZ (· * ·) (acc * x) (l.drop (k + 1)) := by rw [HRR.out, HD.out, if_pos hfit]
        rw [← wr64_fit hfit, ← hc] at hres
        have hcf : fit c := by rw [hc, wr64_fit hfit]; exact hfit
        have HS := Lib.hid hres
        have HC := Lib.hid hcf
        clear hres hfit hc hcf
        go_wp2_with (go_at_call 33; (with_reducible refine (hS _).mono ?_); rintro e w' ⟨rfl, nn, rfl⟩)
        go_roundg g
        case measure => omega
        case rel => exact ⟨k + 1, _, by omega, by go_num, rfl, HC.out, ⟨_, rfl⟩, HS.out, below_drewN' hbw _⟩
      · rw [decide_eq_false hfit] at hS
        have hres : r = none := by rw [HRR.out, HD.out, if_neg hfit]
        have HS := Lib.hid hres
        clear hres hfit hc
        go_wp2_with (go_at_call 33; (with_reducible refine (hS _).mono ?_); rintro e w' ⟨rfl, nn, rfl⟩)
        go_ret2
        exact ⟨by rw [HS.out]; rfl, below_drewN' hbw _⟩
theorem mul_many (l : List Int) (hf : AllFit l) (hl : l.length ≤ 1000000) (A : Option Addr) (cap : Nat) (w : World) (h : LAt w A l) :
    Calls Try.prog 19 #[.slice A l.length cap] w (FoPost w.heap.size w (foZ (· * ·) 1 l)) := by
  have hF := fold_mul l hf hl 1 (by decide) A cap w h
  obtain ⟨r, hr⟩ : ∃ r, r = foZ (· * ·) 1 l := ⟨_, rfl⟩
  rw [← hr] at hF ⊢
  clear h hf hr
  go_enter Try.func19, Try.ntmps19
  cases r with
  | none =>
    go_wp2_with (go_at_call 31; (with_reducible refine (fo_none hF).mono ?_); rintro e w' ⟨rfl, hb⟩)
    go_ret2
    exact ⟨rfl, hb⟩
  | some z =>
    go_wp2_with (go_at_call 31; (with_reducible refine (fo_some hF).mono ?_); rintro e w' ⟨rfl, hb⟩)
    go_ret2
    exact ⟨rfl, hb⟩
end Go.Proofs.Ytknjdkjakngkpaa
