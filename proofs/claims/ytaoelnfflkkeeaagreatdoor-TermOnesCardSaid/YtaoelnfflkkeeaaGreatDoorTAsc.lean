/-
  PLAIN: a test that only ASCII signs pass, sign by sign, is the same test byte by byte; a text parted at '-' and looked at part by part is a machine that goes from byte to byte.
-/
import Derived.Test.YtaoelnfflkkeeaaGreatDoorUtf
import Derived.Lib.SplitLaws
namespace Go.Proofs.YtaoelnfflkkeeaaGreatDoor
set_option linter.unusedVariables false

def allI (f : Nat → Int → Bool) : Nat → List Int → Bool
  | _, [] => true
  | i, n :: l => f i n && allI f (i + 1) l
def allU (g : Nat → UInt8 → Bool) : Nat → List UInt8 → Bool
  | _, [] => true
  | i, c :: l => g i c && allU g (i + 1) l
theorem encA (n : Int) (h0 : 0 ≤ n) (h1 : n ≤ 127) : Lib.encodeRune n = [n.toNat.toUInt8] := by
  unfold Lib.encodeRune
  rw [Lib.encodeRuneZ_one h0 h1]
  rfl
theorem enc_far (n : Int) (hs : sgn n = true) (h : 128 ≤ n) : ∃ c r, Lib.encodeRune n = c :: r ∧ 128 ≤ c.toNat := by
  obtain ⟨h0, h1, h2⟩ := (sgn_iff n).1 hs
  unfold Lib.encodeRune
  by_cases b : n ≤ 2047
  · rw [Lib.encodeRuneZ_two h b]
    exact ⟨_, _, rfl, by rw [u8n _ (by omega) (by omega)]; omega⟩
  by_cases c : n ≤ 65535
  · rw [Lib.encodeRuneZ_three (by omega)]
    exact ⟨_, _, rfl, by rw [u8n _ (by omega) (by omega)]; omega⟩
  · rw [Lib.encodeRuneZ_four (by omega) h1]
    exact ⟨_, _, rfl, by rw [u8n _ (by omega) (by omega)]; omega⟩
theorem bad_head (r : List UInt8) (h : Bad r) : ∃ c t, r = c :: t ∧ 128 ≤ c.toNat := by
  obtain ⟨h1, h2, h3⟩ := h
  cases r with
  | nil => exact absurd rfl h1
  | cons c t =>
    refine ⟨c, t, rfl, ?_⟩
    rw [Lib.decodeL_N] at h2
    by_cases hc : c.toNat < 128
    · exfalso
      simp only [List.getD_cons_zero] at h2
      rw [Lib.decodeN_ascii _ _ _ _ _ hc] at h2
      dsimp only at h2
      omega
    · omega
theorem all_same (f : Nat → Int → Bool) (g : Nat → UInt8 → Bool) (hf : ∀ i n, 128 ≤ n → f i n = false) (hg : ∀ i (c : UInt8), 128 ≤ c.toNat → g i c = false) (hfg : ∀ i (c : UInt8), c.toNat ≤ 127 → f i (c.toNat : Int) = g i c) (rest : List UInt8) (hr : rest = [] ∨ Bad rest) :
    ∀ (sl : List Int), AllS sl → ∀ i, (decide (rest = []) && allI f i sl) = allU g i (encL sl ++ rest)
  | [], _, i => by
    rcases hr with rfl | hb
    · rfl
    · obtain ⟨c, t, rfl, hc⟩ := bad_head rest hb
      have : (encL [] ++ c :: t) = c :: t := rfl
      rw [this]
      simp only [allU, hg i c hc, Bool.false_and, allI, Bool.and_true]
      exact decide_eq_false (fun e => by cases e)
  | n :: l, ha, i => by
    have ih := all_same f g hf hg hfg rest hr l ha.tail (i + 1)
    obtain ⟨h0, h1, h2⟩ := (sgn_iff n).1 ha.head
    by_cases hn : n ≤ 127
    · rw [encL_cons, encA n h0 hn, List.append_assoc]
      have hc : (n.toNat.toUInt8).toNat = n.toNat := u8n n h0 (by omega)
      have e := hfg i n.toNat.toUInt8 (by rw [hc]; omega)
      rw [hc, show ((n.toNat : Nat) : Int) = n by omega] at e
      show (_ && (f i n && allI f (i + 1) l)) = (g i n.toNat.toUInt8 && allU g (i + 1) (encL l ++ rest))
      rw [← ih, ← e]
      cases f i n <;> simp
    · obtain ⟨c, r, he, hc⟩ := enc_far n ha.head (by omega)
      rw [encL_cons, he, List.append_assoc]
      show (_ && (f i n && allI f (i + 1) l)) = (g i c && _)
      rw [hf i n (by omega), hg i c hc]
      simp
/-! ### A language -/
def letU (c : UInt8) : Bool := decide ((97 ≤ c.toNat ∧ c.toNat ≤ 122) ∨ (65 ≤ c.toNat ∧ c.toNat ≤ 90))
def digU (c : UInt8) : Bool := decide (48 ≤ c.toNat ∧ c.toNat ≤ 57)
/-- May a byte stand in part number p of a language? -/
def okc (p : Nat) (c : UInt8) : Bool := letU c || (!(p == 0) && digU c)
/-- Part p, g bytes of it are through. -/
def mach : Nat → Nat → List UInt8 → Bool
  | _, g, [] => decide (0 < g)
  | p, g, c :: l => if c = 45 then (if g = 0 then false else mach (p + 1) 0 l) else if okc p c = true then (if 8 < g + 1 then false else mach p (g + 1) l) else false
def partOk (p : Nat) (a : List UInt8) : Bool := !(a.length == 0) && (decide (a.length ≤ 8) && a.all (okc p))
def partsOk : Nat → List (List UInt8) → Bool
  | _, [] => true
  | p, a :: l => partOk p a && partsOk (p + 1) l
theorem fin_k (p : Nat) (a : List UInt8) (m : Bool) : (if a.length ≤ 8 ∧ a.all (okc p) = true then (if a.length = 0 then false else m) else false) = (partOk p a && m) := by
  unfold partOk
  generalize a.length = n
  generalize a.all (okc p) = b
  cases b
  · rw [if_neg (fun e => by cases e.2)]; simp
  · by_cases h : n ≤ 8
    · rw [if_pos ⟨h, rfl⟩, decide_eq_true h]
      by_cases h0 : n = 0
      · rw [if_pos h0, h0]; rfl
      · rw [if_neg h0, beq_eq_false_iff_ne.2 h0]; rfl
    · rw [if_neg (fun e => h e.1), decide_eq_false h]; simp
theorem mach_part (p : Nat) (r : List UInt8) : ∀ (a : List UInt8) (g : Nat), (∀ c ∈ a, c ≠ 45) → g ≤ 8 →
    mach p g (a ++ r) = if g + a.length ≤ 8 ∧ a.all (okc p) = true then mach p (g + a.length) r else false
  | [], g, _, hg => by simp [hg]
  | c :: a, g, h, hg => by
    have hc : c ≠ 45 := h c (by simp)
    show (if c = 45 then _ else if okc p c = true then (if 8 < g + 1 then false else mach p (g + 1) (a ++ r)) else false) = _
    rw [if_neg hc]
    by_cases hk : okc p c = true
    · rw [if_pos hk]
      by_cases h8 : 8 < g + 1
      · rw [if_pos h8, if_neg (by simp; omega)]
      · rw [if_neg h8, mach_part p r a (g + 1) (fun x hx => h x (List.mem_cons_of_mem _ hx)) (by omega)]
        have e1 : g + 1 + a.length = g + (c :: a).length := by simp; omega
        rw [e1]
        simp [hk]
    · rw [if_neg hk, if_neg (by simp [hk])]
theorem mach_parts : ∀ (k : Nat) (l : List UInt8) (p : Nat), Lib.count l [45] = k → mach p 0 l = partsOk p (Lib.splitK [45] 0 k l)
  | 0, l, p, h => by
    have hn : ∀ c ∈ l, c ≠ 45 := by
      rw [Lib.count_one] at h
      intro c hc e
      subst e
      have := List.count_pos_iff.2 hc
      omega
    have hm := mach_part p [] l 0 hn (by omega)
    rw [List.append_nil, Nat.zero_add] at hm
    rw [hm]
    show _ = (partOk p l && true)
    rw [Bool.and_true]
    rw [← Bool.and_true (partOk p l), ← fin_k p l true]
    have hz : mach p l.length [] = (if l.length = 0 then false else true) := by
      show decide (0 < l.length) = _
      by_cases h0 : l.length = 0
      · rw [if_pos h0, decide_eq_false (by omega)]
      · rw [if_neg h0, decide_eq_true (by omega)]
    rw [hz]
  | k + 1, l, p, h => by
    have hne : Lib.index l [45] ≠ -1 := fun e => by rw [Lib.count_miss e] at h; omega
    obtain ⟨i, hi⟩ : ∃ i : Nat, Lib.index l [45] = i := ⟨(Lib.index l [45]).toNat, by have := Lib.index_ge l [45]; omega⟩
    have hc := Lib.count_hit (by simp) hi
    have hb := hi
    rw [Lib.index_one] at hb
    obtain ⟨h1, h2⟩ := Lib.indexByte_some hb
    have hil : i < l.length := (List.getElem?_eq_some_iff.1 h1).1
    have hcut : l = l.take i ++ 45 :: l.drop (i + 1) := by
      conv => lhs; rw [← List.take_append_drop i l]
      rw [List.drop_eq_getElem_cons hil, (List.getElem?_eq_some_iff.1 h1).2]
    have hna : ∀ c ∈ l.take i, c ≠ 45 := by
      intro c hc e
      obtain ⟨j, hj, hjc⟩ := List.getElem_of_mem hc
      rw [List.length_take] at hj
      refine h2 j (by omega) ?_
      rw [List.getElem_take] at hjc
      rw [List.getElem?_eq_getElem (by omega), hjc, e]
    have ih := mach_parts k (l.drop (i + 1)) (p + 1) (by simp at hc; omega)
    have hne2 : ¬ (Lib.index l [45] == -1) = true := fun e => hne (beq_iff_eq.1 e)
    have hs : Lib.splitK [45] 0 (k + 1) l = l.take i :: Lib.splitK [45] 0 k (l.drop (i + 1)) := by
      show (if (Lib.index l [45] == -1) = true then _ else _) = _
      rw [if_neg hne2, hi]
      simp
    rw [hs]
    show mach p 0 l = (partOk p (l.take i) && partsOk (p + 1) _)
    rw [← ih]
    conv => lhs; rw [hcut]
    rw [mach_part p _ (l.take i) 0 hna (by omega), Nat.zero_add]
    have hml : mach p (l.take i).length (45 :: l.drop (i + 1)) = if (l.take i).length = 0 then false else mach (p + 1) 0 (l.drop (i + 1)) := by
      show (if (45 : UInt8) = 45 then _ else _) = _
      rw [if_pos rfl]
    rw [hml, fin_k]
end Go.Proofs.YtaoelnfflkkeeaaGreatDoor
