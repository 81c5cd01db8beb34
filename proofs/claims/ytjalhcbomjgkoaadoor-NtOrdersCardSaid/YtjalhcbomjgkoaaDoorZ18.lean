/-
  MERGED (a claim has at most 60 files): VParse, VNumb.
-/
import Derived.Test.YtjalhcbomjgkoaaDoorZ17
import Derived.Lib.ParseIntB
import Derived.Lib.ItoaNum
import Derived.Lib.OthersKept
import Derived.Lib.DecodeN
import Derived.Lib.Strings
/-
  TEXTS OF INTEGERS, plain: what strconv reads and writes, and what the document does.
-/
namespace Go.Proofs.YtjalhcbomjgkoaaDoor

/-- A decimal digit's byte. -/
def isD (c : UInt8) : Bool := decide (48 ≤ c.toNat ∧ c.toNat ≤ 57)
/-- The number of decimal digits behind acc. -/
def dval (acc : Nat) (l : List UInt8) : Nat := l.foldl (fun a c => a * 10 + (c.toNat - 48)) acc
theorem dval_nil (acc : Nat) : dval acc [] = acc := by unfold dval; rw [List.foldl_nil]
theorem dval_cons (acc : Nat) (c : UInt8) (l : List UInt8) : dval acc (c :: l) = dval (acc * 10 + (c.toNat - 48)) l := by unfold dval; rw [List.foldl_cons]
theorem dval_snoc (acc : Nat) (c : UInt8) (l : List UInt8) : dval acc (l ++ [c]) = dval acc l * 10 + (c.toNat - 48) := by unfold dval; simp
theorem dval_ge : ∀ (l : List UInt8) (acc : Nat), acc ≤ dval acc l
  | [], acc => by rw [dval_nil]; exact Nat.le_refl _
  | c :: l, acc => by rw [dval_cons]; have := dval_ge l (acc * 10 + (c.toNat - 48)); omega
theorem uintM_eq : ∀ (l : List UInt8) (acc : Nat), l.all isD = true → acc ≤ 18446744073709551615 →
    Lib.parseUintM 18446744073709551615 acc l = if dval acc l ≤ 18446744073709551615 then .ok (dval acc l) else .range
  | [], acc, _, ha => by unfold Lib.parseUintM; rw [dval_nil, if_pos ha]
  | c :: l, acc, hl, ha => by
    simp only [List.all_cons, Bool.and_eq_true] at hl
    have hc : 48 ≤ c.toNat ∧ c.toNat ≤ 57 := of_decide_eq_true hl.1
    have hg := dval_ge l (acc * 10 + (c.toNat - 48))
    unfold Lib.parseUintM
    rw [if_pos hc, dval_cons]
    by_cases h1 : 1844674407370955162 ≤ acc
    · rw [if_pos h1, if_neg (by omega)]
    · by_cases h2 : 18446744073709551615 < acc * 10 + (c.toNat - 48)
      · rw [if_neg h1, if_pos h2, if_neg (by omega)]
      · rw [if_neg h1, if_neg h2, uintM_eq l _ hl.2 (by omega)]
/-- What stands behind a sign. -/
def body : List UInt8 → List UInt8
  | [] => []
  | c :: r => if c.toNat = 43 ∨ c.toNat = 45 then r else c :: r
/-- Is it a text of an integer? -/
def isNum (l : List UInt8) : Bool := !(body l).isEmpty && (body l).all isD
/-- Is it below 0? -/
def neg (l : List UInt8) : Bool := decide (l.head?.map (·.toNat) = some 45)
/-- Its number. -/
def numZ (l : List UInt8) : Int := if neg l then -(dval 0 (body l) : Int) else dval 0 (body l)
theorem parse_ok (l : List UInt8) (h : isNum l = true) (h0 : -9223372036854775808 ≤ numZ l) (h1 : numZ l ≤ 9223372036854775807) : Lib.parseIntB 64 l = .ok (numZ l) := by
  unfold isNum at h
  rw [Bool.and_eq_true] at h
  match l with
  | [] => simp [body] at h
  | c :: r =>
    have hne : body (c :: r) ≠ [] := by intro e; rw [e] at h; simp at h
    have hu : Lib.parseUintB 64 (body (c :: r)) = if dval 0 (body (c :: r)) ≤ 18446744073709551615 then .ok (dval 0 (body (c :: r))) else .range := by
      unfold Lib.parseUintB
      rw [if_neg hne]
      exact uintM_eq _ 0 h.2 (by omega)
    have hb : (if c.toNat = 43 ∨ c.toNat = 45 then r else c :: r) = body (c :: r) := rfl
    unfold Lib.parseIntB
    simp only [hb]
    rw [hu]
    unfold numZ neg at *
    simp only [List.head?_cons, Option.map_some, Option.some.injEq] at *
    by_cases hc : c.toNat = 45
    · simp only [hc, decide_true, if_true] at *
      rw [if_pos (by omega)]
      simp only [not_true, false_and, if_false, true_and]
      rw [if_neg (by omega)]
    · simp only [hc, decide_false, if_false, Bool.false_eq_true] at *
      rw [if_pos (by omega)]
      simp only [not_false_eq_true, true_and, false_and, if_false]
      rw [if_neg (by omega)]
theorem parse_range (l : List UInt8) (h : isNum l = true) (h0 : ¬ (-9223372036854775808 ≤ numZ l ∧ numZ l ≤ 9223372036854775807)) : Lib.parseIntB 64 l = .range := by
  unfold isNum at h
  rw [Bool.and_eq_true] at h
  match l with
  | [] => simp [body] at h
  | c :: r =>
    have hne : body (c :: r) ≠ [] := by intro e; rw [e] at h; simp at h
    have hu : Lib.parseUintB 64 (body (c :: r)) = if dval 0 (body (c :: r)) ≤ 18446744073709551615 then .ok (dval 0 (body (c :: r))) else .range := by
      unfold Lib.parseUintB
      rw [if_neg hne]
      exact uintM_eq _ 0 h.2 (by omega)
    have hb : (if c.toNat = 43 ∨ c.toNat = 45 then r else c :: r) = body (c :: r) := rfl
    unfold Lib.parseIntB
    simp only [hb]
    rw [hu]
    unfold numZ neg at *
    simp only [List.head?_cons, Option.map_some, Option.some.injEq] at *
    by_cases hm : dval 0 (body (c :: r)) ≤ 18446744073709551615
    · rw [if_pos hm]
      by_cases hc : c.toNat = 45
      · simp only [hc, decide_true, if_true] at *
        simp only [not_true, false_and, if_false, true_and]
        rw [if_pos (by omega)]
      · simp only [hc, decide_false, if_false, Bool.false_eq_true] at *
        simp only [not_false_eq_true, true_and]
        rw [if_pos (by omega)]
    · rw [if_neg hm]

/-- The decimal digits' bytes of digits, the lowest first. -/
def chars (l : List Int) : List UInt8 := l.reverse.map fun d => UInt8.ofNat (48 + d.toNat)
theorem chars_digs : ∀ n : Nat, 0 < n → Lib.decDigits n = chars (digs n) := by
  intro n
  induction n using Nat.strongRecOn with
  | _ n ih =>
    intro hn
    rw [Lib.decDigits, digs_pos hn]
    by_cases h : n < 10
    · rw [dif_pos h, show n / 10 = 0 by omega, digs_zero]
      simp only [chars, List.reverse_cons, List.reverse_nil, List.nil_append, List.map_cons, List.map_nil, Int.toNat_natCast]
      rw [show n % 10 = n by omega]
    · rw [dif_neg h, ih _ (by omega) (by omega)]
      simp only [chars, List.reverse_cons, List.map_append, List.map_cons, List.map_nil, Int.toNat_natCast]
/-- The text of an integer. -/
def textZ (z : Int) : List UInt8 := if z = 0 then [48] else (if z < 0 then [45] else []) ++ chars (digs z.natAbs)
theorem itoa_text (z : Int) : Lib.itoa z = textZ z := by
  unfold Lib.itoa textZ
  by_cases h0 : z = 0
  · subst h0; rw [if_neg (by decide), if_pos rfl]; show Lib.decDigits 0 = _; rw [Lib.decDigits_one (by decide)]; rfl
  · rw [if_neg h0]
    by_cases h : z < 0
    · rw [if_pos h, if_pos h, chars_digs _ (by omega)]; rfl
    · rw [if_neg h, if_neg h, show z.toNat = z.natAbs by omega, chars_digs _ (by omega)]; rfl
/-- The digits of bytes, the lowest first. -/
def digsOf (l : List UInt8) : List Int := l.reverse.map fun c => ((c.toNat - 48 : Nat) : Int)
theorem digsOf_dig {l : List UInt8} (h : l.all isD = true) : Dig (digsOf l) := by
  intro d hd
  simp only [digsOf, List.mem_map, List.mem_reverse] at hd
  obtain ⟨c, hc, rfl⟩ := hd
  have : 48 ≤ c.toNat ∧ c.toNat ≤ 57 := of_decide_eq_true (List.all_eq_true.1 h c hc)
  omega
theorem digsOf_snoc (l : List UInt8) (c : UInt8) : digsOf (l ++ [c]) = ((c.toNat - 48 : Nat) : Int) :: digsOf l := by simp [digsOf]
theorem digsOf_val (l : List UInt8) : val (digsOf l) = dval 0 l := by
  obtain ⟨n, hn⟩ : ∃ n, n = l.length := ⟨_, rfl⟩
  induction n generalizing l with
  | zero =>
    obtain rfl : l = [] := List.length_eq_zero_iff.1 hn.symm
    rw [dval_nil]; rfl
  | succ n ih =>
    obtain ⟨a, c, rfl⟩ : ∃ a c, l = a ++ [c] := ⟨l.dropLast, l.getLast (by intro e; rw [e] at hn; simp at hn), (List.dropLast_concat_getLast _).symm⟩
    rw [digsOf_snoc, dval_snoc, val, ih a (by simp at hn; omega)]; omega
theorem chars_all {l : List Int} (h : Dig l) : (chars l).all isD = true := by
  rw [List.all_eq_true]
  intro c hc
  simp only [chars, List.mem_map, List.mem_reverse] at hc
  obtain ⟨d, hd, rfl⟩ := hc
  have := h d hd
  unfold isD
  rw [decide_eq_true_eq]
  have : (UInt8.ofNat (48 + d.toNat)).toNat = 48 + d.toNat := by simp; omega
  omega
theorem chars_back {l : List Int} (h : Dig l) : digsOf (chars l) = l := by
  unfold digsOf chars
  simp only [List.map_reverse, List.reverse_reverse, List.map_map]
  conv => rhs; rw [← List.map_id l]
  apply List.map_congr_left
  intro d hd
  have := h d hd
  have e : (UInt8.ofNat (48 + d.toNat)).toNat = 48 + d.toNat := by simp; omega
  simp only [Function.comp, e, id]
  omega
theorem chars_dval {l : List Int} (h : Dig l) : (dval 0 (chars l) : Int) = val l := by rw [← digsOf_val, chars_back h]
/-- Noughts ahead change nothing. -/
theorem dval_zeros (k : Nat) (l : List UInt8) : dval 0 (List.replicate k 48 ++ l) = dval 0 l := by
  induction k with
  | zero => rfl
  | succ k ih => rw [List.replicate_succ, List.cons_append, dval_cons]; exact ih
end Go.Proofs.YtjalhcbomjgkoaaDoor

/-
  'isNumber': whether a text is one of an integer; and the laws' words of bytes.
-/
namespace Go.Proofs.YtjalhcbomjgkoaaDoor
open Go.RowKit
set_option linter.unusedVariables false

theorem decN_high (n b0 b1 b2 b3 : Nat) (h : 128 ≤ b0) : 128 ≤ (Lib.decodeN n b0 b1 b2 b3).1 := by
  unfold Lib.decodeN
  repeat' split
  all_goals first | omega | (simp only; omega)
theorem dec_high (s : ByteArray) (i : Nat) (h : 128 ≤ (s.get! i).toNat) : 128 ≤ (Utf8.decode s i).1 := by
  rw [Lib.decode_at]
  exact decN_high _ _ _ _ _ h
def NbI (w : World) (t : ByteArray) (g : Nat) (wr : World) : Prop :=
  ∃ k, k + g = t.size ∧ (t.data.toList.take k).all isD = true ∧ wr.heap[w.heap.size]? = some (.stringIter t k) ∧ Below w.heap.size w wr
theorem body_cons (c : UInt8) (r : List UInt8) : body (c :: r) = if c.toNat = 43 ∨ c.toNat = 45 then r else c :: r := rfl
theorem ret_b' {a b : Bool} (h : a = b) : Ending.returned (.bool a) = .returned (.bool b) := by rw [h]
theorem get_bang (t : ByteArray) (k : Nat) (h : k < t.size) : t.get! k = t[k]'h := by
  simp [ByteArray.get!, ByteArray.getElem_eq_getElem_data, h]
theorem str_ne (t : ByteArray) : (!t.toList.isEmpty) = !t.data.toList.isEmpty := by rw [ByteArray.toList_eq]
set_option maxHeartbeats 8000000 in
theorem isnumber_any (s : ByteArray) (hs : s.size ≤ 1000000) (w : World) : Calls Tryd.prog 101 #[.string s] w fun e w' => e = .returned (.bool (isNum s.data.toList)) ∧ Below w.heap.size w w' := by
  have hsz : s.size = s.data.toList.length := Lib.size_eq s
  cases hl : s.data.toList with
  | nil =>
    have hse : (!s.toList.isEmpty) = false := by rw [ByteArray.toList_eq, hl]; rfl
    have hse2 : s.toList = [] := by rw [ByteArray.toList_eq, hl]
    have HT : Hid (s.data.toList = body s.data.toList) := Lib.hid (by rw [hl]; rfl)
    rw [← hl]
    clear hsz hl
    go_enter Tryd.func101, Tryd.ntmps101
    go_wp2
    clear hse hse2
    go_loopg [] s.size (fun g wr => NbI w s g wr)
    case atStart => exact ⟨0, by omega, by simp, World.iter_heap _ _ _, (Below.refl _ _).alloc (Nat.le_refl _) _⟩
    case round =>
      obtain ⟨k, hkg, hall, hit, hbw⟩ := hrel
      have HALL := Lib.hid hall
      have HBW := Lib.hid hbw
      have hbs := hbw.size
      clear hall hbw
      cases gk with
      | zero =>
        have hnext := fun ty => Lib.run_next_end_at (P := Tryd.prog) wr w.heap.size s k ty hit (by omega)
        have hres : isNum s.data.toList = !s.data.toList.isEmpty := by
          unfold isNum
          rw [← HT.out]
          have h1 := HALL.out
          rw [List.take_of_length_le (by rw [← Lib.size_eq]; omega)] at h1
          rw [h1, Bool.and_true]
        have HR := Lib.hid hres
        clear hres hit
        go_wp2
        go_ret
        exact ⟨ret_b' (by rw [HR.out]; exact (str_ne s)), HBW.out⟩
      | succ g =>
        have hk : k < s.size := by omega
        obtain ⟨c, hc⟩ : ∃ c, s.data.toList[k]? = some c := ⟨_, List.getElem?_eq_getElem (by rw [← Lib.size_eq]; exact hk)⟩
        have hcg : s[k]'hk = c := by
          have := (List.getElem?_eq_some_iff.1 hc).2
          rw [← this]; rfl
        by_cases hd : isD c = true
        · have hcd : 48 ≤ c.toNat ∧ c.toNat ≤ 57 := of_decide_eq_true hd
          have hnext := fun ty => Lib.run_next_ascii_at (P := Tryd.prog) wr w.heap.size s k ty hit hk (by rw [hcg]; omega)
          rw [hcg] at hnext
          obtain ⟨W, hW⟩ : ∃ W, W = wr.iterAt w.heap.size s (k + 1) := ⟨_, rfl⟩
          rw [← hW] at hnext
          have hfin : NbI w s g W := by
            refine ⟨k + 1, by omega, ?_, by rw [hW]; exact Lib.iterAt_heap _ _ _ _ _ hit, by rw [hW]; exact Lib.below_iterAt HBW.out (by omega) _ _⟩
            rw [List.take_add_one, hc, List.all_append, HALL.out]
            simp [hd]
          have HF := Lib.hid hfin
          obtain ⟨x, hx⟩ : ∃ x : Int, x = (c.toNat : Int) := ⟨_, rfl⟩
          rw [← hx] at hnext
          have hx1 : ¬ x < 48 := by omega
          have hx2 : ¬ 57 < x := by omega
          clear hfin hd hcd hcg hc hit hW hx HALL hkg
          go_wp2
          go_roundg g
          case measure => omega
          case rel => exact HF.out
        · have hres : isNum s.data.toList = false := by
            unfold isNum
            rw [← HT.out, Bool.and_eq_false_iff]
            right
            rw [List.all_eq_false]
            exact ⟨c, List.mem_of_getElem? hc, hd⟩
          have HR := Lib.hid hres
          have hcn : ¬ (48 ≤ c.toNat ∧ c.toNat ≤ 57) := fun h => hd (decide_eq_true h)
          obtain ⟨x, W, hnext, hx, hbW⟩ : ∃ (x : Int) (W : World), (∀ ty, (Instr.next (.pointer (some ⟨w.heap.size, 0, none⟩)) true ty).run Tryd.prog wr = .ok (.tuple #[.bool true, .int .i64 k, .int .i32 x]) W) ∧ (x < 48 ∨ 57 < x) ∧ Below w.heap.size w W := by
            by_cases h8 : c.toNat < 128
            · have hnext := fun ty => Lib.run_next_ascii_at (P := Tryd.prog) wr w.heap.size s k ty hit hk (by rw [hcg]; omega)
              rw [hcg] at hnext
              exact ⟨_, _, hnext, by omega, Lib.below_iterAt HBW.out (by omega) _ _⟩
            · have hnext := fun ty => Lib.run_next_any_at (P := Tryd.prog) wr w.heap.size s k ty hit hk
              have hhi := dec_high s k (by rw [show s.get! k = c by rw [← hcg]; exact get_bang s k hk]; omega)
              exact ⟨_, _, hnext, by omega, Lib.below_iterAt HBW.out (by omega) _ _⟩
          have HBW2 := Lib.hid hbW
          clear hres hd hcn hcg hc hit hbW HALL hkg
          rcases hx with hx | hx
          · go_wp2
            go_ret
            exact ⟨ret_b' HR.out.symm, HBW2.out⟩
          · have hx2 : ¬ x < 48 := by omega
            go_wp2
            go_ret
            exact ⟨ret_b' HR.out.symm, HBW2.out⟩
  | cons c r =>
    have h0 : 0 < s.size := by rw [hsz, hl]; simp
    have hse : (!s.toList.isEmpty) = true := by rw [ByteArray.toList_eq, hl]; rfl
    have hse2 : ¬ s.toList = [] := by rw [ByteArray.toList_eq, hl]; simp
    have hc0 : s[0]'h0 = c := by
      have : s.data.toList[0]? = some c := by rw [hl]; rfl
      exact (List.getElem?_eq_some_iff.1 this).2
    obtain ⟨x, hx⟩ : ∃ x : Int, x = (c.toNat : Int) := ⟨_, rfl⟩
    have hcx : ((s[0]'h0).toNat : Int) = x := by rw [hc0, hx]
    have hsg : (x = 43 ∨ x = 45) → (s.extract 1 s.size).data.toList = body s.data.toList := by
      intro h
      rw [Lib.extract_data, hl, body_cons, if_pos (by omega)]
      simp [hsz, hl]
    have hns : ¬ (x = 43 ∨ x = 45) → s.data.toList = body s.data.toList := by
      intro h
      rw [hl, body_cons, if_neg (by omega)]
    rw [← hl]
    by_cases h43 : x = 43
    · have g1 : (x == 43) = true := by simpa using h43
      have HT := Lib.hid (hsg (.inl h43))
      clear hl hsz hc0 hx h43 hsg hns
      go_enter Tryd.func101, Tryd.ntmps101
      go_wp2
      obtain ⟨t, ht⟩ : ∃ t, t = s.extract 1 s.size := ⟨_, rfl⟩
      rw [← ht] at HT ⊢
      clear ht
      go_loopg [] t.size (fun g wr => NbI w t g wr)
      case atStart => exact ⟨0, by omega, by simp, World.iter_heap _ _ _, (Below.refl _ _).alloc (Nat.le_refl _) _⟩
      case round =>
        obtain ⟨k, hkg, hall, hit, hbw⟩ := hrel
        have HALL := Lib.hid hall
        have HBW := Lib.hid hbw
        have hbs := hbw.size
        clear hall hbw
        cases gk with
        | zero =>
          have hnext := fun ty => Lib.run_next_end_at (P := Tryd.prog) wr w.heap.size t k ty hit (by omega)
          have hres : isNum s.data.toList = !t.data.toList.isEmpty := by
            unfold isNum
            rw [← HT.out]
            have h1 := HALL.out
            rw [List.take_of_length_le (by rw [← Lib.size_eq]; omega)] at h1
            rw [h1, Bool.and_true]
          have HR := Lib.hid hres
          clear hres hit
          go_wp2
          go_ret
          exact ⟨ret_b' (by rw [HR.out]; exact (str_ne t)), HBW.out⟩
        | succ g =>
          have hk : k < t.size := by omega
          obtain ⟨c, hc⟩ : ∃ c, t.data.toList[k]? = some c := ⟨_, List.getElem?_eq_getElem (by rw [← Lib.size_eq]; exact hk)⟩
          have hcg : t[k]'hk = c := by
            have := (List.getElem?_eq_some_iff.1 hc).2
            rw [← this]; rfl
          by_cases hd : isD c = true
          · have hcd : 48 ≤ c.toNat ∧ c.toNat ≤ 57 := of_decide_eq_true hd
            have hnext := fun ty => Lib.run_next_ascii_at (P := Tryd.prog) wr w.heap.size t k ty hit hk (by rw [hcg]; omega)
            rw [hcg] at hnext
            obtain ⟨W, hW⟩ : ∃ W, W = wr.iterAt w.heap.size t (k + 1) := ⟨_, rfl⟩
            rw [← hW] at hnext
            have hfin : NbI w t g W := by
              refine ⟨k + 1, by omega, ?_, by rw [hW]; exact Lib.iterAt_heap _ _ _ _ _ hit, by rw [hW]; exact Lib.below_iterAt HBW.out (by omega) _ _⟩
              rw [List.take_add_one, hc, List.all_append, HALL.out]
              simp [hd]
            have HF := Lib.hid hfin
            obtain ⟨x, hx⟩ : ∃ x : Int, x = (c.toNat : Int) := ⟨_, rfl⟩
            rw [← hx] at hnext
            have hx1 : ¬ x < 48 := by omega
            have hx2 : ¬ 57 < x := by omega
            clear hfin hd hcd hcg hc hit hW hx HALL hkg
            go_wp2
            go_roundg g
            case measure => omega
            case rel => exact HF.out
          · have hres : isNum s.data.toList = false := by
              unfold isNum
              rw [← HT.out, Bool.and_eq_false_iff]
              right
              rw [List.all_eq_false]
              exact ⟨c, List.mem_of_getElem? hc, hd⟩
            have HR := Lib.hid hres
            have hcn : ¬ (48 ≤ c.toNat ∧ c.toNat ≤ 57) := fun h => hd (decide_eq_true h)
            obtain ⟨x, W, hnext, hx, hbW⟩ : ∃ (x : Int) (W : World), (∀ ty, (Instr.next (.pointer (some ⟨w.heap.size, 0, none⟩)) true ty).run Tryd.prog wr = .ok (.tuple #[.bool true, .int .i64 k, .int .i32 x]) W) ∧ (x < 48 ∨ 57 < x) ∧ Below w.heap.size w W := by
              by_cases h8 : c.toNat < 128
              · have hnext := fun ty => Lib.run_next_ascii_at (P := Tryd.prog) wr w.heap.size t k ty hit hk (by rw [hcg]; omega)
                rw [hcg] at hnext
                exact ⟨_, _, hnext, by omega, Lib.below_iterAt HBW.out (by omega) _ _⟩
              · have hnext := fun ty => Lib.run_next_any_at (P := Tryd.prog) wr w.heap.size t k ty hit hk
                have hhi := dec_high t k (by rw [show t.get! k = c by rw [← hcg]; exact get_bang t k hk]; omega)
                exact ⟨_, _, hnext, by omega, Lib.below_iterAt HBW.out (by omega) _ _⟩
            have HBW2 := Lib.hid hbW
            clear hres hd hcn hcg hc hit hbW HALL hkg
            rcases hx with hx | hx
            · go_wp2
              go_ret
              exact ⟨ret_b' HR.out.symm, HBW2.out⟩
            · have hx2 : ¬ x < 48 := by omega
              go_wp2
              go_ret
              exact ⟨ret_b' HR.out.symm, HBW2.out⟩
    · have g1 : (x == 43) = false := by simpa using h43
      by_cases h45 : x = 45
      · have g2 : (x == 45) = true := by simpa using h45
        have HT := Lib.hid (hsg (.inr h45))
        clear hl hsz hc0 hx h43 h45 hsg hns
        go_enter Tryd.func101, Tryd.ntmps101
        go_wp2
        obtain ⟨t, ht⟩ : ∃ t, t = s.extract 1 s.size := ⟨_, rfl⟩
        rw [← ht] at HT ⊢
        clear ht
        go_loopg [] t.size (fun g wr => NbI w t g wr)
        case atStart => exact ⟨0, by omega, by simp, World.iter_heap _ _ _, (Below.refl _ _).alloc (Nat.le_refl _) _⟩
        case round =>
          obtain ⟨k, hkg, hall, hit, hbw⟩ := hrel
          have HALL := Lib.hid hall
          have HBW := Lib.hid hbw
          have hbs := hbw.size
          clear hall hbw
          cases gk with
          | zero =>
            have hnext := fun ty => Lib.run_next_end_at (P := Tryd.prog) wr w.heap.size t k ty hit (by omega)
            have hres : isNum s.data.toList = !t.data.toList.isEmpty := by
              unfold isNum
              rw [← HT.out]
              have h1 := HALL.out
              rw [List.take_of_length_le (by rw [← Lib.size_eq]; omega)] at h1
              rw [h1, Bool.and_true]
            have HR := Lib.hid hres
            clear hres hit
            go_wp2
            go_ret
            exact ⟨ret_b' (by rw [HR.out]; exact (str_ne t)), HBW.out⟩
          | succ g =>
            have hk : k < t.size := by omega
            obtain ⟨c, hc⟩ : ∃ c, t.data.toList[k]? = some c := ⟨_, List.getElem?_eq_getElem (by rw [← Lib.size_eq]; exact hk)⟩
            have hcg : t[k]'hk = c := by
              have := (List.getElem?_eq_some_iff.1 hc).2
              rw [← this]; rfl
            by_cases hd : isD c = true
            · have hcd : 48 ≤ c.toNat ∧ c.toNat ≤ 57 := of_decide_eq_true hd
              have hnext := fun ty => Lib.run_next_ascii_at (P := Tryd.prog) wr w.heap.size t k ty hit hk (by rw [hcg]; omega)
              rw [hcg] at hnext
              obtain ⟨W, hW⟩ : ∃ W, W = wr.iterAt w.heap.size t (k + 1) := ⟨_, rfl⟩
              rw [← hW] at hnext
              have hfin : NbI w t g W := by
                refine ⟨k + 1, by omega, ?_, by rw [hW]; exact Lib.iterAt_heap _ _ _ _ _ hit, by rw [hW]; exact Lib.below_iterAt HBW.out (by omega) _ _⟩
                rw [List.take_add_one, hc, List.all_append, HALL.out]
                simp [hd]
              have HF := Lib.hid hfin
              obtain ⟨x, hx⟩ : ∃ x : Int, x = (c.toNat : Int) := ⟨_, rfl⟩
              rw [← hx] at hnext
              have hx1 : ¬ x < 48 := by omega
              have hx2 : ¬ 57 < x := by omega
              clear hfin hd hcd hcg hc hit hW hx HALL hkg
              go_wp2
              go_roundg g
              case measure => omega
              case rel => exact HF.out
            · have hres : isNum s.data.toList = false := by
                unfold isNum
                rw [← HT.out, Bool.and_eq_false_iff]
                right
                rw [List.all_eq_false]
                exact ⟨c, List.mem_of_getElem? hc, hd⟩
              have HR := Lib.hid hres
              have hcn : ¬ (48 ≤ c.toNat ∧ c.toNat ≤ 57) := fun h => hd (decide_eq_true h)
              obtain ⟨x, W, hnext, hx, hbW⟩ : ∃ (x : Int) (W : World), (∀ ty, (Instr.next (.pointer (some ⟨w.heap.size, 0, none⟩)) true ty).run Tryd.prog wr = .ok (.tuple #[.bool true, .int .i64 k, .int .i32 x]) W) ∧ (x < 48 ∨ 57 < x) ∧ Below w.heap.size w W := by
                by_cases h8 : c.toNat < 128
                · have hnext := fun ty => Lib.run_next_ascii_at (P := Tryd.prog) wr w.heap.size t k ty hit hk (by rw [hcg]; omega)
                  rw [hcg] at hnext
                  exact ⟨_, _, hnext, by omega, Lib.below_iterAt HBW.out (by omega) _ _⟩
                · have hnext := fun ty => Lib.run_next_any_at (P := Tryd.prog) wr w.heap.size t k ty hit hk
                  have hhi := dec_high t k (by rw [show t.get! k = c by rw [← hcg]; exact get_bang t k hk]; omega)
                  exact ⟨_, _, hnext, by omega, Lib.below_iterAt HBW.out (by omega) _ _⟩
              have HBW2 := Lib.hid hbW
              clear hres hd hcn hcg hc hit hbW HALL hkg
              rcases hx with hx | hx
              · go_wp2
                go_ret
                exact ⟨ret_b' HR.out.symm, HBW2.out⟩
              · have hx2 : ¬ x < 48 := by omega
                go_wp2
                go_ret
                exact ⟨ret_b' HR.out.symm, HBW2.out⟩
      · have g2 : (x == 45) = false := by simpa using h45
        have HT := Lib.hid (hns (by omega))
        clear hl hsz hc0 hx h43 h45 hsg hns
        go_enter Tryd.func101, Tryd.ntmps101
        go_wp2
        clear hse hse2
        go_loopg [] s.size (fun g wr => NbI w s g wr)
        case atStart => exact ⟨0, by omega, by simp, World.iter_heap _ _ _, (Below.refl _ _).alloc (Nat.le_refl _) _⟩
        case round =>
          obtain ⟨k, hkg, hall, hit, hbw⟩ := hrel
          have HALL := Lib.hid hall
          have HBW := Lib.hid hbw
          have hbs := hbw.size
          clear hall hbw
          cases gk with
          | zero =>
            have hnext := fun ty => Lib.run_next_end_at (P := Tryd.prog) wr w.heap.size s k ty hit (by omega)
            have hres : isNum s.data.toList = !s.data.toList.isEmpty := by
              unfold isNum
              rw [← HT.out]
              have h1 := HALL.out
              rw [List.take_of_length_le (by rw [← Lib.size_eq]; omega)] at h1
              rw [h1, Bool.and_true]
            have HR := Lib.hid hres
            clear hres hit
            go_wp2
            go_ret
            exact ⟨ret_b' (by rw [HR.out]; exact (str_ne s)), HBW.out⟩
          | succ g =>
            have hk : k < s.size := by omega
            obtain ⟨c, hc⟩ : ∃ c, s.data.toList[k]? = some c := ⟨_, List.getElem?_eq_getElem (by rw [← Lib.size_eq]; exact hk)⟩
            have hcg : s[k]'hk = c := by
              have := (List.getElem?_eq_some_iff.1 hc).2
              rw [← this]; rfl
            by_cases hd : isD c = true
            · have hcd : 48 ≤ c.toNat ∧ c.toNat ≤ 57 := of_decide_eq_true hd
              have hnext := fun ty => Lib.run_next_ascii_at (P := Tryd.prog) wr w.heap.size s k ty hit hk (by rw [hcg]; omega)
              rw [hcg] at hnext
              obtain ⟨W, hW⟩ : ∃ W, W = wr.iterAt w.heap.size s (k + 1) := ⟨_, rfl⟩
              rw [← hW] at hnext
              have hfin : NbI w s g W := by
                refine ⟨k + 1, by omega, ?_, by rw [hW]; exact Lib.iterAt_heap _ _ _ _ _ hit, by rw [hW]; exact Lib.below_iterAt HBW.out (by omega) _ _⟩
                rw [List.take_add_one, hc, List.all_append, HALL.out]
                simp [hd]
              have HF := Lib.hid hfin
              obtain ⟨x, hx⟩ : ∃ x : Int, x = (c.toNat : Int) := ⟨_, rfl⟩
              rw [← hx] at hnext
              have hx1 : ¬ x < 48 := by omega
              have hx2 : ¬ 57 < x := by omega
              clear hfin hd hcd hcg hc hit hW hx HALL hkg
              go_wp2
              go_roundg g
              case measure => omega
              case rel => exact HF.out
            · have hres : isNum s.data.toList = false := by
                unfold isNum
                rw [← HT.out, Bool.and_eq_false_iff]
                right
                rw [List.all_eq_false]
                exact ⟨c, List.mem_of_getElem? hc, hd⟩
              have HR := Lib.hid hres
              have hcn : ¬ (48 ≤ c.toNat ∧ c.toNat ≤ 57) := fun h => hd (decide_eq_true h)
              obtain ⟨x, W, hnext, hx, hbW⟩ : ∃ (x : Int) (W : World), (∀ ty, (Instr.next (.pointer (some ⟨w.heap.size, 0, none⟩)) true ty).run Tryd.prog wr = .ok (.tuple #[.bool true, .int .i64 k, .int .i32 x]) W) ∧ (x < 48 ∨ 57 < x) ∧ Below w.heap.size w W := by
                by_cases h8 : c.toNat < 128
                · have hnext := fun ty => Lib.run_next_ascii_at (P := Tryd.prog) wr w.heap.size s k ty hit hk (by rw [hcg]; omega)
                  rw [hcg] at hnext
                  exact ⟨_, _, hnext, by omega, Lib.below_iterAt HBW.out (by omega) _ _⟩
                · have hnext := fun ty => Lib.run_next_any_at (P := Tryd.prog) wr w.heap.size s k ty hit hk
                  have hhi := dec_high s k (by rw [show s.get! k = c by rw [← hcg]; exact get_bang s k hk]; omega)
                  exact ⟨_, _, hnext, by omega, Lib.below_iterAt HBW.out (by omega) _ _⟩
              have HBW2 := Lib.hid hbW
              clear hres hd hcn hcg hc hit hbW HALL hkg
              rcases hx with hx | hx
              · go_wp2
                go_ret
                exact ⟨ret_b' HR.out.symm, HBW2.out⟩
              · have hx2 : ¬ x < 48 := by omega
                go_wp2
                go_ret
                exact ⟨ret_b' HR.out.symm, HBW2.out⟩
end Go.Proofs.YtjalhcbomjgkoaaDoor
