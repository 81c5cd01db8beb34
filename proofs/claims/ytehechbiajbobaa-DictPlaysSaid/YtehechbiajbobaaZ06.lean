/-
  MERGED (a claim has at most 60 files): TBlank, TLab, TAsc.
-/
import Derived.Test.YtehechbiajbobaaZ05
import Derived.Test.YtehechbiajbobaaZ00
import Derived.Test.YtehechbiajbobaaZ01
import Derived.Lib.SplitLaws
/-
  WHETHER A TEXT IS A BLANK NODE's: the program's.
-/
namespace Go.Proofs.Ytehechbiajbobaa
open Go.RowKit
set_option linter.unusedVariables false

def labS (first : Bool) (n : Int) : Bool := (cls n == 1) || ((cls n == 2) || (!first && (n == 95 || n == 45)))
def labSG : Nat → List Int → Bool
  | _, [] => true
  | i, n :: l => labS (i == 0) n && labSG (i + 1) l
/-- A label, of so many bytes, its signs, and what is none's behind them. -/
def blankB (n : Nat) (sl : List Int) (rest : List UInt8) : Bool := decide (rest = []) && (labSG 0 sl && decide (1 ≤ n ∧ n ≤ 100))
def BlI (w : World) (s : ByteArray) (sl : List Int) (g : Nat) (wr : World) : Prop :=
  ∃ a b, sl = a ++ b ∧ b.length = g ∧ labSG 0 sl = labSG a.length b ∧ wr.heap[w.heap.size + 1]? = some (.stringIter s (encL a).length) ∧ Fb wr w.heap.size 81 #[.string s] ∧ Below w.heap.size w wr
theorem lab_ways (first : Bool) (n q : Int) (hq : q = cls n) (i : Int) (hi : (first = true ∧ ¬ 0 < i) ∨ (first = false ∧ 0 < i)) :
    ((first = true ∧ ¬ 0 < i) ∨ (first = false ∧ 0 < i ∧ ((n == 95) = true ∨ ((n == 95) = false ∧ (n == 45) = true) ∨ ((n == 95) = false ∧ (n == 45) = false)))) ∧ ((q != 1) = false ∨ ((q != 1) = true ∧ (q != 2) = false) ∨ ((q != 1) = true ∧ (q != 2) = true)) := by
  refine ⟨?_, ?_⟩
  · rcases hi with h | ⟨h, k⟩
    · exact .inl h
    · refine .inr ⟨h, k, ?_⟩
      cases (n == 95) <;> cases (n == 45) <;> simp
  · cases (q != 1) <;> cases (q != 2) <;> simp
theorem labS_of {first : Bool} {n q : Int} (hq : q = cls n) : labS first n = (!(q != 1) || (!(q != 2) || (!first && (n == 95 || n == 45)))) := by
  unfold labS
  subst hq
  simp [bne]
set_option maxHeartbeats 8000000 in
set_option maxRecDepth 100000 in
theorem blankGood_any (s : ByteArray) (sl : List Int) (rest : List UInt8) (hp : Parts s.data.toList sl rest) (hs : s.size ≤ 4294967296) (w : World) :
    Calls Try.prog 86 #[.agg #[.string s]] w fun e w' => e = .returned (.bool (blankB s.size sl rest)) ∧ Below w.heap.size w w' := by
  obtain ⟨r, hr⟩ : ∃ r, r = blankB s.size sl rest := ⟨_, rfl⟩
  rw [← hr]
  have HRR := Lib.hid hr
  have HP := Lib.hid hp
  clear hr hp
  have hseE : (s.toList = []) ↔ s.size = 0 := by
    rw [ByteArray.toList_eq]
    constructor
    · intro h; have := congrArg List.length h; rw [Array.length_toList] at this; exact this
    · intro h; exact List.length_eq_zero_iff.1 (by rw [Array.length_toList]; exact h)
  have HSE := Lib.hid hseE
  clear hseE
  go_enter Try.func86, Try.ntmps86
  go_wp2
  go_loopg [] sl.length (fun g wr => BlI w s sl g wr)
  case atStart =>
    refine ⟨[], sl, rfl, rfl, rfl, ?_, (Fb.new _ _ _).alloc _, ((Below.refl _ _).alloc (Nat.le_refl _) _).alloc (by simp) _⟩
    have hsz : (w.alloc (.cells #[.string s] 81)).heap.size = w.heap.size + 1 := by simp
    have := World.iter_heap (w.alloc (.cells #[.string s] 81)) s 0
    rw [hsz] at this
    exact this
  case round =>
    obtain ⟨a, bb, hab, hbl, hlab, hit, hbox, hbw⟩ := hrel
    have hdat : s.data.toList = encL a ++ (encL bb ++ rest) := by rw [HP.out.eq, hab, encL_append, List.append_assoc]
    have HAB := Lib.hid hab
    have HLAB := Lib.hid hlab
    have HBW := Lib.hid hbw
    have HBOX := Lib.hid hbox
    have hc0 := hbox.cell 0
    simp at hc0
    cases gk with
    | zero =>
      obtain rfl : bb = [] := List.length_eq_zero_iff.1 hbl
      by_cases hrest : rest = []
      · have hnx : ∀ ty, (Instr.next (.pointer (some ⟨w.heap.size + 1, 0, none⟩)) true ty).run Try.prog wr = _ := fun ty => next_done wr (w.heap.size + 1) s a (by rw [hdat, hrest]; simp [encL]) hit ty
        have HR : Hid (r = decide (1 ≤ s.size ∧ s.size ≤ 100)) := Lib.hid (by rw [HRR.out]; unfold blankB; rw [decide_eq_true hrest, hlab]; simp [labSG])
        by_cases z0 : s.size = 0
        · have e1 : (!s.toList.isEmpty) = false := by rw [HSE.out.2 z0]; rfl
          have e2 : s.toList = [] := HSE.out.2 z0
          have HR2 : Hid (r = false) := Lib.hid (by rw [HR.out]; simp [z0])
          clear hab hbl hdat hlab hit hbox hbw hrest z0
          go_wp2
          go_ret
          exact ⟨ret_bool HR2.out.symm, HBW.out⟩
        · have e1 : (!s.toList.isEmpty) = true := by
            have : s.toList ≠ [] := fun e => z0 (HSE.out.1 e)
            cases h : s.toList
            · exact absurd h this
            · rfl
          have e2 : ¬ s.toList = [] := fun e => z0 (HSE.out.1 e)
          by_cases z1 : s.size ≤ 100
          · have k1 : (s.size : Int) ≤ 100 := by omega
            have HR2 : Hid (r = true) := Lib.hid (by rw [HR.out, decide_eq_true (by omega)])
            clear hab hbl hdat hlab hit hbox hbw hrest z0 z1
            go_wp2
            go_ret
            exact ⟨ret_bool HR2.out.symm, HBW.out⟩
          · have k1 : ¬ (s.size : Int) ≤ 100 := by omega
            have HR2 : Hid (r = false) := Lib.hid (by rw [HR.out, decide_eq_false (by omega)])
            clear hab hbl hdat hlab hit hbox hbw hrest z0 z1
            go_wp2
            go_ret
            exact ⟨ret_bool HR2.out.symm, HBW.out⟩
      · have hnx : ∀ ty, (Instr.next (.pointer (some ⟨w.heap.size + 1, 0, none⟩)) true ty).run Try.prog wr = _ := fun ty => next_bad wr (w.heap.size + 1) s a rest (by rw [hdat]; simp [encL]) (HP.out.bad.resolve_left hrest) hit ty
        obtain ⟨W, hW⟩ : ∃ W, W = wr.iterAt (w.heap.size + 1) s ((encL a).length + 1) := ⟨_, rfl⟩
        rw [← hW] at hnx
        have hbW : Below w.heap.size w W := by rw [hW]; exact Lib.below_iterAt hbw (by omega) _ _
        have HBX := Lib.hid hbW
        have HR : Hid (r = false) := Lib.hid (by rw [HRR.out]; unfold blankB; rw [decide_eq_false hrest]; rfl)
        have cR := class_any 65533
        have hc5 : cls 65533 = 5 := by decide
        rw [hc5] at cR
        by_cases hpos : 0 < (encL a).length
        · have k1 : (0 : Int) < ((encL a).length : Int) := by omega
          clear hab hbl hdat hlab hit hbox hbw hrest hW hbW hc5 hpos
          go_wp2_with (go_at_call 66; (with_reducible refine (cR _).mono ?_); rintro e w' ⟨rfl, rfl⟩)
          (try rw [Exit.noGoto_ret])
          go_ret
          exact ⟨ret_bool HR.out.symm, HBX.out⟩
        · have k1 : ¬ (0 : Int) < ((encL a).length : Int) := by omega
          clear hab hbl hdat hlab hit hbox hbw hrest hW hbW hc5 hpos
          go_wp2_with (go_at_call 66; (with_reducible refine (cR _).mono ?_); rintro e w' ⟨rfl, rfl⟩)
          (try rw [Exit.noGoto_ret])
          go_ret
          exact ⟨ret_bool HR.out.symm, HBX.out⟩
    | succ g =>
      obtain ⟨n, b', rfl⟩ : ∃ n b', bb = n :: b' := by
        match bb, hbl with
        | n :: b', _ => exact ⟨n, b', rfl⟩
      have hn : sgn n = true := HP.out.all n (by rw [hab]; simp)
      have hnx : ∀ ty, (Instr.next (.pointer (some ⟨w.heap.size + 1, 0, none⟩)) true ty).run Try.prog wr = _ := fun ty => next_sign wr (w.heap.size + 1) s a n (encL b' ++ rest) (by rw [hdat, encL_cons, List.append_assoc]) hn hit ty
      obtain ⟨W, hW⟩ : ∃ W, W = wr.iterAt (w.heap.size + 1) s (encL (a ++ [n])).length := ⟨_, rfl⟩
      rw [← hW] at hnx
      have hitW : W.heap[w.heap.size + 1]? = some (.stringIter s (encL (a ++ [n])).length) := by rw [hW]; exact Lib.iterAt_heap _ _ _ _ _ hit
      have hbW : Below w.heap.size w W := by rw [hW]; exact Lib.below_iterAt hbw (by omega) _ _
      have HBX := Lib.hid hbW
      have hboxW : Fb W w.heap.size 81 #[.string s] := by
        have hb : Below (w.heap.size + 1) wr W := by rw [hW]; exact Lib.below_iterAt (Below.refl _ _) (Nat.le_refl _) _ _
        exact (hb.block w.heap.size (by omega)).trans hbox
      have hfin : labS (a.length == 0) n = true → BlI w s sl g W := fun hk => by
        refine ⟨a ++ [n], b', by rw [hab]; simp, by simpa using hbl, ?_, hitW, hboxW, hbW⟩
        rw [hlab]
        simp only [labSG, hk, Bool.true_and, List.length_append, List.length_cons, List.length_nil]
      have hno : labS (a.length == 0) n = false → r = false := fun hk => by
        rw [HRR.out]
        unfold blankB
        rw [hlab]
        simp only [labSG, hk, Bool.false_and, Bool.and_false]
      have HFIN := Lib.hid hfin
      have HNO := Lib.hid hno
      obtain ⟨q, hq⟩ : ∃ q, q = cls n := ⟨_, rfl⟩
      have cR := class_any n
      rw [← hq] at cR
      have hi : ((a.length == 0) = true ∧ ¬ (0 : Int) < ((encL a).length : Int)) ∨ ((a.length == 0) = false ∧ (0 : Int) < ((encL a).length : Int)) := by
        have h1 := encL_len a
        by_cases h0 : a.length = 0
        · exact .inl ⟨by simp [h0], by omega⟩
        · exact .inr ⟨by simp [h0], by omega⟩
      have hls := labS_of (first := (a.length == 0)) hq
      obtain ⟨w1, w2⟩ := lab_ways _ n q hq _ hi
      obtain ⟨first, hfirst⟩ : ∃ f, f = (a.length == 0) := ⟨_, rfl⟩
      rw [← hfirst] at hls w1 HFIN HNO
      have HLS := Lib.hid hls
      have hm : g < g + 1 := Nat.lt_succ_self g
      clear hab hbl hdat hlab hit hbox hbw hW hitW hbW hn hboxW hfin hno hq hi hfirst hls
      rcases w1 with ⟨rfl, k1⟩ | ⟨rfl, k1, k2 | ⟨k2, k3⟩ | ⟨k2, k3⟩⟩ <;> rcases w2 with j1 | ⟨j1, j2⟩ | ⟨j1, j2⟩
      all_goals
        have HL2 := HLS.out
        (try rw [j1] at HL2)
        (try rw [j2] at HL2)
        (try rw [k2] at HL2)
        (try rw [k3] at HL2)
        have HL3 := Lib.hid HL2
        clear HL2
        go_wp2_with (go_at_call 66; (with_reducible refine (cR _).mono ?_); rintro e w' ⟨rfl, rfl⟩)
        first
          | (go_roundg g; (case measure => exact hm); (case rel => exact HFIN.out (by rw [HL3.out]; rfl)))
          | ((try rw [Exit.noGoto_ret]); go_ret; exact ⟨ret_bool (HNO.out (by rw [HL3.out]; rfl)).symm, HBX.out⟩)
end Go.Proofs.Ytehechbiajbobaa

/-
  THE DOCUMENT's 'letter', 'digit', 'label'.
-/
namespace Go.Proofs.Ytehechbiajbobaa
open Go.RowKit
set_option linter.unusedVariables false

def letB (c : Int) : Bool := decide ((97 ≤ c ∧ c ≤ 122) ∨ (65 ≤ c ∧ c ≤ 90))
def digB (c : Int) : Bool := decide (48 ≤ c ∧ c ≤ 57)
theorem rletter_any (c : Int) (w : World) : Calls Try.prog 38 #[.int .u8 c] w fun e w' => e = .returned (.bool (letB c)) ∧ w = w' := by
  go_enter Try.func38, Try.ntmps38
  go_wp2
  all_goals (go_ret; refine ⟨ret_bT ?_, rfl⟩; unfold letB; rw [Bool.eq_iff_iff]; simp only [Bool.or_eq_true, decide_eq_true_eq]; first | omega | (constructor <;> intro <;> omega) | (simp; omega))
theorem rdigit_any (c : Int) (w : World) : Calls Try.prog 39 #[.int .u8 c] w fun e w' => e = .returned (.bool (digB c)) ∧ w = w' := by
  go_enter Try.func39, Try.ntmps39
  go_wp2
  all_goals (go_ret; refine ⟨ret_bT ?_, rfl⟩; unfold digB; rw [Bool.eq_iff_iff]; simp only [decide_eq_true_eq]; first | omega | (constructor <;> intro <;> omega) | (simp; omega))
/-- May a sign stand in a label, at its beginning or behind it? -/
def labC (first : Bool) (c : Int) : Bool := letB c || (digB c || (!first && (c == 95 || c == 45)))
def labG : Nat → List UInt8 → Bool
  | _, [] => true
  | i, c :: l => labC (i == 0) (c.toNat : Int) && labG (i + 1) l
theorem labG_step {l : List UInt8} {k : Nat} {c : UInt8} (h : l[k]? = some c) : labG k (l.drop k) = (labC (k == 0) (c.toNat : Int) && labG (k + 1) (l.drop (k + 1))) := by
  have hj := (List.getElem?_eq_some_iff.1 h).1
  rw [List.drop_eq_getElem_cons hj, (List.getElem?_eq_some_iff.1 h).2]
  rfl
set_option maxHeartbeats 4000000 in
theorem rlabel_loop (s : ByteArray) (h1 : 1 ≤ s.size) (h2 : s.size ≤ 100) (w : World) : Calls Try.prog 32 #[.string s] w fun e w' => e = .returned (.bool (labG 0 s.data.toList)) ∧ w = w' := by
  have k1 : ¬ (s.size : Int) < 1 := by omega
  have k2 : ¬ (100 : Int) < (s.size : Int) := by omega
  have hl : s.data.toList.length = s.size := by rw [Array.length_toList]; rfl
  have HL := Lib.hid hl
  clear hl
  go_enter Try.func32, Try.ntmps32
  go_wp2
  go_loopg [3] s.size (fun g s3 wr => ∃ k : Nat, k + g = s.size ∧ s3 = .int .i64 k ∧ Hid (labG 0 s.data.toList = labG k (s.data.toList.drop k)) ∧ w = wr)
  case atStart => exact ⟨0, by omega, rfl, Lib.hid rfl, rfl⟩
  case round =>
    obtain ⟨k, hkg, rfl, HG, rfl⟩ := hrel
    cases gk with
    | zero =>
      have hk : k = s.size := by omega
      have HR : Hid (labG 0 s.data.toList = true) := Lib.hid (by rw [HG.out, List.drop_eq_nil_of_le (by rw [HL.out]; omega)]; rfl)
      have hn : ¬ (k : Int) < (s.size : Int) := by omega
      clear hk
      go_wp2
      go_ret
      exact ⟨ret_bT HR.out.symm, rfl⟩
    | succ g =>
      have hk : k < s.size := by omega
      obtain ⟨c, hc⟩ : ∃ c, s.data.toList[k]? = some c := ⟨_, List.getElem?_eq_getElem (by rw [HL.out]; exact hk)⟩
      have hcg : (s[k]'hk).toNat = c.toNat := by
        have := (List.getElem?_eq_some_iff.1 hc).2
        rw [← this]; rfl
      have HS := Lib.hid (labG_step hc)
      obtain ⟨n, hn⟩ : ∃ n, n = c.toNat := ⟨_, rfl⟩
      rw [← hn] at hcg HS
      have cL := rletter_any (n : Int)
      have cD := rdigit_any (n : Int)
      have hm : g < g + 1 := Nat.lt_succ_self g
      have hk1 : k + 1 + g = s.size := by omega
      have HK := Lib.hid hk1
      clear hc hn hkg hk1
      have ways : (letB n = true ∧ labC (k == 0) n = true) ∨ (letB n = false ∧ digB n = true ∧ labC (k == 0) n = true) ∨ (letB n = false ∧ digB n = false ∧ (((k : Int) == 0) = true ∧ labC (k == 0) n = false ∨ ((k : Int) == 0) = false ∧ (((n : Int) != 95) = false ∧ labC (k == 0) n = true ∨ ((n : Int) != 95) = true ∧ (((n : Int) != 45) = false ∧ labC (k == 0) n = true ∨ ((n : Int) != 45) = true ∧ labC (k == 0) n = false)))) := by
        unfold labC
        have ek : ((k : Int) == 0) = (k == 0) := by rw [Bool.eq_iff_iff, beq_iff_eq, beq_iff_eq]; omega
        rw [ek]
        have e1 : ((n : Int) != 95) = !((n : Int) == 95) := rfl
        have e2 : ((n : Int) != 45) = !((n : Int) == 45) := rfl
        rw [e1, e2]
        cases letB n <;> cases digB n <;> cases (k == 0) <;> cases ((n : Int) == 95) <;> cases ((n : Int) == 45) <;> simp
      rcases ways with ⟨a1, hr⟩ | ⟨a1, a2, hr⟩ | ⟨a1, a2, ⟨a3, hr⟩ | ⟨a3, ⟨a4, hr⟩ | ⟨a4, ⟨a5, hr⟩ | ⟨a5, hr⟩⟩⟩⟩
      all_goals
        rw [a1] at cL
        (try rw [a2] at cD)
        have HR := Lib.hid hr
        clear hr
        go_wp2_with (first
          | (go_at_call 38; (with_reducible refine (cL _).mono ?_); rintro e w' ⟨rfl, rfl⟩)
          | (go_at_call 39; (with_reducible refine (cD _).mono ?_); rintro e w' ⟨rfl, rfl⟩))
        first
          | (go_roundg g; (case measure => exact hm); (case rel => exact ⟨k + 1, HK.out, by go_num, Lib.hid (by rw [HG.out, HS.out, HR.out, Bool.true_and]), rfl⟩))
          | ((try rw [Exit.noGoto_ret]); go_ret; exact ⟨ret_bT (by rw [HG.out, HS.out, HR.out, Bool.false_and]), rfl⟩)
end Go.Proofs.Ytehechbiajbobaa

/-
  PLAIN: a test that only ASCII signs pass, sign by sign, is the same test byte by byte; a text parted at '-' and looked at part by part is a machine that goes from byte to byte.
-/
namespace Go.Proofs.Ytehechbiajbobaa
set_option linter.unusedVariables false

def allI (f : Nat → Int → Bool) : Nat → List Int → Bool
  | _, [] => true
  | i, n :: l => f i n && allI f (i + 1) l
def allU (g : Nat → UInt8 → Bool) : Nat → List UInt8 → Bool
  | _, [] => true
  | i, c :: l => g i c && allU g (i + 1) l
theorem encA (n : Int) (h0 : 0 ≤ n) (h1 : n ≤ 127) : Lib.encodeRune n = [n.toNat.toUInt8] := by
  unfold Lib.encodeRune
  rw [Lib.encodeRuneZ_one h0 h1]
  rfl
theorem enc_far (n : Int) (hs : sgn n = true) (h : 128 ≤ n) : ∃ c r, Lib.encodeRune n = c :: r ∧ 128 ≤ c.toNat := by
  obtain ⟨h0, h1, h2⟩ := (sgn_iff n).1 hs
  unfold Lib.encodeRune
  by_cases b : n ≤ 2047
  · rw [Lib.encodeRuneZ_two h b]
    exact ⟨_, _, rfl, by rw [u8n _ (by omega) (by omega)]; omega⟩
  by_cases c : n ≤ 65535
  · rw [Lib.encodeRuneZ_three (by omega)]
    exact ⟨_, _, rfl, by rw [u8n _ (by omega) (by omega)]; omega⟩
  · rw [Lib.encodeRuneZ_four (by omega) h1]
    exact ⟨_, _, rfl, by rw [u8n _ (by omega) (by omega)]; omega⟩
theorem bad_head (r : List UInt8) (h : Bad r) : ∃ c t, r = c :: t ∧ 128 ≤ c.toNat := by
  obtain ⟨h1, h2, h3⟩ := h
  cases r with
  | nil => exact absurd rfl h1
  | cons c t =>
    refine ⟨c, t, rfl, ?_⟩
    rw [Lib.decodeL_N] at h2
    by_cases hc : c.toNat < 128
    · exfalso
      simp only [List.getD_cons_zero] at h2
      rw [Lib.decodeN_ascii _ _ _ _ _ hc] at h2
      dsimp only at h2
      omega
    · omega
theorem all_same (f : Nat → Int → Bool) (g : Nat → UInt8 → Bool) (hf : ∀ i n, 128 ≤ n → f i n = false) (hg : ∀ i (c : UInt8), 128 ≤ c.toNat → g i c = false) (hfg : ∀ i (c : UInt8), c.toNat ≤ 127 → f i (c.toNat : Int) = g i c) (rest : List UInt8) (hr : rest = [] ∨ Bad rest) :
    ∀ (sl : List Int), AllS sl → ∀ i, (decide (rest = []) && allI f i sl) = allU g i (encL sl ++ rest)
  | [], _, i => by
    rcases hr with rfl | hb
    · rfl
    · obtain ⟨c, t, rfl, hc⟩ := bad_head rest hb
      have : (encL [] ++ c :: t) = c :: t := rfl
      rw [this]
      simp only [allU, hg i c hc, Bool.false_and, allI, Bool.and_true]
      exact decide_eq_false (fun e => by cases e)
  | n :: l, ha, i => by
    have ih := all_same f g hf hg hfg rest hr l ha.tail (i + 1)
    obtain ⟨h0, h1, h2⟩ := (sgn_iff n).1 ha.head
    by_cases hn : n ≤ 127
    · rw [encL_cons, encA n h0 hn, List.append_assoc]
      have hc : (n.toNat.toUInt8).toNat = n.toNat := u8n n h0 (by omega)
      have e := hfg i n.toNat.toUInt8 (by rw [hc]; omega)
      rw [hc, show ((n.toNat : Nat) : Int) = n by omega] at e
      show (_ && (f i n && allI f (i + 1) l)) = (g i n.toNat.toUInt8 && allU g (i + 1) (encL l ++ rest))
      rw [← ih, ← e]
      cases f i n <;> simp
    · obtain ⟨c, r, he, hc⟩ := enc_far n ha.head (by omega)
      rw [encL_cons, he, List.append_assoc]
      show (_ && (f i n && allI f (i + 1) l)) = (g i c && _)
      rw [hf i n (by omega), hg i c hc]
      simp
/-! ### A language -/
def letU (c : UInt8) : Bool := decide ((97 ≤ c.toNat ∧ c.toNat ≤ 122) ∨ (65 ≤ c.toNat ∧ c.toNat ≤ 90))
def digU (c : UInt8) : Bool := decide (48 ≤ c.toNat ∧ c.toNat ≤ 57)
/-- May a byte stand in part number p of a language? -/
def okc (p : Nat) (c : UInt8) : Bool := letU c || (!(p == 0) && digU c)
/-- Part p, g bytes of it are through. -/
def mach : Nat → Nat → List UInt8 → Bool
  | _, g, [] => decide (0 < g)
  | p, g, c :: l => if c = 45 then (if g = 0 then false else mach (p + 1) 0 l) else if okc p c = true then (if 8 < g + 1 then false else mach p (g + 1) l) else false
def partOk (p : Nat) (a : List UInt8) : Bool := !(a.length == 0) && (decide (a.length ≤ 8) && a.all (okc p))
def partsOk : Nat → List (List UInt8) → Bool
  | _, [] => true
  | p, a :: l => partOk p a && partsOk (p + 1) l
theorem fin_k (p : Nat) (a : List UInt8) (m : Bool) : (if a.length ≤ 8 ∧ a.all (okc p) = true then (if a.length = 0 then false else m) else false) = (partOk p a && m) := by
  unfold partOk
  generalize a.length = n
  generalize a.all (okc p) = b
  cases b
  · rw [if_neg (fun e => by cases e.2)]; simp
  · by_cases h : n ≤ 8
    · rw [if_pos ⟨h, rfl⟩, decide_eq_true h]
      by_cases h0 : n = 0
      · rw [if_pos h0, h0]; rfl
      · rw [if_neg h0, beq_eq_false_iff_ne.2 h0]; rfl
    · rw [if_neg (fun e => h e.1), decide_eq_false h]; simp
theorem mach_part (p : Nat) (r : List UInt8) : ∀ (a : List UInt8) (g : Nat), (∀ c ∈ a, c ≠ 45) → g ≤ 8 →
    mach p g (a ++ r) = if g + a.length ≤ 8 ∧ a.all (okc p) = true then mach p (g + a.length) r else false
  | [], g, _, hg => by simp [hg]
  | c :: a, g, h, hg => by
    have hc : c ≠ 45 := h c (by simp)
    show (if c = 45 then _ else if okc p c = true then (if 8 < g + 1 then false else mach p (g + 1) (a ++ r)) else false) = _
    rw [if_neg hc]
    by_cases hk : okc p c = true
    · rw [if_pos hk]
      by_cases h8 : 8 < g + 1
      · rw [if_pos h8, if_neg (by simp; omega)]
      · rw [if_neg h8, mach_part p r a (g + 1) (fun x hx => h x (List.mem_cons_of_mem _ hx)) (by omega)]
        have e1 : g + 1 + a.length = g + (c :: a).length := by simp; omega
        rw [e1]
        simp [hk]
    · rw [if_neg hk, if_neg (by simp [hk])]
theorem mach_parts : ∀ (k : Nat) (l : List UInt8) (p : Nat), Lib.count l [45] = k → mach p 0 l = partsOk p (Lib.splitK [45] 0 k l)
  | 0, l, p, h => by
    have hn : ∀ c ∈ l, c ≠ 45 := by
      rw [Lib.count_one] at h
      intro c hc e
      subst e
      have := List.count_pos_iff.2 hc
      omega
    have hm := mach_part p [] l 0 hn (by omega)
    rw [List.append_nil, Nat.zero_add] at hm
    rw [hm]
    show _ = (partOk p l && true)
    rw [Bool.and_true]
    rw [← Bool.and_true (partOk p l), ← fin_k p l true]
    have hz : mach p l.length [] = (if l.length = 0 then false else true) := by
      show decide (0 < l.length) = _
      by_cases h0 : l.length = 0
      · rw [if_pos h0, decide_eq_false (by omega)]
      · rw [if_neg h0, decide_eq_true (by omega)]
    rw [hz]
  | k + 1, l, p, h => by
    have hne : Lib.index l [45] ≠ -1 := fun e => by rw [Lib.count_miss e] at h; omega
    obtain ⟨i, hi⟩ : ∃ i : Nat, Lib.index l [45] = i := ⟨(Lib.index l [45]).toNat, by have := Lib.index_ge l [45]; omega⟩
    have hc := Lib.count_hit (by simp) hi
    have hb := hi
    rw [Lib.index_one] at hb
    obtain ⟨h1, h2⟩ := Lib.indexByte_some hb
    have hil : i < l.length := (List.getElem?_eq_some_iff.1 h1).1
    have hcut : l = l.take i ++ 45 :: l.drop (i + 1) := by
      conv => lhs; rw [← List.take_append_drop i l]
      rw [List.drop_eq_getElem_cons hil, (List.getElem?_eq_some_iff.1 h1).2]
    have hna : ∀ c ∈ l.take i, c ≠ 45 := by
      intro c hc e
      obtain ⟨j, hj, hjc⟩ := List.getElem_of_mem hc
      rw [List.length_take] at hj
      refine h2 j (by omega) ?_
      rw [List.getElem_take] at hjc
      rw [List.getElem?_eq_getElem (by omega), hjc, e]
    have ih := mach_parts k (l.drop (i + 1)) (p + 1) (by simp at hc; omega)
    have hne2 : ¬ (Lib.index l [45] == -1) = true := fun e => hne (beq_iff_eq.1 e)
    have hs : Lib.splitK [45] 0 (k + 1) l = l.take i :: Lib.splitK [45] 0 k (l.drop (i + 1)) := by
      show (if (Lib.index l [45] == -1) = true then _ else _) = _
      rw [if_neg hne2, hi]
      simp
    rw [hs]
    show mach p 0 l = (partOk p (l.take i) && partsOk (p + 1) _)
    rw [← ih]
    conv => lhs; rw [hcut]
    rw [mach_part p _ (l.take i) 0 hna (by omega), Nat.zero_add]
    have hml : mach p (l.take i).length (45 :: l.drop (i + 1)) = if (l.take i).length = 0 then false else mach (p + 1) 0 (l.drop (i + 1)) := by
      show (if (45 : UInt8) = 45 then _ else _) = _
      rw [if_pos rfl]
    rw [hml, fin_k]
end Go.Proofs.Ytehechbiajbobaa
