/-
  MERGED (a claim has at most 60 files): QWord.
-/
import Derived.Test.YtpnfjjgihkmjmaaGreatDoorZ32
/-
  THE DOCUMENT's 'Word'.
-/
namespace Go.Proofs.YtpnfjjgihkmjmaaGreatDoor
open Go.RowKit
set_option linter.unusedVariables false
set_option linter.unusedSimpArgs false

def msU (u : Bool) : List Int := if u = true then msB else msL
theorem wms_u (u : Bool) (c : Int) : wms (msU u) c = ((cls c == 1) || ((cls c == 2) || ((c == 45) || (u && (c == 95))))) := by
  unfold wms msU
  rw [Bool.eq_iff_iff]
  cases u
  · simp
  · simp [Or.comm]
/-- The document's signs, wherever they lie; with their capacity. -/
def Lq (W : World) (A : Option Addr) (sl : List Int) (cap : Nat) : Prop :=
  (A = none ∧ sl = [] ∧ cap = 0) ∨ ∃ g, A = some ⟨g, 0, none⟩ ∧ g < W.heap.size ∧ sl.length ≤ cap ∧ ∀ (j : Nat) (x : Int), sl[j]? = some x → W.cell? ⟨g, 0 + j, none⟩ = some (.int .i64 x)
theorem Lq.lv {W : World} {A : Option Addr} {sl : List Int} {cap : Nat} (h : Lq W A sl cap) : Lv W A sl := fun h0 => by
  rcases h with ⟨_, rfl, _⟩ | ⟨g, e, h1, _, h2⟩
  · exact absurd h0 (by simp)
  · exact ⟨g, 0, e, h1, h2⟩
theorem Lq.below {B : Nat} {w w' : World} {A : Option Addr} {sl : List Int} {cap : Nat} (h : Lq w A sl cap) (hb : Below B w w') (hB : w.heap.size ≤ B) : Lq w' A sl cap := by
  rcases h with h | ⟨g, e, h1, hc, h2⟩
  · exact .inl h
  · exact .inr ⟨g, e, Nat.lt_of_lt_of_le h1 hb.size, hc, fun j x hx => (hb.cell (p := ⟨g, 0 + j, none⟩) (Nat.lt_of_lt_of_le h1 hB)).trans (h2 j x hx)⟩
theorem Lq.of {B : Nat} {w : World} {v : Value} {sl : List Int} (h : Ints B w v sl) : ∃ A cap, v = .slice A sl.length cap ∧ Lq w A sl cap := by
  rcases id h.2 with ⟨hv, h0⟩ | ⟨g, cap, cur, hv, _, _, hcap, _⟩
  · have h1 : sl = [] := List.length_eq_zero_iff.1 h0
    subst h1
    exact ⟨none, 0, hv, .inl ⟨rfl, rfl, rfl⟩⟩
  · refine ⟨_, cap, hv, .inr ⟨g, rfl, (World.ownsRow.lt h g (by rw [hv]; rfl)).2, by omega, ?_⟩⟩
    intro j x hx
    subst hv
    have := World.ownsRow.cells h (g := g) rfl j (.int .i64 x) (by simp [intRow, hx])
    rw [addr_add] at this
    rw [Nat.zero_add]
    exact this
def QwPost (W : World) (sl : List Int) (u : Bool) (k : Nat) (e : Ending) (w' : World) : Prop :=
  e = .returned (.tuple #[.string (textOf (wmL (msU u) (sl.drop k))), .int .i64 ((k + (wmL (msU u) (sl.drop k)).length : Nat) : Int)]) ∧ Below W.heap.size W w'
theorem wm_pre (ms l : List Int) (j : Nat) (x : Int) (h : (wmL ms l)[j]? = some x) : l[j]? = some x := by
  obtain ⟨r, hr⟩ : wmL ms l <+: l := List.takeWhile_prefix _
  rw [← hr, List.getElem?_append_left (List.getElem?_eq_some_iff.1 h).1]
  exact h
set_option maxHeartbeats 4000000 in
set_option maxRecDepth 100000 in
theorem qword_nil (W : World) (u : Bool) : Calls Tryz.prog 71 #[.slice none 0 0, .int .i64 0, .bool u] W (QwPost W [] u 0) := by
  have cT : ∀ w, Calls Tryz.prog 73 #[.slice none 0 0] w fun e w' => e = .returned (.string (textOf [])) ∧ Below w.heap.size w w' := fun w => text_any [] allS_nil (by simp) none 0 0 0 w (fun hp => absurd hp (by simp)) (fun j x hx => by simp at hx)
  obtain ⟨z, hz⟩ : ∃ z, z = textOf [] := ⟨_, rfl⟩
  rw [← hz] at cT
  have HZ := Lib.hid hz
  clear hz
  go_enter Tryz.func71, Tryz.ntmps71
  go_wp2
  go_loopg [8] 0 (fun g s8 wr => s8 = .int .i64 0 ∧ W = wr)
  case atStart => exact ⟨rfl, rfl⟩
  case round =>
    obtain ⟨rfl, rfl⟩ := hrel
    have k1 : ¬ ((0 : Int) < ((0 : Nat) : Int)) := by omega
    go_wp2_with (go_at_call 73; (with_reducible refine (cT _).mono ?_); rintro e w1 ⟨rfl, h1⟩)
    go_ret2
    exact ⟨by rw [HZ.out]; rfl, h1⟩
def QWI (w : World) (sl : List Int) (u : Bool) (k q : Nat) (g : Nat) (s8 : Value) (wr : World) : Prop :=
  ∃ p, s8 = .int .i64 (p : Nat) ∧ k ≤ p ∧ p ≤ sl.length ∧ sl.length - p ≤ g ∧ p + (wmL (msU u) (sl.drop p)).length = q ∧ w = wr
set_option maxHeartbeats 8000000 in
set_option maxRecDepth 100000 in
theorem qword_at {sl : List Int} (hall : AllS sl) (u : Bool) (k : Nat) (hk : k ≤ sl.length) (hl : sl.length ≤ 100000) (gc cap : Nat) (w : World) (hgc : gc < w.heap.size) (hcap : sl.length ≤ cap) (hB0 : ∀ (j : Nat) x, sl[j]? = some x → w.cell? ⟨gc, 0 + j, none⟩ = some (.int .i64 x)) :
    Calls Tryz.prog 71 #[.slice (some ⟨gc, 0, none⟩) sl.length cap, .int .i64 k, .bool u] w (QwPost w sl u k) := by
  have HC := Lib.hid hB0
  have HALL := Lib.hid hall
  obtain ⟨wl, hwl⟩ : ∃ l, l = wmL (msU u) (sl.drop k) := ⟨_, rfl⟩
  obtain ⟨q, hq⟩ : ∃ q, q = k + wl.length := ⟨_, rfl⟩
  have hpost : ∀ w' (z : ByteArray), z = textOf wl → Below w.heap.size w w' → QwPost w sl u k (.returned (.tuple #[.string z, .int .i64 (q : Int)])) w' := fun w' z hz hb => ⟨by rw [hz, hq, hwl], hb⟩
  have hq0 : k + (wmL (msU u) (sl.drop k)).length = q := by rw [hq, hwl]
  have hw1 : ∀ (j : Nat) x, wl[j]? = some x → sl[k + j]? = some x := fun j x hx => by
    rw [hwl] at hx
    have := wm_pre _ _ _ _ hx
    rwa [List.getElem?_drop] at this
  have hwa : AllS wl := by rw [hwl]; exact wmL_all (hall.drop k)
  have hwn : wl.length ≤ sl.length - k := by rw [hwl]; have := wmL_le (msU u) (sl.drop k); rwa [List.length_drop] at this
  have HP := Lib.hid hpost
  have HQ0 := Lib.hid hq0
  have HW1 := Lib.hid hw1
  have HWA := Lib.hid hwa
  have HQ := Lib.hid hq
  clear hwl hq hpost hq0 hw1 hwa hB0 hall
  go_enter Tryz.func71, Tryz.ntmps71
  go_wp2
  go_loopg [8] (sl.length - k) (fun g s8 wr => QWI w sl u k q g s8 wr)
  case atStart => exact ⟨k, rfl, Nat.le_refl _, hk, Nat.le_refl _, HQ0.out, rfl⟩
  case round =>
    clear HQ0
    obtain ⟨p, rfl, hkp, hpl, hpg, hpq, rfl⟩ := hrel
    have hend : ∀ (hz : wmL (msU u) (sl.drop p) = []), p = q ∧ (∀ c, Calls Tryz.prog 73 #[.slice (some ⟨gc, k, none⟩) (p - k) c] w fun e w' => e = .returned (.string (textOf wl)) ∧ Below w.heap.size w w') ∧ (cap = k → p = k ∧ Calls Tryz.prog 73 #[.slice (some ⟨gc, 0, none⟩) 0 0] w fun e w' => e = .returned (.string (textOf wl)) ∧ Below w.heap.size w w') := fun hz => by
      rw [hz] at hpq
      have e1 : p = q := by simpa using hpq
      have e2 := HQ.out
      have e3 : wl.length = p - k := by omega
      refine ⟨e1, fun c => ?_, fun hck => ⟨by omega, ?_⟩⟩
      · rw [← e3]
        exact text_any wl HWA.out (by omega) _ gc k c w (fun _ => ⟨rfl, hgc⟩) (fun j x hx => by
          have := HC.out _ _ (HW1.out j x hx)
          rwa [Nat.zero_add] at this)
      · have e4 : wl = [] := List.length_eq_zero_iff.1 (by omega)
        rw [e4]
        exact text_any [] allS_nil (by simp) _ 0 0 0 w (fun hp => absurd hp (by simp)) (fun j x hx => by simp at hx)
    by_cases hpe : p = sl.length
    · have hge : ¬ ((p : Int) < (sl.length : Int)) := by omega
      obtain ⟨e1, cT, cT0⟩ := hend (by rw [hpe, List.drop_length]; rfl)
      have HE1 := Lib.hid e1
      have b1 : (0 : Int) ≤ (k : Int) := by omega
      have b2 : (k : Int) ≤ (p : Int) := by omega
      have b3 : (p : Int) ≤ (cap : Int) := by omega
      have b4 : k ≤ cap := by omega
      clear hend hpq hpg hpe e1
      by_cases hck : cap = k
      · obtain ⟨e2, cTz⟩ := cT0 hck
        clear cT0
        subst e2
        subst hck
        clear cT
        go_wp2_with (first
          | (go_at_call 73; (with_reducible refine (cTz).mono ?_); rintro e w1 ⟨rfl, h1⟩))
        go_ret2
        have z := HP.out _ _ rfl h1
        rw [← HE1.out] at z
        exact z
      · have cTc := cT (cap - k)
        clear cT cT0
        go_wp2_with (first
          | (go_at_call 73; (with_reducible refine (cTc).mono ?_); rintro e w1 ⟨rfl, h1⟩))
        go_ret2
        have z := HP.out _ _ rfl h1
        rw [← HE1.out] at z
        exact z
    · have hplt : (p : Int) < (sl.length : Int) := by omega
      have hp0 : (0 : Int) ≤ (p : Int) := by omega
      obtain ⟨g, rfl⟩ : ∃ g, gk = g + 1 := ⟨gk - 1, by omega⟩
      obtain ⟨c, hx⟩ : ∃ c, sl[p]? = some c := ⟨_, List.getElem?_eq_getElem (by omega)⟩
      have hcell := HC.out p c hx
      rw [Nat.zero_add] at hcell
      have hdr : sl.drop p = c :: sl.drop (p + 1) := drop_cons sl p c hx
      have cC : ∀ W, Calls Tryz.prog 88 #[.int .i64 c] W fun e w' => e = .returned (.int .i64 (cls c)) ∧ W = w' := fun W => refClass_any c W
      have hu := wms_u u c
      by_cases hgo : wms (msU u) c = true
      · have hfin : QWI w sl u k q g (.int .i64 ((p : Int) + 1)) w := by
          rw [hdr] at hpq
          unfold wmL at hpq
          rw [List.takeWhile_cons, if_pos hgo, List.length_cons] at hpq
          exact ⟨p + 1, by go_num, by omega, by omega, by omega, by show p + 1 + (List.takeWhile _ _).length = q; omega, rfl⟩
        have HF := Lib.hid hfin
        rw [hu] at hgo
        clear hend hfin hpq hpg hdr hu hx
        obtain ⟨K, hK⟩ : ∃ K, K = cls c := ⟨_, rfl⟩
        rw [← hK] at cC hgo
        have HK := Lib.hid hK
        clear hK
        by_cases k1 : K = 1
        · subst k1
          clear hgo
          go_wp2_with (go_at_call 88; (with_reducible refine (cC _).mono ?_); rintro e w' ⟨rfl, rfl⟩)
          go_roundg g
          case measure => exact Nat.lt_succ_self g
          case rel => exact HF.out
        by_cases k2 : K = 2
        · subst k2
          clear hgo k1
          go_wp2_with (go_at_call 88; (with_reducible refine (cC _).mono ?_); rintro e w' ⟨rfl, rfl⟩)
          go_roundg g
          case measure => exact Nat.lt_succ_self g
          case rel => exact HF.out
        have k1' : (K == 1) = false := by simpa using k1
        have k2' : (K == 2) = false := by simpa using k2
        rw [k1', k2', Bool.false_or, Bool.false_or] at hgo
        by_cases k3 : c = 45
        · subst k3
          clear hgo
          go_wp2_with (go_at_call 88; (with_reducible refine (cC _).mono ?_); rintro e w' ⟨rfl, rfl⟩)
          go_roundg g
          case measure => exact Nat.lt_succ_self g
          case rel => exact HF.out
        have k3' : (c == 45) = false := by simpa using k3
        rw [k3', Bool.false_or, Bool.and_eq_true] at hgo
        obtain ⟨rfl, k4⟩ := hgo
        have k4 : c = 95 := by simpa using k4
        subst k4
        clear k3 k3'
        go_wp2_with (go_at_call 88; (with_reducible refine (cC _).mono ?_); rintro e w' ⟨rfl, rfl⟩)
        go_roundg g
        case measure => exact Nat.lt_succ_self g
        case rel => exact HF.out
      · have hz : wmL (msU u) (sl.drop p) = [] := by
          rw [hdr]
          unfold wmL
          rw [List.takeWhile_cons, if_neg hgo]
        obtain ⟨e1, cT, cT0⟩ := hend hz
        have HE1 := Lib.hid e1
        have hgo : wms (msU u) c = false := by simpa using hgo
        rw [hu] at hgo
        obtain ⟨K, hK⟩ : ∃ K, K = cls c := ⟨_, rfl⟩
        rw [← hK] at cC hgo
        have HK := Lib.hid hK
        rw [Bool.or_eq_false_iff, Bool.or_eq_false_iff, Bool.or_eq_false_iff] at hgo
        obtain ⟨k1', k2', k3', k4⟩ := hgo
        have k1 : ¬ K = 1 := by simpa using k1'
        have k2 : ¬ K = 2 := by simpa using k2'
        have k3 : ¬ c = 45 := by simpa using k3'
        have b1 : (0 : Int) ≤ (k : Int) := by omega
        have b2 : (k : Int) ≤ (p : Int) := by omega
        have b3 : (p : Int) ≤ (cap : Int) := by omega
        have b4 : k ≤ cap := by omega
        have hck : ¬ cap = k := by omega
        have cTc := cT (cap - k)
        clear hend hpq hpg hdr hu hx hK hz cT cT0 e1
        cases u
        · clear k4
          go_wp2_with (first
            | (go_at_call 88; (with_reducible refine (cC _).mono ?_); rintro e w' ⟨rfl, rfl⟩)
            | (go_at_call 73; (with_reducible refine (cTc).mono ?_); rintro e w1 ⟨rfl, h1⟩))
          go_ret2
          have z := HP.out _ _ rfl h1
          rw [← HE1.out] at z
          exact z
        · have k4' : (c == 95) = false := by simpa using k4
          have k5 : ¬ c = 95 := by simpa using k4'
          clear k4
          go_wp2_with (first
            | (go_at_call 88; (with_reducible refine (cC _).mono ?_); rintro e w' ⟨rfl, rfl⟩)
            | (go_at_call 73; (with_reducible refine (cTc).mono ?_); rintro e w1 ⟨rfl, h1⟩))
          go_ret2
          have z := HP.out _ _ rfl h1
          rw [← HE1.out] at z
          exact z
theorem qword_any {W : World} {A : Option Addr} {sl : List Int} {cap : Nat} (h : Lq W A sl cap) (hall : AllS sl) (u : Bool) (k : Nat) (hk : k ≤ sl.length) (hl : sl.length ≤ 100000) :
    Calls Tryz.prog 71 #[.slice A sl.length cap, .int .i64 k, .bool u] W (QwPost W sl u k) := by
  rcases h with ⟨rfl, rfl, rfl⟩ | ⟨g, rfl, h1, hc, h2⟩
  · obtain rfl : k = 0 := by simpa using hk
    exact qword_nil W u
  · exact qword_at hall u k hk hl g cap W h1 hc h2
end Go.Proofs.YtpnfjjgihkmjmaaGreatDoor
