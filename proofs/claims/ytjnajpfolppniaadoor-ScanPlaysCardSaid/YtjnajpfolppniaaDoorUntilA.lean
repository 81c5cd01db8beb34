/-
  THE SCANNER's 'Until': the signs ahead of one.
-/
import Derived.Test.YtjnajpfolppniaaDoorKit2
namespace Go.Proofs.YtjnajpfolppniaaDoor
open Go.RowKit
set_option linter.unusedVariables false

/-- The place of the first x, or -1. -/
def idxFrom (x : Int) : Nat → List Int → Int
  | _, [] => -1
  | i, n :: l => if n = x then i else idxFrom x (i + 1) l
def idx (x : Int) (l : List Int) : Int := idxFrom x 0 l
theorem idxFrom_drop (x : Int) (l : List Int) (i : Nat) (n : Int) (h : l[i]? = some n) : idxFrom x i (l.drop i) = if n = x then (i : Int) else idxFrom x (i + 1) (l.drop (i + 1)) := by
  rw [drop_cons l i n h]
  rfl

set_option maxHeartbeats 4000000 in
theorem index_any (l : List Int) (x : Int) (hl : l.length ≤ 4294967296) (ao : Option Addr) (g o c : Nat) (w : World) (hao : 0 < l.length → ao = some ⟨g, o, none⟩)
    (hc : ∀ (j : Nat) (n : Int), l[j]? = some n → w.cell? ⟨g, o + j, none⟩ = some (.int .i32 n)) :
    Calls Tryd.prog 26 #[.slice ao l.length c, .int .i32 x] w fun e w' => e = .returned (.int .i64 (idx x l)) ∧ w' = w := by
  have HC := Lib.hid hc
  have HO := Lib.hid hao
  clear hc hao
  go_enter Tryd.func26, Tryd.ntmps26
  go_wp2
  go_loop [8] (fun i => ∃ k : Nat, k ≤ l.length ∧ i = .int .i64 k ∧ Hid (idxFrom x k (l.drop k) = idx x l)) (fun i => l.length - (intOf i).toNat)
  case atStart => exact ⟨0, Nat.zero_le _, rfl, Lib.hid rfl⟩
  case round =>
    obtain ⟨k, hk, rfl, HI⟩ := hrel
    by_cases hlt : k < l.length
    · obtain ⟨n, hn⟩ : ∃ n, l[k]? = some n := ⟨_, List.getElem?_eq_getElem hlt⟩
      obtain rfl := HO.out (by omega)
      have hcell := HC.out k n hn
      have HN := Lib.hid hn
      clear hn
      by_cases he : x = n
      · have hB : (x == n) = true := by simpa using he
        have HE := Lib.hid he
        clear he
        go_wp2
        go_ret
        exact ⟨ret_int (by rw [← HI.out, idxFrom_drop x l k n HN.out, if_pos HE.out.symm]), rfl⟩
      · have hB : (x == n) = false := by simpa using he
        have HE := Lib.hid he
        clear he
        go_wp2
        go_round
        case rel => exact ⟨k + 1, by omega, by go_num, Lib.hid (by rw [← HI.out, idxFrom_drop x l k n HN.out, if_neg (fun e => HE.out e.symm)])⟩
        case measure => simp [intOf]; omega
    · have hk2 : k = l.length := by omega
      have HK := Lib.hid hk2
      clear hk2
      go_wp2
      go_ret
      exact ⟨ret_int (by rw [← HI.out, HK.out, List.drop_length]; rfl), rfl⟩
theorem idxFrom_range (x : Int) : ∀ (l : List Int) (i : Nat), idxFrom x i l = -1 ∨ ∃ m : Nat, m < l.length ∧ idxFrom x i l = (i + m : Nat) ∧ l[m]? = some x ∧ x ∉ l.take m
  | [], i => .inl rfl
  | n :: l, i => by
    unfold idxFrom
    by_cases h : n = x
    · rw [if_pos h]; exact .inr ⟨0, by simp, by simp, by simp [h], by simp⟩
    · rw [if_neg h]
      rcases idxFrom_range x l (i + 1) with h1 | ⟨m, h1, h2, h3, h4⟩
      · exact .inl h1
      · refine .inr ⟨m + 1, by simp; omega, by rw [h2]; congr 1; omega, by simpa using h3, ?_⟩
        simp only [List.take_succ_cons, List.mem_cons, not_or]
        exact ⟨fun e => h e.symm, h4⟩
theorem idx_range (x : Int) (l : List Int) : idx x l = -1 ∨ ∃ m : Nat, m < l.length ∧ idx x l = (m : Nat) ∧ l[m]? = some x ∧ x ∉ l.take m := by
  have := idxFrom_range x l 0
  simpa [idx] using this
theorem idx_at {B : Nat} {w : World} {b g n cap : Nat} {sl : List Int} {j : Nat} (h : Sc B w b (.slice (some ⟨g, 0, none⟩) n cap) sl j) (x : Int) (hl : sl.length ≤ 4294967296) (k : Nat) (ao : Option Addr) (c : Nat) (hao : k < sl.length → ao = some ⟨g, k, none⟩) (q : Nat) (hq : q = sl.length - k) :
    ∀ m, Calls Tryd.prog 26 #[.slice ao q c, .int .i32 x] (w.drewN m) fun e w' => e = .returned (.int .i64 (idx x (sl.drop k))) ∧ w' = w.drewN m := by
  intro m
  have := index_any (sl.drop k) x (by simp; omega) ao g k c (w.drewN m) (fun h0 => hao (by simp at h0; omega)) (by
    intro j' n' hn
    rw [List.getElem?_drop] at hn
    have := h.cell (k + j') n' hn
    exact this)
  rw [List.length_drop, ← hq] at this
  exact this
theorem idx_nil (x : Int) (w : World) : ∀ m, Calls Tryd.prog 26 #[.slice none 0 0, .int .i32 x] (w.drewN m) fun e w' => e = .returned (.int .i64 (-1)) ∧ w' = w.drewN m := fun m =>
  index_any [] x (by simp) none 0 0 0 (w.drewN m) (by simp) (by simp)

set_option maxHeartbeats 4000000 in
theorem until_no {B : Nat} {w : World} {b : Nat} {v : Value} {sl : List Int} {k : Nat} (h : Sc B w b v sl k) (hk : k ≤ sl.length) (hl : sl.length ≤ 4294967296) (x : Int) (hx : idx x (sl.drop k) = -1) :
    Calls Tryd.prog 14 #[.pointer (some ⟨b, 0, none⟩), .int .i32 x] w fun e w' => e = .returned (.tuple #[.string ⟨#[]⟩, .bool false]) ∧ Same w w' := by
  have c0 := h.c0
  have c1 := h.c1
  rcases h.row.2 with ⟨rfl, hl0⟩ | ⟨g, cap2, cur, rfl, _, _, hcap, _⟩
  · obtain rfl : k = 0 := by omega
    have cI := idx_nil x w
    clear h hx
    go_enter Tryd.func14, Tryd.ntmps14
    go_wp2
    go_quiet ((go_at_call 26; exact Calls.quiet_of_same (cI _)))
    go_wp2
    go_ret2
    exact ⟨rfl, ⟨rfl, rfl, rfl, rfl⟩⟩
  · have b1 : (0 : Int) ≤ (k : Int) := by omega
    have b2 : (k : Int) ≤ (sl.length : Int) := by omega
    have b3 : (sl.length : Int) ≤ (cap2 : Int) := by omega
    by_cases hck : cap2 = k
    · have hq : 0 = sl.length - k := by omega
      have cI := idx_at h x hl k (some ⟨g, 0, none⟩) 0 (fun h0 => by omega) 0 hq
      have cI2 := idx_at h x hl k (some ⟨g, 0, none⟩) 0 (fun h0 => by omega) (sl.length - k) rfl
      rw [hx] at cI cI2
      obtain rfl : cap2 = k := hck
      clear h hx hq
      go_enter Tryd.func14, Tryd.ntmps14
      go_wp2
      go_quiet ((first | (go_at_call 26; with_reducible exact Calls.quiet_of_same (cI _)) | (go_at_call 26; with_reducible exact Calls.quiet_of_same (cI2 _))))
      go_wp2
      go_ret2
      exact ⟨rfl, ⟨rfl, rfl, rfl, rfl⟩⟩
    · have cI := idx_at h x hl k (some ⟨g, k, none⟩) (cap2 - k) (fun _ => rfl) (sl.length - k) rfl
      rw [hx] at cI
      clear h hx
      go_enter Tryd.func14, Tryd.ntmps14
      go_wp2
      go_quiet ((go_at_call 26; exact Calls.quiet_of_same (cI _)))
      go_wp2
      go_ret2
      exact ⟨rfl, ⟨rfl, rfl, rfl, rfl⟩⟩
theorem sc_drewN {B : Nat} {w : World} {b : Nat} {v : Value} {sl : List Int} {k : Nat} (h : Sc B w b v sl k) (m : Nat) : Sc B (w.drewN m) b v sl k := Same.sc h ⟨rfl, rfl, rfl, rfl⟩
set_option maxHeartbeats 4000000 in
set_option maxRecDepth 100000 in
theorem until_yes {B : Nat} {w : World} {b : Nat} {v : Value} {sl : List Int} {k : Nat} (h : Sc B w b v sl k) (hall : AllS sl) (hl : sl.length ≤ 4294967296) (x : Int) (m : Nat) (hm : k + m < sl.length) (hx : idx x (sl.drop k) = (m : Nat)) :
    Calls Tryd.prog 14 #[.pointer (some ⟨b, 0, none⟩), .int .i32 x] w fun e w' => e = .returned (.tuple #[.string (textOf ((sl.drop k).take m)), .bool true]) ∧ Moves B w b v sl (k + m + 1) w' := by
  obtain ⟨g, cap2, rfl, hcap⟩ := h.shape1 (by omega)
  have c0 := h.c0
  have c1 := h.c1
  have f1 := h.f1
  have b1 : (0 : Int) ≤ (k : Int) := by omega
  have b2 : (k : Int) ≤ (sl.length : Int) := by omega
  have b3 : (sl.length : Int) ≤ (cap2 : Int) := by omega
  have hck : ¬ cap2 = k := by omega
  have cI := idx_at h x hl k (some ⟨g, k, none⟩) (cap2 - k) (fun _ => rfl) (sl.length - k) rfl
  rw [hx] at cI
  have HS := Lib.hid h
  have b4 : (k : Int) + (m : Int) ≤ (cap2 : Int) := by omega
  have b6 : (k : Int) + (m : Int) < (sl.length : Int) := by omega
  clear h hx f1
  go_enter Tryd.func14, Tryd.ntmps14
  go_wp2
  go_quiet ((go_at_call 26; exact Calls.quiet_of_same (cI _)))
  clear cI
  obtain ⟨W, hW⟩ : ∃ W, W = w.drewN nq := ⟨_, rfl⟩
  have hsc : Sc B W b (.slice (some ⟨g, 0, none⟩) sl.length cap2) sl k := by rw [hW]; exact sc_drewN HS.out nq
  have hgr : w.grownBy W (some b) := same_grown (by rw [hW]; exact ⟨rfl, rfl, rfl, rfl⟩) _
  rw [← hW]
  clear hW c0 c1
  have c0 := hsc.c0
  have c1 := hsc.c1
  have f1 := hsc.f1
  have hpl := hsc.place (k + m + 1)
  rw [show ((k + m + 1 : Nat) : Int) = (k : Int) + ((m : Int) + 1) by omega] at hpl
  have cv : (convert 47 9 (.slice (some ⟨g, k, none⟩) m (cap2 - k))).run Tryd.prog (W.setCell ⟨b, 1, none⟩ (.int .i64 ((k : Int) + ((m : Int) + 1)))) = .ok (.string (textOf ((sl.drop k).take m))) (W.setCell ⟨b, 1, none⟩ (.int .i64 ((k : Int) + ((m : Int) + 1)))) := cvt hpl hall k m (cap2 - k) (by omega) 0
  have d0 := hpl.c0
  have HPL := Lib.hid hpl
  have HG := Lib.hid hgr
  clear hsc hpl hgr
  go_wp2
  go_ret2
  exact ⟨rfl, HPL.out, grown_trans HG.out (grown_set W b 1 _)⟩
end Go.Proofs.YtjnajpfolppniaaDoor
