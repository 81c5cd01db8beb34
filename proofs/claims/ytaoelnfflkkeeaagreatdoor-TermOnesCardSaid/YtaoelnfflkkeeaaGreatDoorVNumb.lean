/-
  'isNumber': whether a text is one of an integer; and the laws' words of bytes.
-/
import Derived.Test.YtaoelnfflkkeeaaGreatDoorVParse
import Derived.Test.YtaoelnfflkkeeaaGreatDoorVTru
import Derived.Lib.OthersKept
import Derived.Lib.DecodeN
import Derived.Lib.Strings
namespace Go.Proofs.YtaoelnfflkkeeaaGreatDoor
open Go.RowKit
set_option linter.unusedVariables false

theorem decN_high (n b0 b1 b2 b3 : Nat) (h : 128 ≤ b0) : 128 ≤ (Lib.decodeN n b0 b1 b2 b3).1 := by
  unfold Lib.decodeN
  repeat' split
  all_goals first | omega | (simp only; omega)
theorem dec_high (s : ByteArray) (i : Nat) (h : 128 ≤ (s.get! i).toNat) : 128 ≤ (Utf8.decode s i).1 := by
  rw [Lib.decode_at]
  exact decN_high _ _ _ _ _ h
def NbI (w : World) (t : ByteArray) (g : Nat) (wr : World) : Prop :=
  ∃ k, k + g = t.size ∧ (t.data.toList.take k).all isD = true ∧ wr.heap[w.heap.size]? = some (.stringIter t k) ∧ Below w.heap.size w wr
theorem body_cons (c : UInt8) (r : List UInt8) : body (c :: r) = if c.toNat = 43 ∨ c.toNat = 45 then r else c :: r := rfl
theorem ret_b' {a b : Bool} (h : a = b) : Ending.returned (.bool a) = .returned (.bool b) := by rw [h]
theorem get_bang (t : ByteArray) (k : Nat) (h : k < t.size) : t.get! k = t[k]'h := by
  simp [ByteArray.get!, ByteArray.getElem_eq_getElem_data, h]
theorem str_ne (t : ByteArray) : (!t.toList.isEmpty) = !t.data.toList.isEmpty := by rw [ByteArray.toList_eq]
set_option maxHeartbeats 8000000 in
theorem isnumber_any (s : ByteArray) (hs : s.size ≤ 1000000) (w : World) : Calls Tryz.prog 37 #[.string s] w fun e w' => e = .returned (.bool (isNum s.data.toList)) ∧ Below w.heap.size w w' := by
  have hsz : s.size = s.data.toList.length := Lib.size_eq s
  cases hl : s.data.toList with
  | nil =>
    have hse : (!s.toList.isEmpty) = false := by rw [ByteArray.toList_eq, hl]; rfl
    have hse2 : s.toList = [] := by rw [ByteArray.toList_eq, hl]
    have HT : Hid (s.data.toList = body s.data.toList) := Lib.hid (by rw [hl]; rfl)
    rw [← hl]
    clear hsz hl
    go_enter Tryz.func37, Tryz.ntmps37
    go_wp2
    clear hse hse2
    go_loopg [] s.size (fun g wr => NbI w s g wr)
    case atStart => exact ⟨0, by omega, by simp, World.iter_heap _ _ _, (Below.refl _ _).alloc (Nat.le_refl _) _⟩
    case round =>
      obtain ⟨k, hkg, hall, hit, hbw⟩ := hrel
      have HALL := Lib.hid hall
      have HBW := Lib.hid hbw
      have hbs := hbw.size
      clear hall hbw
      cases gk with
      | zero =>
        have hnext := fun ty => Lib.run_next_end_at (P := Tryz.prog) wr w.heap.size s k ty hit (by omega)
        have hres : isNum s.data.toList = !s.data.toList.isEmpty := by
          unfold isNum
          rw [← HT.out]
          have h1 := HALL.out
          rw [List.take_of_length_le (by rw [← Lib.size_eq]; omega)] at h1
          rw [h1, Bool.and_true]
        have HR := Lib.hid hres
        clear hres hit
        go_wp2
        go_ret
        exact ⟨ret_b' (by rw [HR.out]; exact (str_ne s)), HBW.out⟩
      | succ g =>
        have hk : k < s.size := by omega
        obtain ⟨c, hc⟩ : ∃ c, s.data.toList[k]? = some c := ⟨_, List.getElem?_eq_getElem (by rw [← Lib.size_eq]; exact hk)⟩
        have hcg : s[k]'hk = c := by
          have := (List.getElem?_eq_some_iff.1 hc).2
          rw [← this]; rfl
        by_cases hd : isD c = true
        · have hcd : 48 ≤ c.toNat ∧ c.toNat ≤ 57 := of_decide_eq_true hd
          have hnext := fun ty => Lib.run_next_ascii_at (P := Tryz.prog) wr w.heap.size s k ty hit hk (by rw [hcg]; omega)
          rw [hcg] at hnext
          obtain ⟨W, hW⟩ : ∃ W, W = wr.iterAt w.heap.size s (k + 1) := ⟨_, rfl⟩
          rw [← hW] at hnext
          have hfin : NbI w s g W := by
            refine ⟨k + 1, by omega, ?_, by rw [hW]; exact Lib.iterAt_heap _ _ _ _ _ hit, by rw [hW]; exact Lib.below_iterAt HBW.out (by omega) _ _⟩
            rw [List.take_add_one, hc, List.all_append, HALL.out]
            simp [hd]
          have HF := Lib.hid hfin
          obtain ⟨x, hx⟩ : ∃ x : Int, x = (c.toNat : Int) := ⟨_, rfl⟩
          rw [← hx] at hnext
          have hx1 : ¬ x < 48 := by omega
          have hx2 : ¬ 57 < x := by omega
          clear hfin hd hcd hcg hc hit hW hx HALL hkg
          go_wp2
          go_roundg g
          case measure => omega
          case rel => exact HF.out
        · have hres : isNum s.data.toList = false := by
            unfold isNum
            rw [← HT.out, Bool.and_eq_false_iff]
            right
            rw [List.all_eq_false]
            exact ⟨c, List.mem_of_getElem? hc, hd⟩
          have HR := Lib.hid hres
          have hcn : ¬ (48 ≤ c.toNat ∧ c.toNat ≤ 57) := fun h => hd (decide_eq_true h)
          obtain ⟨x, W, hnext, hx, hbW⟩ : ∃ (x : Int) (W : World), (∀ ty, (Instr.next (.pointer (some ⟨w.heap.size, 0, none⟩)) true ty).run Tryz.prog wr = .ok (.tuple #[.bool true, .int .i64 k, .int .i32 x]) W) ∧ (x < 48 ∨ 57 < x) ∧ Below w.heap.size w W := by
            by_cases h8 : c.toNat < 128
            · have hnext := fun ty => Lib.run_next_ascii_at (P := Tryz.prog) wr w.heap.size s k ty hit hk (by rw [hcg]; omega)
              rw [hcg] at hnext
              exact ⟨_, _, hnext, by omega, Lib.below_iterAt HBW.out (by omega) _ _⟩
            · have hnext := fun ty => Lib.run_next_any_at (P := Tryz.prog) wr w.heap.size s k ty hit hk
              have hhi := dec_high s k (by rw [show s.get! k = c by rw [← hcg]; exact get_bang s k hk]; omega)
              exact ⟨_, _, hnext, by omega, Lib.below_iterAt HBW.out (by omega) _ _⟩
          have HBW2 := Lib.hid hbW
          clear hres hd hcn hcg hc hit hbW HALL hkg
          rcases hx with hx | hx
          · go_wp2
            go_ret
            exact ⟨ret_b' HR.out.symm, HBW2.out⟩
          · have hx2 : ¬ x < 48 := by omega
            go_wp2
            go_ret
            exact ⟨ret_b' HR.out.symm, HBW2.out⟩
  | cons c r =>
    have h0 : 0 < s.size := by rw [hsz, hl]; simp
    have hse : (!s.toList.isEmpty) = true := by rw [ByteArray.toList_eq, hl]; rfl
    have hse2 : ¬ s.toList = [] := by rw [ByteArray.toList_eq, hl]; simp
    have hc0 : s[0]'h0 = c := by
      have : s.data.toList[0]? = some c := by rw [hl]; rfl
      exact (List.getElem?_eq_some_iff.1 this).2
    obtain ⟨x, hx⟩ : ∃ x : Int, x = (c.toNat : Int) := ⟨_, rfl⟩
    have hcx : ((s[0]'h0).toNat : Int) = x := by rw [hc0, hx]
    have hsg : (x = 43 ∨ x = 45) → (s.extract 1 s.size).data.toList = body s.data.toList := by
      intro h
      rw [Lib.extract_data, hl, body_cons, if_pos (by omega)]
      simp [hsz, hl]
    have hns : ¬ (x = 43 ∨ x = 45) → s.data.toList = body s.data.toList := by
      intro h
      rw [hl, body_cons, if_neg (by omega)]
    rw [← hl]
    by_cases h43 : x = 43
    · have g1 : (x == 43) = true := by simpa using h43
      have HT := Lib.hid (hsg (.inl h43))
      clear hl hsz hc0 hx h43 hsg hns
      go_enter Tryz.func37, Tryz.ntmps37
      go_wp2
      obtain ⟨t, ht⟩ : ∃ t, t = s.extract 1 s.size := ⟨_, rfl⟩
      rw [← ht] at HT ⊢
      clear ht
      go_loopg [] t.size (fun g wr => NbI w t g wr)
      case atStart => exact ⟨0, by omega, by simp, World.iter_heap _ _ _, (Below.refl _ _).alloc (Nat.le_refl _) _⟩
      case round =>
        obtain ⟨k, hkg, hall, hit, hbw⟩ := hrel
        have HALL := Lib.hid hall
        have HBW := Lib.hid hbw
        have hbs := hbw.size
        clear hall hbw
        cases gk with
        | zero =>
          have hnext := fun ty => Lib.run_next_end_at (P := Tryz.prog) wr w.heap.size t k ty hit (by omega)
          have hres : isNum s.data.toList = !t.data.toList.isEmpty := by
            unfold isNum
            rw [← HT.out]
            have h1 := HALL.out
            rw [List.take_of_length_le (by rw [← Lib.size_eq]; omega)] at h1
            rw [h1, Bool.and_true]
          have HR := Lib.hid hres
          clear hres hit
          go_wp2
          go_ret
          exact ⟨ret_b' (by rw [HR.out]; exact (str_ne t)), HBW.out⟩
        | succ g =>
          have hk : k < t.size := by omega
          obtain ⟨c, hc⟩ : ∃ c, t.data.toList[k]? = some c := ⟨_, List.getElem?_eq_getElem (by rw [← Lib.size_eq]; exact hk)⟩
          have hcg : t[k]'hk = c := by
            have := (List.getElem?_eq_some_iff.1 hc).2
            rw [← this]; rfl
          by_cases hd : isD c = true
          · have hcd : 48 ≤ c.toNat ∧ c.toNat ≤ 57 := of_decide_eq_true hd
            have hnext := fun ty => Lib.run_next_ascii_at (P := Tryz.prog) wr w.heap.size t k ty hit hk (by rw [hcg]; omega)
            rw [hcg] at hnext
            obtain ⟨W, hW⟩ : ∃ W, W = wr.iterAt w.heap.size t (k + 1) := ⟨_, rfl⟩
            rw [← hW] at hnext
            have hfin : NbI w t g W := by
              refine ⟨k + 1, by omega, ?_, by rw [hW]; exact Lib.iterAt_heap _ _ _ _ _ hit, by rw [hW]; exact Lib.below_iterAt HBW.out (by omega) _ _⟩
              rw [List.take_add_one, hc, List.all_append, HALL.out]
              simp [hd]
            have HF := Lib.hid hfin
            obtain ⟨x, hx⟩ : ∃ x : Int, x = (c.toNat : Int) := ⟨_, rfl⟩
            rw [← hx] at hnext
            have hx1 : ¬ x < 48 := by omega
            have hx2 : ¬ 57 < x := by omega
            clear hfin hd hcd hcg hc hit hW hx HALL hkg
            go_wp2
            go_roundg g
            case measure => omega
            case rel => exact HF.out
          · have hres : isNum s.data.toList = false := by
              unfold isNum
              rw [← HT.out, Bool.and_eq_false_iff]
              right
              rw [List.all_eq_false]
              exact ⟨c, List.mem_of_getElem? hc, hd⟩
            have HR := Lib.hid hres
            have hcn : ¬ (48 ≤ c.toNat ∧ c.toNat ≤ 57) := fun h => hd (decide_eq_true h)
            obtain ⟨x, W, hnext, hx, hbW⟩ : ∃ (x : Int) (W : World), (∀ ty, (Instr.next (.pointer (some ⟨w.heap.size, 0, none⟩)) true ty).run Tryz.prog wr = .ok (.tuple #[.bool true, .int .i64 k, .int .i32 x]) W) ∧ (x < 48 ∨ 57 < x) ∧ Below w.heap.size w W := by
              by_cases h8 : c.toNat < 128
              · have hnext := fun ty => Lib.run_next_ascii_at (P := Tryz.prog) wr w.heap.size t k ty hit hk (by rw [hcg]; omega)
                rw [hcg] at hnext
                exact ⟨_, _, hnext, by omega, Lib.below_iterAt HBW.out (by omega) _ _⟩
              · have hnext := fun ty => Lib.run_next_any_at (P := Tryz.prog) wr w.heap.size t k ty hit hk
                have hhi := dec_high t k (by rw [show t.get! k = c by rw [← hcg]; exact get_bang t k hk]; omega)
                exact ⟨_, _, hnext, by omega, Lib.below_iterAt HBW.out (by omega) _ _⟩
            have HBW2 := Lib.hid hbW
            clear hres hd hcn hcg hc hit hbW HALL hkg
            rcases hx with hx | hx
            · go_wp2
              go_ret
              exact ⟨ret_b' HR.out.symm, HBW2.out⟩
            · have hx2 : ¬ x < 48 := by omega
              go_wp2
              go_ret
              exact ⟨ret_b' HR.out.symm, HBW2.out⟩
    · have g1 : (x == 43) = false := by simpa using h43
      by_cases h45 : x = 45
      · have g2 : (x == 45) = true := by simpa using h45
        have HT := Lib.hid (hsg (.inr h45))
        clear hl hsz hc0 hx h43 h45 hsg hns
        go_enter Tryz.func37, Tryz.ntmps37
        go_wp2
        obtain ⟨t, ht⟩ : ∃ t, t = s.extract 1 s.size := ⟨_, rfl⟩
        rw [← ht] at HT ⊢
        clear ht
        go_loopg [] t.size (fun g wr => NbI w t g wr)
        case atStart => exact ⟨0, by omega, by simp, World.iter_heap _ _ _, (Below.refl _ _).alloc (Nat.le_refl _) _⟩
        case round =>
          obtain ⟨k, hkg, hall, hit, hbw⟩ := hrel
          have HALL := Lib.hid hall
          have HBW := Lib.hid hbw
          have hbs := hbw.size
          clear hall hbw
          cases gk with
          | zero =>
            have hnext := fun ty => Lib.run_next_end_at (P := Tryz.prog) wr w.heap.size t k ty hit (by omega)
            have hres : isNum s.data.toList = !t.data.toList.isEmpty := by
              unfold isNum
              rw [← HT.out]
              have h1 := HALL.out
              rw [List.take_of_length_le (by rw [← Lib.size_eq]; omega)] at h1
              rw [h1, Bool.and_true]
            have HR := Lib.hid hres
            clear hres hit
            go_wp2
            go_ret
            exact ⟨ret_b' (by rw [HR.out]; exact (str_ne t)), HBW.out⟩
          | succ g =>
            have hk : k < t.size := by omega
            obtain ⟨c, hc⟩ : ∃ c, t.data.toList[k]? = some c := ⟨_, List.getElem?_eq_getElem (by rw [← Lib.size_eq]; exact hk)⟩
            have hcg : t[k]'hk = c := by
              have := (List.getElem?_eq_some_iff.1 hc).2
              rw [← this]; rfl
            by_cases hd : isD c = true
            · have hcd : 48 ≤ c.toNat ∧ c.toNat ≤ 57 := of_decide_eq_true hd
              have hnext := fun ty => Lib.run_next_ascii_at (P := Tryz.prog) wr w.heap.size t k ty hit hk (by rw [hcg]; omega)
              rw [hcg] at hnext
              obtain ⟨W, hW⟩ : ∃ W, W = wr.iterAt w.heap.size t (k + 1) := ⟨_, rfl⟩
              rw [← hW] at hnext
              have hfin : NbI w t g W := by
                refine ⟨k + 1, by omega, ?_, by rw [hW]; exact Lib.iterAt_heap _ _ _ _ _ hit, by rw [hW]; exact Lib.below_iterAt HBW.out (by omega) _ _⟩
                rw [List.take_add_one, hc, List.all_append, HALL.out]
                simp [hd]
              have HF := Lib.hid hfin
              obtain ⟨x, hx⟩ : ∃ x : Int, x = (c.toNat : Int) := ⟨_, rfl⟩
              rw [← hx] at hnext
              have hx1 : ¬ x < 48 := by omega
              have hx2 : ¬ 57 < x := by omega
              clear hfin hd hcd hcg hc hit hW hx HALL hkg
              go_wp2
              go_roundg g
              case measure => omega
              case rel => exact HF.out
            · have hres : isNum s.data.toList = false := by
                unfold isNum
                rw [← HT.out, Bool.and_eq_false_iff]
                right
                rw [List.all_eq_false]
                exact ⟨c, List.mem_of_getElem? hc, hd⟩
              have HR := Lib.hid hres
              have hcn : ¬ (48 ≤ c.toNat ∧ c.toNat ≤ 57) := fun h => hd (decide_eq_true h)
              obtain ⟨x, W, hnext, hx, hbW⟩ : ∃ (x : Int) (W : World), (∀ ty, (Instr.next (.pointer (some ⟨w.heap.size, 0, none⟩)) true ty).run Tryz.prog wr = .ok (.tuple #[.bool true, .int .i64 k, .int .i32 x]) W) ∧ (x < 48 ∨ 57 < x) ∧ Below w.heap.size w W := by
                by_cases h8 : c.toNat < 128
                · have hnext := fun ty => Lib.run_next_ascii_at (P := Tryz.prog) wr w.heap.size t k ty hit hk (by rw [hcg]; omega)
                  rw [hcg] at hnext
                  exact ⟨_, _, hnext, by omega, Lib.below_iterAt HBW.out (by omega) _ _⟩
                · have hnext := fun ty => Lib.run_next_any_at (P := Tryz.prog) wr w.heap.size t k ty hit hk
                  have hhi := dec_high t k (by rw [show t.get! k = c by rw [← hcg]; exact get_bang t k hk]; omega)
                  exact ⟨_, _, hnext, by omega, Lib.below_iterAt HBW.out (by omega) _ _⟩
              have HBW2 := Lib.hid hbW
              clear hres hd hcn hcg hc hit hbW HALL hkg
              rcases hx with hx | hx
              · go_wp2
                go_ret
                exact ⟨ret_b' HR.out.symm, HBW2.out⟩
              · have hx2 : ¬ x < 48 := by omega
                go_wp2
                go_ret
                exact ⟨ret_b' HR.out.symm, HBW2.out⟩
      · have g2 : (x == 45) = false := by simpa using h45
        have HT := Lib.hid (hns (by omega))
        clear hl hsz hc0 hx h43 h45 hsg hns
        go_enter Tryz.func37, Tryz.ntmps37
        go_wp2
        clear hse hse2
        go_loopg [] s.size (fun g wr => NbI w s g wr)
        case atStart => exact ⟨0, by omega, by simp, World.iter_heap _ _ _, (Below.refl _ _).alloc (Nat.le_refl _) _⟩
        case round =>
          obtain ⟨k, hkg, hall, hit, hbw⟩ := hrel
          have HALL := Lib.hid hall
          have HBW := Lib.hid hbw
          have hbs := hbw.size
          clear hall hbw
          cases gk with
          | zero =>
            have hnext := fun ty => Lib.run_next_end_at (P := Tryz.prog) wr w.heap.size s k ty hit (by omega)
            have hres : isNum s.data.toList = !s.data.toList.isEmpty := by
              unfold isNum
              rw [← HT.out]
              have h1 := HALL.out
              rw [List.take_of_length_le (by rw [← Lib.size_eq]; omega)] at h1
              rw [h1, Bool.and_true]
            have HR := Lib.hid hres
            clear hres hit
            go_wp2
            go_ret
            exact ⟨ret_b' (by rw [HR.out]; exact (str_ne s)), HBW.out⟩
          | succ g =>
            have hk : k < s.size := by omega
            obtain ⟨c, hc⟩ : ∃ c, s.data.toList[k]? = some c := ⟨_, List.getElem?_eq_getElem (by rw [← Lib.size_eq]; exact hk)⟩
            have hcg : s[k]'hk = c := by
              have := (List.getElem?_eq_some_iff.1 hc).2
              rw [← this]; rfl
            by_cases hd : isD c = true
            · have hcd : 48 ≤ c.toNat ∧ c.toNat ≤ 57 := of_decide_eq_true hd
              have hnext := fun ty => Lib.run_next_ascii_at (P := Tryz.prog) wr w.heap.size s k ty hit hk (by rw [hcg]; omega)
              rw [hcg] at hnext
              obtain ⟨W, hW⟩ : ∃ W, W = wr.iterAt w.heap.size s (k + 1) := ⟨_, rfl⟩
              rw [← hW] at hnext
              have hfin : NbI w s g W := by
                refine ⟨k + 1, by omega, ?_, by rw [hW]; exact Lib.iterAt_heap _ _ _ _ _ hit, by rw [hW]; exact Lib.below_iterAt HBW.out (by omega) _ _⟩
                rw [List.take_add_one, hc, List.all_append, HALL.out]
                simp [hd]
              have HF := Lib.hid hfin
              obtain ⟨x, hx⟩ : ∃ x : Int, x = (c.toNat : Int) := ⟨_, rfl⟩
              rw [← hx] at hnext
              have hx1 : ¬ x < 48 := by omega
              have hx2 : ¬ 57 < x := by omega
              clear hfin hd hcd hcg hc hit hW hx HALL hkg
              go_wp2
              go_roundg g
              case measure => omega
              case rel => exact HF.out
            · have hres : isNum s.data.toList = false := by
                unfold isNum
                rw [← HT.out, Bool.and_eq_false_iff]
                right
                rw [List.all_eq_false]
                exact ⟨c, List.mem_of_getElem? hc, hd⟩
              have HR := Lib.hid hres
              have hcn : ¬ (48 ≤ c.toNat ∧ c.toNat ≤ 57) := fun h => hd (decide_eq_true h)
              obtain ⟨x, W, hnext, hx, hbW⟩ : ∃ (x : Int) (W : World), (∀ ty, (Instr.next (.pointer (some ⟨w.heap.size, 0, none⟩)) true ty).run Tryz.prog wr = .ok (.tuple #[.bool true, .int .i64 k, .int .i32 x]) W) ∧ (x < 48 ∨ 57 < x) ∧ Below w.heap.size w W := by
                by_cases h8 : c.toNat < 128
                · have hnext := fun ty => Lib.run_next_ascii_at (P := Tryz.prog) wr w.heap.size s k ty hit hk (by rw [hcg]; omega)
                  rw [hcg] at hnext
                  exact ⟨_, _, hnext, by omega, Lib.below_iterAt HBW.out (by omega) _ _⟩
                · have hnext := fun ty => Lib.run_next_any_at (P := Tryz.prog) wr w.heap.size s k ty hit hk
                  have hhi := dec_high s k (by rw [show s.get! k = c by rw [← hcg]; exact get_bang s k hk]; omega)
                  exact ⟨_, _, hnext, by omega, Lib.below_iterAt HBW.out (by omega) _ _⟩
              have HBW2 := Lib.hid hbW
              clear hres hd hcn hcg hc hit hbW HALL hkg
              rcases hx with hx | hx
              · go_wp2
                go_ret
                exact ⟨ret_b' HR.out.symm, HBW2.out⟩
              · have hx2 : ¬ x < 48 := by omega
                go_wp2
                go_ret
                exact ⟨ret_b' HR.out.symm, HBW2.out⟩
end Go.Proofs.YtaoelnfflkkeeaaGreatDoor
