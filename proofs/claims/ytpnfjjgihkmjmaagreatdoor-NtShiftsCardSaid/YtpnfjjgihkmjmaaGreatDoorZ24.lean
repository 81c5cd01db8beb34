/-
  MERGED (a claim has at most 60 files): NParse.
-/
import Derived.Test.YtpnfjjgihkmjmaaGreatDoorZ20
/-
  'Parse' (package nt), whatever the bytes.
-/
namespace Go.Proofs.YtpnfjjgihkmjmaaGreatDoor
open Go.RowKit
set_option linter.unusedVariables false
set_option linter.unusedSimpArgs false

def PaPost (w : World) (r : List (List Tm) × Nat × Int) (e : Ending) (w' : World) : Prop :=
  ∃ v, e = .returned (.tuple #[v, .int .i64 r.2.1, .int .i64 r.2.2]) ∧ TrsV w.heap.size w' v r.1 ∧ Below w.heap.size w w'
def PaI (w : World) (b : Nat) (v : Value) (sl : List Int) (r : List (List Tm) × Nat × Int) (g : Nat) (s8 : Value) (wr : World) : Prop :=
  ∃ (k : Nat) (acc : List (List Tm)) (A : Option Addr) (c : Nat), Hid (r = prsC sl g k acc) ∧ k ≤ sl.length ∧ sl.length - k ≤ g ∧ acc.length + g ≤ 100000 ∧ s8 = .slice A acc.length c ∧ Ps w b v sl k (.slice A acc.length c) acc wr
theorem tri3 {N : Nat} {ts : List Tm} (h3 : ts.length = 3) (h : Tri N ts) : ∃ ty0 x0 ty1 x1 ty2 x2, ts.map Tm.val = [.iface ty0 x0, .iface ty1 x1, .iface ty2 x2] := by
  match ts, h3 with
  | [a, b, c], _ =>
    obtain ⟨ty0, x0, e0⟩ := iface_of (h 0 a rfl).1.2
    obtain ⟨ty1, x1, e1⟩ := iface_of (h 1 b rfl).1.2
    obtain ⟨ty2, x2, e2⟩ := iface_of (h 2 c rfl).1.2
    exact ⟨ty0, x0, ty1, x1, ty2, x2, by simp [e0, e1, e2]⟩
set_option maxHeartbeats 16000000 in
set_option maxRecDepth 100000 in
theorem nparse_good (s : ByteArray) (sl : List Int) (hp : Parts s.data.toList sl []) (hs : s.size ≤ 100000) (w : World) (t : TypeId) (fr : Nat × Nat) (htab : w.heap[0]? = some (.cells escCells t fr)) :
    Calls Tryz.prog 7 #[.string s] w (PaPost w (prsC sl sl.length 0 [])) := by
  have hlen : sl.length ≤ 100000 := by
    have h1 := (encL_len sl).1
    have h2 := len_of s _ hp.eq
    simp at h2
    omega
  have cN := new_good s sl hp (by omega) w
  have hall := hp.all
  obtain ⟨i0, hi, hz0, hz1, hz2⟩ := info_parts tripInfo
  obtain ⟨r, hr⟩ : ∃ r, r = prsC sl sl.length 0 [] := ⟨_, rfl⟩
  have HR := Lib.hid hr
  have HALL := Lib.hid hall
  have HTB := Lib.hid htab
  rw [← hr]
  clear hr hall htab hp hs
  go_enter Tryz.func7, Tryz.ntmps7
  go_wp2_with (go_at_call 34; (with_reducible refine cN.mono ?_); rintro e w1 ⟨b, v, rfl, hsc, hb1⟩)
  have h0 : Ps w b v sl 0 (.slice none 0 0) [] w1 := ⟨hsc, trsV_nil _ _, hb1⟩
  have H0 := Lib.hid h0
  clear hsc hb1 h0 cN
  go_loopg [8] sl.length (fun g s8 wr => PaI w b v sl r g s8 wr)
  case atStart => exact ⟨0, [], none, 0, Lib.hid HR.out, Nat.zero_le _, by omega, by simp; omega, rfl, H0.out⟩
  case round =>
    clear H0
    obtain ⟨k, acc, A, c, HC, hk, hkg, hag, rfl, hP⟩ := hrel
    have cE : ∀ {W : World}, Ps w b v sl k (.slice A acc.length c) acc W → Calls Tryz.prog 35 #[.pointer (some ⟨b, 0, none⟩)] W _ := fun {W} x => ps_end hk (by omega) x
    by_cases hke : k = sl.length
    · have hrr : r = (acc, 0, 0) := by
        rw [HC.out]
        cases gk with
        | zero => rfl
        | succ g => unfold prsC; rw [if_pos hke]
      rw [decide_eq_true hke] at cE
      have HE := Lib.hid hrr
      clear hrr hke HC
      go_wp2_with (go_at_call 35; (with_reducible refine (cE hP).mono ?_); rintro e w2 ⟨rfl, h2⟩)
      (try rw [Exit.noGoto_ret])
      go_ret3
      rw [HE.out]
      exact ⟨_, rfl, h2.2.1, h2.2.2⟩
    · rw [decide_eq_false hke] at cE
      obtain ⟨g, rfl⟩ : ∃ g, gk = g + 1 := ⟨gk - 1, by omega⟩
      have cO : ∀ {W : World}, Ps w b v sl k (.slice A acc.length c) acc W → Calls Tryz.prog 36 #[.pointer (some ⟨b, 0, none⟩)] W _ := fun {W} x => ps_over hk (by omega) x
      have ho := overP_le sl k hk
      have hc := HC.out
      unfold prsC at hc
      rw [if_neg hke] at hc
      obtain ⟨q, hq⟩ : ∃ q, q = (overP sl k).1 := ⟨_, rfl⟩
      rw [← hq] at cO ho hc
      by_cases he : (overP sl k).2 = true
      · rw [if_pos he] at hc
        rw [he] at cO
        have hkq := ho.2.2 he (by omega)
        have hfin : ∀ W, Ps w b v sl q (.slice A acc.length c) acc W → PaI w b v sl r g (.slice A acc.length c) W := fun W x => ⟨q, acc, A, c, Lib.hid hc, ho.1, by omega, by omega, rfl, x⟩
        have HF := Lib.hid hfin
        clear hfin hc he hke HC hkq hq ho
        go_wp2_with (first
          | (go_at_call 35; (with_reducible refine (cE hP).mono ?_); rintro e w2 ⟨rfl, h2⟩; clear hP)
          | (go_at_call 36; (with_reducible refine (cO h2).mono ?_); rintro e w3 ⟨rfl, h3⟩; clear h2))
        go_roundg g
        case measure => exact Nat.lt_succ_self g
        case rel => exact HF.out _ h3
      · have he' : (overP sl k).2 = false := by simpa using he
        rw [if_neg he] at hc
        rw [he'] at cO
        have cT : ∀ {W : World}, Ps w b v sl q (.slice A acc.length c) acc W → Calls Tryz.prog 37 #[.pointer (some ⟨b, 0, none⟩)] W _ := fun {W} x => ps_triple ho.1 hlen HALL.out t fr HTB.out x
        have ht := triP_le sl HALL.out q ho.1
        obtain ⟨p, hp⟩ : ∃ p, p = (triP sl q).2.1 := ⟨_, rfl⟩
        rw [← hp] at cT hc ht
        cases hu : (triP sl q).1 with
        | none =>
          have hcode := triP_code HALL.out ho.1 hu
          rw [hu] at cT hc
          dsimp only at cT hc
          obtain ⟨code, hcd⟩ : ∃ c, c = (triP sl q).2.2 := ⟨_, rfl⟩
          rw [← hcd] at cT hc hcode
          have hcb : (code != 0) = true := by rw [bne_iff_ne]; exact hcode
          have HE := Lib.hid hc
          clear hc he he' hke HC hq ho ht hu hp hcd hcode
          go_wp2_with (first
            | (go_at_call 35; (with_reducible refine (cE hP).mono ?_); rintro e w2 ⟨rfl, h2⟩; clear hP)
            | (go_at_call 36; (with_reducible refine (cO h2).mono ?_); rintro e w3 ⟨rfl, h3⟩; clear h2)
            | (go_at_call 37; (with_reducible refine (cT h3).mono ?_); rintro e w4 ⟨rfl, j, h4⟩; clear h3))
          (try rw [Exit.noGoto_ret])
          go_ret3
          rw [HE.out]
          exact ⟨_, rfl, trsV_nil _ _, (h4.alloc _).2.2⟩
        | some ts =>
          obtain ⟨h3s, htri, hqp⟩ := ht.2.2 ts hu
          obtain ⟨ty0, x0, ty1, x1, ty2, x2, hts⟩ := tri3 h3s htri
          rw [hu] at cT hc
          dsimp only at cT hc
          rw [hts] at cT
          have ho2 := overP_le sl p ht.1
          have HTS := Lib.hid hts
          have hag2 : acc.length + 1 ≤ 100000 := by omega
          obtain ⟨q2, hq2⟩ : ∃ q, q = (overP sl p).1 := ⟨_, rfl⟩
          rw [← hq2] at hc ho2
          have hpl := ht.1
          have cO2 : ∀ {v' : Value} {W : World}, Ps w b v sl p v' (acc ++ [ts]) W → Calls Tryz.prog 36 #[.pointer (some ⟨b, 0, none⟩)] W fun e w' => e = .returned (.bool (overP sl p).2) ∧ Ps w b v sl q2 v' (acc ++ [ts]) w' := fun {v'} {W} x => by rw [hq2]; exact ps_over hpl (by omega) x
          have cPl : ∀ {v' : Value} {W : World}, Ps w b v sl q2 v' (acc ++ [ts]) W → Calls Tryz.prog 38 #[.pointer (some ⟨b, 0, none⟩)] W _ := fun {v'} {W} x => ps_place x
          by_cases he2 : (overP sl p).2 = true
          · rw [if_pos he2] at hc
            rw [he2] at cO2
            have hfin : ∀ A' c' W, Ps w b v sl q2 (.slice A' (acc.length + 1) c') (acc ++ [ts]) W → PaI w b v sl r g (.slice A' (acc.length + 1) c') W := fun A' c' W x => ⟨q2, acc ++ [ts], A', c', Lib.hid hc, ho2.1, by omega, by simp; omega, by rw [List.length_append]; rfl, by rw [List.length_append]; exact x⟩
            have HF := Lib.hid hfin
            clear hfin hc he he' he2 hke HC hq ho ht hu hp hq2 ho2 hts h3s htri hqp hpl hkg hag
            go_wp2_with (first
              | (go_at_call 35; (with_reducible refine (cE hP).mono ?_); rintro e w2 ⟨rfl, h2⟩; clear hP)
              | (go_at_call 36; (with_reducible refine (cO h2).mono ?_); rintro e w3 ⟨rfl, h3⟩; clear h2)
              | (go_at_call 37; (with_reducible refine (cT h3).mono ?_); rintro e w4 ⟨rfl, h4⟩; clear h3)
              | (at_builtin; refine wpList_append_own _ rfl _ _ 23 rfl w.heap.size 71 i0 (.agg #[.nilIface, .nilIface, .nilIface]) 3 48 Tryz.underlying23 hi hz0 hz1 hz2 rfl (by decide) _ _ _ rfl (((h4.alloc _).alloc _).2.1) ⟨w4.heap.size + 1, 0, none⟩ 1 1 [.iface ty0 x0, .iface ty1 x1, .iface ty2 x2] rfl rfl ?c1 ?c2 ?c3 ?c4 ?c5 ?_))
            case c1 =>
              intro j u hj
              match j, hj with
              | 0, hj => simp at hj; subst hj; simp [Addr.add]
              | 1, hj => simp at hj; subst hj; simp [Addr.add]
              | 2, hj => simp at hj; subst hj; simp [Addr.add]
            case c2 => intro u hu; simp at hu; rcases hu with rfl | rfl | rfl <;> rfl
            case c3 => unfold maxLen; omega
            case c4 => omega
            case c5 => have := ((h4.alloc (.cells #[.iface ty0 x0, .iface ty1 x1, .iface ty2 x2] 71)).alloc (.cells #[.iface ty0 x0, .iface ty1 x1, .iface ty2 x2] 71)).2.2.size; simpa using this
            intro v' w5 hown hgrow _
            have h5 := ((h4.alloc (.cells #[.iface ty0 x0, .iface ty1 x1, .iface ty2 x2] 71)).alloc (.cells #[.iface ty0 x0, .iface ty1 x1, .iface ty2 x2] 71)).app (v' := v') (ts := ts) rfl HTS.out.symm hown hgrow
            obtain ⟨A', c', rfl⟩ : ∃ A' c', v' = .slice A' (acc.length + 1) c' := by
              obtain ⟨A', c', e⟩ := h5.2.1.shape
              exact ⟨A', c', by rw [e, List.length_append]; rfl⟩
            clear hown hgrow h4
            go_wp2_with (go_at_call 36; (with_reducible refine (cO2 h5).mono ?_); rintro e w6 ⟨rfl, h6⟩; clear h5)
            go_roundg g
            case measure => exact Nat.lt_succ_self g
            case rel => exact HF.out _ _ _ h6
          · have he2' : (overP sl p).2 = false := by simpa using he2
            rw [if_neg he2] at hc
            rw [he2'] at cO2
            have HE := Lib.hid hc
            clear hc he he' he2 he2' hke HC hq ho ht hu hp hq2 ho2 hts h3s htri hqp hpl hkg hag
            go_wp2_with (first
              | (go_at_call 35; (with_reducible refine (cE hP).mono ?_); rintro e w2 ⟨rfl, h2⟩; clear hP)
              | (go_at_call 36; (with_reducible refine (cO h2).mono ?_); rintro e w3 ⟨rfl, h3⟩; clear h2)
              | (go_at_call 37; (with_reducible refine (cT h3).mono ?_); rintro e w4 ⟨rfl, h4⟩; clear h3)
              | (at_builtin; refine wpList_append_own _ rfl _ _ 23 rfl w.heap.size 71 i0 (.agg #[.nilIface, .nilIface, .nilIface]) 3 48 Tryz.underlying23 hi hz0 hz1 hz2 rfl (by decide) _ _ _ rfl (((h4.alloc _).alloc _).2.1) ⟨w4.heap.size + 1, 0, none⟩ 1 1 [.iface ty0 x0, .iface ty1 x1, .iface ty2 x2] rfl rfl ?d1 ?d2 ?d3 ?d4 ?d5 ?_))
            case d1 =>
              intro j u hj
              match j, hj with
              | 0, hj => simp at hj; subst hj; simp [Addr.add]
              | 1, hj => simp at hj; subst hj; simp [Addr.add]
              | 2, hj => simp at hj; subst hj; simp [Addr.add]
            case d2 => intro u hu; simp at hu; rcases hu with rfl | rfl | rfl <;> rfl
            case d3 => unfold maxLen; omega
            case d4 => omega
            case d5 => have := ((h4.alloc (.cells #[.iface ty0 x0, .iface ty1 x1, .iface ty2 x2] 71)).alloc (.cells #[.iface ty0 x0, .iface ty1 x1, .iface ty2 x2] 71)).2.2.size; simpa using this
            intro v' w5 hown hgrow _
            have h5 := ((h4.alloc (.cells #[.iface ty0 x0, .iface ty1 x1, .iface ty2 x2] 71)).alloc (.cells #[.iface ty0 x0, .iface ty1 x1, .iface ty2 x2] 71)).app (v' := v') (ts := ts) rfl HTS.out.symm hown hgrow
            obtain ⟨A', c', rfl⟩ : ∃ A' c', v' = .slice A' (acc.length + 1) c' := by
              obtain ⟨A', c', e⟩ := h5.2.1.shape
              exact ⟨A', c', by rw [e, List.length_append]; rfl⟩
            clear hown hgrow h4
            go_wp2_with (first
              | (go_at_call 36; (with_reducible refine (cO2 h5).mono ?_); rintro e w6 ⟨rfl, h6⟩; clear h5)
              | (go_at_call 38; (with_reducible refine (cPl h6).mono ?_); rintro e w7 ⟨rfl, h7⟩; clear h6))
            (try rw [Exit.noGoto_ret])
            go_ret3
            rw [HE.out]
            exact ⟨_, rfl, trsV_nil _ _, h7.2.2⟩
theorem nparse_any (s : ByteArray) (sl : List Int) (rest : List UInt8) (hp : Parts s.data.toList sl rest) (hs : s.size ≤ 100000) (w : World) (t : TypeId) (fr : Nat × Nat) (htab : w.heap[0]? = some (.cells escCells t fr)) :
    Calls Tryz.prog 7 #[.string s] w (PaPost w (prsB sl rest)) := by
  unfold prsB
  by_cases hr : rest = []
  · rw [if_pos hr]
    subst hr
    exact nparse_good s sl hp hs w t fr htab
  · rw [if_neg hr]
    have cN := new_bad s sl rest hp hr (by omega) w
    obtain ⟨n, hn⟩ : ∃ n, n = sl.length := ⟨_, rfl⟩
    rw [← hn] at cN ⊢
    clear hp hs htab hr hn
    go_enter Tryz.func7, Tryz.ntmps7
    go_wp2_with (go_at_call 34; (with_reducible refine cN.mono ?_); rintro e w1 ⟨rfl, hb1⟩)
    go_ret3
    exact ⟨_, rfl, trsV_nil _ _, hb1⟩
end Go.Proofs.YtpnfjjgihkmjmaaGreatDoor
