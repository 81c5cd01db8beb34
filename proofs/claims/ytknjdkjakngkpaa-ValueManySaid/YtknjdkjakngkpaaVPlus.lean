/-
  THE DOCUMENT's 'plus' and 'minus': of sizes.
-/
import Derived.Test.YtknjdkjakngkpaaVOf
namespace Go.Proofs.Ytknjdkjakngkpaa
open Go.RowKit
set_option linter.unusedVariables false

/-- Digits that the call made, of a value. -/
def PlPost (w : World) (T : Int) (n : Nat) (e : Ending) (w' : World) : Prop := ∃ (l : List Int) (A : Option Addr) (c : Nat), e = .returned (.slice A l.length c) ∧ l.length ≤ c ∧ c ≤ maxLen ∧ DAt w' A l ∧ Dig l ∧ val l = T ∧ l.length ≤ n ∧ Below w.heap.size w w'
theorem plus_step {out : List Int} {i : Nat} {c x y va vb T : Int} (hi : out.length = i) (h : val out + 10 ^ i * (c + (x + 10 * va) + (y + 10 * vb)) = T) :
    val (out ++ [(c + x + y) % 10]) + 10 ^ (i + 1) * ((c + x + y) / 10 + va + vb) = T := by
  rw [val_snoc, hi, Int.pow_succ, ← h, Int.add_assoc, Int.mul_assoc, ← Int.mul_add]
  congr 2
  omega
theorem minus_step {out : List Int} {i : Nat} {c x y va vb T d c' : Int} (hi : out.length = i) (h : val out + 10 ^ i * ((x + 10 * va) - (y + 10 * vb) - c) = T) (hd : d = x - c - y + 10 * c') :
    val (out ++ [d]) + 10 ^ (i + 1) * (va - vb - c') = T := by
  rw [val_snoc, hi, Int.pow_succ, ← h, Int.add_assoc, Int.mul_assoc, ← Int.mul_add]
  congr 2
  omega
def PlI (w : World) (a b : List Int) (M g : Nat) (s5 s6 s7 : Value) (wr : World) : Prop :=
  ∃ (i : Nat) (out : List Int) (A : Option Addr) (cp : Nat) (c : Int), i + g = M + 1 ∧ out.length = i ∧ Dig out ∧ 0 ≤ c ∧ c ≤ 1 ∧ (i = M + 1 → c = 0) ∧ val out + 10 ^ i * (c + val (a.drop i) + val (b.drop i)) = val a + val b ∧
    s5 = .slice A out.length cp ∧ s6 = .int .i64 c ∧ s7 = .int .i64 i ∧ Own w.heap.size wr s5 out ∧ Below w.heap.size w wr
set_option maxHeartbeats 8000000 in
theorem plus_any (a b : List Int) (ha : Dig a) (hb : Dig b) (hla : a.length ≤ 1000000) (hlb : b.length ≤ 1000000) (A B : Option Addr) (ca cb : Nat) (w : World) (hA : DAt w A a) (hB : DAt w B b) (M : Nat) (hM1 : a.length ≤ M) (hM2 : b.length ≤ M) (hM3 : M = a.length ∨ M = b.length) :
    Calls Try.prog 36 #[.slice A a.length ca, .slice B b.length cb] w (PlPost w (val a + val b) (M + 1)) := by
  obtain ⟨i0, hi, hz0, hz1, hz2⟩ := info_parts dInfo
  have HA := Lib.hid hA
  have HB := Lib.hid hB
  have DA := Lib.hid ha
  have DB := Lib.hid hb
  have HI := Lib.hid hi
  have HM := Lib.hid hM3
  clear hA hB ha hb hM3
  have hM4 : M ≤ 1000000 := by have := HM.out; omega
  go_enter Try.func36, Try.ntmps36
  go_wp2
  go_loopg [5, 6, 7] (M + 1) (fun g s5 s6 s7 wr => PlI w a b M g s5 s6 s7 wr)
  case atStart => exact ⟨0, [], none, 0, 0, by omega, rfl, dig_nil, by omega, by omega, by omega, by simp [val], rfl, rfl, rfl, Own.nil _ _, Below.refl _ _⟩
  case round =>
    obtain ⟨i, out, Ao, cp, c, hig, hol, hod, hc0, hc1, hce, hv, rfl, rfl, rfl, hO, hbw⟩ := hrel
    have hbs := hbw.size
    have HO := Lib.hid hO
    have HV := Lib.hid hv
    have HOD := Lib.hid hod
    have HOL := Lib.hid hol
    have HCE := Lib.hid hce
    have hiM : i ≤ M + 1 := by omega
    clear hO hv hod hce hol
    by_cases hend : (¬ i < a.length ∧ ¬ i < b.length) ∧ ¬ 0 < c
    · obtain ⟨⟨h1, h2⟩, h3⟩ := hend
      have hz : c = 0 := by omega
      have hres : val out = val a + val b := by
        have := HV.out
        rw [drop_end (l := a) (by omega), drop_end (l := b) (by omega), hz] at this
        simpa using this
      have HR := Lib.hid hres
      have h1' : ¬ (i : Int) < (a.length : Int) := by omega
      have h2' : ¬ (i : Int) < (b.length : Int) := by omega
      clear hres hz h1 h2
      go_wp2
      go_ret
      obtain ⟨q0, q1, q2, q3⟩ := own_shape2 HO.out
      exact ⟨out, Ao, cp, rfl, q1, q2, q3, HOD.out, HR.out, by have := HOL.out; omega, hbw⟩
    · obtain ⟨g, rfl⟩ : ∃ g, gk = g + 1 := by
        refine ⟨gk - 1, ?_⟩
        have := HCE.out
        have := HM.out
        omega
      have hfin : ∀ (x y va vb : Int), 0 ≤ x → x ≤ 9 → 0 ≤ y → y ≤ 9 → val (a.drop i) = x + 10 * va → val (b.drop i) = y + 10 * vb → va = val (a.drop (i + 1)) → vb = val (b.drop (i + 1)) → (i = M → x = 0 ∧ y = 0) →
          ∀ A' c' wx, Own w.heap.size wx (.slice A' (out.length + 1) c') (out ++ [(c + x + y) % 10]) → Below w.heap.size w wx → PlI w a b M g (.slice A' (out.length + 1) c') (.int .i64 ((c + x + y) / 10)) (.int .i64 ((i : Int) + 1)) wx := by
        intro x y va vb x0 x9 y0 y9 e1 e2 e3 e4 hiM2 A' c' wx hO3 hb3
        have hv := HV.out
        rw [e1, e2] at hv
        have hs := plus_step HOL.out hv
        refine ⟨i + 1, out ++ [(c + x + y) % 10], A', c', (c + x + y) / 10, by omega, by simp [HOL.out], HOD.out.snoc (by omega) (by omega), by omega, by omega, ?_, by rw [← e3, ← e4]; exact hs, by simp, rfl, by go_num, by simpa using hO3, hb3⟩
        intro hi1
        have := hiM2 (by omega)
        omega
      by_cases hpa : i < a.length
      · have hpa' : (i : Int) < (a.length : Int) := by omega
        obtain ⟨x, hx⟩ : ∃ x, a[i]? = some x := ⟨_, List.getElem?_eq_getElem hpa⟩
        obtain ⟨ga, oa, rfl, hga, hca⟩ := HA.out i x hx
        have c1 : wr.cell? ⟨ga, oa + i, none⟩ = some (.int .i64 x) := (hbw.cell (p := ⟨ga, oa + i, none⟩) hga).trans hca
        have hx9 := DA.out.at hx
        have ex := Lib.hid (drop_step hx)
        have hlen : out.length ≤ 1000000 := by have := HOL.out; omega
        clear hx hca
        by_cases hpb : i < b.length
        · have hpb' : (i : Int) < (b.length : Int) := by omega
          obtain ⟨y, hy⟩ : ∃ y, b[i]? = some y := ⟨_, List.getElem?_eq_getElem hpb⟩
          obtain ⟨gb, ob, rfl, hgb, hcb⟩ := HB.out i y hy
          have c2 : wr.cell? ⟨gb, ob + i, none⟩ = some (.int .i64 y) := (hbw.cell (p := ⟨gb, ob + i, none⟩) hgb).trans hcb
          have hy9 := DB.out.at hy
          have ey := Lib.hid (drop_step hy)
          have HF := Lib.hid (hfin x y _ _ hx9.1 hx9.2 hy9.1 hy9.2 ex.out ey.out rfl rfl (by omega))
          have b1 := hx9.1
          have b2 := hx9.2
          have b3 := hy9.1
          have b4 := hy9.2
          clear hy hcb hfin hend hx9 hy9 hpa hpb
          go_wp2_with (at_builtin; refine wpList_append_own _ rfl _ _ 30 rfl w.heap.size 3 i0 (.int .i64 0) 1 8 Try.underlying30 HI.out hz0 hz1 hz2 rfl (by decide) _ _ _ rfl (World.ownsRow.alloc HO.out _) ⟨wr.heap.size, 0, none⟩ 1 1 [.int .i64 ((c + x + y) % 10)] rfl rfl ?p1 ?p2 ?p3 ?p4 ?p5 ?_)
          try (case p1 =>
                intro j u hj
                match j, hj with
                | 0, hj => simp at hj; subst hj; simp [Addr.add])
          try (case p2 => first | rfl | (intro u hu; simp at hu; subst hu; rfl))
          try (case p3 => unfold maxLen; omega)
          try (case p4 => omega)
          try (case p5 => first | omega | (simp; omega))
          intro v' w3 hown3 hgr3 _
          obtain ⟨A', c', hv'⟩ := own_snoc_shape hown3
          have hO3 := own_snoc hown3
          have hbw3 : Below w.heap.size w w3 := (hbw.alloc hbs _).grown hgr3 (by simp; omega) (fun k hk => (World.ownsRow.lt HO.out k hk).1)
          subst hv'
          have HFF := Lib.hid (HF.out _ _ _ hO3 hbw3)
          clear hown3 hgr3 hO3
          go_wp2
          go_roundg g
          case measure => omega
          case rel => exact HFF.out
        · have hpb' : ¬ (i : Int) < (b.length : Int) := by omega
          have HF := Lib.hid (hfin x 0 _ 0 hx9.1 hx9.2 (by omega) (by omega) ex.out (by rw [drop_end (by omega)]; rfl) rfl (by rw [drop_end (by omega)]) (by omega))
          simp only [Int.add_zero] at HF
          have b1 := hx9.1
          have b2 := hx9.2
          clear hfin hend hx9 hpa hpb
          go_wp2_with (at_builtin; refine wpList_append_own _ rfl _ _ 30 rfl w.heap.size 3 i0 (.int .i64 0) 1 8 Try.underlying30 HI.out hz0 hz1 hz2 rfl (by decide) _ _ _ rfl (World.ownsRow.alloc HO.out _) ⟨wr.heap.size, 0, none⟩ 1 1 [.int .i64 ((c + x) % 10)] rfl rfl ?q1 ?q2 ?q3 ?q4 ?q5 ?_)
          try (case q1 =>
                intro j u hj
                match j, hj with
                | 0, hj => simp at hj; subst hj; simp [Addr.add])
          try (case q2 => first | rfl | (intro u hu; simp at hu; subst hu; rfl))
          try (case q3 => unfold maxLen; omega)
          try (case q4 => omega)
          try (case q5 => first | omega | (simp; omega))
          intro v' w3 hown3 hgr3 _
          obtain ⟨A', c', hv'⟩ := own_snoc_shape hown3
          have hO3 := own_snoc hown3
          have hbw3 : Below w.heap.size w w3 := (hbw.alloc hbs _).grown hgr3 (by simp; omega) (fun k hk => (World.ownsRow.lt HO.out k hk).1)
          subst hv'
          have HFF := Lib.hid (HF.out _ _ _ hO3 hbw3)
          clear hown3 hgr3 hO3
          go_wp2
          go_roundg g
          case measure => omega
          case rel => exact HFF.out
      · have hpa' : ¬ (i : Int) < (a.length : Int) := by omega
        have hlen : out.length ≤ 1000001 := by have := HOL.out; omega
        by_cases hpb : i < b.length
        · have hpb' : (i : Int) < (b.length : Int) := by omega
          obtain ⟨y, hy⟩ : ∃ y, b[i]? = some y := ⟨_, List.getElem?_eq_getElem hpb⟩
          obtain ⟨gb, ob, rfl, hgb, hcb⟩ := HB.out i y hy
          have c2 : wr.cell? ⟨gb, ob + i, none⟩ = some (.int .i64 y) := (hbw.cell (p := ⟨gb, ob + i, none⟩) hgb).trans hcb
          have hy9 := DB.out.at hy
          have ey := Lib.hid (drop_step hy)
          have HF := Lib.hid (hfin 0 y 0 _ (by omega) (by omega) hy9.1 hy9.2 (by rw [drop_end (by omega)]; rfl) ey.out (by rw [drop_end (by omega)]) rfl (by omega))
          simp only [Int.add_zero] at HF
          have b3 := hy9.1
          have b4 := hy9.2
          clear hy hcb hfin hend hy9 hpa hpb
          go_wp2_with (at_builtin; refine wpList_append_own _ rfl _ _ 30 rfl w.heap.size 3 i0 (.int .i64 0) 1 8 Try.underlying30 HI.out hz0 hz1 hz2 rfl (by decide) _ _ _ rfl (World.ownsRow.alloc HO.out _) ⟨wr.heap.size, 0, none⟩ 1 1 [.int .i64 ((c + y) % 10)] rfl rfl ?r1 ?r2 ?r3 ?r4 ?r5 ?_)
          try (case r1 =>
                intro j u hj
                match j, hj with
                | 0, hj => simp at hj; subst hj; simp [Addr.add])
          try (case r2 => first | rfl | (intro u hu; simp at hu; subst hu; rfl))
          try (case r3 => unfold maxLen; omega)
          try (case r4 => omega)
          try (case r5 => first | omega | (simp; omega))
          intro v' w3 hown3 hgr3 _
          obtain ⟨A', c', hv'⟩ := own_snoc_shape hown3
          have hO3 := own_snoc hown3
          have hbw3 : Below w.heap.size w w3 := (hbw.alloc hbs _).grown hgr3 (by simp; omega) (fun k hk => (World.ownsRow.lt HO.out k hk).1)
          subst hv'
          have HFF := Lib.hid (HF.out _ _ _ hO3 hbw3)
          clear hown3 hgr3 hO3
          go_wp2
          go_roundg g
          case measure => omega
          case rel => exact HFF.out
        · have hpb' : ¬ (i : Int) < (b.length : Int) := by omega
          have hcp : 0 < c := by omega
          have HF := Lib.hid (hfin 0 0 0 0 (by omega) (by omega) (by omega) (by omega) (by rw [drop_end (by omega)]; rfl) (by rw [drop_end (by omega)]; rfl) (by rw [drop_end (by omega)]) (by rw [drop_end (by omega)]) (by omega))
          simp only [Int.add_zero] at HF
          clear hfin hend hpa hpb
          go_wp2_with (at_builtin; refine wpList_append_own _ rfl _ _ 30 rfl w.heap.size 3 i0 (.int .i64 0) 1 8 Try.underlying30 HI.out hz0 hz1 hz2 rfl (by decide) _ _ _ rfl (World.ownsRow.alloc HO.out _) ⟨wr.heap.size, 0, none⟩ 1 1 [.int .i64 (c % 10)] rfl rfl ?s1 ?s2 ?s3 ?s4 ?s5 ?_)
          try (case s1 =>
                intro j u hj
                match j, hj with
                | 0, hj => simp at hj; subst hj; simp [Addr.add])
          try (case s2 => first | rfl | (intro u hu; simp at hu; subst hu; rfl))
          try (case s3 => unfold maxLen; omega)
          try (case s4 => omega)
          try (case s5 => first | omega | (simp; omega))
          intro v' w3 hown3 hgr3 _
          obtain ⟨A', c', hv'⟩ := own_snoc_shape hown3
          have hO3 := own_snoc hown3
          have hbw3 : Below w.heap.size w w3 := (hbw.alloc hbs _).grown hgr3 (by simp; omega) (fun k hk => (World.ownsRow.lt HO.out k hk).1)
          subst hv'
          have HFF := Lib.hid (HF.out _ _ _ hO3 hbw3)
          clear hown3 hgr3 hO3
          go_wp2
          go_roundg g
          case measure => omega
          case rel => exact HFF.out
def MiI (w : World) (a b : List Int) (g : Nat) (s5 s6 s11 : Value) (wr : World) : Prop :=
  ∃ (i : Nat) (out : List Int) (A : Option Addr) (cp : Nat) (c : Int), i + g = a.length ∧ out.length = i ∧ Dig out ∧ 0 ≤ c ∧ c ≤ 1 ∧ val out + 10 ^ i * (val (a.drop i) - val (b.drop i) - c) = val a - val b ∧
    s5 = .slice A out.length cp ∧ s6 = .int .i64 c ∧ s11 = .int .i64 i ∧ Own w.heap.size wr s5 out ∧ Below w.heap.size w wr
set_option maxHeartbeats 8000000 in
theorem minus_any (a b : List Int) (ha : Dig a) (hb : Dig b) (hla : a.length ≤ 1000000) (hlb : b.length ≤ a.length) (hab : val b ≤ val a) (A B : Option Addr) (ca cb : Nat) (w : World) (hA : DAt w A a) (hB : DAt w B b) :
    Calls Try.prog 38 #[.slice A a.length ca, .slice B b.length cb] w (PlPost w (val a - val b) a.length) := by
  obtain ⟨i0, hi, hz0, hz1, hz2⟩ := info_parts dInfo
  have HA := Lib.hid hA
  have HB := Lib.hid hB
  have DA := Lib.hid ha
  have DB := Lib.hid hb
  have HI := Lib.hid hi
  have HAB := Lib.hid hab
  clear hA hB ha hb hab
  go_enter Try.func38, Try.ntmps38
  go_wp2
  go_loopg [5, 6, 11] a.length (fun g s5 s6 s11 wr => MiI w a b g s5 s6 s11 wr)
  case atStart => exact ⟨0, [], none, 0, 0, by omega, rfl, dig_nil, by omega, by omega, by simp [val], rfl, rfl, rfl, Own.nil _ _, Below.refl _ _⟩
  case round =>
    obtain ⟨i, out, Ao, cp, c, hig, hol, hod, hc0, hc1, hv, rfl, rfl, rfl, hO, hbw⟩ := hrel
    have hbs := hbw.size
    have HO := Lib.hid hO
    have HV := Lib.hid hv
    have HOD := Lib.hid hod
    have HOL := Lib.hid hol
    clear hO hv hod hol
    cases gk with
    | zero =>
      have hge : ¬ (i : Int) < (a.length : Int) := by omega
      have hres : val out = val a - val b := by
        have h1 := HV.out
        rw [drop_end (l := a) (by omega), drop_end (l := b) (by omega)] at h1
        have h2 := dig_val HOD.out
        have h3 := HAB.out
        rw [HOL.out] at h2
        have h4 : c = 0 := by
          rcases (show c = 0 ∨ c = 1 by omega) with h | h
          · exact h
          · subst h; omega
        subst h4
        simpa using h1
      have HR := Lib.hid hres
      clear hres
      go_wp2
      go_ret
      obtain ⟨q0, q1, q2, q3⟩ := own_shape2 HO.out
      exact ⟨out, Ao, cp, rfl, q1, q2, q3, HOD.out, HR.out, by have := HOL.out; omega, hbw⟩
    | succ g =>
      have hlt : (i : Int) < (a.length : Int) := by omega
      obtain ⟨x, hx⟩ : ∃ x, a[i]? = some x := ⟨_, List.getElem?_eq_getElem (by omega)⟩
      obtain ⟨ga, oa, rfl, hga, hca⟩ := HA.out i x hx
      have c1 : wr.cell? ⟨ga, oa + i, none⟩ = some (.int .i64 x) := (hbw.cell (p := ⟨ga, oa + i, none⟩) hga).trans hca
      have hx9 := DA.out.at hx
      have ex := Lib.hid (drop_step hx)
      have hlen : out.length ≤ 1000000 := by have := HOL.out; omega
      have b1 := hx9.1
      have b2 := hx9.2
      have hfin : ∀ (y vb d c' : Int), val (b.drop i) = y + 10 * vb → vb = val (b.drop (i + 1)) → d = x - c - y + 10 * c' → 0 ≤ d → d ≤ 9 → 0 ≤ c' → c' ≤ 1 →
          ∀ A' cc wx, Own w.heap.size wx (.slice A' (out.length + 1) cc) (out ++ [d]) → Below w.heap.size w wx → MiI w a b g (.slice A' (out.length + 1) cc) (.int .i64 c') (.int .i64 ((i : Int) + 1)) wx := by
        intro y vb d c' e2 e4 hd d0 d9 k0 k1 A' cc wx hO3 hb3
        have hv := HV.out
        rw [ex.out, e2] at hv
        have hs := minus_step HOL.out hv hd
        exact ⟨i + 1, out ++ [d], A', cc, c', by omega, by simp [HOL.out], HOD.out.snoc d0 d9, k0, k1, by rw [← e4]; exact hs, by simp, rfl, by go_num, by simpa using hO3, hb3⟩
      clear hx hca hx9
      by_cases hpb : i < b.length
      · have hpb' : (i : Int) < (b.length : Int) := by omega
        obtain ⟨y, hy⟩ : ∃ y, b[i]? = some y := ⟨_, List.getElem?_eq_getElem hpb⟩
        obtain ⟨gb, ob, rfl, hgb, hcb⟩ := HB.out i y hy
        have c2 : wr.cell? ⟨gb, ob + i, none⟩ = some (.int .i64 y) := (hbw.cell (p := ⟨gb, ob + i, none⟩) hgb).trans hcb
        have hy9 := DB.out.at hy
        have ey := Lib.hid (drop_step hy)
        have b3 := hy9.1
        have b4 := hy9.2
        clear hy hcb hy9 hpb
        by_cases hneg : x - c - y < 0
        · have HF := Lib.hid (hfin y _ (x - c - y + 10) 1 ey.out rfl (by omega) (by omega) (by omega) (by omega) (by omega))
          clear hfin
          go_wp2_with (at_builtin; refine wpList_append_own _ rfl _ _ 30 rfl w.heap.size 3 i0 (.int .i64 0) 1 8 Try.underlying30 HI.out hz0 hz1 hz2 rfl (by decide) _ _ _ rfl (World.ownsRow.alloc HO.out _) ⟨wr.heap.size, 0, none⟩ 1 1 [.int .i64 (x - c - y + 10)] rfl rfl ?p1 ?p2 ?p3 ?p4 ?p5 ?_)
          try (case p1 =>
                intro j u hj
                match j, hj with
                | 0, hj => simp at hj; subst hj; simp [Addr.add])
          try (case p2 => first | rfl | (intro u hu; simp at hu; subst hu; rfl))
          try (case p3 => unfold maxLen; omega)
          try (case p4 => omega)
          try (case p5 => first | omega | (simp; omega))
          intro v' w3 hown3 hgr3 _
          obtain ⟨A', c', hv'⟩ := own_snoc_shape hown3
          have hO3 := own_snoc hown3
          have hbw3 : Below w.heap.size w w3 := (hbw.alloc hbs _).grown hgr3 (by simp; omega) (fun k hk => (World.ownsRow.lt HO.out k hk).1)
          subst hv'
          have HFF := Lib.hid (HF.out _ _ _ hO3 hbw3)
          clear hown3 hgr3 hO3
          go_wp2
          go_roundg g
          case measure => omega
          case rel => exact HFF.out
        · have HF := Lib.hid (hfin y _ (x - c - y) 0 ey.out rfl (by omega) (by omega) (by omega) (by omega) (by omega))
          clear hfin
          go_wp2_with (at_builtin; refine wpList_append_own _ rfl _ _ 30 rfl w.heap.size 3 i0 (.int .i64 0) 1 8 Try.underlying30 HI.out hz0 hz1 hz2 rfl (by decide) _ _ _ rfl (World.ownsRow.alloc HO.out _) ⟨wr.heap.size, 0, none⟩ 1 1 [.int .i64 (x - c - y)] rfl rfl ?q1 ?q2 ?q3 ?q4 ?q5 ?_)
          try (case q1 =>
                intro j u hj
                match j, hj with
                | 0, hj => simp at hj; subst hj; simp [Addr.add])
          try (case q2 => first | rfl | (intro u hu; simp at hu; subst hu; rfl))
          try (case q3 => unfold maxLen; omega)
          try (case q4 => omega)
          try (case q5 => first | omega | (simp; omega))
          intro v' w3 hown3 hgr3 _
          obtain ⟨A', c', hv'⟩ := own_snoc_shape hown3
          have hO3 := own_snoc hown3
          have hbw3 : Below w.heap.size w w3 := (hbw.alloc hbs _).grown hgr3 (by simp; omega) (fun k hk => (World.ownsRow.lt HO.out k hk).1)
          subst hv'
          have HFF := Lib.hid (HF.out _ _ _ hO3 hbw3)
          clear hown3 hgr3 hO3
          go_wp2
          go_roundg g
          case measure => omega
          case rel => exact HFF.out
      · have hpb' : ¬ (i : Int) < (b.length : Int) := by omega
        have ez : val (b.drop i) = 0 + 10 * 0 := by rw [drop_end (by omega)]; rfl
        have ez2 : (0 : Int) = val (b.drop (i + 1)) := by rw [drop_end (by omega)]
        have EZ := Lib.hid ez
        have EZ2 := Lib.hid ez2
        clear ez ez2 hpb
        by_cases hneg : x - c < 0
        · have HF := Lib.hid (hfin 0 0 (x - c + 10) 1 EZ.out EZ2.out (by omega) (by omega) (by omega) (by omega) (by omega))
          clear hfin
          go_wp2_with (at_builtin; refine wpList_append_own _ rfl _ _ 30 rfl w.heap.size 3 i0 (.int .i64 0) 1 8 Try.underlying30 HI.out hz0 hz1 hz2 rfl (by decide) _ _ _ rfl (World.ownsRow.alloc HO.out _) ⟨wr.heap.size, 0, none⟩ 1 1 [.int .i64 (x - c + 10)] rfl rfl ?r1 ?r2 ?r3 ?r4 ?r5 ?_)
          try (case r1 =>
                intro j u hj
                match j, hj with
                | 0, hj => simp at hj; subst hj; simp [Addr.add])
          try (case r2 => first | rfl | (intro u hu; simp at hu; subst hu; rfl))
          try (case r3 => unfold maxLen; omega)
          try (case r4 => omega)
          try (case r5 => first | omega | (simp; omega))
          intro v' w3 hown3 hgr3 _
          obtain ⟨A', c', hv'⟩ := own_snoc_shape hown3
          have hO3 := own_snoc hown3
          have hbw3 : Below w.heap.size w w3 := (hbw.alloc hbs _).grown hgr3 (by simp; omega) (fun k hk => (World.ownsRow.lt HO.out k hk).1)
          subst hv'
          have HFF := Lib.hid (HF.out _ _ _ hO3 hbw3)
          clear hown3 hgr3 hO3
          go_wp2
          go_roundg g
          case measure => omega
          case rel => exact HFF.out
        · have HF := Lib.hid (hfin 0 0 (x - c) 0 EZ.out EZ2.out (by omega) (by omega) (by omega) (by omega) (by omega))
          clear hfin
          go_wp2_with (at_builtin; refine wpList_append_own _ rfl _ _ 30 rfl w.heap.size 3 i0 (.int .i64 0) 1 8 Try.underlying30 HI.out hz0 hz1 hz2 rfl (by decide) _ _ _ rfl (World.ownsRow.alloc HO.out _) ⟨wr.heap.size, 0, none⟩ 1 1 [.int .i64 (x - c)] rfl rfl ?s1 ?s2 ?s3 ?s4 ?s5 ?_)
          try (case s1 =>
                intro j u hj
                match j, hj with
                | 0, hj => simp at hj; subst hj; simp [Addr.add])
          try (case s2 => first | rfl | (intro u hu; simp at hu; subst hu; rfl))
          try (case s3 => unfold maxLen; omega)
          try (case s4 => omega)
          try (case s5 => first | omega | (simp; omega))
          intro v' w3 hown3 hgr3 _
          obtain ⟨A', c', hv'⟩ := own_snoc_shape hown3
          have hO3 := own_snoc hown3
          have hbw3 : Below w.heap.size w w3 := (hbw.alloc hbs _).grown hgr3 (by simp; omega) (fun k hk => (World.ownsRow.lt HO.out k hk).1)
          subst hv'
          have HFF := Lib.hid (HF.out _ _ _ hO3 hbw3)
          clear hown3 hgr3 hO3
          go_wp2
          go_roundg g
          case measure => omega
          case rel => exact HFF.out
end Go.Proofs.Ytknjdkjakngkpaa
