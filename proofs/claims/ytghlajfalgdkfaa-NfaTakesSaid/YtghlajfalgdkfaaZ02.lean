/-
  MERGED (a claim has at most 60 files): NfOrd, NgPl.
-/
import Derived.Test.YtghlajfalgdkfaaZ01
import Derived.Deep.RegionHeld3
/-
  The order of symbols, whether a state is there, and the closures of moves.
-/
namespace Go.Proofs.Ytghlajfalgdkfaa
open Go.RowKit
set_option linter.unusedVariables false
set_option linter.unusedSimpArgs false
set_option maxRecDepth 100000

def cmp3 (a b : Int) : Int := if a < b then -1 else if b < a then 1 else 0
set_option maxHeartbeats 8000000 in
theorem order_any (a b : Int) (W : World) : Calls Try.prog 47 #[.agg #[.int .i64 a, .bool false], .agg #[.int .i64 b, .bool false]] W fun e w' => e = .returned (.int .i64 (cmp3 a b)) ∧ Below W.heap.size W w' := by
  have HB := Lib.hid (show Below W.heap.size W ((W.alloc (.cells #[.int .i64 a, .bool false] 44)).alloc (.cells #[.int .i64 b, .bool false] 44)) from ((Below.refl _ _).alloc (Nat.le_refl _) _).alloc (by simp) _)
  unfold cmp3
  by_cases h : a < b
  · rw [if_pos h]
    go_enter Try.func47, Try.ntmps47
    go_wp2
    go_ret
    exact ⟨rfl, HB.out⟩
  · rw [if_neg h]
    have h1 : b ≤ a := by omega
    by_cases h2 : b < a
    · rw [if_pos h2]
      go_enter Try.func47, Try.ntmps47
      go_wp2
      go_ret
      exact ⟨rfl, HB.out⟩
    · rw [if_neg h2]
      have h3 : a ≤ b := by omega
      go_enter Try.func47, Try.ntmps47
      go_wp2
      go_ret
      exact ⟨rfl, HB.out⟩
set_option maxHeartbeats 8000000 in
theorem has_any {W : World} {d : Nat} {A : Option Addr} {n c i : Nat} (h : W.cell? ⟨d, 0, none⟩ = some (.slice A n c)) (hi : i < n) : Calls Try.prog 44 #[.pointer (some ⟨d, 0, none⟩), .int .i64 (i : Int)] W fun e w' => e = .returned (.bool true) ∧ w' = W := by
  have h0 : (0 : Int) ≤ (i : Int) := by omega
  have h1 : (i : Int) < (n : Int) := by omega
  clear hi
  cases A
  all_goals
    go_enter Try.func44, Try.ntmps44
    go_wp2
    go_ret
    exact ⟨rfl, rfl⟩
set_option maxHeartbeats 8000000 in
theorem movesA_any {W : World} {p q g c i : Nat} {N s : Int} (hp : W.cell? ⟨p, 0, none⟩ = some (.slice (some ⟨g, 0, none⟩) 1 c)) (hq : W.cell? ⟨q, 0, none⟩ = some (.int .i64 s)) (hq1 : W.cell? ⟨q, 1, none⟩ = some (.bool false))
    (hg : W.cell? ⟨g, 0, none⟩ = some (.int .i64 N)) (hg1 : W.cell? ⟨g, 1, none⟩ = some (.bool false)) (hi : i < 1) :
    Calls Try.prog 63 #[.int .i64 (i : Int), .pointer (some ⟨p, 0, none⟩), .pointer (some ⟨q, 0, none⟩)] W fun e w' => e = .returned (.bool (decide (s ≤ N))) ∧ Below W.heap.size W w' := by
  obtain rfl : i = 0 := by omega
  have cO := fun W => order_any N s W
  have hr : decide (cmp3 N s ≥ 0) = decide (s ≤ N) := by
    unfold cmp3
    by_cases h : N < s
    · rw [if_pos h, decide_eq_false (by omega), decide_eq_false (by omega)]
    · rw [if_neg h]
      by_cases h2 : s < N
      · rw [if_pos h2, decide_eq_true (by omega), decide_eq_true (by omega)]
      · rw [if_neg h2, decide_eq_true (by omega), decide_eq_true (by omega)]
  rw [← hr]
  clear hr hi
  generalize cmp3 N s = k at *
  go_enter Try.func63, Try.ntmps63
  go_wp2
  go_region_held3 (fun w => w.cell? ⟨p, 0, none⟩ = some (.slice (some ⟨g, 0, none⟩) 1 c) ∧ w.cell? ⟨q, 0, none⟩ = some (.int .i64 s) ∧ w.cell? ⟨q, 1, none⟩ = some (.bool false) ∧ w.cell? ⟨g, 0, none⟩ = some (.int .i64 N) ∧ w.cell? ⟨g, 1, none⟩ = some (.bool false))
    (first | exact ⟨hp, hq, hq1, hg, hg1⟩ | exact ⟨cell_below hp hB, cell_below hq hB, cell_below hq1 hB, cell_below hg hB, cell_below hg1 hB⟩)
    (first
      | (go_at_call 47; (with_reducible refine (cO _).mono ?_); rintro e w1 ⟨rfl, hB0⟩; have hB := (Below.drew (Below.refl W.heap.size W)).trans hB0)
      | fail)
  all_goals
    go_wp2
    go_ret
    exact ⟨rfl, hB⟩
theorem neqSym (a b : Int) (w : World) : (binOp .neq 44 (.agg #[.int .i64 a, .bool false]) (.agg #[.int .i64 b, .bool false])).run Try.prog w = .ok (.bool (decide (a ≠ b))) w := by
  by_cases h : a = b
  · subst h
    rw [decide_eq_false (by simp)]
    go_simp
  · rw [decide_eq_true h]
    have m : (a == b) = false := by rw [beq_eq_false_iff_ne]; exact h
    go_simp
set_option maxHeartbeats 8000000 in
theorem movesB_any {W : World} {p q g c i : Nat} {N s : Int} (hp : W.cell? ⟨p, 0, none⟩ = some (.slice (some ⟨g, 0, none⟩) 1 c)) (hq : W.cell? ⟨q, 0, none⟩ = some (.int .i64 s)) (hq1 : W.cell? ⟨q, 1, none⟩ = some (.bool false))
    (hg : W.cell? ⟨g, 0, none⟩ = some (.int .i64 N)) (hg1 : W.cell? ⟨g, 1, none⟩ = some (.bool false)) (hi : i < 1) :
    Calls Try.prog 64 #[.int .i64 (i : Int), .pointer (some ⟨p, 0, none⟩), .pointer (some ⟨q, 0, none⟩)] W fun e w' => e = .returned (.bool (decide (N ≠ s))) ∧ Below W.heap.size W w' := by
  obtain rfl : i = 0 := by omega
  clear hi
  have hE := fun w => neqSym N s w
  generalize decide (N ≠ s) = r at *
  go_enter Try.func64, Try.ntmps64
  go_wp2
  go_quiet (fail)
  go_wp2
  go_ret
  exact ⟨rfl, below_drewP (Below.refl _ _) _⟩
end Go.Proofs.Ytghlajfalgdkfaa

/-
  WORDS OF A PATH, and machines that have a state for each place: plain.
-/
namespace Go.Proofs.Ytghlajfalgdkfaa
set_option linter.unusedVariables false

abbrev Sy := Int × Bool
abbrev Mo := Sy × Nat
abbrev Lg := List Sy → Prop
/-- A path: its kind, its number, its parts. -/
inductive PT where
  | mk (k n : Int) (ts : List PT)
inductive StarL (A : Lg) : List Sy → Prop where
  | nil : StarL A []
  | app {u v : List Sy} : A u → StarL A v → StarL A (u ++ v)
def CatL (A B : Lg) : Lg := fun w => ∃ u v, w = u ++ v ∧ A u ∧ B v
def Seql : List Lg → Lg
  | [] => fun w => w = []
  | A :: As => CatL A (Seql As)
def Altl : List Lg → Lg
  | [] => fun _ => False
  | A :: As => fun w => A w ∨ Altl As w
def plusL (A : Lg) : Lg := CatL A (StarL A)
mutual
/-- The words of a path. -/
def lang : PT → Lg
  | .mk k n ts =>
    if k = 0 ∨ k = 1 then fun w => w = [(n, decide (k = 1))]
    else if k = 2 then Seql (langs ts)
    else if k = 3 then Altl (langs ts)
    else if k = 4 then StarL (Seql (langs ts))
    else if k = 5 then plusL (Seql (langs ts))
    else fun w => w = [] ∨ Seql (langs ts) w
def langs : List PT → List Lg
  | [] => []
  | t :: ts => lang t :: langs ts
end
theorem seql_one (A : Lg) (w : List Sy) : Seql [A] w ↔ A w := by
  constructor
  · rintro ⟨u, v, rfl, h, rfl⟩
    simpa using h
  · intro h
    exact ⟨w, [], by simp, h, rfl⟩
theorem catL_congr {A B A' B' : Lg} (h1 : ∀ w, A w ↔ A' w) (h2 : ∀ w, B w ↔ B' w) (w : List Sy) : CatL A B w ↔ CatL A' B' w :=
  ⟨fun ⟨u, v, e, a, b⟩ => ⟨u, v, e, (h1 u).1 a, (h2 v).1 b⟩, fun ⟨u, v, e, a, b⟩ => ⟨u, v, e, (h1 u).2 a, (h2 v).2 b⟩⟩
theorem starL_mono {A B : Lg} (h : ∀ w, A w → B w) {w : List Sy} (hs : StarL A w) : StarL B w := by
  induction hs with
  | nil => exact .nil
  | app a _ ih => exact .app (h _ a) ih
theorem starL_congr {A B : Lg} (h : ∀ w, A w ↔ B w) (w : List Sy) : StarL A w ↔ StarL B w := ⟨starL_mono fun w => (h w).1, starL_mono fun w => (h w).2⟩
theorem plusL_congr {A B : Lg} (h : ∀ w, A w ↔ B w) (w : List Sy) : plusL A w ↔ plusL B w := catL_congr h (starL_congr h) w
theorem starL_iff (A : Lg) (w : List Sy) : StarL A w ↔ w = [] ∨ plusL A w := by
  constructor
  · intro h
    cases h with
    | nil => exact .inl rfl
    | app a b => exact .inr ⟨_, _, rfl, a, b⟩
  · rintro (rfl | ⟨u, v, rfl, a, b⟩)
    · exact .nil
    · exact .app a b
/-- Going from state to state. -/
inductive Run (δ : Nat → Mo → Prop) : Nat → List Sy → Nat → Prop where
  | nil (q : Nat) : Run δ q [] q
  | cons {q r q' : Nat} {s : Sy} {w : List Sy} : δ q (s, r) → Run δ r w q' → Run δ q (s :: w) q'
theorem Run.mono {δ δ' : Nat → Mo → Prop} (h : ∀ q x, δ q x → δ' q x) {q q' : Nat} {w : List Sy} (hr : Run δ q w q') : Run δ' q w q' := by
  induction hr with
  | nil q => exact .nil q
  | cons a _ ih => exact .cons (h _ _ a) ih
theorem Run.append {δ : Nat → Mo → Prop} {q r q' : Nat} {u v : List Sy} (h : Run δ q u r) (h' : Run δ r v q') : Run δ q (u ++ v) q' := by
  induction h with
  | nil q => exact h'
  | cons a _ ih => exact .cons a (ih h')
theorem Run.snoc {δ : Nat → Mo → Prop} {q q' : Nat} {w : List Sy} {s : Sy} : Run δ q (w ++ [s]) q' ↔ ∃ r, Run δ q w r ∧ δ r (s, q') := by
  constructor
  · induction w generalizing q with
    | nil =>
      intro h
      cases h with
      | cons a b => cases b; exact ⟨q, .nil q, a⟩
    | cons x w ih =>
      intro h
      cases h with
      | cons a b => obtain ⟨r, h1, h2⟩ := ih b; exact ⟨r, .cons a h1, h2⟩
  · rintro ⟨r, h1, h2⟩
    exact h1.append (.cons h2 (.nil _))
/-- What is laid of a path, from a state on up to another one. -/
structure Gd where
  lo : Nat
  hi : Nat
  f : List Mo
  l : List Nat
  em : Bool
def Gd.in (g : Gd) (q : Nat) : Prop := g.lo ≤ q ∧ q < g.hi
/-- All stays in it. -/
structure Gd.Ok (g : Gd) (δ : Nat → Mo → Prop) : Prop where
  le : g.lo ≤ g.hi
  f : ∀ x ∈ g.f, g.in x.2
  l : ∀ q ∈ g.l, g.in q
  d : ∀ q x, g.in q → δ q x → g.in x.2
def GLn (f : List Mo) (l : List Nat) (δ : Nat → Mo → Prop) : Lg := fun w => ∃ s w' p q, w = s :: w' ∧ (s, p) ∈ f ∧ Run δ p w' q ∧ q ∈ l
def Gd.L (g : Gd) (δ : Nat → Mo → Prop) : Lg := fun w => (w = [] ∧ g.em = true) ∨ GLn g.f g.l δ w
theorem Gd.Ok.run {g : Gd} {δ : Nat → Mo → Prop} (h : g.Ok δ) {q q' : Nat} {w : List Sy} (hq : g.in q) (hr : Run δ q w q') : g.in q' := by
  induction hr with
  | nil q => exact hq
  | cons a _ ih => exact ih (h.d _ _ hq a)
/-- Within it only what is in it counts. -/
theorem Gd.Ok.cut {g : Gd} {δ δ' : Nat → Mo → Prop} (h : g.Ok δ) (hd : ∀ q x, g.in q → (δ' q x ↔ δ q x)) {q q' : Nat} {w : List Sy} (hq : g.in q) : Run δ' q w q' ↔ Run δ q w q' := by
  constructor
  · intro hr
    induction hr with
    | nil q => exact .nil q
    | cons a _ ih => exact .cons ((hd _ _ hq).1 a) (ih (h.d _ _ hq ((hd _ _ hq).1 a)))
  · intro hr
    induction hr with
    | nil q => exact .nil q
    | cons a _ ih => exact .cons ((hd _ _ hq).2 a) (ih (h.d _ _ hq a))
theorem Gd.Ok.of {g : Gd} {δ δ' : Nat → Mo → Prop} (h : g.Ok δ) (hd : ∀ q x, g.in q → (δ' q x ↔ δ q x)) : g.Ok δ' := ⟨h.le, h.f, h.l, fun q x hq hx => h.d q x hq ((hd q x hq).1 hx)⟩
theorem Gd.L.of {g : Gd} {δ δ' : Nat → Mo → Prop} (h : g.Ok δ) (hd : ∀ q x, g.in q → (δ' q x ↔ δ q x)) (w : List Sy) : g.L δ' w ↔ g.L δ w := by
  unfold Gd.L GLn
  constructor
  · rintro (h1 | ⟨s, w', p, q, e, hp, hr, hq⟩)
    · exact .inl h1
    · exact .inr ⟨s, w', p, q, e, hp, (h.cut hd (h.f _ hp)).1 hr, hq⟩
  · rintro (h1 | ⟨s, w', p, q, e, hp, hr, hq⟩)
    · exact .inl h1
    · exact .inr ⟨s, w', p, q, e, hp, (h.cut hd (h.f _ hp)).2 hr, hq⟩
/-! ### One beside the other -/
theorem alt_ok {a b : Gd} {δ : Nat → Mo → Prop} (ha : a.Ok δ) (hb : b.Ok δ) (hab : a.hi = b.lo) : (Gd.mk a.lo b.hi (a.f ++ b.f) (a.l ++ b.l) (a.em || b.em)).Ok δ := by
  have h1 := ha.le
  have h2 := hb.le
  refine ⟨by show a.lo ≤ b.hi; omega, fun x hx => ?_, fun q hq => ?_, fun q x hq hx => ?_⟩
  · rcases List.mem_append.1 hx with hx | hx
    · have := ha.f x hx; unfold Gd.in at this ⊢; simp only; omega
    · have := hb.f x hx; unfold Gd.in at this ⊢; simp only; omega
  · rcases List.mem_append.1 hq with hx | hx
    · have := ha.l q hx; unfold Gd.in at this ⊢; simp only; omega
    · have := hb.l q hx; unfold Gd.in at this ⊢; simp only; omega
  · unfold Gd.in at hq
    simp only at hq
    by_cases hlt : q < a.hi
    · have := ha.d q x ⟨hq.1, hlt⟩ hx; unfold Gd.in at this ⊢; simp only; omega
    · have := hb.d q x ⟨by omega, hq.2⟩ hx; unfold Gd.in at this ⊢; simp only; omega
theorem alt_L {a b : Gd} {δ : Nat → Mo → Prop} (ha : a.Ok δ) (hb : b.Ok δ) (hab : a.hi = b.lo) (w : List Sy) : (Gd.mk a.lo b.hi (a.f ++ b.f) (a.l ++ b.l) (a.em || b.em)).L δ w ↔ a.L δ w ∨ b.L δ w := by
  unfold Gd.L GLn
  simp only
  constructor
  · rintro (⟨e, h⟩ | ⟨s, w', p, q, e, hp, hr, hq⟩)
    · rcases (show a.em = true ∨ b.em = true by simpa using h) with h | h
      · exact .inl (.inl ⟨e, h⟩)
      · exact .inr (.inl ⟨e, h⟩)
    · rcases List.mem_append.1 hp with hp | hp
      · have h1 := ha.run (ha.f _ hp) hr
        have hq' : q ∈ a.l := (List.mem_append.1 hq).resolve_right fun h => by have := hb.l _ h; unfold Gd.in at h1 this; omega
        exact .inl (.inr ⟨s, w', p, q, e, hp, hr, hq'⟩)
      · have h1 := hb.run (hb.f _ hp) hr
        have hq' : q ∈ b.l := (List.mem_append.1 hq).resolve_left fun h => by have := ha.l _ h; unfold Gd.in at h1 this; omega
        exact .inr (.inr ⟨s, w', p, q, e, hp, hr, hq'⟩)
  · rintro ((⟨e, h⟩ | ⟨s, w', p, q, e, hp, hr, hq⟩) | (⟨e, h⟩ | ⟨s, w', p, q, e, hp, hr, hq⟩))
    · exact .inl ⟨e, by rw [h]; rfl⟩
    · exact .inr ⟨s, w', p, q, e, List.mem_append_left _ hp, hr, List.mem_append_left _ hq⟩
    · exact .inl ⟨e, by rw [h, Bool.or_true]⟩
    · exact .inr ⟨s, w', p, q, e, List.mem_append_right _ hp, hr, List.mem_append_right _ hq⟩
/-! ### One behind the other: from the last ones of the one to the first ones of the other one -/
def linked (l : List Nat) (f : List Mo) (δ : Nat → Mo → Prop) : Nat → Mo → Prop := fun q x => δ q x ∨ (q ∈ l ∧ x ∈ f)
def seqG (a b : Gd) : Gd := ⟨a.lo, b.hi, a.f ++ (if a.em then b.f else []), b.l ++ (if b.em then a.l else []), a.em && b.em⟩
theorem seq_ok {a b : Gd} {δ : Nat → Mo → Prop} (ha : a.Ok δ) (hb : b.Ok δ) (hab : a.hi = b.lo) : (seqG a b).Ok (linked a.l b.f δ) := by
  have h1 := ha.le
  have h2 := hb.le
  refine ⟨by show a.lo ≤ b.hi; omega, fun x hx => ?_, fun q hq => ?_, fun q x hq hx => ?_⟩
  · have hx' : x ∈ a.f ∨ x ∈ b.f := by
      rcases List.mem_append.1 hx with hx | hx
      · exact .inl hx
      · right; split at hx <;> first | exact hx | cases hx
    rcases hx' with hx | hx
    · have := ha.f x hx; unfold Gd.in seqG at *; simp only at *; omega
    · have := hb.f x hx; unfold Gd.in seqG at *; simp only at *; omega
  · have hx' : q ∈ b.l ∨ q ∈ a.l := by
      rcases List.mem_append.1 hq with hx | hx
      · exact .inl hx
      · right; split at hx <;> first | exact hx | cases hx
    rcases hx' with hx | hx
    · have := hb.l q hx; unfold Gd.in seqG at *; simp only at *; omega
    · have := ha.l q hx; unfold Gd.in seqG at *; simp only at *; omega
  · rcases hx with hx | ⟨_, hx⟩
    · by_cases hlt : q < a.hi
      · have := ha.d q x ⟨hq.1, hlt⟩ hx; unfold Gd.in seqG at *; simp only at *; omega
      · have := hb.d q x ⟨by omega, hq.2⟩ hx; unfold Gd.in seqG at *; simp only at *; omega
    · have := hb.f x hx; unfold Gd.in seqG at *; simp only at *; omega
theorem seq_b {a b : Gd} {δ : Nat → Mo → Prop} (ha : a.Ok δ) (hb : b.Ok δ) (hab : a.hi = b.lo) : ∀ q x, b.in q → (linked a.l b.f δ q x ↔ δ q x) := fun q x hq =>
  ⟨fun h => h.resolve_right fun ⟨hl, _⟩ => by have := ha.l _ hl; unfold Gd.in at hq this; omega, .inl⟩
/-- A run through both. -/
theorem seq_run {a b : Gd} {δ : Nat → Mo → Prop} (ha : a.Ok δ) (hb : b.Ok δ) (hab : a.hi = b.lo) {p q : Nat} {w : List Sy} (hp : a.in p) (hr : Run (linked a.l b.f δ) p w q) :
    (a.in q ∧ Run δ p w q) ∨ ∃ u v r, w = u ++ v ∧ r ∈ a.l ∧ Run δ p u r ∧ GLn b.f [q] δ v := by
  induction hr with
  | nil q => exact .inl ⟨hp, .nil q⟩
  | @cons p r q s w h hr ih =>
    rcases h with h | ⟨hl, hf⟩
    · rcases ih (ha.d _ _ hp h) with ⟨h1, h2⟩ | ⟨u, v, r', e, h1, h2, h3⟩
      · exact .inl ⟨h1, .cons h h2⟩
      · exact .inr ⟨s :: u, v, r', by rw [e]; rfl, h1, .cons h h2, h3⟩
    · exact .inr ⟨[], s :: w, p, rfl, hl, .nil p, s, w, r, q, rfl, hf, (hb.cut (seq_b ha hb hab) (hb.f _ hf)).1 hr, List.mem_singleton.2 rfl⟩
theorem seq_L {a b : Gd} {δ : Nat → Mo → Prop} (ha : a.Ok δ) (hb : b.Ok δ) (hab : a.hi = b.lo) (w : List Sy) : (seqG a b).L (linked a.l b.f δ) w ↔ CatL (a.L δ) (b.L δ) w := by
  have hbl : ∀ {q}, q ∈ b.l ++ (if b.em then a.l else []) → q ∈ b.l ∨ (b.em = true ∧ q ∈ a.l) := fun {q} hq => by
    rcases List.mem_append.1 hq with h | h
    · exact .inl h
    · cases hem : b.em with
      | true => rw [hem] at h; exact .inr ⟨rfl, h⟩
      | false => rw [hem] at h; cases h
  have hfl : ∀ {x}, x ∈ a.f ++ (if a.em then b.f else []) → x ∈ a.f ∨ (a.em = true ∧ x ∈ b.f) := fun {q} hq => by
    rcases List.mem_append.1 hq with h | h
    · exact .inl h
    · cases hem : a.em with
      | true => rw [hem] at h; exact .inr ⟨rfl, h⟩
      | false => rw [hem] at h; cases h
  constructor
  · rintro (⟨rfl, h⟩ | ⟨s, w', p, q, rfl, hp, hr, hq⟩)
    · obtain ⟨h1, h2⟩ := (show a.em = true ∧ b.em = true by simpa [seqG] using h)
      exact ⟨[], [], rfl, .inl ⟨rfl, h1⟩, .inl ⟨rfl, h2⟩⟩
    · rcases hfl hp with hp | ⟨hem, hp⟩
      · have hpa := ha.f _ hp
        rcases seq_run ha hb hab hpa hr with ⟨h1, h2⟩ | ⟨u, v, r, e, h1, h2, ⟨s2, w2, p2, q2, e2, h4, h5, h6⟩⟩
        · have hq' : b.em = true ∧ q ∈ a.l := (hbl hq).resolve_left fun h => by have := hb.l _ h; unfold Gd.in at h1 this; omega
          exact ⟨s :: w', [], by simp, .inr ⟨s, w', p, q, rfl, hp, h2, hq'.2⟩, .inl ⟨rfl, hq'.1⟩⟩
        · obtain rfl := List.mem_singleton.1 h6
          have hqb := hb.run (hb.f _ h4) h5
          have hq' : q2 ∈ b.l := (hbl hq).resolve_right fun ⟨_, h⟩ => by have := ha.l _ h; unfold Gd.in at hqb this; omega
          exact ⟨s :: u, v, by rw [e]; rfl, .inr ⟨s, u, p, r, rfl, hp, h2, h1⟩, .inr ⟨s2, w2, p2, q2, e2, h4, h5, hq'⟩⟩
      · have hr' := (hb.cut (seq_b ha hb hab) (hb.f _ hp)).1 hr
        have hqb := hb.run (hb.f _ hp) hr'
        have hq' : q ∈ b.l := (hbl hq).resolve_right fun ⟨_, h⟩ => by have := ha.l _ h; unfold Gd.in at hqb this; omega
        exact ⟨[], s :: w', rfl, .inl ⟨rfl, hem⟩, .inr ⟨s, w', p, q, rfl, hp, hr', hq'⟩⟩
  · rintro ⟨u, v, rfl, hu, hv⟩
    rcases hu with ⟨rfl, he⟩ | ⟨s, u', p, q, rfl, hp, hr, hq⟩
    · rcases hv with ⟨rfl, he'⟩ | ⟨s2, w2, p2, q2, rfl, h4, h5, h6⟩
      · exact .inl ⟨rfl, by show (a.em && b.em) = true; rw [he, he']; rfl⟩
      · exact .inr ⟨s2, w2, p2, q2, rfl, List.mem_append_right _ (by rw [if_pos he]; exact h4), h5.mono fun _ _ => .inl, List.mem_append_left _ h6⟩
    · rcases hv with ⟨rfl, he'⟩ | ⟨s2, w2, p2, q2, rfl, h4, h5, h6⟩
      · exact .inr ⟨s, u', p, q, by simp, List.mem_append_left _ hp, hr.mono fun _ _ => .inl, List.mem_append_right _ (by rw [if_pos he']; exact hq)⟩
      · exact .inr ⟨s, u' ++ s2 :: w2, p, q2, rfl, List.mem_append_left _ hp, (hr.mono fun _ _ => .inl).append (.cons (.inr ⟨hq, h4⟩) (h5.mono fun _ _ => .inl)), List.mem_append_left _ h6⟩
/-! ### Again and again: from the last ones to the first ones -/
theorem plus_ok {a : Gd} {δ : Nat → Mo → Prop} (ha : a.Ok δ) (em : Bool) : (Gd.mk a.lo a.hi a.f a.l em).Ok (linked a.l a.f δ) :=
  ⟨ha.le, ha.f, ha.l, fun q x hq hx => by
    rcases hx with hx | ⟨_, hx⟩
    · exact ha.d q x hq hx
    · exact ha.f x hx⟩
theorem plus_to {a : Gd} {δ : Nat → Mo → Prop} {p q : Nat} {w : List Sy} (hr : Run (linked a.l a.f δ) p w q) (hq : q ∈ a.l) : ∃ u v r, w = u ++ v ∧ r ∈ a.l ∧ Run δ p u r ∧ StarL (a.L δ) v := by
  induction hr with
  | nil q => exact ⟨[], [], q, rfl, hq, .nil q, .nil⟩
  | @cons p r q s w h hr ih =>
    obtain ⟨u, v, r', e, h1, h2, h3⟩ := ih hq
    rcases h with h | ⟨hl, hf⟩
    · exact ⟨s :: u, v, r', by rw [e]; rfl, h1, .cons h h2, h3⟩
    · refine ⟨[], s :: w, p, rfl, hl, .nil p, ?_⟩
      rw [e]
      exact .app (u := s :: u) (.inr ⟨s, u, r, r', rfl, hf, h2, h1⟩) h3
theorem plus_from {a : Gd} {δ : Nat → Mo → Prop} {v : List Sy} (hs : StarL (a.L δ) v) : ∀ {p r : Nat} {u : List Sy}, Run (linked a.l a.f δ) p u r → r ∈ a.l → ∃ q, q ∈ a.l ∧ Run (linked a.l a.f δ) p (u ++ v) q := by
  induction hs with
  | nil => intro p r u hr hq; exact ⟨r, hq, by simpa using hr⟩
  | @app u2 v2 h _ ih =>
    intro p r u hr hq
    rcases h with ⟨rfl, _⟩ | ⟨s, w', p2, q2, rfl, h4, h5, h6⟩
    · simpa using ih hr hq
    · have := ih (hr.append (.cons (.inr ⟨hq, h4⟩) (h5.mono fun _ _ => .inl))) h6
      simpa using this
theorem plus_n {a : Gd} {δ : Nat → Mo → Prop} (w : List Sy) : GLn a.f a.l (linked a.l a.f δ) w ↔ CatL (GLn a.f a.l δ) (StarL (a.L δ)) w := by
  constructor
  · rintro ⟨s, w', p, q, rfl, hp, hr, hq⟩
    obtain ⟨u, v, r, e, h1, h2, h3⟩ := plus_to hr hq
    exact ⟨s :: u, v, by rw [e]; rfl, ⟨s, u, p, r, rfl, hp, h2, h1⟩, h3⟩
  · rintro ⟨u, v, rfl, ⟨s, u', p, q, rfl, hp, hr, hq⟩, hv⟩
    obtain ⟨q', h1, h2⟩ := plus_from hv (hr.mono fun _ _ => .inl) hq
    exact ⟨s, u' ++ v, p, q', rfl, hp, h2, h1⟩
theorem star_split {a : Gd} {δ : Nat → Mo → Prop} (w : List Sy) : StarL (a.L δ) w ↔ w = [] ∨ GLn a.f a.l (linked a.l a.f δ) w := by
  rw [plus_n]
  constructor
  · intro h
    induction h with
    | nil => exact .inl rfl
    | @app u v h hs ih =>
      rcases h with ⟨rfl, _⟩ | h
      · simpa using ih
      · exact .inr ⟨u, v, rfl, h, hs⟩
  · rintro (rfl | ⟨u, v, rfl, h, hv⟩)
    · exact .nil
    · exact .app (.inr h) hv
theorem star_L {a : Gd} {δ : Nat → Mo → Prop} (w : List Sy) : (Gd.mk a.lo a.hi a.f a.l true).L (linked a.l a.f δ) w ↔ StarL (a.L δ) w := by
  rw [star_split]
  exact ⟨fun h => h.imp (fun h => h.1) id, fun h => h.imp (fun h => ⟨h, rfl⟩) id⟩
theorem plus_L {a : Gd} {δ : Nat → Mo → Prop} (w : List Sy) : (Gd.mk a.lo a.hi a.f a.l a.em).L (linked a.l a.f δ) w ↔ plusL (a.L δ) w := by
  constructor
  · rintro (⟨rfl, h⟩ | h)
    · exact ⟨[], [], rfl, .inl ⟨rfl, h⟩, .nil⟩
    · obtain ⟨u, v, e, h1, h2⟩ := (plus_n w).1 h
      exact ⟨u, v, e, .inr h1, h2⟩
  · rintro ⟨u, v, rfl, h1, h2⟩
    rcases h1 with ⟨rfl, he⟩ | h1
    · rcases (star_split v).1 h2 with rfl | h
      · exact .inl ⟨rfl, he⟩
      · exact .inr h
    · exact .inr ((plus_n _).2 ⟨u, v, rfl, h1, h2⟩)
theorem opt_L {a : Gd} {δ : Nat → Mo → Prop} (w : List Sy) : (Gd.mk a.lo a.hi a.f a.l true).L δ w ↔ w = [] ∨ a.L δ w := by
  constructor
  · rintro (⟨rfl, _⟩ | h)
    · exact .inl rfl
    · exact .inr (.inr h)
  · rintro (rfl | ⟨rfl, _⟩ | h)
    · exact .inl ⟨rfl, rfl⟩
    · exact .inl ⟨rfl, rfl⟩
    · exact .inr h
/-! ### The whole machine: a beginning with the first ones' moves -/
theorem whole_L {a : Gd} {δ : Nat → Mo → Prop} (ha : a.Ok δ) (h0 : a.lo = 1) (hd : ∀ x, δ 0 x ↔ x ∈ a.f) (fin : Nat → Prop) (hf : ∀ q, fin q ↔ (q ∈ a.l ∨ (q = 0 ∧ a.em = true))) (w : List Sy) :
    (∃ q, Run δ 0 w q ∧ fin q) ↔ a.L δ w := by
  constructor
  · rintro ⟨q, hr, hq⟩
    cases hr with
    | nil =>
      rcases (hf 0).1 hq with h | ⟨_, h⟩
      · have := ha.l _ h; unfold Gd.in at this; omega
      · exact .inl ⟨rfl, h⟩
    | @cons _ r _ s w h hr =>
      have hx := (hd _).1 h
      have hin := ha.run (ha.f _ hx) hr
      rcases (hf q).1 hq with h | ⟨h, _⟩
      · exact .inr ⟨s, w, r, q, rfl, hx, hr, h⟩
      · unfold Gd.in at hin; omega
  · rintro (⟨rfl, h⟩ | ⟨s, w', p, q, rfl, hp, hr, hq⟩)
    · exact ⟨0, .nil 0, (hf 0).2 (.inr ⟨rfl, h⟩)⟩
    · exact ⟨q, .cons ((hd _).2 hp) hr, (hf q).2 (.inl hq)⟩
end Go.Proofs.Ytghlajfalgdkfaa
