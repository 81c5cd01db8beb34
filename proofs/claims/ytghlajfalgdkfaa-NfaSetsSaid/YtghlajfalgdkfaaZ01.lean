/-
  MERGED (a claim has at most 60 files): NgPl, NgOrd, NfApp, NgInsS, NgInsG.
-/
import Derived.Test.YtghlajfalgdkfaaZ00
import Derived.Deep.RegionHeld3
import Derived.IntWalk
import Derived.Shelf.Spec.SlicesInsert
import Derived.Deep.RegionLaw
import Derived.Shelf.Spec.SlicesInsertGrow
/-
  WORDS OF A PATH, and machines that have a state for each place: plain.
-/
namespace Go.Proofs.Ytghlajfalgdkfaa
set_option linter.unusedVariables false

abbrev Sy := Int × Bool
abbrev Mo := Sy × Nat
abbrev Lg := List Sy → Prop
/-- A path: its kind, its number, its parts. -/
inductive PT where
  | mk (k n : Int) (ts : List PT)
inductive StarL (A : Lg) : List Sy → Prop where
  | nil : StarL A []
  | app {u v : List Sy} : A u → StarL A v → StarL A (u ++ v)
def CatL (A B : Lg) : Lg := fun w => ∃ u v, w = u ++ v ∧ A u ∧ B v
def Seql : List Lg → Lg
  | [] => fun w => w = []
  | A :: As => CatL A (Seql As)
def Altl : List Lg → Lg
  | [] => fun _ => False
  | A :: As => fun w => A w ∨ Altl As w
def plusL (A : Lg) : Lg := CatL A (StarL A)
mutual
/-- The words of a path. -/
def lang : PT → Lg
  | .mk k n ts =>
    if k = 0 ∨ k = 1 then fun w => w = [(n, decide (k = 1))]
    else if k = 2 then Seql (langs ts)
    else if k = 3 then Altl (langs ts)
    else if k = 4 then StarL (Seql (langs ts))
    else if k = 5 then plusL (Seql (langs ts))
    else fun w => w = [] ∨ Seql (langs ts) w
def langs : List PT → List Lg
  | [] => []
  | t :: ts => lang t :: langs ts
end
theorem seql_one (A : Lg) (w : List Sy) : Seql [A] w ↔ A w := by
  constructor
  · rintro ⟨u, v, rfl, h, rfl⟩
    simpa using h
  · intro h
    exact ⟨w, [], by simp, h, rfl⟩
theorem catL_congr {A B A' B' : Lg} (h1 : ∀ w, A w ↔ A' w) (h2 : ∀ w, B w ↔ B' w) (w : List Sy) : CatL A B w ↔ CatL A' B' w :=
  ⟨fun ⟨u, v, e, a, b⟩ => ⟨u, v, e, (h1 u).1 a, (h2 v).1 b⟩, fun ⟨u, v, e, a, b⟩ => ⟨u, v, e, (h1 u).2 a, (h2 v).2 b⟩⟩
theorem starL_mono {A B : Lg} (h : ∀ w, A w → B w) {w : List Sy} (hs : StarL A w) : StarL B w := by
  induction hs with
  | nil => exact .nil
  | app a _ ih => exact .app (h _ a) ih
theorem starL_congr {A B : Lg} (h : ∀ w, A w ↔ B w) (w : List Sy) : StarL A w ↔ StarL B w := ⟨starL_mono fun w => (h w).1, starL_mono fun w => (h w).2⟩
theorem plusL_congr {A B : Lg} (h : ∀ w, A w ↔ B w) (w : List Sy) : plusL A w ↔ plusL B w := catL_congr h (starL_congr h) w
theorem starL_iff (A : Lg) (w : List Sy) : StarL A w ↔ w = [] ∨ plusL A w := by
  constructor
  · intro h
    cases h with
    | nil => exact .inl rfl
    | app a b => exact .inr ⟨_, _, rfl, a, b⟩
  · rintro (rfl | ⟨u, v, rfl, a, b⟩)
    · exact .nil
    · exact .app a b
/-- Going from state to state. -/
inductive Run (δ : Nat → Mo → Prop) : Nat → List Sy → Nat → Prop where
  | nil (q : Nat) : Run δ q [] q
  | cons {q r q' : Nat} {s : Sy} {w : List Sy} : δ q (s, r) → Run δ r w q' → Run δ q (s :: w) q'
theorem Run.mono {δ δ' : Nat → Mo → Prop} (h : ∀ q x, δ q x → δ' q x) {q q' : Nat} {w : List Sy} (hr : Run δ q w q') : Run δ' q w q' := by
  induction hr with
  | nil q => exact .nil q
  | cons a _ ih => exact .cons (h _ _ a) ih
theorem Run.append {δ : Nat → Mo → Prop} {q r q' : Nat} {u v : List Sy} (h : Run δ q u r) (h' : Run δ r v q') : Run δ q (u ++ v) q' := by
  induction h with
  | nil q => exact h'
  | cons a _ ih => exact .cons a (ih h')
theorem Run.snoc {δ : Nat → Mo → Prop} {q q' : Nat} {w : List Sy} {s : Sy} : Run δ q (w ++ [s]) q' ↔ ∃ r, Run δ q w r ∧ δ r (s, q') := by
  constructor
  · induction w generalizing q with
    | nil =>
      intro h
      cases h with
      | cons a b => cases b; exact ⟨q, .nil q, a⟩
    | cons x w ih =>
      intro h
      cases h with
      | cons a b => obtain ⟨r, h1, h2⟩ := ih b; exact ⟨r, .cons a h1, h2⟩
  · rintro ⟨r, h1, h2⟩
    exact h1.append (.cons h2 (.nil _))
/-- What is laid of a path, from a state on up to another one. -/
structure Gd where
  lo : Nat
  hi : Nat
  f : List Mo
  l : List Nat
  em : Bool
def Gd.in (g : Gd) (q : Nat) : Prop := g.lo ≤ q ∧ q < g.hi
/-- All stays in it. -/
structure Gd.Ok (g : Gd) (δ : Nat → Mo → Prop) : Prop where
  le : g.lo ≤ g.hi
  f : ∀ x ∈ g.f, g.in x.2
  l : ∀ q ∈ g.l, g.in q
  d : ∀ q x, g.in q → δ q x → g.in x.2
def GLn (f : List Mo) (l : List Nat) (δ : Nat → Mo → Prop) : Lg := fun w => ∃ s w' p q, w = s :: w' ∧ (s, p) ∈ f ∧ Run δ p w' q ∧ q ∈ l
def Gd.L (g : Gd) (δ : Nat → Mo → Prop) : Lg := fun w => (w = [] ∧ g.em = true) ∨ GLn g.f g.l δ w
theorem Gd.Ok.run {g : Gd} {δ : Nat → Mo → Prop} (h : g.Ok δ) {q q' : Nat} {w : List Sy} (hq : g.in q) (hr : Run δ q w q') : g.in q' := by
  induction hr with
  | nil q => exact hq
  | cons a _ ih => exact ih (h.d _ _ hq a)
/-- Within it only what is in it counts. -/
theorem Gd.Ok.cut {g : Gd} {δ δ' : Nat → Mo → Prop} (h : g.Ok δ) (hd : ∀ q x, g.in q → (δ' q x ↔ δ q x)) {q q' : Nat} {w : List Sy} (hq : g.in q) : Run δ' q w q' ↔ Run δ q w q' := by
  constructor
  · intro hr
    induction hr with
    | nil q => exact .nil q
    | cons a _ ih => exact .cons ((hd _ _ hq).1 a) (ih (h.d _ _ hq ((hd _ _ hq).1 a)))
  · intro hr
    induction hr with
    | nil q => exact .nil q
    | cons a _ ih => exact .cons ((hd _ _ hq).2 a) (ih (h.d _ _ hq a))
theorem Gd.Ok.of {g : Gd} {δ δ' : Nat → Mo → Prop} (h : g.Ok δ) (hd : ∀ q x, g.in q → (δ' q x ↔ δ q x)) : g.Ok δ' := ⟨h.le, h.f, h.l, fun q x hq hx => h.d q x hq ((hd q x hq).1 hx)⟩
theorem Gd.L.of {g : Gd} {δ δ' : Nat → Mo → Prop} (h : g.Ok δ) (hd : ∀ q x, g.in q → (δ' q x ↔ δ q x)) (w : List Sy) : g.L δ' w ↔ g.L δ w := by
  unfold Gd.L GLn
  constructor
  · rintro (h1 | ⟨s, w', p, q, e, hp, hr, hq⟩)
    · exact .inl h1
    · exact .inr ⟨s, w', p, q, e, hp, (h.cut hd (h.f _ hp)).1 hr, hq⟩
  · rintro (h1 | ⟨s, w', p, q, e, hp, hr, hq⟩)
    · exact .inl h1
    · exact .inr ⟨s, w', p, q, e, hp, (h.cut hd (h.f _ hp)).2 hr, hq⟩
/-! ### One beside the other -/
theorem alt_ok {a b : Gd} {δ : Nat → Mo → Prop} (ha : a.Ok δ) (hb : b.Ok δ) (hab : a.hi = b.lo) : (Gd.mk a.lo b.hi (a.f ++ b.f) (a.l ++ b.l) (a.em || b.em)).Ok δ := by
  have h1 := ha.le
  have h2 := hb.le
  refine ⟨by show a.lo ≤ b.hi; omega, fun x hx => ?_, fun q hq => ?_, fun q x hq hx => ?_⟩
  · rcases List.mem_append.1 hx with hx | hx
    · have := ha.f x hx; unfold Gd.in at this ⊢; simp only; omega
    · have := hb.f x hx; unfold Gd.in at this ⊢; simp only; omega
  · rcases List.mem_append.1 hq with hx | hx
    · have := ha.l q hx; unfold Gd.in at this ⊢; simp only; omega
    · have := hb.l q hx; unfold Gd.in at this ⊢; simp only; omega
  · unfold Gd.in at hq
    simp only at hq
    by_cases hlt : q < a.hi
    · have := ha.d q x ⟨hq.1, hlt⟩ hx; unfold Gd.in at this ⊢; simp only; omega
    · have := hb.d q x ⟨by omega, hq.2⟩ hx; unfold Gd.in at this ⊢; simp only; omega
theorem alt_L {a b : Gd} {δ : Nat → Mo → Prop} (ha : a.Ok δ) (hb : b.Ok δ) (hab : a.hi = b.lo) (w : List Sy) : (Gd.mk a.lo b.hi (a.f ++ b.f) (a.l ++ b.l) (a.em || b.em)).L δ w ↔ a.L δ w ∨ b.L δ w := by
  unfold Gd.L GLn
  simp only
  constructor
  · rintro (⟨e, h⟩ | ⟨s, w', p, q, e, hp, hr, hq⟩)
    · rcases (show a.em = true ∨ b.em = true by simpa using h) with h | h
      · exact .inl (.inl ⟨e, h⟩)
      · exact .inr (.inl ⟨e, h⟩)
    · rcases List.mem_append.1 hp with hp | hp
      · have h1 := ha.run (ha.f _ hp) hr
        have hq' : q ∈ a.l := (List.mem_append.1 hq).resolve_right fun h => by have := hb.l _ h; unfold Gd.in at h1 this; omega
        exact .inl (.inr ⟨s, w', p, q, e, hp, hr, hq'⟩)
      · have h1 := hb.run (hb.f _ hp) hr
        have hq' : q ∈ b.l := (List.mem_append.1 hq).resolve_left fun h => by have := ha.l _ h; unfold Gd.in at h1 this; omega
        exact .inr (.inr ⟨s, w', p, q, e, hp, hr, hq'⟩)
  · rintro ((⟨e, h⟩ | ⟨s, w', p, q, e, hp, hr, hq⟩) | (⟨e, h⟩ | ⟨s, w', p, q, e, hp, hr, hq⟩))
    · exact .inl ⟨e, by rw [h]; rfl⟩
    · exact .inr ⟨s, w', p, q, e, List.mem_append_left _ hp, hr, List.mem_append_left _ hq⟩
    · exact .inl ⟨e, by rw [h, Bool.or_true]⟩
    · exact .inr ⟨s, w', p, q, e, List.mem_append_right _ hp, hr, List.mem_append_right _ hq⟩
/-! ### One behind the other: from the last ones of the one to the first ones of the other one -/
def linked (l : List Nat) (f : List Mo) (δ : Nat → Mo → Prop) : Nat → Mo → Prop := fun q x => δ q x ∨ (q ∈ l ∧ x ∈ f)
def seqG (a b : Gd) : Gd := ⟨a.lo, b.hi, a.f ++ (if a.em then b.f else []), b.l ++ (if b.em then a.l else []), a.em && b.em⟩
theorem seq_ok {a b : Gd} {δ : Nat → Mo → Prop} (ha : a.Ok δ) (hb : b.Ok δ) (hab : a.hi = b.lo) : (seqG a b).Ok (linked a.l b.f δ) := by
  have h1 := ha.le
  have h2 := hb.le
  refine ⟨by show a.lo ≤ b.hi; omega, fun x hx => ?_, fun q hq => ?_, fun q x hq hx => ?_⟩
  · have hx' : x ∈ a.f ∨ x ∈ b.f := by
      rcases List.mem_append.1 hx with hx | hx
      · exact .inl hx
      · right; split at hx <;> first | exact hx | cases hx
    rcases hx' with hx | hx
    · have := ha.f x hx; unfold Gd.in seqG at *; simp only at *; omega
    · have := hb.f x hx; unfold Gd.in seqG at *; simp only at *; omega
  · have hx' : q ∈ b.l ∨ q ∈ a.l := by
      rcases List.mem_append.1 hq with hx | hx
      · exact .inl hx
      · right; split at hx <;> first | exact hx | cases hx
    rcases hx' with hx | hx
    · have := hb.l q hx; unfold Gd.in seqG at *; simp only at *; omega
    · have := ha.l q hx; unfold Gd.in seqG at *; simp only at *; omega
  · rcases hx with hx | ⟨_, hx⟩
    · by_cases hlt : q < a.hi
      · have := ha.d q x ⟨hq.1, hlt⟩ hx; unfold Gd.in seqG at *; simp only at *; omega
      · have := hb.d q x ⟨by omega, hq.2⟩ hx; unfold Gd.in seqG at *; simp only at *; omega
    · have := hb.f x hx; unfold Gd.in seqG at *; simp only at *; omega
theorem seq_b {a b : Gd} {δ : Nat → Mo → Prop} (ha : a.Ok δ) (hb : b.Ok δ) (hab : a.hi = b.lo) : ∀ q x, b.in q → (linked a.l b.f δ q x ↔ δ q x) := fun q x hq =>
  ⟨fun h => h.resolve_right fun ⟨hl, _⟩ => by have := ha.l _ hl; unfold Gd.in at hq this; omega, .inl⟩
/-- A run through both. -/
theorem seq_run {a b : Gd} {δ : Nat → Mo → Prop} (ha : a.Ok δ) (hb : b.Ok δ) (hab : a.hi = b.lo) {p q : Nat} {w : List Sy} (hp : a.in p) (hr : Run (linked a.l b.f δ) p w q) :
    (a.in q ∧ Run δ p w q) ∨ ∃ u v r, w = u ++ v ∧ r ∈ a.l ∧ Run δ p u r ∧ GLn b.f [q] δ v := by
  induction hr with
  | nil q => exact .inl ⟨hp, .nil q⟩
  | @cons p r q s w h hr ih =>
    rcases h with h | ⟨hl, hf⟩
    · rcases ih (ha.d _ _ hp h) with ⟨h1, h2⟩ | ⟨u, v, r', e, h1, h2, h3⟩
      · exact .inl ⟨h1, .cons h h2⟩
      · exact .inr ⟨s :: u, v, r', by rw [e]; rfl, h1, .cons h h2, h3⟩
    · exact .inr ⟨[], s :: w, p, rfl, hl, .nil p, s, w, r, q, rfl, hf, (hb.cut (seq_b ha hb hab) (hb.f _ hf)).1 hr, List.mem_singleton.2 rfl⟩
theorem seq_L {a b : Gd} {δ : Nat → Mo → Prop} (ha : a.Ok δ) (hb : b.Ok δ) (hab : a.hi = b.lo) (w : List Sy) : (seqG a b).L (linked a.l b.f δ) w ↔ CatL (a.L δ) (b.L δ) w := by
  have hbl : ∀ {q}, q ∈ b.l ++ (if b.em then a.l else []) → q ∈ b.l ∨ (b.em = true ∧ q ∈ a.l) := fun {q} hq => by
    rcases List.mem_append.1 hq with h | h
    · exact .inl h
    · cases hem : b.em with
      | true => rw [hem] at h; exact .inr ⟨rfl, h⟩
      | false => rw [hem] at h; cases h
  have hfl : ∀ {x}, x ∈ a.f ++ (if a.em then b.f else []) → x ∈ a.f ∨ (a.em = true ∧ x ∈ b.f) := fun {q} hq => by
    rcases List.mem_append.1 hq with h | h
    · exact .inl h
    · cases hem : a.em with
      | true => rw [hem] at h; exact .inr ⟨rfl, h⟩
      | false => rw [hem] at h; cases h
  constructor
  · rintro (⟨rfl, h⟩ | ⟨s, w', p, q, rfl, hp, hr, hq⟩)
    · obtain ⟨h1, h2⟩ := (show a.em = true ∧ b.em = true by simpa [seqG] using h)
      exact ⟨[], [], rfl, .inl ⟨rfl, h1⟩, .inl ⟨rfl, h2⟩⟩
    · rcases hfl hp with hp | ⟨hem, hp⟩
      · have hpa := ha.f _ hp
        rcases seq_run ha hb hab hpa hr with ⟨h1, h2⟩ | ⟨u, v, r, e, h1, h2, ⟨s2, w2, p2, q2, e2, h4, h5, h6⟩⟩
        · have hq' : b.em = true ∧ q ∈ a.l := (hbl hq).resolve_left fun h => by have := hb.l _ h; unfold Gd.in at h1 this; omega
          exact ⟨s :: w', [], by simp, .inr ⟨s, w', p, q, rfl, hp, h2, hq'.2⟩, .inl ⟨rfl, hq'.1⟩⟩
        · obtain rfl := List.mem_singleton.1 h6
          have hqb := hb.run (hb.f _ h4) h5
          have hq' : q2 ∈ b.l := (hbl hq).resolve_right fun ⟨_, h⟩ => by have := ha.l _ h; unfold Gd.in at hqb this; omega
          exact ⟨s :: u, v, by rw [e]; rfl, .inr ⟨s, u, p, r, rfl, hp, h2, h1⟩, .inr ⟨s2, w2, p2, q2, e2, h4, h5, hq'⟩⟩
      · have hr' := (hb.cut (seq_b ha hb hab) (hb.f _ hp)).1 hr
        have hqb := hb.run (hb.f _ hp) hr'
        have hq' : q ∈ b.l := (hbl hq).resolve_right fun ⟨_, h⟩ => by have := ha.l _ h; unfold Gd.in at hqb this; omega
        exact ⟨[], s :: w', rfl, .inl ⟨rfl, hem⟩, .inr ⟨s, w', p, q, rfl, hp, hr', hq'⟩⟩
  · rintro ⟨u, v, rfl, hu, hv⟩
    rcases hu with ⟨rfl, he⟩ | ⟨s, u', p, q, rfl, hp, hr, hq⟩
    · rcases hv with ⟨rfl, he'⟩ | ⟨s2, w2, p2, q2, rfl, h4, h5, h6⟩
      · exact .inl ⟨rfl, by show (a.em && b.em) = true; rw [he, he']; rfl⟩
      · exact .inr ⟨s2, w2, p2, q2, rfl, List.mem_append_right _ (by rw [if_pos he]; exact h4), h5.mono fun _ _ => .inl, List.mem_append_left _ h6⟩
    · rcases hv with ⟨rfl, he'⟩ | ⟨s2, w2, p2, q2, rfl, h4, h5, h6⟩
      · exact .inr ⟨s, u', p, q, by simp, List.mem_append_left _ hp, hr.mono fun _ _ => .inl, List.mem_append_right _ (by rw [if_pos he']; exact hq)⟩
      · exact .inr ⟨s, u' ++ s2 :: w2, p, q2, rfl, List.mem_append_left _ hp, (hr.mono fun _ _ => .inl).append (.cons (.inr ⟨hq, h4⟩) (h5.mono fun _ _ => .inl)), List.mem_append_left _ h6⟩
/-! ### Again and again: from the last ones to the first ones -/
theorem plus_ok {a : Gd} {δ : Nat → Mo → Prop} (ha : a.Ok δ) (em : Bool) : (Gd.mk a.lo a.hi a.f a.l em).Ok (linked a.l a.f δ) :=
  ⟨ha.le, ha.f, ha.l, fun q x hq hx => by
    rcases hx with hx | ⟨_, hx⟩
    · exact ha.d q x hq hx
    · exact ha.f x hx⟩
theorem plus_to {a : Gd} {δ : Nat → Mo → Prop} {p q : Nat} {w : List Sy} (hr : Run (linked a.l a.f δ) p w q) (hq : q ∈ a.l) : ∃ u v r, w = u ++ v ∧ r ∈ a.l ∧ Run δ p u r ∧ StarL (a.L δ) v := by
  induction hr with
  | nil q => exact ⟨[], [], q, rfl, hq, .nil q, .nil⟩
  | @cons p r q s w h hr ih =>
    obtain ⟨u, v, r', e, h1, h2, h3⟩ := ih hq
    rcases h with h | ⟨hl, hf⟩
    · exact ⟨s :: u, v, r', by rw [e]; rfl, h1, .cons h h2, h3⟩
    · refine ⟨[], s :: w, p, rfl, hl, .nil p, ?_⟩
      rw [e]
      exact .app (u := s :: u) (.inr ⟨s, u, r, r', rfl, hf, h2, h1⟩) h3
theorem plus_from {a : Gd} {δ : Nat → Mo → Prop} {v : List Sy} (hs : StarL (a.L δ) v) : ∀ {p r : Nat} {u : List Sy}, Run (linked a.l a.f δ) p u r → r ∈ a.l → ∃ q, q ∈ a.l ∧ Run (linked a.l a.f δ) p (u ++ v) q := by
  induction hs with
  | nil => intro p r u hr hq; exact ⟨r, hq, by simpa using hr⟩
  | @app u2 v2 h _ ih =>
    intro p r u hr hq
    rcases h with ⟨rfl, _⟩ | ⟨s, w', p2, q2, rfl, h4, h5, h6⟩
    · simpa using ih hr hq
    · have := ih (hr.append (.cons (.inr ⟨hq, h4⟩) (h5.mono fun _ _ => .inl))) h6
      simpa using this
theorem plus_n {a : Gd} {δ : Nat → Mo → Prop} (w : List Sy) : GLn a.f a.l (linked a.l a.f δ) w ↔ CatL (GLn a.f a.l δ) (StarL (a.L δ)) w := by
  constructor
  · rintro ⟨s, w', p, q, rfl, hp, hr, hq⟩
    obtain ⟨u, v, r, e, h1, h2, h3⟩ := plus_to hr hq
    exact ⟨s :: u, v, by rw [e]; rfl, ⟨s, u, p, r, rfl, hp, h2, h1⟩, h3⟩
  · rintro ⟨u, v, rfl, ⟨s, u', p, q, rfl, hp, hr, hq⟩, hv⟩
    obtain ⟨q', h1, h2⟩ := plus_from hv (hr.mono fun _ _ => .inl) hq
    exact ⟨s, u' ++ v, p, q', rfl, hp, h2, h1⟩
theorem star_split {a : Gd} {δ : Nat → Mo → Prop} (w : List Sy) : StarL (a.L δ) w ↔ w = [] ∨ GLn a.f a.l (linked a.l a.f δ) w := by
  rw [plus_n]
  constructor
  · intro h
    induction h with
    | nil => exact .inl rfl
    | @app u v h hs ih =>
      rcases h with ⟨rfl, _⟩ | h
      · simpa using ih
      · exact .inr ⟨u, v, rfl, h, hs⟩
  · rintro (rfl | ⟨u, v, rfl, h, hv⟩)
    · exact .nil
    · exact .app (.inr h) hv
theorem star_L {a : Gd} {δ : Nat → Mo → Prop} (w : List Sy) : (Gd.mk a.lo a.hi a.f a.l true).L (linked a.l a.f δ) w ↔ StarL (a.L δ) w := by
  rw [star_split]
  exact ⟨fun h => h.imp (fun h => h.1) id, fun h => h.imp (fun h => ⟨h, rfl⟩) id⟩
theorem plus_L {a : Gd} {δ : Nat → Mo → Prop} (w : List Sy) : (Gd.mk a.lo a.hi a.f a.l a.em).L (linked a.l a.f δ) w ↔ plusL (a.L δ) w := by
  constructor
  · rintro (⟨rfl, h⟩ | h)
    · exact ⟨[], [], rfl, .inl ⟨rfl, h⟩, .nil⟩
    · obtain ⟨u, v, e, h1, h2⟩ := (plus_n w).1 h
      exact ⟨u, v, e, .inr h1, h2⟩
  · rintro ⟨u, v, rfl, h1, h2⟩
    rcases h1 with ⟨rfl, he⟩ | h1
    · rcases (star_split v).1 h2 with rfl | h
      · exact .inl ⟨rfl, he⟩
      · exact .inr h
    · exact .inr ((plus_n _).2 ⟨u, v, rfl, h1, h2⟩)
theorem opt_L {a : Gd} {δ : Nat → Mo → Prop} (w : List Sy) : (Gd.mk a.lo a.hi a.f a.l true).L δ w ↔ w = [] ∨ a.L δ w := by
  constructor
  · rintro (⟨rfl, _⟩ | h)
    · exact .inl rfl
    · exact .inr (.inr h)
  · rintro (rfl | ⟨rfl, _⟩ | h)
    · exact .inl ⟨rfl, rfl⟩
    · exact .inl ⟨rfl, rfl⟩
    · exact .inr h
/-! ### The whole machine: a beginning with the first ones' moves -/
theorem whole_L {a : Gd} {δ : Nat → Mo → Prop} (ha : a.Ok δ) (h0 : a.lo = 1) (hd : ∀ x, δ 0 x ↔ x ∈ a.f) (fin : Nat → Prop) (hf : ∀ q, fin q ↔ (q ∈ a.l ∨ (q = 0 ∧ a.em = true))) (w : List Sy) :
    (∃ q, Run δ 0 w q ∧ fin q) ↔ a.L δ w := by
  constructor
  · rintro ⟨q, hr, hq⟩
    cases hr with
    | nil =>
      rcases (hf 0).1 hq with h | ⟨_, h⟩
      · have := ha.l _ h; unfold Gd.in at this; omega
      · exact .inl ⟨rfl, h⟩
    | @cons _ r _ s w h hr =>
      have hx := (hd _).1 h
      have hin := ha.run (ha.f _ hx) hr
      rcases (hf q).1 hq with h | ⟨h, _⟩
      · exact .inr ⟨s, w, r, q, rfl, hx, hr, h⟩
      · unfold Gd.in at hin; omega
  · rintro (⟨rfl, h⟩ | ⟨s, w', p, q, rfl, hp, hr, hq⟩)
    · exact ⟨0, .nil 0, (hf 0).2 (.inr ⟨rfl, h⟩)⟩
    · exact ⟨q, .cons ((hd _).2 hp) hr, (hf q).2 (.inl hq)⟩
end Go.Proofs.Ytghlajfalgdkfaa

/-
  The order of symbols, and of moves: any.
-/
namespace Go.Proofs.Ytghlajfalgdkfaa
open Go.RowKit
set_option linter.unusedVariables false
set_option linter.unusedSimpArgs false
set_option maxRecDepth 100000

def ordS (a b : Sy) : Int := if a.2 = b.2 then cmp3 a.1 b.1 else if b.2 = true then -1 else 1
def ordM (x y : Mo) : Int := if ordS x.1 y.1 ≠ 0 then ordS x.1 y.1 else cmp3 x.2 y.2
set_option maxHeartbeats 8000000 in
theorem ordS_any (a b : Int) (p q : Bool) (W : World) : Calls Try.prog 47 #[.agg #[.int .i64 a, .bool p], .agg #[.int .i64 b, .bool q]] W fun e w' => e = .returned (.int .i64 (ordS (a, p) (b, q))) ∧ Below W.heap.size W w' := by
  have HB := Lib.hid (show Below W.heap.size W ((W.alloc (.cells #[.int .i64 a, .bool p] 44)).alloc (.cells #[.int .i64 b, .bool q] 44)) from ((Below.refl _ _).alloc (Nat.le_refl _) _).alloc (by simp) _)
  unfold ordS
  dsimp only
  by_cases hpq : p = q
  · rw [if_pos hpq]
    subst hpq
    unfold cmp3
    by_cases h : a < b
    · rw [if_pos h]
      cases p
      all_goals
        go_enter Try.func47, Try.ntmps47
        go_wp2
        go_ret
        exact ⟨rfl, HB.out⟩
    · rw [if_neg h]
      have h1 : b ≤ a := by omega
      by_cases h2 : b < a
      · rw [if_pos h2]
        cases p
        all_goals
          go_enter Try.func47, Try.ntmps47
          go_wp2
          go_ret
          exact ⟨rfl, HB.out⟩
      · rw [if_neg h2]
        have h3 : a ≤ b := by omega
        cases p
        all_goals
          go_enter Try.func47, Try.ntmps47
          go_wp2
          go_ret
          exact ⟨rfl, HB.out⟩
  · rw [if_neg hpq]
    cases p <;> cases q <;> first | exact absurd rfl hpq | skip
    all_goals
      go_enter Try.func47, Try.ntmps47
      go_wp2
      go_ret
      exact ⟨rfl, HB.out⟩
theorem cmpI_any (a b : Int) (W : World) : Calls Try.prog 68 #[.int .i64 a, .int .i64 b] W fun e w' => e = .returned (.int .i64 (cmp3 a b)) ∧ w' = W := by
  unfold cmp3
  by_cases h : a < b
  · rw [if_pos h]
    go_enter Try.func68, Try.ntmps68
    go_wp2
    go_ret
    exact ⟨rfl, rfl⟩
  · rw [if_neg h]
    have h1 : b ≤ a := by omega
    by_cases h2 : b < a
    · rw [if_pos h2]
      go_enter Try.func68, Try.ntmps68
      go_wp2
      go_ret
      exact ⟨rfl, rfl⟩
    · rw [if_neg h2]
      have h3 : a ≤ b := by omega
      go_enter Try.func68, Try.ntmps68
      go_wp2
      go_ret
      exact ⟨rfl, rfl⟩
theorem or_any {W : World} {g : Nat} {x y : Int} (h0 : W.cell? ⟨g, 0, none⟩ = some (.int .i64 x)) (h1 : W.cell? ⟨g, 1, none⟩ = some (.int .i64 y)) : Calls Try.prog 69 #[.slice (some ⟨g, 0, none⟩) 2 2] W fun e w' => e = .returned (.int .i64 (if x ≠ 0 then x else y)) ∧ w' = W := by
  by_cases hx : x = 0
  · rw [if_neg (by simp [hx])]
    subst hx
    by_cases hy : y = 0
    · subst hy
      go_enter Try.func69, Try.ntmps69
      go_wp2
      go_loopg [8] 2 (fun g s8 wr => W = wr ∧ ((g = 2 ∧ s8 = .int .i64 0) ∨ (g = 1 ∧ s8 = .int .i64 1) ∨ (g = 0 ∧ s8 = .int .i64 2)))
      case atStart => exact ⟨rfl, .inl ⟨rfl, rfl⟩⟩
      case round =>
        obtain ⟨rfl, hr⟩ := hrel
        rcases hr with ⟨hg, rfl⟩ | ⟨hg, rfl⟩ | ⟨hg, rfl⟩
        · subst hg
          go_wp2
          go_roundg 1
          case measure => exact Nat.lt_succ_self _
          case rel => exact ⟨rfl, .inr (.inl ⟨rfl, rfl⟩)⟩
        · subst hg
          go_wp2
          go_roundg 0
          case measure => exact Nat.lt_succ_self _
          case rel => exact ⟨rfl, .inr (.inr ⟨rfl, rfl⟩)⟩
        · subst hg
          go_wp2
          go_ret
          exact ⟨rfl, rfl⟩
    · go_enter Try.func69, Try.ntmps69
      go_wp2
      go_loopg [8] 1 (fun g s8 wr => W = wr ∧ ((g = 1 ∧ s8 = .int .i64 0) ∨ (g = 0 ∧ s8 = .int .i64 1)))
      case atStart => exact ⟨rfl, .inl ⟨rfl, rfl⟩⟩
      case round =>
        obtain ⟨rfl, hr⟩ := hrel
        rcases hr with ⟨hg, rfl⟩ | ⟨hg, rfl⟩
        · subst hg
          go_wp2
          go_roundg 0
          case measure => exact Nat.lt_succ_self _
          case rel => exact ⟨rfl, .inr ⟨rfl, rfl⟩⟩
        · subst hg
          go_wp2
          go_ret
          exact ⟨rfl, rfl⟩
  · rw [if_pos hx]
    go_enter Try.func69, Try.ntmps69
    go_wp2
    go_loopg [8] 0 (fun g s8 wr => W = wr ∧ s8 = .int .i64 0)
    case atStart => exact ⟨rfl, rfl⟩
    case round =>
      obtain ⟨rfl, rfl⟩ := hrel
      go_wp2
      go_ret
      exact ⟨rfl, rfl⟩
set_option maxHeartbeats 8000000 in
theorem before_any (a t b u : Int) (p q : Bool) (W : World) : Calls Try.prog 54 #[.agg #[.int .i64 a, .bool p, .int .i64 t], .agg #[.int .i64 b, .bool q, .int .i64 u]] W fun e w' => e = .returned (.int .i64 (if ordS (a, p) (b, q) ≠ 0 then ordS (a, p) (b, q) else cmp3 t u)) ∧ Below W.heap.size W w' := by
  obtain ⟨W1, hW1⟩ : ∃ W1, W1 = (W.alloc (.cells #[.int .i64 a, .bool p, .int .i64 t] 84)).alloc (.cells #[.int .i64 b, .bool q, .int .i64 u] 84) := ⟨_, rfl⟩
  have hb : Below W.heap.size W W1 := by rw [hW1]; exact ((Below.refl _ _).alloc (Nat.le_refl _) _).alloc (by simp) _
  have hA : Fb W1 W.heap.size 84 #[.int .i64 a, .bool p, .int .i64 t] := by rw [hW1]; exact (Fb.new W _ _).alloc _
  have hC : Fb W1 (W.heap.size + 1) 84 #[.int .i64 b, .bool q, .int .i64 u] := by
    have := Fb.new (W.alloc (.cells #[.int .i64 a, .bool p, .int .i64 t] 84)) 84 #[.int .i64 b, .bool q, .int .i64 u]
    rw [World.size_alloc] at this
    rw [hW1]; exact this
  have HB := Lib.hid hb
  have a0 := hA.cell 0
  have a1 := hA.cell 1
  have a2 := hA.cell 2
  have c0 := hC.cell 0
  have c1 := hC.cell 1
  have c2 := hC.cell 2
  have cO := fun W => ordS_any a b p q W
  have cC := fun W => cmpI_any t u W
  generalize ordS (a, p) (b, q) = o at cO ⊢
  generalize cmp3 t u = k at cC ⊢
  have cR : ∀ (W : World) (g : Nat), W.cell? ⟨g, 0, none⟩ = some (.int .i64 o) → W.cell? ⟨g, 1, none⟩ = some (.int .i64 k) → Calls Try.prog 69 #[.slice (some ⟨g, 0, none⟩) 2 2] W fun e w' => e = .returned (.int .i64 (if o ≠ 0 then o else k)) ∧ w' = W := fun W g h0 h1 => or_any h0 h1
  generalize (if o ≠ 0 then o else k) = r at cR ⊢
  clear hb hA hC
  go_enter Try.func54, Try.ntmps54
  go_wp2
  rw [← hW1]
  clear hW1
  go_region_held3 (fun w => w.cell? ⟨W.heap.size, 0, none⟩ = some (.int .i64 a) ∧ w.cell? ⟨W.heap.size, 1, none⟩ = some (.bool p) ∧ w.cell? ⟨W.heap.size, 2, none⟩ = some (.int .i64 t) ∧ w.cell? ⟨W.heap.size + 1, 0, none⟩ = some (.int .i64 b) ∧ w.cell? ⟨W.heap.size + 1, 1, none⟩ = some (.bool q) ∧ w.cell? ⟨W.heap.size + 1, 2, none⟩ = some (.int .i64 u))
    (first | exact ⟨a0, a1, a2, c0, c1, c2⟩ | exact ⟨cell_below a0 hB, cell_below a1 hB, cell_below a2 hB, cell_below c0 hB, cell_below c1 hB, cell_below c2 hB⟩ | exact ⟨cell_below a0 (hB.alloc hB.size _), cell_below a1 (hB.alloc hB.size _), cell_below a2 (hB.alloc hB.size _), cell_below c0 (hB.alloc hB.size _), cell_below c1 (hB.alloc hB.size _), cell_below c2 (hB.alloc hB.size _)⟩)
    (first
      | (go_at_call 69; (with_reducible refine (cR _ _ ((Fb.new _ 3 #[.int .i64 o, .int .i64 k]).cell 0) ((Fb.new _ 3 #[.int .i64 o, .int .i64 k]).cell 1)).mono ?_); rintro e w2 ⟨rfl, rfl⟩)
      | (go_at_call 68; (with_reducible refine (cC _).mono ?_); rintro e w1 ⟨rfl, rfl⟩)
      | (go_at_call 47; (with_reducible refine (cO _).mono ?_); rintro e w1 ⟨rfl, hB0⟩; have hB := (Below.drew (Below.refl W1.heap.size W1)).trans hB0)
      | fail)
  all_goals
    have HB5 := Lib.hid (HB.out.trans ((hB.alloc hB.size (.cells #[.int .i64 o, .int .i64 k] 3)).mono HB.out.size))
    clear hB
    go_wp2
    go_ret
    exact ⟨rfl, HB5.out⟩
/-! ### The order is a whole one -/
theorem cmp3_neg (a b : Int) : cmp3 a b < 0 ↔ a < b := by unfold cmp3; split <;> (try split) <;> omega
theorem cmp3_zero (a b : Int) : cmp3 a b = 0 ↔ a = b := by unfold cmp3; split <;> (try split) <;> omega
theorem ordS_zero (a b : Sy) : ordS a b = 0 ↔ a = b := by
  obtain ⟨a, p⟩ := a
  obtain ⟨b, q⟩ := b
  unfold ordS
  cases p <;> cases q <;> simp [cmp3_zero]
def ltS (a b : Sy) : Prop := (a.2 = b.2 ∧ a.1 < b.1) ∨ (a.2 = false ∧ b.2 = true)
theorem ordS_neg (a b : Sy) : ordS a b < 0 ↔ ltS a b := by
  obtain ⟨a, p⟩ := a
  obtain ⟨b, q⟩ := b
  unfold ordS ltS
  cases p <;> cases q <;> simp [cmp3_neg]
def ltM (x y : Mo) : Prop := ltS x.1 y.1 ∨ (x.1 = y.1 ∧ x.2 < y.2)
theorem ordM_neg (x y : Mo) : ordM x y < 0 ↔ ltM x y := by
  unfold ordM ltM
  by_cases h : ordS x.1 y.1 = 0
  · rw [if_neg (by simp [h]), cmp3_neg]
    have h' := (ordS_zero _ _).1 h
    constructor
    · intro h1; exact .inr ⟨h', by omega⟩
    · rintro (h1 | ⟨_, h1⟩)
      · have := (ordS_neg _ _).2 h1; omega
      · omega
  · rw [if_pos h, ordS_neg]
    constructor
    · exact .inl
    · rintro (h1 | ⟨h1, _⟩)
      · exact h1
      · exact absurd ((ordS_zero _ _).2 h1) h
theorem ordM_zero (x y : Mo) : ordM x y = 0 ↔ x = y := by
  unfold ordM
  by_cases h : ordS x.1 y.1 = 0
  · rw [if_neg (by simp [h]), cmp3_zero]
    have h' := (ordS_zero _ _).1 h
    constructor
    · intro h1; exact Prod.ext h' (by omega)
    · rintro rfl; rfl
  · rw [if_pos h]
    constructor
    · intro h1; exact absurd h1 h
    · rintro rfl; exact absurd ((ordS_zero _ _).2 rfl) h
theorem ltS_trans {a b c : Sy} (h : ltS a b) (h' : ltS b c) : ltS a c := by
  obtain ⟨a, p⟩ := a
  obtain ⟨b, q⟩ := b
  obtain ⟨c, r⟩ := c
  unfold ltS at *
  cases p <;> cases q <;> cases r <;> simp at * <;> omega
theorem ltS_irrefl (a : Sy) : ¬ ltS a a := by
  obtain ⟨a, p⟩ := a
  unfold ltS
  cases p <;> simp
theorem ltS_tri (a b : Sy) : ltS a b ∨ a = b ∨ ltS b a := by
  obtain ⟨a, p⟩ := a
  obtain ⟨b, q⟩ := b
  unfold ltS
  cases p <;> cases q <;> simp <;> omega
theorem ltM_trans {a b c : Mo} (h : ltM a b) (h' : ltM b c) : ltM a c := by
  rcases h with h | ⟨h, h1⟩ <;> rcases h' with h' | ⟨h', h2⟩
  · exact .inl (ltS_trans h h')
  · exact .inl (h' ▸ h)
  · exact .inl (h ▸ h')
  · exact .inr ⟨h.trans h', by omega⟩
theorem ltM_irrefl (a : Mo) : ¬ ltM a a := by
  rintro (h | ⟨_, h⟩)
  · exact ltS_irrefl _ h
  · omega
theorem ltM_tri (a b : Mo) : ltM a b ∨ a = b ∨ ltM b a := by
  rcases ltS_tri a.1 b.1 with h | h | h
  · exact .inl (.inl h)
  · rcases Nat.lt_trichotomy a.2 b.2 with h1 | h1 | h1
    · exact .inl (.inr ⟨h, h1⟩)
    · exact .inr (.inl (Prod.ext h h1))
    · exact .inr (.inr (.inr ⟨h.symm, h1⟩))
  · exact .inr (.inr (.inl h))
end Go.Proofs.Ytghlajfalgdkfaa

/-
  append to nothing: a new row.
-/
namespace Go.Proofs.Ytghlajfalgdkfaa
open Go.RowKit
set_option linter.unusedVariables false
set_option linter.unusedSimpArgs false
set_option maxRecDepth 100000

theorem info_parts {e : TypeId} {x : Option Value × Nat × Nat} (h : (Try.prog.info? e).map (fun i => (i.zero, i.size, i.bytes)) = some x) : ∃ i, Try.prog.info? e = some i ∧ i.zero = x.1 ∧ i.size = x.2.1 ∧ i.bytes = x.2.2 := by
  cases hi : Try.prog.info? e with
  | none => rw [hi] at h; cases h
  | some i =>
    rw [hi] at h
    simp only [Option.map_some, Option.some.injEq] at h
    exact ⟨i, rfl, by rw [← h], by rw [← h], by rw [← h]⟩
theorem nfInt : (Try.prog.info? 3).map (fun i => (i.zero, i.size, i.bytes)) = some (some (.int .i64 0), 1, 8) := by kernel_rfl
theorem nfMove : (Try.prog.info? 84).map (fun i => (i.zero, i.size, i.bytes)) = some (some (.agg #[.int .i64 0, .bool false, .int .i64 0]), 3, 24) := by kernel_rfl
theorem nfState : (Try.prog.info? 73).map (fun i => (i.zero, i.size, i.bytes)) = some (some (.agg #[.slice none 0 0, .bool false]), 2, 32) := by kernel_rfl
/-- A row with something in it, where it lies. -/
theorem own_at {B : Nat} {w : World} {e : TypeId} {size n : Nat} {v : Value} {xs : List Value} (h : w.ownsRow B e size v n xs) (hn : n ≠ 0) : ∃ g c, v = .slice (some ⟨g, 0, none⟩) n c ∧ n ≤ c ∧ B ≤ g ∧ g < w.heap.size ∧ ∀ j u, xs[j]? = some u → w.cell? ⟨g, j, none⟩ = some u := by
  rcases id h.2 with ⟨_, h0⟩ | ⟨g, cap, cur, hv, hB, hg, hc, _⟩
  · exact absurd h0 hn
  · refine ⟨g, cap, hv, hc, hB, (Array.getElem?_eq_some_iff.1 hg).1, fun j u hj => ?_⟩
    have := h.cells (g := g) (by rw [hv]; rfl) j u hj
    rwa [at_add, Nat.zero_add] at this
theorem app_ints1 (B : Nat) (w : World) (hB : B ≤ w.heap.size) (x : Int) : ∃ g c w', (Builtin.append_ #[51, 51] 51 #[.slice none 0 0, .slice (some ⟨w.heap.size, 0, none⟩) 1 1]).run Try.prog (w.alloc (.cells #[.int .i64 x] 3)) = .ok (.slice (some ⟨g, 0, none⟩) 1 c) w' ∧
    w'.ownsRow B 3 1 (.slice (some ⟨g, 0, none⟩) 1 c) 1 [.int .i64 x] ∧ Below w.heap.size w w' ∧ w'.cell? ⟨g, 0, none⟩ = some (.int .i64 x) := by
  obtain ⟨i0, hi0, hi1, hi2, hi3⟩ := info_parts nfInt
  obtain ⟨v', w', hap, hown, hgrow, _⟩ := run_append_own (P := Try.prog) (w := w.alloc (.cells #[.int .i64 x] 3)) B 51 51 3 i0 (.int .i64 0) 1 8 Try.underlying51 hi0 hi1 hi2 hi3 rfl (by decide)
    (.slice none 0 0) 0 [] (World.ownsRow_nil _ _ _ _) ⟨w.heap.size, 0, none⟩ 1 1 [.int .i64 x] rfl (fun j u hj => by
      match j, hj with
      | 0, hj => simp at hj; subst hj; simp [Addr.add]) (fun u hu => by simp at hu; subst hu; rfl) (by unfold maxLen; omega) (by omega) (by rw [World.size_alloc]; omega)
  simp only [Nat.zero_add, List.nil_append] at hown
  obtain ⟨g, c, rfl, hc, hBg, hlt, hcell⟩ := own_at hown (by omega)
  exact ⟨g, c, w', hap, hown, ((Below.refl w.heap.size w).alloc (Nat.le_refl _) _).grown hgrow (by simp) (fun k hk => by cases hk), hcell 0 _ rfl⟩
/-- append of one move that lies at the beginning of a row. -/
theorem app_moves1 (w : World) (k c0 : Nat) (N : Int) (h0 : w.cell? ⟨k, 0, none⟩ = some (.int .i64 N)) (h1 : w.cell? ⟨k, 1, none⟩ = some (.bool false)) (h2 : w.cell? ⟨k, 2, none⟩ = some (.int .i64 1)) :
    ∃ g c w', (Builtin.append_ #[67, 67] 67 #[.slice none 0 0, .slice (some ⟨k, 0, none⟩) 1 c0]).run Try.prog w = .ok (.slice (some ⟨g, 0, none⟩) 1 c) w' ∧ 1 ≤ c ∧ w.heap.size ≤ g ∧ g < w'.heap.size ∧ Below w.heap.size w w' ∧
      w'.cell? ⟨g, 0, none⟩ = some (.int .i64 N) ∧ w'.cell? ⟨g, 1, none⟩ = some (.bool false) ∧ w'.cell? ⟨g, 2, none⟩ = some (.int .i64 1) := by
  obtain ⟨i0, hi0, hi1, hi2, hi3⟩ := info_parts nfMove
  obtain ⟨v', w', hap, hown, hgrow, _⟩ := run_append_own (P := Try.prog) (w := w) w.heap.size 67 67 84 i0 (.agg #[.int .i64 0, .bool false, .int .i64 0]) 3 24 Try.underlying67 hi0 hi1 hi2 hi3 (by decide) (by decide)
    (.slice none 0 0) 0 [] (World.ownsRow_nil _ _ _ _) ⟨k, 0, none⟩ 1 c0 [.int .i64 N, .bool false, .int .i64 1] rfl (fun j u hj => by
      rw [at_add, Nat.zero_add]
      match j, hj with
      | 0, hj => simp at hj; subst hj; exact h0
      | 1, hj => simp at hj; subst hj; exact h1
      | 2, hj => simp at hj; subst hj; exact h2) (fun u hu => by simp at hu; rcases hu with rfl | rfl | rfl <;> rfl) (by unfold maxLen; omega) (by omega) (Nat.le_refl _)
  simp only [Nat.zero_add, List.nil_append] at hown
  obtain ⟨g, c, rfl, hc, hBg, hlt, hcell⟩ := own_at hown (by omega)
  exact ⟨g, c, w', hap, hc, hBg, hlt, (Below.refl w.heap.size w).grown hgrow (Nat.le_refl _) (fun k hk => by cases hk), hcell 0 _ rfl, hcell 1 _ rfl, hcell 2 _ rfl⟩
end Go.Proofs.Ytghlajfalgdkfaa

/-
  slices.Insert of one move, THERE BEING ROOM, ahead of others: in place.
-/
namespace Go.Proofs.Ytghlajfalgdkfaa
open Go.RowKit Go.Lib
set_option linter.unusedVariables false
set_option linter.unusedSimpArgs false
set_option maxRecDepth 100000

/-- copy between rows of elements of z cells. -/
theorem run_copy_rowz {P : Program} (w : World) (dT sT ty elem : TypeId) (z g o dLen dCap : Nat) (a : Addr) (sLen sCap : Nat) (cur : Array Value) (t : TypeId) (cs : List Value)
    (hu : P.underlying dT = some (.slice elem)) (hs : (P.info? elem).map (·.size) = some z)
    (hg : w.heap[g]? = some (.cells cur t (0, 0))) (hn : cs.length = Nat.min sLen dLen * z)
    (hsrc : ∀ j v, cs[j]? = some v → w.cell? (a.add j) = some v) (hfit : o + cs.length ≤ cur.size) (h1 : ∀ v ∈ cs, v.oneCell' = true) :
    (Builtin.copy_ #[dT, sT] ty #[.slice (some ⟨g, o, none⟩) dLen dCap, .slice (some a) sLen sCap]).run P w =
      .ok (goInt (Nat.min sLen dLen)) (w.setRow g (cur.toList.take o ++ cs ++ cur.toList.drop (o + cs.length)).toArray) := by
  have hl := run_loadCells_list (P := P) w a cs hsrc
  have hst := run_storeCells_at P g o t cs 0 cur w hg (by simpa using hfit) h1
  cases hq : P.info? elem with
  | none => simp [hq] at hs
  | some i =>
    have hi : i.size = z := by simpa [hq] using hs
    simp [Builtin.copy_, run_underlying hu, Builtin.lenOf, Builtin.firstCells, sizeOf, typeInfo, hq, hi, ← hn, hl, hst]
theorem ins_list {α : Type} (L X : List α) (k n : Nat) (hk : k + X.length ≤ n + X.length) (hn : n + X.length ≤ L.length) :
    let A1 := L.take (k + X.length) ++ (L.take n).drop k ++ L.drop (k + X.length + (n - k))
    (A1.take k ++ X ++ A1.drop (k + X.length)).take (n + X.length) = (L.take n).take k ++ X ++ (L.take n).drop k := by
  intro A1
  have hkn : k ≤ n := by omega
  have e1 : A1.take k = (L.take n).take k := by
    show (L.take (k + X.length) ++ (L.take n).drop k ++ L.drop (k + X.length + (n - k))).take k = _
    rw [List.append_assoc, List.take_append_of_le_length (by rw [List.length_take]; omega), List.take_take, List.take_take]
    congr 1
    omega
  have e2 : A1.drop (k + X.length) = (L.take n).drop k ++ L.drop (k + X.length + (n - k)) := by
    show (L.take (k + X.length) ++ (L.take n).drop k ++ L.drop (k + X.length + (n - k))).drop (k + X.length) = _
    rw [List.append_assoc, List.drop_append, List.length_take, List.drop_eq_nil_of_le (by rw [List.length_take]; omega)]
    rw [show k + X.length - min (k + X.length) L.length = 0 by omega]
    simp
  rw [e1, e2, ← List.append_assoc, List.take_append_of_le_length (by simp; omega)]
  refine List.take_of_length_le ?_
  simp
  omega
theorem keyInfo : (Try.prog.info? 84).map (·.size) = some 3 := by kernel_rfl
theorem keySize : ∀ w, (sizeOf 84).run Try.prog w = .ok 3 w := fun w => by
  obtain ⟨i, hi⟩ : ∃ i, Try.prog.info? 84 = some i := Option.isSome_iff_exists.1 (by kernel_rfl)
  have := keyInfo
  rw [hi] at this
  have hz : i.size = 3 := by simpa using this
  simp [sizeOf, typeInfo, hi, hz]
theorem setRow_grown {W : World} {g : Nat} (cs : Array Value) {w0 : World} {r : Option Nat} (h : w0.grownBy W r) (hr : r = some g) : w0.grownBy (W.setRow g cs) r := by
  subst hr
  exact ⟨h.os, h.tape, h.output, by simpa [World.setRow] using h.size, fun k hk hne => (setRow_other W g k cs (fun e => hne (by rw [e]))).trans (h.block k hk hne)⟩
theorem keys_lit (g o j : Nat) : (⟨g, o, none⟩ : Addr).add j = ⟨g, o + j, none⟩ := at_add g o j
set_option maxHeartbeats 8000000 in
/-- There is room, and the place is ahead of another one: in place. -/
theorem kins_shift {W : World} {g n cap i vb vc : Nat} {L : List Value} {a c : Int} {b : Bool} (hg : W.heap[g]? = some (.cells L.toArray 84 (0, 0))) (hc : L.length = cap * 3) (hi : i < n) (hroom : n + 1 ≤ cap) (hm0 : cap ≤ maxLen) (hv : Fb W vb 84 #[.int .i64 a, .bool b, .int .i64 c]) (hne : vb ≠ g) (h1 : ∀ v ∈ L.take (n * 3), v.oneCell' = true) :
    Calls Try.prog 55 #[.slice (some ⟨g, 0, none⟩) n cap, .int .i64 i, .slice (some ⟨vb, 0, none⟩) 1 vc] W fun e w' => e = .returned (.slice (some ⟨g, 0, none⟩) (n + 1) cap) ∧ W.grownBy w' (some g) ∧ ∃ L2 : List Value, w'.heap[g]? = some (.cells L2.toArray 84 (0, 0)) ∧ L2.length = L.length ∧ L2.take ((n + 1) * 3) = (L.take (n * 3)).take (i * 3) ++ [.int .i64 a, .bool b, .int .i64 c] ++ (L.take (n * 3)).drop (i * 3) := by
  have hm : cap ≤ 9223372036854775807 := hm0
  clear hm0
  have hgl : g < W.heap.size := (Array.getElem?_eq_some_iff.1 hg).1
  have hz3 : ¬ ((cap : Int) < (n : Int) + 1) := by omega
  have hz2 : ¬ ((i : Int) = (n : Int)) := by omega
  have hov : ∀ lb cb, (callFunc 70 #[.slice (some ⟨vb, 0, none⟩) 1 vc, .slice (some ⟨g, (i + 1) * 3, none⟩) lb cb]).run Try.prog W = .ok (.value (.bool false)) W := fun lb cb => by
    rw [run_callFunc_extern Try.func70 (by kernel_rfl) (by kernel_rfl) (by kernel_rfl) (e := Extern.SlicesOverlaps.overlaps #[67, 67] #[4]) (by kernel_rfl),
      Lib.run_overlaps_apart W 67 4 84 Try.underlying67 3 keySize ⟨vb, 0, none⟩ ⟨g, (i + 1) * 3, none⟩ 1 vc lb cb hne 84 84 3 L.length (by unfold Fb at hv; unfold World.shape?; rw [hv]; rfl) (by unfold World.shape?; rw [hg]; rfl) (by omega) (hv.free 0) (hv.free 3)]
    rfl
  obtain ⟨cs, hcs⟩ : ∃ cs, cs = (L.take (n * 3)).drop (i * 3) := ⟨_, rfl⟩
  have hcl : cs.length = (n - i) * 3 := by rw [hcs, List.length_drop, List.length_take, Nat.min_eq_left (by omega), Nat.sub_mul]
  obtain ⟨A1, hA1⟩ : ∃ A1, A1 = L.take ((i + 1) * 3) ++ cs ++ L.drop ((i + 1) * 3 + cs.length) := ⟨_, rfl⟩
  have hA1l : A1.length = L.length := by rw [hA1]; simp; omega
  have hgd : (W.drew).heap[g]? = some (.cells L.toArray 84 (0, 0)) := hg
  have hcp1 : ∀ ty dc sc, (Builtin.copy_ #[67, 67] ty #[.slice (some ⟨g, (i + 1) * 3, none⟩) (n - i) dc, .slice (some ⟨g, i * 3, none⟩) (n + 1 - i) sc]).run Try.prog W.drew = .ok (goInt (Nat.min (n + 1 - i) (n - i))) (W.drew.setRow g A1.toArray) := fun ty dc sc => by
    have h := run_copy_rowz (P := Try.prog) W.drew 67 67 ty 84 3 g ((i + 1) * 3) (n - i) dc ⟨g, i * 3, none⟩ (n + 1 - i) sc L.toArray 84 cs Try.underlying67 keyInfo hgd (by rw [hcl]; congr 1; simp only [Nat.min_def]; split <;> omega)
      (fun j v hj => by
        rw [at_add, cell_of_row W.drew g _ _ _ _ hgd]
        rw [hcs, List.getElem?_drop, List.getElem?_take] at hj
        split at hj
        · simpa using hj
        · cases hj) (by simp; omega) (fun v hv => h1 v (List.mem_of_mem_drop (by rw [← hcs]; exact hv)))
    rw [h, hA1]
  obtain ⟨W1, hW1⟩ : ∃ W1, W1 = W.drew.setRow g A1.toArray := ⟨_, rfl⟩
  have hg1 : W1.heap[g]? = some (.cells A1.toArray 84 (0, 0)) := by rw [hW1]; exact setRow_heap W.drew g _ _ _ _ hgd
  have hv1 : Fb W1 vb 84 #[.int .i64 a, .bool b, .int .i64 c] := by rw [hW1]; exact (setRow_other W.drew g vb _ hne).trans hv
  have hgr1 : W.grownBy W1 (some g) := by rw [hW1]; exact setRow_grown _ ⟨rfl, rfl, rfl, Nat.le_refl _, fun _ _ _ => rfl⟩ rfl
  obtain ⟨A2, hA2⟩ : ∃ A2, A2 = A1.take (i * 3) ++ [.int .i64 a, .bool b, .int .i64 c] ++ A1.drop (i * 3 + 3) := ⟨_, rfl⟩
  have hcp2 : ∀ (W2 : World), W2.heap = W1.heap → ∀ ty dc, (Builtin.copy_ #[67, 67] ty #[.slice (some ⟨g, i * 3, none⟩) (n + 1 - i) dc, .slice (some ⟨vb, 0, none⟩) 1 vc]).run Try.prog W2 = .ok (goInt (Nat.min 1 (n + 1 - i))) (W2.setRow g A2.toArray) := fun W2 hW2 ty dc => by
    have h := run_copy_rowz (P := Try.prog) W2 67 67 ty 84 3 g (i * 3) (n + 1 - i) dc ⟨vb, 0, none⟩ 1 vc A1.toArray 84 [.int .i64 a, .bool b, .int .i64 c] Try.underlying67 keyInfo (by rw [hW2]; exact hg1) (by simp only [Nat.min_def]; split <;> simp <;> omega)
      (fun j v hj => by
        rw [at_add, cell_of_row W2 vb _ _ _ _ (show W2.heap[vb]? = _ from by rw [hW2]; exact hv1)]
        simpa using hj) (by simp; omega) (fun v hv => by simp at hv; rcases hv with rfl | rfl | rfl <;> rfl)
    rw [h, hA2]
    rfl
  have hE : ∀ (W2 : World), W2.heap = W1.heap → W1.os = W2.os ∧ W1.tape = W2.tape ∧ W1.output = W2.output → W.grownBy (W2.setRow g A2.toArray) (some g) ∧ ∃ L2 : List Value, (W2.setRow g A2.toArray).heap[g]? = some (.cells L2.toArray 84 (0, 0)) ∧ L2.length = L.length ∧ L2.take ((n + 1) * 3) = (L.take (n * 3)).take (i * 3) ++ [.int .i64 a, .bool b, .int .i64 c] ++ (L.take (n * 3)).drop (i * 3) := fun W2 hh ⟨e1, e2, e3⟩ => by
    refine ⟨setRow_grown _ ⟨e1 ▸ hgr1.os, e2 ▸ hgr1.tape, e3 ▸ hgr1.output, by rw [hh]; exact hgr1.size, fun k hk hne => by rw [hh]; exact hgr1.block k hk hne⟩ rfl, A2, setRow_heap W2 g _ _ _ _ (by rw [hh]; exact hg1), ?_, ?_⟩
    · rw [hA2]; simp; omega
    · have h := ins_list L [.int .i64 a, .bool b, .int .i64 c] (i * 3) (n * 3) (by omega) (by simp; omega)
      have e4 : (n + 1) * 3 = n * 3 + 3 := by omega
      have e5 : (i + 1) * 3 = i * 3 + 3 := by omega
      rw [e4, hA2, hA1, hcl, hcs, e5, Nat.sub_mul]
      exact h
  rw [← hW1] at hcp1
  have HE := Lib.hid hE
  have hw1 : IntKind.i64.wrap ((i : Int) + 1) = (i : Int) + 1 := IntWalk.i64_in _ (by omega)
  have hw2 : IntKind.i64.wrap ((n : Int) + 1) = (n : Int) + 1 := IntWalk.i64_in _ (by omega)
  have hb1 : (0 : Int) ≤ (i : Int) + 1 := by omega
  have hb0 : (0 : Int) ≤ (i : Int) := by omega
  have hbn : (i : Int) ≤ (n : Int) := by omega
  have hb3 : (n : Int) + 1 ≤ (cap : Int) := by omega
  have hb4 : (0 : Int) ≤ (n : Int) + 1 := by omega
  have hb5 : (i : Int) + 1 ≤ (n : Int) + 1 := by omega
  have hb6 : (i : Int) ≤ (n : Int) + 1 := by omega
  have hb7 : ¬ cap = i := by omega
  have hb8 : ¬ cap = i + 1 := by omega
  clear hE hgr1 hv1 hg1 hgd hA1l hcl h1 hv hg hA1 hA2 hcs
  go_enter Try.func55, Try.ntmps55
  go_wp2_with (simp only [hov])
  go_region_law (refine step_copy_runI rfl _ _ 67 67 rfl _ _ (by simp [Act.eval, Act.put]) (by simp [Act.eval, Act.put]) (hcp1 _ _ _) ?_)
  go_wp2_with (at_builtin; refine wpList_copy_runI _ rfl _ _ 67 67 rfl _ _ rfl rfl (hcp2 _ rfl _ _) ?_)
  go_ret
  exact ⟨rfl, HE.out _ (by first | rfl | rw [hW1]) ⟨by first | rfl | rw [hW1], by first | rfl | rw [hW1], by first | rfl | rw [hW1]⟩⟩
end Go.Proofs.Ytghlajfalgdkfaa

/-
  slices.Insert of one move, THERE BEING NO ROOM, ahead of others: a new row.
-/
namespace Go.Proofs.Ytghlajfalgdkfaa
open Go.RowKit Go.Lib
set_option linter.unusedVariables false
set_option linter.unusedSimpArgs false
set_option maxRecDepth 100000

theorem ins_new {α : Type} (R X cs : List α) (k n : Nat) (hc : cs.length = n - k) (hkn : k ≤ n) (hn : n + X.length ≤ R.length) :
    let A1 := R.take k ++ X ++ R.drop (k + X.length)
    (A1.take (k + X.length) ++ cs ++ A1.drop (k + X.length + cs.length)).take (n + X.length) = R.take k ++ X ++ cs := by
  intro A1
  have e1 : A1.take (k + X.length) = R.take k ++ X := by
    show (R.take k ++ X ++ R.drop (k + X.length)).take (k + X.length) = _
    rw [List.take_append_of_le_length (by simp; omega)]
    exact List.take_of_length_le (by simp; omega)
  rw [e1, List.take_append_of_le_length (by simp; omega)]
  exact List.take_of_length_le (by simp; omega)
theorem keyZ : (Try.prog.info? 84).map (fun i => (i.zero, i.size, i.bytes)) = some (some (.agg #[.int .i64 0, .bool false, .int .i64 0]), 3, 24) := by kernel_rfl
theorem kTypes : Try.prog.underlying 3 = some (.int .i64) := by kernel_rfl
set_option maxHeartbeats 16000000 in
/-- There is no room (n keys, n places), and the place is ahead of another one: a new row. -/
theorem kins_grow {W : World} {g n i vb vc : Nat} {L : List Value} {a c : Int} {b : Bool} (hg : W.heap[g]? = some (.cells L.toArray 84 (0, 0))) (hc : L.length = n * 3) (hi : i < n) (hm : n ≤ 100000) (hv : Fb W vb 84 #[.int .i64 a, .bool b, .int .i64 c]) (h1 : ∀ v ∈ L, v.oneCell' = true) :
    Calls Try.prog 55 #[.slice (some ⟨g, 0, none⟩) n n, .int .i64 i, .slice (some ⟨vb, 0, none⟩) 1 vc] W fun e w' => ∃ G, e = .returned (.slice (some ⟨W.heap.size, 0, none⟩) (n + 1) G) ∧ W.grownBy w' none ∧ n + 1 ≤ G ∧ G ≤ maxLen ∧ ∃ L2 : List Value, w'.heap[W.heap.size]? = some (.cells L2.toArray 84 (0, 0)) ∧ L2.length = G * 3 ∧ L2.take ((n + 1) * 3) = L.take (i * 3) ++ [.int .i64 a, .bool b, .int .i64 c] ++ L.drop (i * 3) := by
  have hgl : g < W.heap.size := (Array.getElem?_eq_some_iff.1 hg).1
  have hvl : vb < W.heap.size := hv.lt
  obtain ⟨iT, hT0, hT1, hT2, hT3⟩ := info_parts keyZ
  dsimp only at hT1 hT2 hT3
  have hold : (Builtin.firstCells iT.size i (.slice (some ⟨g, 0, none⟩) i n)).run Try.prog W.drew = .ok (L.take (i * 3)).toArray W.drew := by
    rw [hT2]
    exact run_firstCells_some W.drew 3 i ⟨g, 0, none⟩ i n (L.take (i * 3)) (by rw [List.length_take]; omega) (fun j v hj => by
      rw [at_add, cell_of_row W.drew g _ _ _ _ (show W.drew.heap[g]? = _ from hg)]
      rw [List.getElem?_take] at hj
      split at hj
      · simpa using hj
      · cases hj)
  have hik : i + (n + 1 - i) = n + 1 := by omega
  obtain ⟨G, hG⟩ : ∃ G, G = grownCap W (n + 1) n 84 := ⟨_, rfl⟩
  obtain ⟨ROW, hROW⟩ : ∃ ROW : Array Value, ROW = (L.take (i * 3)).toArray ++ Builtin.zeroCells (Value.agg #[.int .i64 0, .bool false, .int .i64 0]).cells (n + 1 - i) ++ Builtin.zeroCells (Value.agg #[.int .i64 0, .bool false, .int .i64 0]).cells (G - (n + 1)) := ⟨_, rfl⟩
  have hkk : (n : Int) + 1 - (i : Int) = ((n + 1 - i : Nat) : Int) := by omega
  have hrz : ∀ ty, (Builtin.append_ #[67, 3] ty #[.slice (some ⟨g, 0, none⟩) i n, .int .i64 ((n : Int) + 1 - (i : Int))]).run Try.prog W = .ok (.slice (some ⟨W.heap.size, 0, none⟩) (n + 1) G) (W.drew.alloc (.cells ROW 84)) := fun ty => by
    have h := Lib.run_append_grow_zeros W 67 3 ty 84 iT _ .i64 .i64 Try.underlying67 kTypes hT0 hT1 (some ⟨g, 0, none⟩) i n (L.take (i * 3)) hold (n + 1 - i) (by omega) (by omega) (by omega) (by omega) (by rw [hT3]; omega) (by rw [hT3, hik]; exact growslice_fits (by omega) (by omega))
    rw [hik, ← hG, ← hROW] at h
    rw [hkk]
    exact h
  have hGn : n + 1 ≤ G := by rw [hG]; exact grownCap_ge W _ _ _
  have hGm : G ≤ maxLen := by rw [hG]; exact grownCap_le_maxLen W (n + 1) n 84 (by unfold maxLen; omega)
  have hRl : ROW.size = G * 3 := by
    rw [hROW]
    simp [size_zeroCells, Value.cells, hc]
    omega
  have hRt : ROW.toList.take (i * 3) = L.take (i * 3) := by
    rw [hROW]
    simp only [Array.toList_append, List.append_assoc]
    rw [List.take_append_of_le_length (by simp; omega)]
    exact List.take_of_length_le (by simp; exact Nat.min_le_left _ _)
  obtain ⟨R, hR⟩ : ∃ R, R = ROW.toList := ⟨_, rfl⟩
  have hRR : ROW = R.toArray := by rw [hR]
  rw [← hR] at hRt
  have hRz : R.length = G * 3 := by rw [hR]; simpa using hRl
  subst hRR
  obtain ⟨W1, hW1⟩ : ∃ W1, W1 = W.drew.alloc (.cells R.toArray 84) := ⟨_, rfl⟩
  have hN1 : W1.heap[W.heap.size]? = some (.cells R.toArray 84 (0, 0)) := by rw [hW1]; exact heap_alloc_new W.drew _
  have hB1 : Below W.heap.size W W1 := by rw [hW1]; exact (Below.drew (Below.refl _ _)).alloc (Nat.le_refl _) _
  obtain ⟨cs, hcs⟩ : ∃ cs, cs = L.drop (i * 3) := ⟨_, rfl⟩
  have hcl : cs.length = (n - i) * 3 := by rw [hcs, List.length_drop, hc, Nat.sub_mul]
  obtain ⟨A1, hA1⟩ : ∃ A1, A1 = R.take (i * 3) ++ [.int .i64 a, .bool b, .int .i64 c] ++ R.drop (i * 3 + 3) := ⟨_, rfl⟩
  obtain ⟨A2, hA2⟩ : ∃ A2, A2 = A1.take ((i + 1) * 3) ++ cs ++ A1.drop ((i + 1) * 3 + cs.length) := ⟨_, rfl⟩
  have hA1l : A1.length = G * 3 := by rw [hA1]; simp; omega
  have hcpA : ∀ (V : World), V.heap = W1.heap → ∀ ty dc, (Builtin.copy_ #[67, 67] ty #[.slice (some ⟨W.heap.size, i * 3, none⟩) (n + 1 - i) dc, .slice (some ⟨vb, 0, none⟩) 1 vc]).run Try.prog V = .ok (goInt (Nat.min 1 (n + 1 - i))) (V.setRow W.heap.size A1.toArray) := fun V hV ty dc => by
    have h := run_copy_rowz (P := Try.prog) V 67 67 ty 84 3 W.heap.size (i * 3) (n + 1 - i) dc ⟨vb, 0, none⟩ 1 vc R.toArray 84 [.int .i64 a, .bool b, .int .i64 c] Try.underlying67 keyInfo (by rw [hV]; exact hN1) (by simp only [Nat.min_def]; split <;> simp <;> omega)
      (fun j v hj => by
        rw [at_add, cell_of_row V vb _ _ _ _ (show V.heap[vb]? = _ from by rw [hV]; exact (hB1.block vb hvl).trans hv)]
        simpa using hj) (by simp; omega) (fun v hv => by simp at hv; rcases hv with rfl | rfl | rfl <;> rfl)
    rw [h, hA1]
    rfl
  have hcpB : ∀ (V : World), V.heap = (W1.setRow W.heap.size A1.toArray).heap → ∀ ty dc sc, (Builtin.copy_ #[67, 67] ty #[.slice (some ⟨W.heap.size, (i + 1) * 3, none⟩) (n - i) dc, .slice (some ⟨g, i * 3, none⟩) (n - i) sc]).run Try.prog V = .ok (goInt (n - i)) (V.setRow W.heap.size A2.toArray) := fun V hV ty dc sc => by
    have h := run_copy_rowz (P := Try.prog) V 67 67 ty 84 3 W.heap.size ((i + 1) * 3) (n - i) dc ⟨g, i * 3, none⟩ (n - i) sc A1.toArray 84 cs Try.underlying67 keyInfo (by rw [hV]; exact setRow_heap W1 _ _ _ _ _ hN1) (by rw [hcl]; congr 1; simp only [Nat.min_def]; split <;> omega)
      (fun j v hj => by
        rw [at_add, cell_of_row V g _ _ _ _ (show V.heap[g]? = _ from by rw [hV, setRow_other W1 _ g _ (by omega)]; exact (hB1.block g hgl).trans hg)]
        rw [hcs, List.getElem?_drop] at hj
        simpa using hj) (by simp; omega) (fun v hv => h1 v (List.mem_of_mem_drop (by rw [← hcs]; exact hv)))
    rw [h, hA2]
    simp only [Nat.min_def]
    congr 2
    split <;> omega
  have hE : ∀ (V : World), V.heap = (W1.setRow W.heap.size A1.toArray).heap → V.os = W.os ∧ V.tape = W.tape ∧ V.output = W.output → W.grownBy (V.setRow W.heap.size A2.toArray) none ∧ n + 1 ≤ G ∧ G ≤ maxLen ∧ ∃ L2 : List Value, (V.setRow W.heap.size A2.toArray).heap[W.heap.size]? = some (.cells L2.toArray 84 (0, 0)) ∧ L2.length = G * 3 ∧ L2.take ((n + 1) * 3) = L.take (i * 3) ++ [.int .i64 a, .bool b, .int .i64 c] ++ L.drop (i * 3) := fun V hh ⟨e1, e2, e3⟩ => by
    have hVN : V.heap[W.heap.size]? = some (.cells A1.toArray 84 (0, 0)) := by rw [hh]; exact setRow_heap W1 _ _ _ _ _ hN1
    refine ⟨⟨e1, e2, e3, ?_, fun k hk _ => ?_⟩, hGn, hGm, A2, setRow_heap V _ _ _ _ _ hVN, ?_, ?_⟩
    · have : V.heap.size = W1.heap.size := by rw [hh]; simp [World.setRow]
      have := hB1.size
      simp [World.setRow]
      omega
    · rw [setRow_other V _ k _ (by omega), hh, setRow_other W1 _ k _ (by omega)]
      exact hB1.block k hk
    · rw [hA2]; simp; omega
    · have h := ins_new R [.int .i64 a, .bool b, .int .i64 c] cs (i * 3) (n * 3) (by rw [hcl, Nat.sub_mul]) (by omega) (by simp; omega)
      have e4 : (n + 1) * 3 = n * 3 + 3 := by omega
      have e5 : (i + 1) * 3 = i * 3 + 3 := by omega
      rw [e4, hA2, hA1, e5, ← hRt, ← hcs]
      exact h
  have hcpC : ∀ ty dc sc, (Builtin.copy_ #[67, 67] ty #[.slice (some ⟨W.heap.size, (i + 1) * 3, none⟩) (n - i) dc, .slice (some ⟨g, i * 3, none⟩) (n - i) sc]).run Try.prog (((W.alloc (.cells R.toArray 84)).drew.setRow W.heap.size A1.toArray).drew) = .ok (goInt (n - i)) ((((W.alloc (.cells R.toArray 84)).drew.setRow W.heap.size A1.toArray).drew).setRow W.heap.size A2.toArray) := fun ty dc sc => hcpB _ (by subst hW1; rfl) ty dc sc
  have hE2 := hE (((W.alloc (.cells R.toArray 84)).drew.setRow W.heap.size A1.toArray).drew) (by subst hW1; rfl) ⟨rfl, rfl, rfl⟩
  have HE := Lib.hid hE2
  have hz3 : (n : Int) < (n : Int) + 1 := by omega
  have hz2 : ¬ ((i : Int) = (n : Int)) := by omega
  have hw1 : IntKind.i64.wrap ((i : Int) + 1) = (i : Int) + 1 := IntWalk.i64_in _ (by omega)
  have hw2 : IntKind.i64.wrap ((n : Int) + 1) = (n : Int) + 1 := IntWalk.i64_in _ (by omega)
  have hw3 : IntKind.i64.wrap ((n : Int) + 1 - (i : Int)) = (n : Int) + 1 - (i : Int) := IntWalk.i64_in _ (by omega)
  have hb1 : (0 : Int) ≤ (i : Int) + 1 := by omega
  have hb0 : (0 : Int) ≤ (i : Int) := by omega
  have hbn : (i : Int) ≤ (n : Int) := by omega
  have hb5 : (i : Int) + 1 ≤ (n : Int) + 1 := by omega
  have hb6 : (i : Int) ≤ (n : Int) + 1 := by omega
  have hb7 : ¬ n = i := by omega
  have hb9 : ¬ G = i := by omega
  have hb10 : ¬ G = i + 1 := by omega
  clear hE hE2 hcpB hA1l hcl h1 hv hg hA1 hA2 hcs hR hRz hRt hN1 hB1 hold hkk hik hG hROW hRl
  go_enter Try.func55, Try.ntmps55
  go_wp2_with (first
    | (at_builtin; refine Lib.wpList_append_run _ rfl _ _ _ _ rfl _ _ rfl rfl _ _ (hrz _) ?_)
    | (at_builtin; refine wpList_copy_runI _ rfl _ _ 67 67 rfl _ _ rfl rfl (hcpA _ (by first | rfl | (rw [hW1]; done) | (rw [hW1]; rfl)) _ _) ?_))
  go_region_law (refine step_copy_runI rfl _ _ 67 67 rfl _ _ (by simp [Act.eval, Act.put]) (by simp [Act.eval, Act.put]) (hcpC _ _ _) ?_)
  go_wp2
  go_ret
  exact ⟨G, rfl, HE.out⟩
end Go.Proofs.Ytghlajfalgdkfaa
