/-
  WHAT IS PROVED: plain facts on reaches: lists of prefixes that rise, none the beginning of another one; what is made of any prefixes; what both have. No program. No condition.
-/
import Derived.Test.YtokkmofcijfmiaaDoorGQ0
namespace Go.Proofs.YtokkmofcijfmiaaDoor
open Go

/-- Does a text begin another one? -/
def begB (p s : List UInt8) : Bool := p.isPrefixOf s
theorem begB_iff {p s : List UInt8} : begB p s = true ↔ p <+: s := List.isPrefixOf_iff_prefix
theorem begB_refl (p : List UInt8) : begB p p = true := begB_iff.2 (List.prefix_refl p)
theorem begB_trans {p q s : List UInt8} (h : begB p q = true) (k : begB q s = true) : begB p s = true := begB_iff.2 ((begB_iff.1 h).trans (begB_iff.1 k))
theorem begB_take {p s : List UInt8} : begB p s = (decide (p.length ≤ s.length) && (s.take p.length == p)) := by
  rw [Bool.eq_iff_iff, begB_iff, Bool.and_eq_true, decide_eq_true_eq, beq_iff_eq]
  constructor
  · intro h
    exact ⟨h.length_le, (List.prefix_iff_eq_take.1 h).symm⟩
  · intro h
    exact List.prefix_iff_eq_take.2 h.2.symm
/-- May it be a prefix? -/
def preB (p : List UInt8) : Bool := p.isEmpty || keyB p
/-- Does a text stand ahead of another one? -/
def ltB (a b : List UInt8) : Bool := decide (Lib.compareBytes a b < 0)
theorem ltB_iff {a b : List UInt8} : ltB a b = true ↔ Lib.compareBytes a b = -1 := by
  unfold ltB
  rw [decide_eq_true_eq]
  rcases cmpB_cases a b with h | h | h <;> rw [h] <;> simp
theorem ltB_irrefl (a : List UInt8) : ltB a a = false := by
  unfold ltB
  rw [cmpB_refl]
  rfl
theorem ltB_trans {a b c : List UInt8} (h : ltB a b = true) (k : ltB b c = true) : ltB a c = true :=
  ltB_iff.2 (cmpB_trans _ _ _ (ltB_iff.1 h) (ltB_iff.1 k))
theorem ltB_asymm {a b : List UInt8} (h : ltB a b = true) : ltB b a = false := by
  have h1 := ltB_iff.1 h
  unfold ltB
  rw [cmpB_swap a b, h1]
  rfl
theorem ltB_total {a b : List UInt8} (h : ltB a b = false) (hne : a ≠ b) : ltB b a = true := by
  rw [ltB_iff, cmpB_swap a b]
  rcases cmpB_cases a b with e | e | e
  · exact absurd (ltB_iff.2 e) (by simp [h])
  · exact absurd (cmpB_zero _ _ e) hne
  · rw [e]

/-- The text at a place. -/
def atR (r : List (List UInt8)) (i : Nat) : List UInt8 := r.getD i []
theorem atR_get {r : List (List UInt8)} {i : Nat} {x : List UInt8} (h : r[i]? = some x) : atR r i = x := by
  unfold atR
  rw [List.getD_eq_getElem?_getD, h]
  rfl
theorem atR_mem {r : List (List UInt8)} {i : Nat} (h : i < r.length) : atR r i ∈ r := by
  rw [atR_get (List.getElem?_eq_getElem h)]
  exact List.getElem_mem h
theorem mem_atR {r : List (List UInt8)} {x : List UInt8} (h : x ∈ r) : ∃ i, i < r.length ∧ atR r i = x := by
  obtain ⟨i, hi, e⟩ := List.getElem_of_mem h
  exact ⟨i, hi, by rw [atR_get (List.getElem?_eq_getElem hi), e]⟩
/-- What Good asks of place i. -/
def okAt (r : List (List UInt8)) (i : Nat) : Bool := preB (atR r i) && (decide (i = 0) || ltB (atR r (i - 1)) (atR r i)) && (List.range r.length).all fun k => decide (k = i) || !begB (atR r k) (atR r i)
/-- Is it a reach? -/
def goodR (r : List (List UInt8)) : Bool := (List.range r.length).all (okAt r) && decide (r.length ≤ 6)
theorem okAt_iff {r : List (List UInt8)} {i : Nat} : okAt r i = true ↔ preB (atR r i) = true ∧ (i = 0 ∨ ltB (atR r (i - 1)) (atR r i) = true) ∧ ∀ k, k < r.length → k ≠ i → begB (atR r k) (atR r i) = false := by
  unfold okAt
  simp only [Bool.and_eq_true, Bool.or_eq_true, decide_eq_true_eq, List.all_eq_true, List.mem_range, Bool.not_eq_true', and_assoc]
  constructor
  · rintro ⟨h1, h2, h3⟩
    exact ⟨h1, h2, fun k hk hne => (h3 k hk).resolve_left hne⟩
  · rintro ⟨h1, h2, h3⟩
    refine ⟨h1, h2, fun k hk => ?_⟩
    by_cases e : k = i
    · exact Or.inl e
    · exact Or.inr (h3 k hk e)
theorem goodR_iff {r : List (List UInt8)} : goodR r = true ↔ (∀ i, i < r.length → okAt r i = true) ∧ r.length ≤ 6 := by
  unfold goodR
  simp only [Bool.and_eq_true, decide_eq_true_eq, List.all_eq_true, List.mem_range]
theorem goodR_bad {r : List (List UInt8)} {i : Nat} (h : i < r.length) (hb : okAt r i = false) : goodR r = false := by
  rw [Bool.eq_false_iff]
  intro hg
  rw [(goodR_iff.1 hg).1 i h] at hb
  cases hb
theorem goodR_all {r : List (List UInt8)} (h : ∀ i, i < r.length → okAt r i = true) : goodR r = decide (r.length ≤ 6) := by
  unfold goodR
  have : (List.range r.length).all (okAt r) = true := by
    rw [List.all_eq_true]
    intro i hi
    exact h i (List.mem_range.1 hi)
  rw [this, Bool.true_and]

/-- They rise. -/
def Rises (r : List (List UInt8)) : Prop := r.Pairwise fun a b => ltB a b = true
/-- Rising lists with the same members are the same. -/
theorem rises_uniq : ∀ (r s : List (List UInt8)), Rises r → Rises s → (∀ x, x ∈ r ↔ x ∈ s) → r = s
  | [], [], _, _, _ => rfl
  | [], b :: s, _, _, h => absurd ((h b).2 (List.mem_cons_self)) (by simp)
  | a :: r, [], _, _, h => absurd ((h a).1 (List.mem_cons_self)) (by simp)
  | a :: r, b :: s, hr, hs, h => by
    have hr' := List.pairwise_cons.1 hr
    have hs' := List.pairwise_cons.1 hs
    have hab : a = b := by
      rcases List.mem_cons.1 ((h a).1 List.mem_cons_self) with e | e
      · exact e
      · rcases List.mem_cons.1 ((h b).2 List.mem_cons_self) with f | f
        · exact f.symm
        · have h1 := hs'.1 a e
          have h2 := hr'.1 b f
          rw [ltB_asymm h1] at h2
          cases h2
    subst hab
    have hx : ∀ x, x ∈ r ↔ x ∈ s := by
      intro x
      constructor
      · intro hm
        rcases List.mem_cons.1 ((h x).1 (List.mem_cons_of_mem _ hm)) with e | e
        · have h1 := hr'.1 x hm
          rw [e, ltB_irrefl] at h1
          cases h1
        · exact e
      · intro hm
        rcases List.mem_cons.1 ((h x).2 (List.mem_cons_of_mem _ hm)) with e | e
        · have h1 := hs'.1 x hm
          rw [e, ltB_irrefl] at h1
          cases h1
        · exact e
    rw [rises_uniq r s hr'.2 hs'.2 hx]

/-- r is the reach of the prefixes that S has: those that have no other one as a beginning, rising. -/
def IsMade (S : List UInt8 → Prop) (r : List (List UInt8)) : Prop := Rises r ∧ ∀ x, x ∈ r ↔ S x ∧ ∀ y, S y → begB y x = true → y = x
theorem made_uniq {S T : List UInt8 → Prop} {r s : List (List UInt8)} (h : IsMade S r) (k : IsMade T s) (e : ∀ x, S x ↔ T x) : r = s := by
  refine rises_uniq r s h.1 k.1 fun x => ?_
  rw [h.2, k.2]
  constructor
  · rintro ⟨h1, h2⟩
    exact ⟨(e x).1 h1, fun y hy => h2 y ((e y).2 hy)⟩
  · rintro ⟨h1, h2⟩
    exact ⟨(e x).2 h1, fun y hy => h2 y ((e y).1 hy)⟩
theorem made_congr {S T : List UInt8 → Prop} {r : List (List UInt8)} (h : IsMade S r) (e : ∀ x, S x ↔ T x) : IsMade T r := by
  refine ⟨h.1, fun x => ?_⟩
  rw [h.2]
  constructor
  · rintro ⟨h1, h2⟩
    exact ⟨(e x).1 h1, fun y hy => h2 y ((e y).2 hy)⟩
  · rintro ⟨h1, h2⟩
    exact ⟨(e x).2 h1, fun y hy => h2 y ((e y).1 hy)⟩

theorem rises_at {r : List (List UInt8)} (h : Rises r) {i j : Nat} (hij : i < j) (hj : j < r.length) : ltB (atR r i) (atR r j) = true := by
  have hi : i < r.length := by omega
  rw [atR_get (List.getElem?_eq_getElem hi), atR_get (List.getElem?_eq_getElem hj)]
  exact List.pairwise_iff_getElem.1 h i j hi hj hij
theorem rises_of_steps {r : List (List UInt8)} (h : ∀ i, 0 < i → i < r.length → ltB (atR r (i - 1)) (atR r i) = true) : Rises r := by
  refine List.pairwise_iff_getElem.2 fun i j hi hj hij => ?_
  have key : ∀ d, i + d + 1 < r.length → ltB (atR r i) (atR r (i + d + 1)) = true := by
    intro d
    induction d with
    | zero => intro hd; exact h (i + 1) (by omega) hd
    | succ d ih =>
      intro hd
      exact ltB_trans (ih (by omega)) (h (i + d + 1 + 1) (by omega) hd)
  have := key (j - i - 1) (by omega)
  have e : i + (j - i - 1) + 1 = j := by omega
  rw [e, atR_get (List.getElem?_eq_getElem hi), atR_get (List.getElem?_eq_getElem hj)] at this
  exact this
theorem goodR_rises {r : List (List UInt8)} (h : goodR r = true) : Rises r := by
  refine rises_of_steps fun i h0 hi => ?_
  rcases (okAt_iff.1 ((goodR_iff.1 h).1 i hi)).2.1 with e | e
  · omega
  · exact e
theorem goodR_mem {r : List (List UInt8)} (h : goodR r = true) {x y : List UInt8} (hx : x ∈ r) (hy : y ∈ r) (hb : begB y x = true) : y = x := by
  obtain ⟨i, hi, rfl⟩ := mem_atR hx
  obtain ⟨k, hk, rfl⟩ := mem_atR hy
  by_cases e : k = i
  · rw [e]
  · rw [(okAt_iff.1 ((goodR_iff.1 h).1 i hi)).2.2 k hk e] at hb
    cases hb
theorem goodR_pre {r : List (List UInt8)} (h : goodR r = true) {x : List UInt8} (hx : x ∈ r) : preB x = true := by
  obtain ⟨i, hi, rfl⟩ := mem_atR hx
  exact (okAt_iff.1 ((goodR_iff.1 h).1 i hi)).1
theorem goodR_of {r : List (List UInt8)} (h1 : ∀ x, x ∈ r → preB x = true) (h2 : Rises r) (h3 : ∀ x y, x ∈ r → y ∈ r → begB y x = true → y = x) (h4 : r.length ≤ 6) : goodR r = true := by
  refine goodR_iff.2 ⟨fun i hi => okAt_iff.2 ⟨h1 _ (atR_mem hi), ?_, fun k hk hne => ?_⟩, h4⟩
  · by_cases e : i = 0
    · exact Or.inl e
    · exact Or.inr (rises_at h2 (by omega) hi)
  · rw [Bool.eq_false_iff]
    intro hb
    have e := h3 _ _ (atR_mem hi) (atR_mem hk) hb
    rcases Nat.lt_or_ge k i with hl | hl
    · have := rises_at h2 hl hi
      rw [e, ltB_irrefl] at this
      cases this
    · have := rises_at h2 (show i < k by omega) hk
      rw [e, ltB_irrefl] at this
      cases this
/-- What is made of prefixes is a reach, if it is not too long. -/
theorem made_good {S : List UInt8 → Prop} {r : List (List UInt8)} (h : IsMade S r) (hp : ∀ x, S x → preB x = true) (hl : r.length ≤ 6) : goodR r = true := by
  refine goodR_of (fun x hx => hp x ((h.2 x).1 hx).1) h.1 (fun x y hx hy hb => ?_) hl
  exact ((h.2 x).1 hx).2 y ((h.2 y).1 hy).1 hb
theorem goodR_made {r : List (List UInt8)} (h : goodR r = true) : IsMade (· ∈ r) r :=
  ⟨goodR_rises h, fun _ => ⟨fun hx => ⟨hx, fun _ hy hb => goodR_mem h hx hy hb⟩, fun hx => hx.1⟩⟩

/-- Has it a key? -/
def hasB (r : List (List UInt8)) (s : List UInt8) : Bool := r.any fun p => begB p s
theorem hasB_iff {r : List (List UInt8)} {s : List UInt8} : hasB r s = true ↔ ∃ p, p ∈ r ∧ begB p s = true := by
  unfold hasB
  rw [List.any_eq_true]
theorem hasB_yes {r : List (List UInt8)} {s p : List UInt8} {k : Nat} (h : r[k]? = some p) (hb : begB p s = true) : hasB r s = true := hasB_iff.2 ⟨p, List.mem_of_getElem? h, hb⟩
theorem hasB_no {r : List (List UInt8)} {s : List UInt8} (h : ∀ k, k < r.length → begB (atR r k) s = false) : hasB r s = false := by
  rw [Bool.eq_false_iff]
  intro hh
  obtain ⟨p, hp, hb⟩ := hasB_iff.1 hh
  obtain ⟨i, hi, rfl⟩ := mem_atR hp
  rw [h i hi] at hb
  cases hb
/-- Has it all that another one has? -/
def covB (a b : List (List UInt8)) : Bool := b.all fun q => hasB a q
theorem covB_no {a b : List (List UInt8)} {k : Nat} {q : List UInt8} (h : b[k]? = some q) (hb : hasB a q = false) : covB a b = false := by
  unfold covB
  rw [List.all_eq_false]
  exact ⟨q, List.mem_of_getElem? h, by simp [hb]⟩
theorem covB_yes {a b : List (List UInt8)} (h : ∀ k, k < b.length → hasB a (atR b k) = true) : covB a b = true := by
  unfold covB
  rw [List.all_eq_true]
  intro q hq
  obtain ⟨i, hi, rfl⟩ := mem_atR hq
  exact h i hi
/-- The prefixes out of which that is made which both have. -/
def BothS (a b : List (List UInt8)) (x : List UInt8) : Prop := (x ∈ b ∧ hasB a x = true) ∨ (x ∈ a ∧ hasB b x = true)
theorem bothS_swap (a b : List (List UInt8)) (x : List UInt8) : BothS a b x ↔ BothS b a x := Or.comm

/-- Prefixes that have no other one as a beginning; each once. -/
def loneB (l : List (List UInt8)) (i : Nat) : Bool := (List.range l.length).all fun k => !(begB (atR l k) (atR l i) && (atR l k != atR l i || decide (k < i)))
theorem loneB_iff {l : List (List UInt8)} {i : Nat} : loneB l i = true ↔ ∀ k, k < l.length → begB (atR l k) (atR l i) = true → atR l k = atR l i ∧ i ≤ k := by
  unfold loneB
  simp only [List.all_eq_true, List.mem_range, Bool.not_eq_true', Bool.and_eq_false_iff, Bool.or_eq_false_iff, bne_eq_false_iff_eq, decide_eq_false_iff_not, Nat.not_lt]
  constructor
  · intro h k hk hb
    rcases h k hk with e | e
    · rw [hb] at e; cases e
    · exact e
  · intro h k hk
    by_cases hb : begB (atR l k) (atR l i) = true
    · exact Or.inr (h k hk hb)
    · exact Or.inl (by simpa using hb)
/-- What was made of the first m. -/
def MadeTo (l : List (List UInt8)) (m : Nat) (r : List (List UInt8)) : Prop := Rises r ∧ ∀ x, x ∈ r ↔ ∃ i, i < m ∧ loneB l i = true ∧ atR l i = x
theorem madeTo_zero (l : List (List UInt8)) : MadeTo l 0 [] := ⟨List.Pairwise.nil, fun x => ⟨fun h => by simp at h, fun ⟨_, h, _⟩ => by omega⟩⟩
theorem madeTo_skip {l : List (List UInt8)} {m : Nat} {r : List (List UInt8)} (h : MadeTo l m r) (hl : loneB l m = false) : MadeTo l (m + 1) r := by
  refine ⟨h.1, fun x => ?_⟩
  rw [h.2]
  constructor
  · rintro ⟨i, hi, h1, h2⟩
    exact ⟨i, by omega, h1, h2⟩
  · rintro ⟨i, hi, h1, h2⟩
    by_cases e : i = m
    · rw [e, hl] at h1; cases h1
    · exact ⟨i, by omega, h1, h2⟩
/-- It is put at the place ahead of which all are ahead of it. -/
theorem madeTo_put {l : List (List UInt8)} {m t : Nat} {r : List (List UInt8)} (h : MadeTo l m r) (hm : m < l.length) (hl : loneB l m = true) (ht : t ≤ r.length)
    (h1 : ∀ j, j < t → ltB (atR r j) (atR l m) = true) (h2 : t < r.length → ltB (atR r t) (atR l m) = false) : MadeTo l (m + 1) (r.take t ++ [atR l m] ++ r.drop t) := by
  have hnot : atR l m ∉ r := by
    intro hmem
    obtain ⟨i, hi, hli, e⟩ := (h.2 _).1 hmem
    have := (loneB_iff.1 hl) i (by omega) (by rw [e]; exact begB_refl _)
    omega
  have hhigh : ∀ y, y ∈ r.drop t → ltB (atR l m) y = true := by
    intro y hy
    obtain ⟨j, hj, e⟩ := List.getElem_of_mem hy
    rw [List.length_drop] at hj
    rw [List.getElem_drop] at e
    have htl : t < r.length := by omega
    have h3 := ltB_total (h2 htl) (fun e2 => hnot (e2 ▸ atR_mem htl))
    by_cases e0 : j = 0
    · subst e0
      rw [← e]
      rw [atR_get (List.getElem?_eq_getElem htl)] at h3
      exact h3
    · have h4 := rises_at h.1 (show t < t + j by omega) (by omega)
      rw [atR_get (r := r) (i := t + j) (List.getElem?_eq_getElem (by omega)), e] at h4
      exact ltB_trans h3 h4
  have hlow : ∀ y, y ∈ r.take t → ltB y (atR l m) = true := by
    intro y hy
    obtain ⟨j, hj, e⟩ := List.getElem_of_mem hy
    rw [List.length_take] at hj
    rw [List.getElem_take] at e
    have := h1 j (by omega)
    rw [atR_get (List.getElem?_eq_getElem (show j < r.length by omega)), e] at this
    exact this
  refine ⟨?_, fun x => ?_⟩
  · refine List.pairwise_append.2 ⟨List.pairwise_append.2 ⟨h.1.sublist (List.take_sublist _ _), List.pairwise_singleton _ _, ?_⟩, h.1.sublist (List.drop_sublist _ _), ?_⟩
    · intro y hy z hz
      rw [List.mem_singleton] at hz
      rw [hz]
      exact hlow y hy
    · intro y hy z hz
      rcases List.mem_append.1 hy with hy | hy
      · exact ltB_trans (hlow y hy) (hhigh z hz)
      · rw [List.mem_singleton] at hy
        rw [hy]
        exact hhigh z hz
  · have e : x ∈ r.take t ++ [atR l m] ++ r.drop t ↔ x ∈ r ∨ x = atR l m := by
      have e2 : x ∈ r ↔ x ∈ r.take t ∨ x ∈ r.drop t := by
        conv => lhs; rw [← List.take_append_drop t r]
        exact List.mem_append
      rw [List.mem_append, List.mem_append, List.mem_singleton, e2]
      constructor
      · rintro ((h | h) | h)
        · exact Or.inl (Or.inl h)
        · exact Or.inr h
        · exact Or.inl (Or.inr h)
      · rintro ((h | h) | h)
        · exact Or.inl (Or.inl h)
        · exact Or.inr h
        · exact Or.inl (Or.inr h)
    rw [e, h.2]
    constructor
    · rintro (⟨i, hi, ha, hb⟩ | hx)
      · exact ⟨i, by omega, ha, hb⟩
      · exact ⟨m, by omega, hl, hx.symm⟩
    · rintro ⟨i, hi, ha, hb⟩
      by_cases e0 : i = m
      · subst e0
        exact Or.inr hb.symm
      · exact Or.inl ⟨i, by omega, ha, hb⟩
/-- All of them: what is made. -/
theorem madeTo_all {l r : List (List UInt8)} (h : MadeTo l l.length r) : IsMade (· ∈ l) r := by
  refine ⟨h.1, fun x => ?_⟩
  rw [h.2]
  constructor
  · rintro ⟨i, hi, hl, rfl⟩
    refine ⟨atR_mem hi, fun y hy hb => ?_⟩
    obtain ⟨k, hk, rfl⟩ := mem_atR hy
    exact ((loneB_iff.1 hl) k hk hb).1
  · rintro ⟨hx, hy⟩
    have key : ∀ n, ∀ i, i < n → i < l.length → atR l i = x → ∃ j, j < l.length ∧ loneB l j = true ∧ atR l j = x := by
      intro n
      induction n with
      | zero => intro i hi; omega
      | succ n ih =>
        intro i hi hil e
        by_cases hb : loneB l i = true
        · exact ⟨i, hil, hb, e⟩
        · have hb' : ¬ ∀ k, k < l.length → begB (atR l k) (atR l i) = true → atR l k = atR l i ∧ i ≤ k := fun h => hb (loneB_iff.2 h)
          have : ∃ k, k < l.length ∧ begB (atR l k) (atR l i) = true ∧ ¬ (atR l k = atR l i ∧ i ≤ k) := by
            apply Classical.byContradiction
            intro hn
            apply hb'
            intro k hk hbk
            apply Classical.byContradiction
            intro hc
            exact hn ⟨k, hk, hbk, hc⟩
          obtain ⟨k, hk, hbk, hnk⟩ := this
          have ek : atR l k = x := by
            rw [e] at hbk
            exact hy _ (atR_mem hk) hbk
          have hki : k < i := by
            apply Classical.byContradiction
            intro hc
            exact hnk ⟨by rw [ek, e], by omega⟩
          exact ih k (by omega) hk ek
    obtain ⟨i, hi, e⟩ := mem_atR hx
    exact key (i + 1) i (by omega) hi e
theorem loneB_no {l : List (List UInt8)} {i k : Nat} (hk : k < l.length) (h1 : begB (atR l k) (atR l i) = true) (h2 : atR l k ≠ atR l i ∨ k < i) : loneB l i = false := by
  rw [Bool.eq_false_iff]
  intro h
  have h3 := loneB_iff.1 h k hk h1
  rcases h2 with h2 | h2
  · exact h2 h3.1
  · omega
end Go.Proofs.YtokkmofcijfmiaaDoor
