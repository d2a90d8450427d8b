/-
  WHAT IS PROVED: plain facts on the order of lists of bytes and of values. No program. No condition. · plain facts on reaches: lists of prefixes that rise, none the beginning of another one; what is made of any prefixes; what both have. No program. No condition. · more words for a row of strings that the call owns: where it lies, that it may be written, a store into it. Over any program. · strings.Clone answers the same text. Conditions: those typed in the theorem. · spinneyref04.begins tells whether a text begins another one, for every two. Conditions: those typed in each theorem. · of the document's answers for reaches (spinneyref04): Same, for all slices of strings. Conditions: those typed in each theorem. · slices.ContainsFunc (and IndexFunc) of a slice of strings tells whether a predicate holds of one of them, for every function value that answers so and leaves what lay there. Conditions: those typed in each theorem. · the document's order of ints and of texts (spinneyref01.Ints, Texts), for every two. Conditions: those typed in each theorem.
-/
import Derived.Lib.Bytealg
import Derived.Lib.Small
import Derived.Test.YtokkmofcijfmiabGQ1
import Derived.Test.YtokkmofcijfmiabGQ0
import Derived.Test.YtokkmofcijfmiabShelf
import Derived.Laws.Strings
import Derived.Shelf.Abstract
namespace Go.Proofs.Ytokkmofcijfmiab
open Go

theorem cmpB_swap : ∀ a b : List UInt8, Lib.compareBytes b a = - Lib.compareBytes a b
  | [], [] => rfl
  | [], _ :: _ => rfl
  | _ :: _, [] => rfl
  | a :: as1, b :: bs => by
    have ih := cmpB_swap as1 bs
    simp only [Lib.compareBytes]
    by_cases h : a < b
    · have h' : ¬ b < a := by rw [UInt8.lt_iff_toNat_lt] at *; omega
      simp [h, h']
    · by_cases h' : b < a
      · simp [h, h']
      · simp [h, h', ih]

theorem cmpB_cases : ∀ a b : List UInt8, Lib.compareBytes a b = -1 ∨ Lib.compareBytes a b = 0 ∨ Lib.compareBytes a b = 1
  | [], [] => by simp [Lib.compareBytes]
  | [], _ :: _ => by simp [Lib.compareBytes]
  | _ :: _, [] => by simp [Lib.compareBytes]
  | a :: as1, b :: bs => by
    have ih := cmpB_cases as1 bs
    simp only [Lib.compareBytes]
    by_cases h : a < b
    · simp [h]
    · by_cases h' : b < a
      · simp [h, h']
      · simpa [h, h'] using ih

theorem cmpB_zero : ∀ a b : List UInt8, Lib.compareBytes a b = 0 → a = b
  | [], [] => fun _ => rfl
  | [], _ :: _ => fun h => by simp [Lib.compareBytes] at h
  | _ :: _, [] => fun h => by simp [Lib.compareBytes] at h
  | a :: as1, b :: bs => fun h => by
    have ih := cmpB_zero as1 bs
    simp only [Lib.compareBytes] at h
    by_cases h1 : a < b
    · simp [h1] at h
    · by_cases h2 : b < a
      · simp [h1, h2] at h
      · simp only [h1, h2, if_false] at h
        have hab : a = b := by
          rw [UInt8.lt_iff_toNat_lt] at *
          exact UInt8.toNat_inj.1 (by omega)
        rw [hab, ih h]

theorem cmpB_refl : ∀ a : List UInt8, Lib.compareBytes a a = 0
  | [] => rfl
  | a :: as1 => by
    have h : ¬ a < a := by rw [UInt8.lt_iff_toNat_lt]; omega
    simp [Lib.compareBytes, h, cmpB_refl as1]

theorem cmpB_trans : ∀ a b c : List UInt8, Lib.compareBytes a b = -1 → Lib.compareBytes b c = -1 → Lib.compareBytes a c = -1
  | [], [], c => fun h _ => by simp [Lib.compareBytes] at h
  | [], _ :: _, [] => fun _ h => by simp [Lib.compareBytes] at h
  | [], _ :: _, _ :: _ => fun _ _ => rfl
  | _ :: _, [], _ => fun h _ => by simp [Lib.compareBytes] at h
  | _ :: _, _ :: _, [] => fun _ h => by simp [Lib.compareBytes] at h
  | a :: as1, b :: bs, c :: cs => fun h k => by
    have ih := cmpB_trans as1 bs cs
    simp only [Lib.compareBytes] at h k ⊢
    by_cases h1 : a < b
    · by_cases k1 : b < c
      · have : a < c := by rw [UInt8.lt_iff_toNat_lt] at *; omega
        simp [this]
      · by_cases k2 : c < b
        · simp [k1, k2] at k
        · have : a < c := by rw [UInt8.lt_iff_toNat_lt] at *; omega
          simp [this]
    · by_cases h2 : b < a
      · simp [h1, h2] at h
      · simp only [h1, h2, if_false] at h
        by_cases k1 : b < c
        · have : a < c := by rw [UInt8.lt_iff_toNat_lt] at *; omega
          simp [this]
        · by_cases k2 : c < b
          · simp [k1, k2] at k
          · simp only [k1, k2, if_false] at k
            have e1 : ¬ a < c := by rw [UInt8.lt_iff_toNat_lt] at *; omega
            have e2 : ¬ c < a := by rw [UInt8.lt_iff_toNat_lt] at *; omega
            simp only [e1, e2, if_false]
            exact ih h k

/-- The document's order of good values: the kind, the number, the text. -/
def ordV (ka na kb nb : Int) (sa sb : List UInt8) : Int :=
  if ka ≠ kb then Lib.compareInt ka kb else if ka = 1 then Lib.compareInt na nb else if ka = 2 then Lib.compareBytes sa sb else 0

theorem cmpI_swap (a b : Int) : Lib.compareInt b a = - Lib.compareInt a b := by
  unfold Lib.compareInt
  repeat' split
  all_goals omega
theorem cmpI_cases (a b : Int) : Lib.compareInt a b = -1 ∨ Lib.compareInt a b = 0 ∨ Lib.compareInt a b = 1 := by
  unfold Lib.compareInt
  repeat' split
  all_goals omega
theorem cmpI_zero {a b : Int} (h : Lib.compareInt a b = 0) : a = b := by
  unfold Lib.compareInt at h
  repeat' split at h
  all_goals omega
theorem cmpI_lt {a b : Int} (h : Lib.compareInt a b = -1) : a < b := by
  unfold Lib.compareInt at h
  repeat' split at h
  all_goals omega
theorem cmpI_of_lt {a b : Int} (h : a < b) : Lib.compareInt a b = -1 := by simp [Lib.compareInt, h]

theorem ordV_swap (ka na kb nb : Int) (sa sb : List UInt8) : ordV kb nb ka na sb sa = - ordV ka na kb nb sa sb := by
  unfold ordV
  by_cases h : ka = kb
  · subst h
    simp only [ne_eq, not_true_eq_false, if_false]
    by_cases h1 : ka = 1
    · simp only [h1, if_true]; exact cmpI_swap _ _
    · by_cases h2 : ka = 2
      · simp only [h2]; exact cmpB_swap _ _
      · simp [h1, h2]
  · have h' : ¬ kb = ka := fun e => h e.symm
    simp only [ne_eq, h, h', not_false_eq_true, if_true]
    exact cmpI_swap _ _
theorem ordV_cases (ka na kb nb : Int) (sa sb : List UInt8) : ordV ka na kb nb sa sb = -1 ∨ ordV ka na kb nb sa sb = 0 ∨ ordV ka na kb nb sa sb = 1 := by
  unfold ordV
  split
  · exact cmpI_cases _ _
  · split
    · exact cmpI_cases _ _
    · split
      · exact cmpB_cases _ _
      · simp

/-- What a good value is, in plain words. -/
def GoodV (k n : Int) (s : List UInt8) : Prop := (k = 0 ∧ n = 0 ∧ s = []) ∨ (k = 1 ∧ s = []) ∨ (k = 2 ∧ n = 0)

theorem ordV_zero {ka na kb nb : Int} {sa sb : List UInt8} (ga : GoodV ka na sa) (gb : GoodV kb nb sb) (h : ordV ka na kb nb sa sb = 0) : ka = kb ∧ na = nb ∧ sa = sb := by
  unfold ordV at h
  by_cases e : ka = kb
  · subst e
    simp only [ne_eq, not_true_eq_false, if_false] at h
    rcases ga with ⟨rfl, rfl, rfl⟩ | ⟨rfl, rfl⟩ | ⟨rfl, rfl⟩
    · rcases gb with ⟨_, rfl, rfl⟩ | ⟨h1, _⟩ | ⟨h1, _⟩
      · exact ⟨rfl, rfl, rfl⟩
      · omega
      · omega
    · rcases gb with ⟨h1, _⟩ | ⟨_, rfl⟩ | ⟨h1, _⟩
      · omega
      · simp only [if_true] at h
        exact ⟨rfl, cmpI_zero h, rfl⟩
      · omega
    · rcases gb with ⟨h1, _⟩ | ⟨h1, _⟩ | ⟨_, rfl⟩
      · omega
      · omega
      · exact ⟨rfl, rfl, cmpB_zero _ _ (by simpa using h)⟩
  · simp only [ne_eq, e, not_false_eq_true, if_true] at h
    exact absurd (cmpI_zero h) e
theorem ordV_refl (ka na : Int) (sa : List UInt8) : ordV ka na ka na sa sa = 0 := by
  unfold ordV
  simp [cmpB_refl, Lib.compareInt]
theorem ordV_trans {ka na kb nb kc nc : Int} {sa sb sc : List UInt8} (h : ordV ka na kb nb sa sb = -1) (k : ordV kb nb kc nc sb sc = -1) : ordV ka na kc nc sa sc = -1 := by
  unfold ordV at *
  by_cases e : ka = kb
  · subst e
    simp only [ne_eq, not_true_eq_false, if_false] at h
    by_cases f : ka = kc
    · subst f
      simp only [ne_eq, not_true_eq_false, if_false] at k ⊢
      by_cases h1 : ka = 1
      · simp only [h1, if_true] at h k ⊢
        have := cmpI_lt h
        have := cmpI_lt k
        exact cmpI_of_lt (by omega)
      · by_cases h2 : ka = 2
        · subst h2
          exact cmpB_trans _ _ _ h k
        · simp [h1, h2] at h
    · simp only [ne_eq, f, not_false_eq_true, if_true] at k ⊢
      exact k
  · simp only [ne_eq, e, not_false_eq_true, if_true] at h
    by_cases f : kb = kc
    · subst f
      simp only [ne_eq, e, not_false_eq_true, if_true]
      exact h
    · simp only [ne_eq, f, not_false_eq_true, if_true] at k
      have h1 := cmpI_lt h
      have h2 := cmpI_lt k
      have h3 : ¬ ka = kc := by omega
      simp only [ne_eq, h3, not_false_eq_true, if_true]
      exact cmpI_of_lt (by omega)
end Go.Proofs.Ytokkmofcijfmiab

namespace Go.Proofs.Ytokkmofcijfmiab
open Go

/-- Does a text begin another one? -/
def begB (p s : List UInt8) : Bool := p.isPrefixOf s
theorem begB_iff {p s : List UInt8} : begB p s = true ↔ p <+: s := List.isPrefixOf_iff_prefix
theorem begB_refl (p : List UInt8) : begB p p = true := begB_iff.2 (List.prefix_refl p)
theorem begB_trans {p q s : List UInt8} (h : begB p q = true) (k : begB q s = true) : begB p s = true := begB_iff.2 ((begB_iff.1 h).trans (begB_iff.1 k))
theorem begB_take {p s : List UInt8} : begB p s = (decide (p.length ≤ s.length) && (s.take p.length == p)) := by
  rw [Bool.eq_iff_iff, begB_iff, Bool.and_eq_true, decide_eq_true_eq, beq_iff_eq]
  constructor
  · intro h
    exact ⟨h.length_le, (List.prefix_iff_eq_take.1 h).symm⟩
  · intro h
    exact List.prefix_iff_eq_take.2 h.2.symm
/-- May it be a prefix? -/
def preB (p : List UInt8) : Bool := p.isEmpty || keyB p
/-- Does a text stand ahead of another one? -/
def ltB (a b : List UInt8) : Bool := decide (Lib.compareBytes a b < 0)
theorem ltB_iff {a b : List UInt8} : ltB a b = true ↔ Lib.compareBytes a b = -1 := by
  unfold ltB
  rw [decide_eq_true_eq]
  rcases cmpB_cases a b with h | h | h <;> rw [h] <;> simp
theorem ltB_irrefl (a : List UInt8) : ltB a a = false := by
  unfold ltB
  rw [cmpB_refl]
  rfl
theorem ltB_trans {a b c : List UInt8} (h : ltB a b = true) (k : ltB b c = true) : ltB a c = true :=
  ltB_iff.2 (cmpB_trans _ _ _ (ltB_iff.1 h) (ltB_iff.1 k))
theorem ltB_asymm {a b : List UInt8} (h : ltB a b = true) : ltB b a = false := by
  have h1 := ltB_iff.1 h
  unfold ltB
  rw [cmpB_swap a b, h1]
  rfl
theorem ltB_total {a b : List UInt8} (h : ltB a b = false) (hne : a ≠ b) : ltB b a = true := by
  rw [ltB_iff, cmpB_swap a b]
  rcases cmpB_cases a b with e | e | e
  · exact absurd (ltB_iff.2 e) (by simp [h])
  · exact absurd (cmpB_zero _ _ e) hne
  · rw [e]

/-- The text at a place. -/
def atR (r : List (List UInt8)) (i : Nat) : List UInt8 := r.getD i []
theorem atR_get {r : List (List UInt8)} {i : Nat} {x : List UInt8} (h : r[i]? = some x) : atR r i = x := by
  unfold atR
  rw [List.getD_eq_getElem?_getD, h]
  rfl
theorem atR_mem {r : List (List UInt8)} {i : Nat} (h : i < r.length) : atR r i ∈ r := by
  rw [atR_get (List.getElem?_eq_getElem h)]
  exact List.getElem_mem h
theorem mem_atR {r : List (List UInt8)} {x : List UInt8} (h : x ∈ r) : ∃ i, i < r.length ∧ atR r i = x := by
  obtain ⟨i, hi, e⟩ := List.getElem_of_mem h
  exact ⟨i, hi, by rw [atR_get (List.getElem?_eq_getElem hi), e]⟩
/-- What Good asks of place i. -/
def okAt (r : List (List UInt8)) (i : Nat) : Bool := preB (atR r i) && (decide (i = 0) || ltB (atR r (i - 1)) (atR r i)) && (List.range r.length).all fun k => decide (k = i) || !begB (atR r k) (atR r i)
/-- Is it a reach? -/
def goodR (r : List (List UInt8)) : Bool := (List.range r.length).all (okAt r) && decide (r.length ≤ 6)
theorem okAt_iff {r : List (List UInt8)} {i : Nat} : okAt r i = true ↔ preB (atR r i) = true ∧ (i = 0 ∨ ltB (atR r (i - 1)) (atR r i) = true) ∧ ∀ k, k < r.length → k ≠ i → begB (atR r k) (atR r i) = false := by
  unfold okAt
  simp only [Bool.and_eq_true, Bool.or_eq_true, decide_eq_true_eq, List.all_eq_true, List.mem_range, Bool.not_eq_true', and_assoc]
  constructor
  · rintro ⟨h1, h2, h3⟩
    exact ⟨h1, h2, fun k hk hne => (h3 k hk).resolve_left hne⟩
  · rintro ⟨h1, h2, h3⟩
    refine ⟨h1, h2, fun k hk => ?_⟩
    by_cases e : k = i
    · exact Or.inl e
    · exact Or.inr (h3 k hk e)
theorem goodR_iff {r : List (List UInt8)} : goodR r = true ↔ (∀ i, i < r.length → okAt r i = true) ∧ r.length ≤ 6 := by
  unfold goodR
  simp only [Bool.and_eq_true, decide_eq_true_eq, List.all_eq_true, List.mem_range]
theorem goodR_bad {r : List (List UInt8)} {i : Nat} (h : i < r.length) (hb : okAt r i = false) : goodR r = false := by
  rw [Bool.eq_false_iff]
  intro hg
  rw [(goodR_iff.1 hg).1 i h] at hb
  cases hb
theorem goodR_all {r : List (List UInt8)} (h : ∀ i, i < r.length → okAt r i = true) : goodR r = decide (r.length ≤ 6) := by
  unfold goodR
  have : (List.range r.length).all (okAt r) = true := by
    rw [List.all_eq_true]
    intro i hi
    exact h i (List.mem_range.1 hi)
  rw [this, Bool.true_and]

/-- They rise. -/
def Rises (r : List (List UInt8)) : Prop := r.Pairwise fun a b => ltB a b = true
/-- Rising lists with the same members are the same. -/
theorem rises_uniq : ∀ (r s : List (List UInt8)), Rises r → Rises s → (∀ x, x ∈ r ↔ x ∈ s) → r = s
  | [], [], _, _, _ => rfl
  | [], b :: s, _, _, h => absurd ((h b).2 (List.mem_cons_self)) (by simp)
  | a :: r, [], _, _, h => absurd ((h a).1 (List.mem_cons_self)) (by simp)
  | a :: r, b :: s, hr, hs, h => by
    have hr' := List.pairwise_cons.1 hr
    have hs' := List.pairwise_cons.1 hs
    have hab : a = b := by
      rcases List.mem_cons.1 ((h a).1 List.mem_cons_self) with e | e
      · exact e
      · rcases List.mem_cons.1 ((h b).2 List.mem_cons_self) with f | f
        · exact f.symm
        · have h1 := hs'.1 a e
          have h2 := hr'.1 b f
          rw [ltB_asymm h1] at h2
          cases h2
    subst hab
    have hx : ∀ x, x ∈ r ↔ x ∈ s := by
      intro x
      constructor
      · intro hm
        rcases List.mem_cons.1 ((h x).1 (List.mem_cons_of_mem _ hm)) with e | e
        · have h1 := hr'.1 x hm
          rw [e, ltB_irrefl] at h1
          cases h1
        · exact e
      · intro hm
        rcases List.mem_cons.1 ((h x).2 (List.mem_cons_of_mem _ hm)) with e | e
        · have h1 := hs'.1 x hm
          rw [e, ltB_irrefl] at h1
          cases h1
        · exact e
    rw [rises_uniq r s hr'.2 hs'.2 hx]

/-- r is the reach of the prefixes that S has: those that have no other one as a beginning, rising. -/
def IsMade (S : List UInt8 → Prop) (r : List (List UInt8)) : Prop := Rises r ∧ ∀ x, x ∈ r ↔ S x ∧ ∀ y, S y → begB y x = true → y = x
theorem made_uniq {S T : List UInt8 → Prop} {r s : List (List UInt8)} (h : IsMade S r) (k : IsMade T s) (e : ∀ x, S x ↔ T x) : r = s := by
  refine rises_uniq r s h.1 k.1 fun x => ?_
  rw [h.2, k.2]
  constructor
  · rintro ⟨h1, h2⟩
    exact ⟨(e x).1 h1, fun y hy => h2 y ((e y).2 hy)⟩
  · rintro ⟨h1, h2⟩
    exact ⟨(e x).2 h1, fun y hy => h2 y ((e y).1 hy)⟩
theorem made_congr {S T : List UInt8 → Prop} {r : List (List UInt8)} (h : IsMade S r) (e : ∀ x, S x ↔ T x) : IsMade T r := by
  refine ⟨h.1, fun x => ?_⟩
  rw [h.2]
  constructor
  · rintro ⟨h1, h2⟩
    exact ⟨(e x).1 h1, fun y hy => h2 y ((e y).2 hy)⟩
  · rintro ⟨h1, h2⟩
    exact ⟨(e x).2 h1, fun y hy => h2 y ((e y).1 hy)⟩

theorem rises_at {r : List (List UInt8)} (h : Rises r) {i j : Nat} (hij : i < j) (hj : j < r.length) : ltB (atR r i) (atR r j) = true := by
  have hi : i < r.length := by omega
  rw [atR_get (List.getElem?_eq_getElem hi), atR_get (List.getElem?_eq_getElem hj)]
  exact List.pairwise_iff_getElem.1 h i j hi hj hij
theorem rises_of_steps {r : List (List UInt8)} (h : ∀ i, 0 < i → i < r.length → ltB (atR r (i - 1)) (atR r i) = true) : Rises r := by
  refine List.pairwise_iff_getElem.2 fun i j hi hj hij => ?_
  have key : ∀ d, i + d + 1 < r.length → ltB (atR r i) (atR r (i + d + 1)) = true := by
    intro d
    induction d with
    | zero => intro hd; exact h (i + 1) (by omega) hd
    | succ d ih =>
      intro hd
      exact ltB_trans (ih (by omega)) (h (i + d + 1 + 1) (by omega) hd)
  have := key (j - i - 1) (by omega)
  have e : i + (j - i - 1) + 1 = j := by omega
  rw [e, atR_get (List.getElem?_eq_getElem hi), atR_get (List.getElem?_eq_getElem hj)] at this
  exact this
theorem goodR_rises {r : List (List UInt8)} (h : goodR r = true) : Rises r := by
  refine rises_of_steps fun i h0 hi => ?_
  rcases (okAt_iff.1 ((goodR_iff.1 h).1 i hi)).2.1 with e | e
  · omega
  · exact e
theorem goodR_mem {r : List (List UInt8)} (h : goodR r = true) {x y : List UInt8} (hx : x ∈ r) (hy : y ∈ r) (hb : begB y x = true) : y = x := by
  obtain ⟨i, hi, rfl⟩ := mem_atR hx
  obtain ⟨k, hk, rfl⟩ := mem_atR hy
  by_cases e : k = i
  · rw [e]
  · rw [(okAt_iff.1 ((goodR_iff.1 h).1 i hi)).2.2 k hk e] at hb
    cases hb
theorem goodR_pre {r : List (List UInt8)} (h : goodR r = true) {x : List UInt8} (hx : x ∈ r) : preB x = true := by
  obtain ⟨i, hi, rfl⟩ := mem_atR hx
  exact (okAt_iff.1 ((goodR_iff.1 h).1 i hi)).1
theorem goodR_of {r : List (List UInt8)} (h1 : ∀ x, x ∈ r → preB x = true) (h2 : Rises r) (h3 : ∀ x y, x ∈ r → y ∈ r → begB y x = true → y = x) (h4 : r.length ≤ 6) : goodR r = true := by
  refine goodR_iff.2 ⟨fun i hi => okAt_iff.2 ⟨h1 _ (atR_mem hi), ?_, fun k hk hne => ?_⟩, h4⟩
  · by_cases e : i = 0
    · exact Or.inl e
    · exact Or.inr (rises_at h2 (by omega) hi)
  · rw [Bool.eq_false_iff]
    intro hb
    have e := h3 _ _ (atR_mem hi) (atR_mem hk) hb
    rcases Nat.lt_or_ge k i with hl | hl
    · have := rises_at h2 hl hi
      rw [e, ltB_irrefl] at this
      cases this
    · have := rises_at h2 (show i < k by omega) hk
      rw [e, ltB_irrefl] at this
      cases this
/-- What is made of prefixes is a reach, if it is not too long. -/
theorem made_good {S : List UInt8 → Prop} {r : List (List UInt8)} (h : IsMade S r) (hp : ∀ x, S x → preB x = true) (hl : r.length ≤ 6) : goodR r = true := by
  refine goodR_of (fun x hx => hp x ((h.2 x).1 hx).1) h.1 (fun x y hx hy hb => ?_) hl
  exact ((h.2 x).1 hx).2 y ((h.2 y).1 hy).1 hb
theorem goodR_made {r : List (List UInt8)} (h : goodR r = true) : IsMade (· ∈ r) r :=
  ⟨goodR_rises h, fun _ => ⟨fun hx => ⟨hx, fun _ hy hb => goodR_mem h hx hy hb⟩, fun hx => hx.1⟩⟩

/-- Has it a key? -/
def hasB (r : List (List UInt8)) (s : List UInt8) : Bool := r.any fun p => begB p s
theorem hasB_iff {r : List (List UInt8)} {s : List UInt8} : hasB r s = true ↔ ∃ p, p ∈ r ∧ begB p s = true := by
  unfold hasB
  rw [List.any_eq_true]
theorem hasB_yes {r : List (List UInt8)} {s p : List UInt8} {k : Nat} (h : r[k]? = some p) (hb : begB p s = true) : hasB r s = true := hasB_iff.2 ⟨p, List.mem_of_getElem? h, hb⟩
theorem hasB_no {r : List (List UInt8)} {s : List UInt8} (h : ∀ k, k < r.length → begB (atR r k) s = false) : hasB r s = false := by
  rw [Bool.eq_false_iff]
  intro hh
  obtain ⟨p, hp, hb⟩ := hasB_iff.1 hh
  obtain ⟨i, hi, rfl⟩ := mem_atR hp
  rw [h i hi] at hb
  cases hb
/-- Has it all that another one has? -/
def covB (a b : List (List UInt8)) : Bool := b.all fun q => hasB a q
theorem covB_no {a b : List (List UInt8)} {k : Nat} {q : List UInt8} (h : b[k]? = some q) (hb : hasB a q = false) : covB a b = false := by
  unfold covB
  rw [List.all_eq_false]
  exact ⟨q, List.mem_of_getElem? h, by simp [hb]⟩
theorem covB_yes {a b : List (List UInt8)} (h : ∀ k, k < b.length → hasB a (atR b k) = true) : covB a b = true := by
  unfold covB
  rw [List.all_eq_true]
  intro q hq
  obtain ⟨i, hi, rfl⟩ := mem_atR hq
  exact h i hi
/-- The prefixes out of which that is made which both have. -/
def BothS (a b : List (List UInt8)) (x : List UInt8) : Prop := (x ∈ b ∧ hasB a x = true) ∨ (x ∈ a ∧ hasB b x = true)
theorem bothS_swap (a b : List (List UInt8)) (x : List UInt8) : BothS a b x ↔ BothS b a x := Or.comm

/-- Prefixes that have no other one as a beginning; each once. -/
def loneB (l : List (List UInt8)) (i : Nat) : Bool := (List.range l.length).all fun k => !(begB (atR l k) (atR l i) && (atR l k != atR l i || decide (k < i)))
theorem loneB_iff {l : List (List UInt8)} {i : Nat} : loneB l i = true ↔ ∀ k, k < l.length → begB (atR l k) (atR l i) = true → atR l k = atR l i ∧ i ≤ k := by
  unfold loneB
  simp only [List.all_eq_true, List.mem_range, Bool.not_eq_true', Bool.and_eq_false_iff, Bool.or_eq_false_iff, bne_eq_false_iff_eq, decide_eq_false_iff_not, Nat.not_lt]
  constructor
  · intro h k hk hb
    rcases h k hk with e | e
    · rw [hb] at e; cases e
    · exact e
  · intro h k hk
    by_cases hb : begB (atR l k) (atR l i) = true
    · exact Or.inr (h k hk hb)
    · exact Or.inl (by simpa using hb)
/-- What was made of the first m. -/
def MadeTo (l : List (List UInt8)) (m : Nat) (r : List (List UInt8)) : Prop := Rises r ∧ ∀ x, x ∈ r ↔ ∃ i, i < m ∧ loneB l i = true ∧ atR l i = x
theorem madeTo_zero (l : List (List UInt8)) : MadeTo l 0 [] := ⟨List.Pairwise.nil, fun x => ⟨fun h => by simp at h, fun ⟨_, h, _⟩ => by omega⟩⟩
theorem madeTo_skip {l : List (List UInt8)} {m : Nat} {r : List (List UInt8)} (h : MadeTo l m r) (hl : loneB l m = false) : MadeTo l (m + 1) r := by
  refine ⟨h.1, fun x => ?_⟩
  rw [h.2]
  constructor
  · rintro ⟨i, hi, h1, h2⟩
    exact ⟨i, by omega, h1, h2⟩
  · rintro ⟨i, hi, h1, h2⟩
    by_cases e : i = m
    · rw [e, hl] at h1; cases h1
    · exact ⟨i, by omega, h1, h2⟩
/-- It is put at the place ahead of which all are ahead of it. -/
theorem madeTo_put {l : List (List UInt8)} {m t : Nat} {r : List (List UInt8)} (h : MadeTo l m r) (hm : m < l.length) (hl : loneB l m = true) (ht : t ≤ r.length)
    (h1 : ∀ j, j < t → ltB (atR r j) (atR l m) = true) (h2 : t < r.length → ltB (atR r t) (atR l m) = false) : MadeTo l (m + 1) (r.take t ++ [atR l m] ++ r.drop t) := by
  have hnot : atR l m ∉ r := by
    intro hmem
    obtain ⟨i, hi, hli, e⟩ := (h.2 _).1 hmem
    have := (loneB_iff.1 hl) i (by omega) (by rw [e]; exact begB_refl _)
    omega
  have hhigh : ∀ y, y ∈ r.drop t → ltB (atR l m) y = true := by
    intro y hy
    obtain ⟨j, hj, e⟩ := List.getElem_of_mem hy
    rw [List.length_drop] at hj
    rw [List.getElem_drop] at e
    have htl : t < r.length := by omega
    have h3 := ltB_total (h2 htl) (fun e2 => hnot (e2 ▸ atR_mem htl))
    by_cases e0 : j = 0
    · subst e0
      rw [← e]
      rw [atR_get (List.getElem?_eq_getElem htl)] at h3
      exact h3
    · have h4 := rises_at h.1 (show t < t + j by omega) (by omega)
      rw [atR_get (r := r) (i := t + j) (List.getElem?_eq_getElem (by omega)), e] at h4
      exact ltB_trans h3 h4
  have hlow : ∀ y, y ∈ r.take t → ltB y (atR l m) = true := by
    intro y hy
    obtain ⟨j, hj, e⟩ := List.getElem_of_mem hy
    rw [List.length_take] at hj
    rw [List.getElem_take] at e
    have := h1 j (by omega)
    rw [atR_get (List.getElem?_eq_getElem (show j < r.length by omega)), e] at this
    exact this
  refine ⟨?_, fun x => ?_⟩
  · refine List.pairwise_append.2 ⟨List.pairwise_append.2 ⟨h.1.sublist (List.take_sublist _ _), List.pairwise_singleton _ _, ?_⟩, h.1.sublist (List.drop_sublist _ _), ?_⟩
    · intro y hy z hz
      rw [List.mem_singleton] at hz
      rw [hz]
      exact hlow y hy
    · intro y hy z hz
      rcases List.mem_append.1 hy with hy | hy
      · exact ltB_trans (hlow y hy) (hhigh z hz)
      · rw [List.mem_singleton] at hy
        rw [hy]
        exact hhigh z hz
  · have e : x ∈ r.take t ++ [atR l m] ++ r.drop t ↔ x ∈ r ∨ x = atR l m := by
      have e2 : x ∈ r ↔ x ∈ r.take t ∨ x ∈ r.drop t := by
        conv => lhs; rw [← List.take_append_drop t r]
        exact List.mem_append
      rw [List.mem_append, List.mem_append, List.mem_singleton, e2]
      constructor
      · rintro ((h | h) | h)
        · exact Or.inl (Or.inl h)
        · exact Or.inr h
        · exact Or.inl (Or.inr h)
      · rintro ((h | h) | h)
        · exact Or.inl (Or.inl h)
        · exact Or.inr h
        · exact Or.inl (Or.inr h)
    rw [e, h.2]
    constructor
    · rintro (⟨i, hi, ha, hb⟩ | hx)
      · exact ⟨i, by omega, ha, hb⟩
      · exact ⟨m, by omega, hl, hx.symm⟩
    · rintro ⟨i, hi, ha, hb⟩
      by_cases e0 : i = m
      · subst e0
        exact Or.inr hb.symm
      · exact Or.inl ⟨i, by omega, ha, hb⟩
/-- All of them: what is made. -/
theorem madeTo_all {l r : List (List UInt8)} (h : MadeTo l l.length r) : IsMade (· ∈ l) r := by
  refine ⟨h.1, fun x => ?_⟩
  rw [h.2]
  constructor
  · rintro ⟨i, hi, hl, rfl⟩
    refine ⟨atR_mem hi, fun y hy hb => ?_⟩
    obtain ⟨k, hk, rfl⟩ := mem_atR hy
    exact ((loneB_iff.1 hl) k hk hb).1
  · rintro ⟨hx, hy⟩
    have key : ∀ n, ∀ i, i < n → i < l.length → atR l i = x → ∃ j, j < l.length ∧ loneB l j = true ∧ atR l j = x := by
      intro n
      induction n with
      | zero => intro i hi; omega
      | succ n ih =>
        intro i hi hil e
        by_cases hb : loneB l i = true
        · exact ⟨i, hil, hb, e⟩
        · have hb' : ¬ ∀ k, k < l.length → begB (atR l k) (atR l i) = true → atR l k = atR l i ∧ i ≤ k := fun h => hb (loneB_iff.2 h)
          have : ∃ k, k < l.length ∧ begB (atR l k) (atR l i) = true ∧ ¬ (atR l k = atR l i ∧ i ≤ k) := by
            apply Classical.byContradiction
            intro hn
            apply hb'
            intro k hk hbk
            apply Classical.byContradiction
            intro hc
            exact hn ⟨k, hk, hbk, hc⟩
          obtain ⟨k, hk, hbk, hnk⟩ := this
          have ek : atR l k = x := by
            rw [e] at hbk
            exact hy _ (atR_mem hk) hbk
          have hki : k < i := by
            apply Classical.byContradiction
            intro hc
            exact hnk ⟨by rw [ek, e], by omega⟩
          exact ih k (by omega) hk ek
    obtain ⟨i, hi, e⟩ := mem_atR hx
    exact key (i + 1) i (by omega) hi e
theorem loneB_no {l : List (List UInt8)} {i k : Nat} (hk : k < l.length) (h1 : begB (atR l k) (atR l i) = true) (h2 : atR l k ≠ atR l i ∨ k < i) : loneB l i = false := by
  rw [Bool.eq_false_iff]
  intro h
  have h3 := loneB_iff.1 h k hk h1
  rcases h2 with h2 | h2
  · exact h2 h3.1
  · omega
end Go.Proofs.Ytokkmofcijfmiab

namespace Go.Proofs.Ytokkmofcijfmiab
open Go.RowKit

theorem OwnS.form {base : Nat} {W : World} {A : Option Addr} {n c : Nat} {l : List ByteArray} (h : OwnS base W A n c l) (hn : 0 < n) : ∃ g, A = some ⟨g, 0, none⟩ ∧ base ≤ g ∧ g < W.heap.size := by
  obtain ⟨g, cap, hv, hb, hlt⟩ := World.ownsRow.form h hn
  injection hv with hv
  exact ⟨g, hv, hb, hlt⟩
theorem OwnS.free {base : Nat} {W : World} {g n c : Nat} {l : List ByteArray} (h : OwnS base W (some ⟨g, 0, none⟩) n c l) (i : Nat) : W.frozen? ⟨g, i, none⟩ = false := by
  rcases h.2 with ⟨hv, _⟩ | ⟨g', cap, cur, hv, hb, hg, h1, h2, h3, h4⟩
  · cases hv
  · injection hv with hv1 hv2 hv3
    injection hv1 with hv1
    injection hv1 with hv1
    subst hv1
    simp [World.frozen?, hg]
theorem sF0 {W : World} {p : Addr} {v : Value} (h : W.cell? p = some v) (hf : W.frozen? p = false) : W.drew.cell? p = some v ∧ W.drew.frozen? p = false ∧ Below W.heap.size W W.drew := ⟨h, hf, (Below.refl _ _).drew⟩
theorem sFA {H : Nat} {W w' : World} {p : Addr} {v : Value} (h : w'.cell? p = some v ∧ w'.frozen? p = false ∧ Below H W w') (hl : p.block < H) (hH : H ≤ W.heap.size) (o : Obj) : (w'.alloc o).cell? p = some v ∧ (w'.alloc o).frozen? p = false ∧ Below H W (w'.alloc o) := by
  have hz := h.2.2.size
  exact ⟨((b0 w' o).cell (by omega)).trans h.1, ((b0 w' o).frozen (by omega)).trans h.2.1, h.2.2.alloc (by omega) o⟩
/-- A store into a row of the call's own. -/
theorem OwnS.set {base : Nat} {W : World} {g n c : Nat} {l : List ByteArray} (h : OwnS base W (some ⟨g, 0, none⟩) n c l) (i : Nat) (x : ByteArray) : OwnS base (W.setCell ⟨g, i, none⟩ (.string x)) (some ⟨g, 0, none⟩) n c (l.set i x) := by
  rcases h.2 with ⟨hv, _⟩ | ⟨g', cap, cur, hv, hb, hg, h1, h2, h3, h4⟩
  · cases hv
  · injection hv with hv1 hv2 hv3
    injection hv1 with hv1
    injection hv1 with hv1
    subst hv1
    subst hv3
    refine ⟨by simpa using h.1, .inr ⟨g, c, cur.setIfInBounds i (.string x), rfl, hb, ?_, h1, h2, by simpa using h3, ?_⟩⟩
    · simp [World.setCell, Array.getElem?_modify, hg]
    · rw [Array.toList_setIfInBounds, List.take_set, h4]
      simp [strV, List.map_set]
end Go.Proofs.Ytokkmofcijfmiab

namespace Go.Proofs.Ytokkmofcijfmiab
open Go.RowKit

theorem sclone_any (s : ByteArray) (w : World) (hs : s.size ≤ 1000000) :
    Calls Try.prog 46 #[.string s] w fun e w' => e = .returned (.string s) ∧ Below w.heap.size w w' := by
  go_enter Try.func46, Try.ntmps46
  go_wp2_with fail
  refine (Try.stringslite_Clone s w (by omega)).mono ?_
  rintro e w2 ⟨rfl, hb2⟩
  go_wp2_with fail
  go_ret
  exact ⟨rfl, hb2⟩

end Go.Proofs.Ytokkmofcijfmiab

namespace Go.Proofs.Ytokkmofcijfmiab
open Go.RowKit

theorem str_eqB (a b : ByteArray) : (a.toList == b.toList) = (a.data.toList == b.data.toList) := by rw [ByteArray.toList_eq, ByteArray.toList_eq]
theorem beg_data {p s : ByteArray} (h : p.size ≤ s.size) : begB p.data.toList s.data.toList = ((s.extract 0 p.size).toList == p.toList) := by
  have h1 : p.data.toList.length = p.size := Array.length_toList
  have h2 : s.data.toList.length = s.size := Array.length_toList
  rw [begB_take, h1, h2, decide_eq_true h, Bool.true_and, str_eqB]
  simp
theorem beg_long {p s : ByteArray} (h : ¬ p.size ≤ s.size) : begB p.data.toList s.data.toList = false := by
  have h1 : p.data.toList.length = p.size := Array.length_toList
  have h2 : s.data.toList.length = s.size := Array.length_toList
  rw [begB_take, h1, h2, decide_eq_false h, Bool.false_and]

end Go.Proofs.Ytokkmofcijfmiab

namespace Go.Proofs.Ytokkmofcijfmiab
open Go.RowKit

/-- The texts as lists of bytes. -/
abbrev dL (l : List ByteArray) : List (List UInt8) := l.map (·.data.toList)
theorem dL_len (l : List ByteArray) : (dL l).length = l.length := by simp
theorem dL_get {l : List ByteArray} {k : Nat} {x : ByteArray} (h : l[k]? = some x) : (dL l)[k]? = some x.data.toList := by rw [List.getElem?_map, h]; rfl
theorem dL_at {l : List ByteArray} {k : Nat} {x : ByteArray} (h : l[k]? = some x) : atR (dL l) k = x.data.toList := atR_get (dL_get h)
theorem get_ex {l : List ByteArray} {k : Nat} (h : k < l.length) : ∃ x, l[k]? = some x := ⟨_, List.getElem?_eq_getElem h⟩

/-- The same lists? -/
def sameB (l l2 : List ByteArray) : Bool := decide (dL l = dL l2)
theorem same_no {l l2 : List ByteArray} {k : Nat} {x y : ByteArray} (h : l[k]? = some x) (h2 : l2[k]? = some y) (hne : x.data.toList ≠ y.data.toList) : sameB l l2 = false := by
  unfold sameB
  rw [decide_eq_false_iff_not]
  intro e
  have h3 := dL_get h
  rw [e, dL_get h2] at h3
  injection h3 with h3
  exact hne h3.symm
theorem same_len {l l2 : List ByteArray} (h : l.length ≠ l2.length) : sameB l l2 = false := by
  unfold sameB
  rw [decide_eq_false_iff_not]
  intro e
  have := congrArg List.length e
  rw [dL_len, dL_len] at this
  exact h this
theorem same_yes {l l2 : List ByteArray} (h : l.length = l2.length) (hA : ∀ j, j < l.length → atR (dL l) j = atR (dL l2) j) : sameB l l2 = true := by
  unfold sameB
  rw [decide_eq_true_eq]
  apply List.ext_getElem?
  intro i
  by_cases hi : i < l.length
  · obtain ⟨x, hx⟩ := get_ex hi
    obtain ⟨y, hy⟩ := get_ex (l := l2) (k := i) (by omega)
    have := hA i hi
    rw [dL_at hx, dL_at hy] at this
    rw [dL_get hx, dL_get hy, this]
  · rw [List.getElem?_eq_none (by rw [dL_len]; omega), List.getElem?_eq_none (by rw [dL_len]; omega)]

theorem take_succ_get {l : List ByteArray} {k : Nat} {x : ByteArray} (h : l[k]? = some x) : (dL l).take (k + 1) = (dL l).take k ++ [x.data.toList] := by
  have hg := dL_get h
  have hk := (List.getElem?_eq_some_iff.1 hg).1
  rw [List.take_succ_eq_append_getElem hk]
  congr 1
  rw [List.getElem?_eq_getElem hk] at hg
  injection hg with hg
  rw [hg]
theorem ByteArray.toList_data_append' (a b : ByteArray) : (a ++ b).data.toList = a.data.toList ++ b.data.toList := by simp
theorem ret_strD {a b : ByteArray} (h : a.data.toList = b.data.toList) : Ending.returned (.string a) = .returned (.string b) := by
  rw [show a = b from ByteArray.ext (Array.toList_inj.1 h)]
end Go.Proofs.Ytokkmofcijfmiab

namespace Go.Proofs.Ytokkmofcijfmiab
open Go.RowKit

/-- A function value that tells of each of these whether p holds, in whatever world that keeps w. -/
def PredB (g : Nat) (lb : Array Value) (p : List UInt8 → Bool) (l : List ByteArray) (w : World) : Prop :=
  ∀ (x : ByteArray), x ∈ l → ∀ W, Below w.heap.size w W → Calls Try.prog g (#[.string x] ++ lb) W fun e W' => e = .returned (.bool (p x.data.toList)) ∧ Below W.heap.size W W'
theorem pred_is {g : Nat} {lb : Array Value} {p : List UInt8 → Bool} {l : List ByteArray} {w : World} (h : PredB g lb p l w) {k : Nat} {x : ByteArray} (hx : l[k]? = some x) (b : Bool) (hb : p x.data.toList = b) {W : World} (hB : Below w.heap.size w W) :
    Calls Try.prog g (#[.string x] ++ lb) W fun e W' => e = .returned (.bool b) ∧ Below W.heap.size W W' := by
  subst hb
  exact h x (List.mem_of_getElem? hx) W hB
/-- Does it hold of one of them? -/
def anyP (p : List UInt8 → Bool) (l : List ByteArray) : Bool := (dL l).any p
theorem any_yes {l : List ByteArray} {p : List UInt8 → Bool} {k : Nat} {x : ByteArray} (hx : l[k]? = some x) (hb : p x.data.toList = true) : anyP p l = true :=
  List.any_eq_true.2 ⟨_, List.mem_of_getElem? (dL_get hx), hb⟩
theorem any_no {l : List ByteArray} {p : List UInt8 → Bool} (h : ∀ j, j < l.length → p (atR (dL l) j) = false) : anyP p l = false := by
  unfold anyP
  rw [List.any_eq_false]
  intro x hx
  obtain ⟨i, hi, rfl⟩ := mem_atR hx
  rw [h i (by rwa [dL_len] at hi)]
  exact Bool.false_ne_true

end Go.Proofs.Ytokkmofcijfmiab

namespace Go.Proofs.Ytokkmofcijfmiab
open Go.RowKit

set_option maxHeartbeats 400000 in
theorem ints_any (a b : Int) (w : World) :
    Calls Try.prog 20 #[.int .i64 a, .int .i64 b] w fun e w' => e = .returned (.int .i64 (Lib.compareInt a b)) ∧ w = w' := by
  by_cases h : a < b
  · go_enter Try.func20, Try.ntmps20
    go_wp2
    go_ret
    exact ⟨ret_i64 (by simp [Lib.compareInt, h]), rfl⟩
  · by_cases h' : b < a
    · go_enter Try.func20, Try.ntmps20
      go_wp2
      go_ret
      exact ⟨ret_i64 (by simp [Lib.compareInt, h, h']), rfl⟩
    · go_enter Try.func20, Try.ntmps20
      go_wp2
      go_ret
      exact ⟨ret_i64 (by rw [show a = b by omega]; simp [Lib.compareInt]), rfl⟩

theorem cmp_bytes (a b : UInt8) (l m : List UInt8) (h : a ≠ b) : Lib.compareBytes (a :: l) (b :: m) = Lib.compareInt a.toNat b.toNat := by
  have hn : a.toNat ≠ b.toNat := fun e => h (UInt8.toNat_inj.1 e)
  unfold Lib.compareBytes Lib.compareInt
  simp only [UInt8.lt_iff_toNat_lt, Int.ofNat_lt, gt_iff_lt]
  by_cases h1 : a.toNat < b.toNat
  · simp [h1]
  · have h2 : b.toNat < a.toNat := by omega
    simp [h1, h2]
theorem cmp_same (a : UInt8) (l m : List UInt8) : Lib.compareBytes (a :: l) (a :: m) = Lib.compareBytes l m := by
  have h : ¬ a < a := by rw [UInt8.lt_iff_toNat_lt]; omega
  simp [Lib.compareBytes, h]
theorem cmp_end (l m : List UInt8) (h : l = [] ∨ m = []) : Lib.compareBytes l m = Lib.compareInt l.length m.length := by
  rcases h with rfl | rfl
  · cases m with
    | nil => rfl
    | cons b t =>
      have h1 : ((0 : Nat) : Int) < ((t.length + 1 : Nat) : Int) := by omega
      simp only [Lib.compareBytes, List.length_nil, List.length_cons, Lib.compareInt, h1, if_true]
  · cases l with
    | nil => rfl
    | cons b t =>
      have h1 : ¬ ((t.length + 1 : Nat) : Int) < ((0 : Nat) : Int) := by omega
      have h2 : ((t.length + 1 : Nat) : Int) > ((0 : Nat) : Int) := by omega
      simp only [Lib.compareBytes, List.length_nil, List.length_cons, Lib.compareInt, h1, h2, if_false, if_true]



set_option maxHeartbeats 2000000 in
theorem texts_drn (a b : ByteArray) (w : World) (ha : a.size ≤ maxLen) (_hb : b.size ≤ maxLen) :
    Calls Try.prog 30 #[.string a, .string b] w fun e w' => e = .returned (.int .i64 (Lib.compareBytes a.data.toList b.data.toList)) ∧ Drn w w' := by
  unfold maxLen at ha _hb
  go_enter Try.func30, Try.ntmps30
  go_wp2_with fail
  go_loopw [5] (fun i wr => ∃ k : Nat, k ≤ a.size ∧ k ≤ b.size ∧ i = .int .i64 k ∧ Hid (Lib.compareBytes a.data.toList b.data.toList = Lib.compareBytes (a.data.toList.drop k) (b.data.toList.drop k)) ∧ Drn w wr) (fun i _ => a.size - (intOf i).toNat)
  case atStart => exact ⟨0, Nat.zero_le _, Nat.zero_le _, rfl, rfl, Drn.refl _⟩
  case round =>
    obtain ⟨k, hka, hkb, rfl, hE, hB⟩ := hrel
    by_cases hlt : k < a.size ∧ k < b.size
    · obtain ⟨h1, h2⟩ := hlt
      have i1 : (0 : Int) ≤ (k : Int) := by omega
      have i2 : (k : Int) < (a.size : Int) := by omega
      have i3 : (k : Int) < (b.size : Int) := by omega
      have ea := drop_cons a k h1
      have eb := drop_cons b k h2
      by_cases hab : a[k] = b[k]
      · have hE' : Hid (Lib.compareBytes a.data.toList b.data.toList = Lib.compareBytes (a.data.toList.drop (k + 1)) (b.data.toList.drop (k + 1))) := by
          have e := hE.out
          rw [ea, eb, hab, cmp_same] at e
          exact e
        clear ea eb hE
        have hab' : ((a[k].toNat : Int) != (b[k].toNat : Int)) = false := by rw [hab]; simp
        have Hab := Lib.hid hab
        clear hab
        go_wp2_with fail
        go_quiet (fail)
        go_wp2_with fail
        go_roundw
        case rel => exact ⟨k + 1, by omega, by omega, by go_num, hE', hB.draws _⟩
        case measure => simp [intOf]; omega
      · have hE' : Hid (Lib.compareBytes a.data.toList b.data.toList = Lib.compareInt a[k].toNat b[k].toNat) := by
          have e := hE.out
          rw [ea, eb, cmp_bytes _ _ _ _ hab] at e
          exact e
        clear ea eb hE
        have hab' : ((a[k].toNat : Int) != (b[k].toNat : Int)) = true := by
          have : a[k].toNat ≠ b[k].toNat := fun e => hab (UInt8.toNat_inj.1 e)
          simp
          omega
        clear hab
        go_wp2_with fail
        go_quiet (fail)
        go_wp2_with fail
        have hB2 := hB.draws nq
        generalize wr.drewN nq = w2 at hB2 ⊢
        go_quiet ((go_at_call 20; exact Calls.quiet_of_same ((ints_any _ _ _).mono fun _ _ h => ⟨h.1, h.2.symm⟩)))
        go_wp2_with fail
        go_ret
        exact ⟨ret_i64 (by rw [wrap_byte, wrap_byte]; exact hE'.out.symm), hB2.draws _⟩
    · have hE' : Hid (Lib.compareBytes a.data.toList b.data.toList = Lib.compareInt a.size b.size) := by
        have e := hE.out
        have l1 : a.data.toList.length = a.size := Array.length_toList
        have l2 : b.data.toList.length = b.size := Array.length_toList
        have hend : a.data.toList.drop k = [] ∨ b.data.toList.drop k = [] := by
          by_cases h : k < a.size
          · exact Or.inr (List.drop_eq_nil_of_le (by omega))
          · exact Or.inl (List.drop_eq_nil_of_le (by omega))
        rw [cmp_end (a.data.toList.drop k) (b.data.toList.drop k) hend] at e
        have e2 : Lib.compareInt (a.data.toList.drop k).length (b.data.toList.drop k).length = Lib.compareInt a.size b.size := by
          unfold Lib.compareInt
          simp only [List.length_drop, l1, l2]
          repeat' split
          all_goals omega
        exact e.trans e2
      clear hE
      go_wp2_with (go_at_call 20; refine (ints_any _ _ _).mono ?_; rintro e w2 ⟨rfl, rfl⟩)
      all_goals go_ret
      all_goals exact ⟨ret_i64 hE'.out.symm, hB⟩

theorem texts_any (a b : ByteArray) (w : World) (ha : a.size ≤ maxLen) (hb : b.size ≤ maxLen) :
    Calls Try.prog 30 #[.string a, .string b] w fun e w' => e = .returned (.int .i64 (Lib.compareBytes a.data.toList b.data.toList)) ∧ Below w.heap.size w w' :=
  (texts_drn a b w ha hb).mono fun _ _ h => ⟨h.1, h.2.below _⟩
end Go.Proofs.Ytokkmofcijfmiab
