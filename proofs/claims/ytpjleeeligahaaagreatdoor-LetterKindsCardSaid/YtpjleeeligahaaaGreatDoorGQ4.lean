/-
  WHAT IS PROVED: plain facts on the order of lists of bytes and of values. No program. No condition. · plain facts on reaches: lists of prefixes that rise, none the beginning of another one; what is made of any prefixes; what both have. No program. No condition. · more words for a row of strings that the call owns: where it lies, that it may be written, a store into it. Over any program. · strings.Clone answers the same text. Conditions: those typed in the theorem. · spinneyref04.begins tells whether a text begins another one, for every two. Conditions: those typed in each theorem. · of the document's answers for reaches (spinneyref04): Same, for all slices of strings. Conditions: those typed in each theorem. · slices.ContainsFunc (and IndexFunc) of a slice of strings tells whether a predicate holds of one of them, for every function value that answers so and leaves what lay there. Conditions: those typed in each theorem. · the document's order of ints and of texts (spinneyref01.Ints, Texts), for every two. Conditions: those typed in each theorem. · spinneyref04.Good tells whether a list of strings is a reach, as goodR does, for every slice of strings. Conditions: those typed in the theorem. · of the code of reaches: prefixes tells whether all may be prefixes, Has whether one of them begins a text, Covers whether one has all that another one has. Conditions: those typed in each theorem. · plain facts on what is left of a sorted list of texts if each is dropped that begins with the last one left: the reach of these prefixes. No program. No condition.
-/
import Derived.Lib.Bytealg
import Derived.Lib.Small
import Derived.Test.YtpjleeeligahaaaGreatDoorGQ2
import Derived.Test.YtpjleeeligahaaaGreatDoorGQ0
import Derived.Test.YtpjleeeligahaaaGreatDoorShelf
import Derived.Laws.Strings
import Derived.Shelf.Abstract
import Derived.IntWalk
namespace Go.Proofs.YtpjleeeligahaaaGreatDoor
open Go

theorem cmpB_swap : ∀ a b : List UInt8, Lib.compareBytes b a = - Lib.compareBytes a b
  | [], [] => rfl
  | [], _ :: _ => rfl
  | _ :: _, [] => rfl
  | a :: as1, b :: bs => by
    have ih := cmpB_swap as1 bs
    simp only [Lib.compareBytes]
    by_cases h : a < b
    · have h' : ¬ b < a := by rw [UInt8.lt_iff_toNat_lt] at *; omega
      simp [h, h']
    · by_cases h' : b < a
      · simp [h, h']
      · simp [h, h', ih]

theorem cmpB_cases : ∀ a b : List UInt8, Lib.compareBytes a b = -1 ∨ Lib.compareBytes a b = 0 ∨ Lib.compareBytes a b = 1
  | [], [] => by simp [Lib.compareBytes]
  | [], _ :: _ => by simp [Lib.compareBytes]
  | _ :: _, [] => by simp [Lib.compareBytes]
  | a :: as1, b :: bs => by
    have ih := cmpB_cases as1 bs
    simp only [Lib.compareBytes]
    by_cases h : a < b
    · simp [h]
    · by_cases h' : b < a
      · simp [h, h']
      · simpa [h, h'] using ih

theorem cmpB_zero : ∀ a b : List UInt8, Lib.compareBytes a b = 0 → a = b
  | [], [] => fun _ => rfl
  | [], _ :: _ => fun h => by simp [Lib.compareBytes] at h
  | _ :: _, [] => fun h => by simp [Lib.compareBytes] at h
  | a :: as1, b :: bs => fun h => by
    have ih := cmpB_zero as1 bs
    simp only [Lib.compareBytes] at h
    by_cases h1 : a < b
    · simp [h1] at h
    · by_cases h2 : b < a
      · simp [h1, h2] at h
      · simp only [h1, h2, if_false] at h
        have hab : a = b := by
          rw [UInt8.lt_iff_toNat_lt] at *
          exact UInt8.toNat_inj.1 (by omega)
        rw [hab, ih h]

theorem cmpB_refl : ∀ a : List UInt8, Lib.compareBytes a a = 0
  | [] => rfl
  | a :: as1 => by
    have h : ¬ a < a := by rw [UInt8.lt_iff_toNat_lt]; omega
    simp [Lib.compareBytes, h, cmpB_refl as1]

theorem cmpB_trans : ∀ a b c : List UInt8, Lib.compareBytes a b = -1 → Lib.compareBytes b c = -1 → Lib.compareBytes a c = -1
  | [], [], c => fun h _ => by simp [Lib.compareBytes] at h
  | [], _ :: _, [] => fun _ h => by simp [Lib.compareBytes] at h
  | [], _ :: _, _ :: _ => fun _ _ => rfl
  | _ :: _, [], _ => fun h _ => by simp [Lib.compareBytes] at h
  | _ :: _, _ :: _, [] => fun _ h => by simp [Lib.compareBytes] at h
  | a :: as1, b :: bs, c :: cs => fun h k => by
    have ih := cmpB_trans as1 bs cs
    simp only [Lib.compareBytes] at h k ⊢
    by_cases h1 : a < b
    · by_cases k1 : b < c
      · have : a < c := by rw [UInt8.lt_iff_toNat_lt] at *; omega
        simp [this]
      · by_cases k2 : c < b
        · simp [k1, k2] at k
        · have : a < c := by rw [UInt8.lt_iff_toNat_lt] at *; omega
          simp [this]
    · by_cases h2 : b < a
      · simp [h1, h2] at h
      · simp only [h1, h2, if_false] at h
        by_cases k1 : b < c
        · have : a < c := by rw [UInt8.lt_iff_toNat_lt] at *; omega
          simp [this]
        · by_cases k2 : c < b
          · simp [k1, k2] at k
          · simp only [k1, k2, if_false] at k
            have e1 : ¬ a < c := by rw [UInt8.lt_iff_toNat_lt] at *; omega
            have e2 : ¬ c < a := by rw [UInt8.lt_iff_toNat_lt] at *; omega
            simp only [e1, e2, if_false]
            exact ih h k

/-- The document's order of good values: the kind, the number, the text. -/
def ordV (ka na kb nb : Int) (sa sb : List UInt8) : Int :=
  if ka ≠ kb then Lib.compareInt ka kb else if ka = 1 then Lib.compareInt na nb else if ka = 2 then Lib.compareBytes sa sb else 0

theorem cmpI_swap (a b : Int) : Lib.compareInt b a = - Lib.compareInt a b := by
  unfold Lib.compareInt
  repeat' split
  all_goals omega
theorem cmpI_cases (a b : Int) : Lib.compareInt a b = -1 ∨ Lib.compareInt a b = 0 ∨ Lib.compareInt a b = 1 := by
  unfold Lib.compareInt
  repeat' split
  all_goals omega
theorem cmpI_zero {a b : Int} (h : Lib.compareInt a b = 0) : a = b := by
  unfold Lib.compareInt at h
  repeat' split at h
  all_goals omega
theorem cmpI_lt {a b : Int} (h : Lib.compareInt a b = -1) : a < b := by
  unfold Lib.compareInt at h
  repeat' split at h
  all_goals omega
theorem cmpI_of_lt {a b : Int} (h : a < b) : Lib.compareInt a b = -1 := by simp [Lib.compareInt, h]

theorem ordV_swap (ka na kb nb : Int) (sa sb : List UInt8) : ordV kb nb ka na sb sa = - ordV ka na kb nb sa sb := by
  unfold ordV
  by_cases h : ka = kb
  · subst h
    simp only [ne_eq, not_true_eq_false, if_false]
    by_cases h1 : ka = 1
    · simp only [h1, if_true]; exact cmpI_swap _ _
    · by_cases h2 : ka = 2
      · simp only [h2]; exact cmpB_swap _ _
      · simp [h1, h2]
  · have h' : ¬ kb = ka := fun e => h e.symm
    simp only [ne_eq, h, h', not_false_eq_true, if_true]
    exact cmpI_swap _ _
theorem ordV_cases (ka na kb nb : Int) (sa sb : List UInt8) : ordV ka na kb nb sa sb = -1 ∨ ordV ka na kb nb sa sb = 0 ∨ ordV ka na kb nb sa sb = 1 := by
  unfold ordV
  split
  · exact cmpI_cases _ _
  · split
    · exact cmpI_cases _ _
    · split
      · exact cmpB_cases _ _
      · simp

/-- What a good value is, in plain words. -/
def GoodV (k n : Int) (s : List UInt8) : Prop := (k = 0 ∧ n = 0 ∧ s = []) ∨ (k = 1 ∧ s = []) ∨ (k = 2 ∧ n = 0)

theorem ordV_zero {ka na kb nb : Int} {sa sb : List UInt8} (ga : GoodV ka na sa) (gb : GoodV kb nb sb) (h : ordV ka na kb nb sa sb = 0) : ka = kb ∧ na = nb ∧ sa = sb := by
  unfold ordV at h
  by_cases e : ka = kb
  · subst e
    simp only [ne_eq, not_true_eq_false, if_false] at h
    rcases ga with ⟨rfl, rfl, rfl⟩ | ⟨rfl, rfl⟩ | ⟨rfl, rfl⟩
    · rcases gb with ⟨_, rfl, rfl⟩ | ⟨h1, _⟩ | ⟨h1, _⟩
      · exact ⟨rfl, rfl, rfl⟩
      · omega
      · omega
    · rcases gb with ⟨h1, _⟩ | ⟨_, rfl⟩ | ⟨h1, _⟩
      · omega
      · simp only [if_true] at h
        exact ⟨rfl, cmpI_zero h, rfl⟩
      · omega
    · rcases gb with ⟨h1, _⟩ | ⟨h1, _⟩ | ⟨_, rfl⟩
      · omega
      · omega
      · exact ⟨rfl, rfl, cmpB_zero _ _ (by simpa using h)⟩
  · simp only [ne_eq, e, not_false_eq_true, if_true] at h
    exact absurd (cmpI_zero h) e
theorem ordV_refl (ka na : Int) (sa : List UInt8) : ordV ka na ka na sa sa = 0 := by
  unfold ordV
  simp [cmpB_refl, Lib.compareInt]
theorem ordV_trans {ka na kb nb kc nc : Int} {sa sb sc : List UInt8} (h : ordV ka na kb nb sa sb = -1) (k : ordV kb nb kc nc sb sc = -1) : ordV ka na kc nc sa sc = -1 := by
  unfold ordV at *
  by_cases e : ka = kb
  · subst e
    simp only [ne_eq, not_true_eq_false, if_false] at h
    by_cases f : ka = kc
    · subst f
      simp only [ne_eq, not_true_eq_false, if_false] at k ⊢
      by_cases h1 : ka = 1
      · simp only [h1, if_true] at h k ⊢
        have := cmpI_lt h
        have := cmpI_lt k
        exact cmpI_of_lt (by omega)
      · by_cases h2 : ka = 2
        · subst h2
          exact cmpB_trans _ _ _ h k
        · simp [h1, h2] at h
    · simp only [ne_eq, f, not_false_eq_true, if_true] at k ⊢
      exact k
  · simp only [ne_eq, e, not_false_eq_true, if_true] at h
    by_cases f : kb = kc
    · subst f
      simp only [ne_eq, e, not_false_eq_true, if_true]
      exact h
    · simp only [ne_eq, f, not_false_eq_true, if_true] at k
      have h1 := cmpI_lt h
      have h2 := cmpI_lt k
      have h3 : ¬ ka = kc := by omega
      simp only [ne_eq, h3, not_false_eq_true, if_true]
      exact cmpI_of_lt (by omega)
end Go.Proofs.YtpjleeeligahaaaGreatDoor

namespace Go.Proofs.YtpjleeeligahaaaGreatDoor
open Go

/-- Does a text begin another one? -/
def begB (p s : List UInt8) : Bool := p.isPrefixOf s
theorem begB_iff {p s : List UInt8} : begB p s = true ↔ p <+: s := List.isPrefixOf_iff_prefix
theorem begB_refl (p : List UInt8) : begB p p = true := begB_iff.2 (List.prefix_refl p)
theorem begB_trans {p q s : List UInt8} (h : begB p q = true) (k : begB q s = true) : begB p s = true := begB_iff.2 ((begB_iff.1 h).trans (begB_iff.1 k))
theorem begB_take {p s : List UInt8} : begB p s = (decide (p.length ≤ s.length) && (s.take p.length == p)) := by
  rw [Bool.eq_iff_iff, begB_iff, Bool.and_eq_true, decide_eq_true_eq, beq_iff_eq]
  constructor
  · intro h
    exact ⟨h.length_le, (List.prefix_iff_eq_take.1 h).symm⟩
  · intro h
    exact List.prefix_iff_eq_take.2 h.2.symm
/-- May it be a prefix? -/
def preB (p : List UInt8) : Bool := p.isEmpty || keyB p
/-- Does a text stand ahead of another one? -/
def ltB (a b : List UInt8) : Bool := decide (Lib.compareBytes a b < 0)
theorem ltB_iff {a b : List UInt8} : ltB a b = true ↔ Lib.compareBytes a b = -1 := by
  unfold ltB
  rw [decide_eq_true_eq]
  rcases cmpB_cases a b with h | h | h <;> rw [h] <;> simp
theorem ltB_irrefl (a : List UInt8) : ltB a a = false := by
  unfold ltB
  rw [cmpB_refl]
  rfl
theorem ltB_trans {a b c : List UInt8} (h : ltB a b = true) (k : ltB b c = true) : ltB a c = true :=
  ltB_iff.2 (cmpB_trans _ _ _ (ltB_iff.1 h) (ltB_iff.1 k))
theorem ltB_asymm {a b : List UInt8} (h : ltB a b = true) : ltB b a = false := by
  have h1 := ltB_iff.1 h
  unfold ltB
  rw [cmpB_swap a b, h1]
  rfl
theorem ltB_total {a b : List UInt8} (h : ltB a b = false) (hne : a ≠ b) : ltB b a = true := by
  rw [ltB_iff, cmpB_swap a b]
  rcases cmpB_cases a b with e | e | e
  · exact absurd (ltB_iff.2 e) (by simp [h])
  · exact absurd (cmpB_zero _ _ e) hne
  · rw [e]

/-- The text at a place. -/
def atR (r : List (List UInt8)) (i : Nat) : List UInt8 := r.getD i []
theorem atR_get {r : List (List UInt8)} {i : Nat} {x : List UInt8} (h : r[i]? = some x) : atR r i = x := by
  unfold atR
  rw [List.getD_eq_getElem?_getD, h]
  rfl
theorem atR_mem {r : List (List UInt8)} {i : Nat} (h : i < r.length) : atR r i ∈ r := by
  rw [atR_get (List.getElem?_eq_getElem h)]
  exact List.getElem_mem h
theorem mem_atR {r : List (List UInt8)} {x : List UInt8} (h : x ∈ r) : ∃ i, i < r.length ∧ atR r i = x := by
  obtain ⟨i, hi, e⟩ := List.getElem_of_mem h
  exact ⟨i, hi, by rw [atR_get (List.getElem?_eq_getElem hi), e]⟩
/-- What Good asks of place i. -/
def okAt (r : List (List UInt8)) (i : Nat) : Bool := preB (atR r i) && (decide (i = 0) || ltB (atR r (i - 1)) (atR r i)) && (List.range r.length).all fun k => decide (k = i) || !begB (atR r k) (atR r i)
/-- Is it a reach? -/
def goodR (r : List (List UInt8)) : Bool := (List.range r.length).all (okAt r) && decide (r.length ≤ 6)
theorem okAt_iff {r : List (List UInt8)} {i : Nat} : okAt r i = true ↔ preB (atR r i) = true ∧ (i = 0 ∨ ltB (atR r (i - 1)) (atR r i) = true) ∧ ∀ k, k < r.length → k ≠ i → begB (atR r k) (atR r i) = false := by
  unfold okAt
  simp only [Bool.and_eq_true, Bool.or_eq_true, decide_eq_true_eq, List.all_eq_true, List.mem_range, Bool.not_eq_true', and_assoc]
  constructor
  · rintro ⟨h1, h2, h3⟩
    exact ⟨h1, h2, fun k hk hne => (h3 k hk).resolve_left hne⟩
  · rintro ⟨h1, h2, h3⟩
    refine ⟨h1, h2, fun k hk => ?_⟩
    by_cases e : k = i
    · exact Or.inl e
    · exact Or.inr (h3 k hk e)
theorem goodR_iff {r : List (List UInt8)} : goodR r = true ↔ (∀ i, i < r.length → okAt r i = true) ∧ r.length ≤ 6 := by
  unfold goodR
  simp only [Bool.and_eq_true, decide_eq_true_eq, List.all_eq_true, List.mem_range]
theorem goodR_bad {r : List (List UInt8)} {i : Nat} (h : i < r.length) (hb : okAt r i = false) : goodR r = false := by
  rw [Bool.eq_false_iff]
  intro hg
  rw [(goodR_iff.1 hg).1 i h] at hb
  cases hb
theorem goodR_all {r : List (List UInt8)} (h : ∀ i, i < r.length → okAt r i = true) : goodR r = decide (r.length ≤ 6) := by
  unfold goodR
  have : (List.range r.length).all (okAt r) = true := by
    rw [List.all_eq_true]
    intro i hi
    exact h i (List.mem_range.1 hi)
  rw [this, Bool.true_and]

/-- They rise. -/
def Rises (r : List (List UInt8)) : Prop := r.Pairwise fun a b => ltB a b = true
/-- Rising lists with the same members are the same. -/
theorem rises_uniq : ∀ (r s : List (List UInt8)), Rises r → Rises s → (∀ x, x ∈ r ↔ x ∈ s) → r = s
  | [], [], _, _, _ => rfl
  | [], b :: s, _, _, h => absurd ((h b).2 (List.mem_cons_self)) (by simp)
  | a :: r, [], _, _, h => absurd ((h a).1 (List.mem_cons_self)) (by simp)
  | a :: r, b :: s, hr, hs, h => by
    have hr' := List.pairwise_cons.1 hr
    have hs' := List.pairwise_cons.1 hs
    have hab : a = b := by
      rcases List.mem_cons.1 ((h a).1 List.mem_cons_self) with e | e
      · exact e
      · rcases List.mem_cons.1 ((h b).2 List.mem_cons_self) with f | f
        · exact f.symm
        · have h1 := hs'.1 a e
          have h2 := hr'.1 b f
          rw [ltB_asymm h1] at h2
          cases h2
    subst hab
    have hx : ∀ x, x ∈ r ↔ x ∈ s := by
      intro x
      constructor
      · intro hm
        rcases List.mem_cons.1 ((h x).1 (List.mem_cons_of_mem _ hm)) with e | e
        · have h1 := hr'.1 x hm
          rw [e, ltB_irrefl] at h1
          cases h1
        · exact e
      · intro hm
        rcases List.mem_cons.1 ((h x).2 (List.mem_cons_of_mem _ hm)) with e | e
        · have h1 := hs'.1 x hm
          rw [e, ltB_irrefl] at h1
          cases h1
        · exact e
    rw [rises_uniq r s hr'.2 hs'.2 hx]

/-- r is the reach of the prefixes that S has: those that have no other one as a beginning, rising. -/
def IsMade (S : List UInt8 → Prop) (r : List (List UInt8)) : Prop := Rises r ∧ ∀ x, x ∈ r ↔ S x ∧ ∀ y, S y → begB y x = true → y = x
theorem made_uniq {S T : List UInt8 → Prop} {r s : List (List UInt8)} (h : IsMade S r) (k : IsMade T s) (e : ∀ x, S x ↔ T x) : r = s := by
  refine rises_uniq r s h.1 k.1 fun x => ?_
  rw [h.2, k.2]
  constructor
  · rintro ⟨h1, h2⟩
    exact ⟨(e x).1 h1, fun y hy => h2 y ((e y).2 hy)⟩
  · rintro ⟨h1, h2⟩
    exact ⟨(e x).2 h1, fun y hy => h2 y ((e y).1 hy)⟩
theorem made_congr {S T : List UInt8 → Prop} {r : List (List UInt8)} (h : IsMade S r) (e : ∀ x, S x ↔ T x) : IsMade T r := by
  refine ⟨h.1, fun x => ?_⟩
  rw [h.2]
  constructor
  · rintro ⟨h1, h2⟩
    exact ⟨(e x).1 h1, fun y hy => h2 y ((e y).2 hy)⟩
  · rintro ⟨h1, h2⟩
    exact ⟨(e x).2 h1, fun y hy => h2 y ((e y).1 hy)⟩

theorem rises_at {r : List (List UInt8)} (h : Rises r) {i j : Nat} (hij : i < j) (hj : j < r.length) : ltB (atR r i) (atR r j) = true := by
  have hi : i < r.length := by omega
  rw [atR_get (List.getElem?_eq_getElem hi), atR_get (List.getElem?_eq_getElem hj)]
  exact List.pairwise_iff_getElem.1 h i j hi hj hij
theorem rises_of_steps {r : List (List UInt8)} (h : ∀ i, 0 < i → i < r.length → ltB (atR r (i - 1)) (atR r i) = true) : Rises r := by
  refine List.pairwise_iff_getElem.2 fun i j hi hj hij => ?_
  have key : ∀ d, i + d + 1 < r.length → ltB (atR r i) (atR r (i + d + 1)) = true := by
    intro d
    induction d with
    | zero => intro hd; exact h (i + 1) (by omega) hd
    | succ d ih =>
      intro hd
      exact ltB_trans (ih (by omega)) (h (i + d + 1 + 1) (by omega) hd)
  have := key (j - i - 1) (by omega)
  have e : i + (j - i - 1) + 1 = j := by omega
  rw [e, atR_get (List.getElem?_eq_getElem hi), atR_get (List.getElem?_eq_getElem hj)] at this
  exact this
theorem goodR_rises {r : List (List UInt8)} (h : goodR r = true) : Rises r := by
  refine rises_of_steps fun i h0 hi => ?_
  rcases (okAt_iff.1 ((goodR_iff.1 h).1 i hi)).2.1 with e | e
  · omega
  · exact e
theorem goodR_mem {r : List (List UInt8)} (h : goodR r = true) {x y : List UInt8} (hx : x ∈ r) (hy : y ∈ r) (hb : begB y x = true) : y = x := by
  obtain ⟨i, hi, rfl⟩ := mem_atR hx
  obtain ⟨k, hk, rfl⟩ := mem_atR hy
  by_cases e : k = i
  · rw [e]
  · rw [(okAt_iff.1 ((goodR_iff.1 h).1 i hi)).2.2 k hk e] at hb
    cases hb
theorem goodR_pre {r : List (List UInt8)} (h : goodR r = true) {x : List UInt8} (hx : x ∈ r) : preB x = true := by
  obtain ⟨i, hi, rfl⟩ := mem_atR hx
  exact (okAt_iff.1 ((goodR_iff.1 h).1 i hi)).1
theorem goodR_of {r : List (List UInt8)} (h1 : ∀ x, x ∈ r → preB x = true) (h2 : Rises r) (h3 : ∀ x y, x ∈ r → y ∈ r → begB y x = true → y = x) (h4 : r.length ≤ 6) : goodR r = true := by
  refine goodR_iff.2 ⟨fun i hi => okAt_iff.2 ⟨h1 _ (atR_mem hi), ?_, fun k hk hne => ?_⟩, h4⟩
  · by_cases e : i = 0
    · exact Or.inl e
    · exact Or.inr (rises_at h2 (by omega) hi)
  · rw [Bool.eq_false_iff]
    intro hb
    have e := h3 _ _ (atR_mem hi) (atR_mem hk) hb
    rcases Nat.lt_or_ge k i with hl | hl
    · have := rises_at h2 hl hi
      rw [e, ltB_irrefl] at this
      cases this
    · have := rises_at h2 (show i < k by omega) hk
      rw [e, ltB_irrefl] at this
      cases this
/-- What is made of prefixes is a reach, if it is not too long. -/
theorem made_good {S : List UInt8 → Prop} {r : List (List UInt8)} (h : IsMade S r) (hp : ∀ x, S x → preB x = true) (hl : r.length ≤ 6) : goodR r = true := by
  refine goodR_of (fun x hx => hp x ((h.2 x).1 hx).1) h.1 (fun x y hx hy hb => ?_) hl
  exact ((h.2 x).1 hx).2 y ((h.2 y).1 hy).1 hb
theorem goodR_made {r : List (List UInt8)} (h : goodR r = true) : IsMade (· ∈ r) r :=
  ⟨goodR_rises h, fun _ => ⟨fun hx => ⟨hx, fun _ hy hb => goodR_mem h hx hy hb⟩, fun hx => hx.1⟩⟩

/-- Has it a key? -/
def hasB (r : List (List UInt8)) (s : List UInt8) : Bool := r.any fun p => begB p s
theorem hasB_iff {r : List (List UInt8)} {s : List UInt8} : hasB r s = true ↔ ∃ p, p ∈ r ∧ begB p s = true := by
  unfold hasB
  rw [List.any_eq_true]
theorem hasB_yes {r : List (List UInt8)} {s p : List UInt8} {k : Nat} (h : r[k]? = some p) (hb : begB p s = true) : hasB r s = true := hasB_iff.2 ⟨p, List.mem_of_getElem? h, hb⟩
theorem hasB_no {r : List (List UInt8)} {s : List UInt8} (h : ∀ k, k < r.length → begB (atR r k) s = false) : hasB r s = false := by
  rw [Bool.eq_false_iff]
  intro hh
  obtain ⟨p, hp, hb⟩ := hasB_iff.1 hh
  obtain ⟨i, hi, rfl⟩ := mem_atR hp
  rw [h i hi] at hb
  cases hb
/-- Has it all that another one has? -/
def covB (a b : List (List UInt8)) : Bool := b.all fun q => hasB a q
theorem covB_no {a b : List (List UInt8)} {k : Nat} {q : List UInt8} (h : b[k]? = some q) (hb : hasB a q = false) : covB a b = false := by
  unfold covB
  rw [List.all_eq_false]
  exact ⟨q, List.mem_of_getElem? h, by simp [hb]⟩
theorem covB_yes {a b : List (List UInt8)} (h : ∀ k, k < b.length → hasB a (atR b k) = true) : covB a b = true := by
  unfold covB
  rw [List.all_eq_true]
  intro q hq
  obtain ⟨i, hi, rfl⟩ := mem_atR hq
  exact h i hi
/-- The prefixes out of which that is made which both have. -/
def BothS (a b : List (List UInt8)) (x : List UInt8) : Prop := (x ∈ b ∧ hasB a x = true) ∨ (x ∈ a ∧ hasB b x = true)
theorem bothS_swap (a b : List (List UInt8)) (x : List UInt8) : BothS a b x ↔ BothS b a x := Or.comm

/-- Prefixes that have no other one as a beginning; each once. -/
def loneB (l : List (List UInt8)) (i : Nat) : Bool := (List.range l.length).all fun k => !(begB (atR l k) (atR l i) && (atR l k != atR l i || decide (k < i)))
theorem loneB_iff {l : List (List UInt8)} {i : Nat} : loneB l i = true ↔ ∀ k, k < l.length → begB (atR l k) (atR l i) = true → atR l k = atR l i ∧ i ≤ k := by
  unfold loneB
  simp only [List.all_eq_true, List.mem_range, Bool.not_eq_true', Bool.and_eq_false_iff, Bool.or_eq_false_iff, bne_eq_false_iff_eq, decide_eq_false_iff_not, Nat.not_lt]
  constructor
  · intro h k hk hb
    rcases h k hk with e | e
    · rw [hb] at e; cases e
    · exact e
  · intro h k hk
    by_cases hb : begB (atR l k) (atR l i) = true
    · exact Or.inr (h k hk hb)
    · exact Or.inl (by simpa using hb)
/-- What was made of the first m. -/
def MadeTo (l : List (List UInt8)) (m : Nat) (r : List (List UInt8)) : Prop := Rises r ∧ ∀ x, x ∈ r ↔ ∃ i, i < m ∧ loneB l i = true ∧ atR l i = x
theorem madeTo_zero (l : List (List UInt8)) : MadeTo l 0 [] := ⟨List.Pairwise.nil, fun x => ⟨fun h => by simp at h, fun ⟨_, h, _⟩ => by omega⟩⟩
theorem madeTo_skip {l : List (List UInt8)} {m : Nat} {r : List (List UInt8)} (h : MadeTo l m r) (hl : loneB l m = false) : MadeTo l (m + 1) r := by
  refine ⟨h.1, fun x => ?_⟩
  rw [h.2]
  constructor
  · rintro ⟨i, hi, h1, h2⟩
    exact ⟨i, by omega, h1, h2⟩
  · rintro ⟨i, hi, h1, h2⟩
    by_cases e : i = m
    · rw [e, hl] at h1; cases h1
    · exact ⟨i, by omega, h1, h2⟩
/-- It is put at the place ahead of which all are ahead of it. -/
theorem madeTo_put {l : List (List UInt8)} {m t : Nat} {r : List (List UInt8)} (h : MadeTo l m r) (hm : m < l.length) (hl : loneB l m = true) (ht : t ≤ r.length)
    (h1 : ∀ j, j < t → ltB (atR r j) (atR l m) = true) (h2 : t < r.length → ltB (atR r t) (atR l m) = false) : MadeTo l (m + 1) (r.take t ++ [atR l m] ++ r.drop t) := by
  have hnot : atR l m ∉ r := by
    intro hmem
    obtain ⟨i, hi, hli, e⟩ := (h.2 _).1 hmem
    have := (loneB_iff.1 hl) i (by omega) (by rw [e]; exact begB_refl _)
    omega
  have hhigh : ∀ y, y ∈ r.drop t → ltB (atR l m) y = true := by
    intro y hy
    obtain ⟨j, hj, e⟩ := List.getElem_of_mem hy
    rw [List.length_drop] at hj
    rw [List.getElem_drop] at e
    have htl : t < r.length := by omega
    have h3 := ltB_total (h2 htl) (fun e2 => hnot (e2 ▸ atR_mem htl))
    by_cases e0 : j = 0
    · subst e0
      rw [← e]
      rw [atR_get (List.getElem?_eq_getElem htl)] at h3
      exact h3
    · have h4 := rises_at h.1 (show t < t + j by omega) (by omega)
      rw [atR_get (r := r) (i := t + j) (List.getElem?_eq_getElem (by omega)), e] at h4
      exact ltB_trans h3 h4
  have hlow : ∀ y, y ∈ r.take t → ltB y (atR l m) = true := by
    intro y hy
    obtain ⟨j, hj, e⟩ := List.getElem_of_mem hy
    rw [List.length_take] at hj
    rw [List.getElem_take] at e
    have := h1 j (by omega)
    rw [atR_get (List.getElem?_eq_getElem (show j < r.length by omega)), e] at this
    exact this
  refine ⟨?_, fun x => ?_⟩
  · refine List.pairwise_append.2 ⟨List.pairwise_append.2 ⟨h.1.sublist (List.take_sublist _ _), List.pairwise_singleton _ _, ?_⟩, h.1.sublist (List.drop_sublist _ _), ?_⟩
    · intro y hy z hz
      rw [List.mem_singleton] at hz
      rw [hz]
      exact hlow y hy
    · intro y hy z hz
      rcases List.mem_append.1 hy with hy | hy
      · exact ltB_trans (hlow y hy) (hhigh z hz)
      · rw [List.mem_singleton] at hy
        rw [hy]
        exact hhigh z hz
  · have e : x ∈ r.take t ++ [atR l m] ++ r.drop t ↔ x ∈ r ∨ x = atR l m := by
      have e2 : x ∈ r ↔ x ∈ r.take t ∨ x ∈ r.drop t := by
        conv => lhs; rw [← List.take_append_drop t r]
        exact List.mem_append
      rw [List.mem_append, List.mem_append, List.mem_singleton, e2]
      constructor
      · rintro ((h | h) | h)
        · exact Or.inl (Or.inl h)
        · exact Or.inr h
        · exact Or.inl (Or.inr h)
      · rintro ((h | h) | h)
        · exact Or.inl (Or.inl h)
        · exact Or.inr h
        · exact Or.inl (Or.inr h)
    rw [e, h.2]
    constructor
    · rintro (⟨i, hi, ha, hb⟩ | hx)
      · exact ⟨i, by omega, ha, hb⟩
      · exact ⟨m, by omega, hl, hx.symm⟩
    · rintro ⟨i, hi, ha, hb⟩
      by_cases e0 : i = m
      · subst e0
        exact Or.inr hb.symm
      · exact Or.inl ⟨i, by omega, ha, hb⟩
/-- All of them: what is made. -/
theorem madeTo_all {l r : List (List UInt8)} (h : MadeTo l l.length r) : IsMade (· ∈ l) r := by
  refine ⟨h.1, fun x => ?_⟩
  rw [h.2]
  constructor
  · rintro ⟨i, hi, hl, rfl⟩
    refine ⟨atR_mem hi, fun y hy hb => ?_⟩
    obtain ⟨k, hk, rfl⟩ := mem_atR hy
    exact ((loneB_iff.1 hl) k hk hb).1
  · rintro ⟨hx, hy⟩
    have key : ∀ n, ∀ i, i < n → i < l.length → atR l i = x → ∃ j, j < l.length ∧ loneB l j = true ∧ atR l j = x := by
      intro n
      induction n with
      | zero => intro i hi; omega
      | succ n ih =>
        intro i hi hil e
        by_cases hb : loneB l i = true
        · exact ⟨i, hil, hb, e⟩
        · have hb' : ¬ ∀ k, k < l.length → begB (atR l k) (atR l i) = true → atR l k = atR l i ∧ i ≤ k := fun h => hb (loneB_iff.2 h)
          have : ∃ k, k < l.length ∧ begB (atR l k) (atR l i) = true ∧ ¬ (atR l k = atR l i ∧ i ≤ k) := by
            apply Classical.byContradiction
            intro hn
            apply hb'
            intro k hk hbk
            apply Classical.byContradiction
            intro hc
            exact hn ⟨k, hk, hbk, hc⟩
          obtain ⟨k, hk, hbk, hnk⟩ := this
          have ek : atR l k = x := by
            rw [e] at hbk
            exact hy _ (atR_mem hk) hbk
          have hki : k < i := by
            apply Classical.byContradiction
            intro hc
            exact hnk ⟨by rw [ek, e], by omega⟩
          exact ih k (by omega) hk ek
    obtain ⟨i, hi, e⟩ := mem_atR hx
    exact key (i + 1) i (by omega) hi e
theorem loneB_no {l : List (List UInt8)} {i k : Nat} (hk : k < l.length) (h1 : begB (atR l k) (atR l i) = true) (h2 : atR l k ≠ atR l i ∨ k < i) : loneB l i = false := by
  rw [Bool.eq_false_iff]
  intro h
  have h3 := loneB_iff.1 h k hk h1
  rcases h2 with h2 | h2
  · exact h2 h3.1
  · omega
end Go.Proofs.YtpjleeeligahaaaGreatDoor

namespace Go.Proofs.YtpjleeeligahaaaGreatDoor
open Go.RowKit

theorem OwnS.form {base : Nat} {W : World} {A : Option Addr} {n c : Nat} {l : List ByteArray} (h : OwnS base W A n c l) (hn : 0 < n) : ∃ g, A = some ⟨g, 0, none⟩ ∧ base ≤ g ∧ g < W.heap.size := by
  obtain ⟨g, cap, hv, hb, hlt⟩ := World.ownsRow.form h hn
  injection hv with hv
  exact ⟨g, hv, hb, hlt⟩
theorem OwnS.free {base : Nat} {W : World} {g n c : Nat} {l : List ByteArray} (h : OwnS base W (some ⟨g, 0, none⟩) n c l) (i : Nat) : W.frozen? ⟨g, i, none⟩ = false := by
  rcases h.2 with ⟨hv, _⟩ | ⟨g', cap, cur, hv, hb, hg, h1, h2, h3, h4⟩
  · cases hv
  · injection hv with hv1 hv2 hv3
    injection hv1 with hv1
    injection hv1 with hv1
    subst hv1
    simp [World.frozen?, hg]
theorem sF0 {W : World} {p : Addr} {v : Value} (h : W.cell? p = some v) (hf : W.frozen? p = false) : W.drew.cell? p = some v ∧ W.drew.frozen? p = false ∧ Below W.heap.size W W.drew := ⟨h, hf, (Below.refl _ _).drew⟩
theorem sFA {H : Nat} {W w' : World} {p : Addr} {v : Value} (h : w'.cell? p = some v ∧ w'.frozen? p = false ∧ Below H W w') (hl : p.block < H) (hH : H ≤ W.heap.size) (o : Obj) : (w'.alloc o).cell? p = some v ∧ (w'.alloc o).frozen? p = false ∧ Below H W (w'.alloc o) := by
  have hz := h.2.2.size
  exact ⟨((b0 w' o).cell (by omega)).trans h.1, ((b0 w' o).frozen (by omega)).trans h.2.1, h.2.2.alloc (by omega) o⟩
/-- A store into a row of the call's own. -/
theorem OwnS.set {base : Nat} {W : World} {g n c : Nat} {l : List ByteArray} (h : OwnS base W (some ⟨g, 0, none⟩) n c l) (i : Nat) (x : ByteArray) : OwnS base (W.setCell ⟨g, i, none⟩ (.string x)) (some ⟨g, 0, none⟩) n c (l.set i x) := by
  rcases h.2 with ⟨hv, _⟩ | ⟨g', cap, cur, hv, hb, hg, h1, h2, h3, h4⟩
  · cases hv
  · injection hv with hv1 hv2 hv3
    injection hv1 with hv1
    injection hv1 with hv1
    subst hv1
    subst hv3
    refine ⟨by simpa using h.1, .inr ⟨g, c, cur.setIfInBounds i (.string x), rfl, hb, ?_, h1, h2, by simpa using h3, ?_⟩⟩
    · simp [World.setCell, Array.getElem?_modify, hg]
    · rw [Array.toList_setIfInBounds, List.take_set, h4]
      simp [strV, List.map_set]
end Go.Proofs.YtpjleeeligahaaaGreatDoor

namespace Go.Proofs.YtpjleeeligahaaaGreatDoor
open Go.RowKit

theorem sclone_any (s : ByteArray) (w : World) (hs : s.size ≤ 1000000) :
    Calls Tryz.prog 82 #[.string s] w fun e w' => e = .returned (.string s) ∧ Below w.heap.size w w' := by
  go_enter Tryz.func82, Tryz.ntmps82
  go_wp2_with fail
  refine (Tryz.stringslite_Clone s w (by omega)).mono ?_
  rintro e w2 ⟨rfl, hb2⟩
  go_wp2_with fail
  go_ret
  exact ⟨rfl, hb2⟩

end Go.Proofs.YtpjleeeligahaaaGreatDoor

namespace Go.Proofs.YtpjleeeligahaaaGreatDoor
open Go.RowKit

theorem str_eqB (a b : ByteArray) : (a.toList == b.toList) = (a.data.toList == b.data.toList) := by rw [ByteArray.toList_eq, ByteArray.toList_eq]
theorem beg_data {p s : ByteArray} (h : p.size ≤ s.size) : begB p.data.toList s.data.toList = ((s.extract 0 p.size).toList == p.toList) := by
  have h1 : p.data.toList.length = p.size := Array.length_toList
  have h2 : s.data.toList.length = s.size := Array.length_toList
  rw [begB_take, h1, h2, decide_eq_true h, Bool.true_and, str_eqB]
  simp
theorem beg_long {p s : ByteArray} (h : ¬ p.size ≤ s.size) : begB p.data.toList s.data.toList = false := by
  have h1 : p.data.toList.length = p.size := Array.length_toList
  have h2 : s.data.toList.length = s.size := Array.length_toList
  rw [begB_take, h1, h2, decide_eq_false h, Bool.false_and]

end Go.Proofs.YtpjleeeligahaaaGreatDoor

namespace Go.Proofs.YtpjleeeligahaaaGreatDoor
open Go.RowKit

/-- The texts as lists of bytes. -/
abbrev dL (l : List ByteArray) : List (List UInt8) := l.map (·.data.toList)
theorem dL_len (l : List ByteArray) : (dL l).length = l.length := by simp
theorem dL_get {l : List ByteArray} {k : Nat} {x : ByteArray} (h : l[k]? = some x) : (dL l)[k]? = some x.data.toList := by rw [List.getElem?_map, h]; rfl
theorem dL_at {l : List ByteArray} {k : Nat} {x : ByteArray} (h : l[k]? = some x) : atR (dL l) k = x.data.toList := atR_get (dL_get h)
theorem get_ex {l : List ByteArray} {k : Nat} (h : k < l.length) : ∃ x, l[k]? = some x := ⟨_, List.getElem?_eq_getElem h⟩

/-- The same lists? -/
def sameB (l l2 : List ByteArray) : Bool := decide (dL l = dL l2)
theorem same_no {l l2 : List ByteArray} {k : Nat} {x y : ByteArray} (h : l[k]? = some x) (h2 : l2[k]? = some y) (hne : x.data.toList ≠ y.data.toList) : sameB l l2 = false := by
  unfold sameB
  rw [decide_eq_false_iff_not]
  intro e
  have h3 := dL_get h
  rw [e, dL_get h2] at h3
  injection h3 with h3
  exact hne h3.symm
theorem same_len {l l2 : List ByteArray} (h : l.length ≠ l2.length) : sameB l l2 = false := by
  unfold sameB
  rw [decide_eq_false_iff_not]
  intro e
  have := congrArg List.length e
  rw [dL_len, dL_len] at this
  exact h this
theorem same_yes {l l2 : List ByteArray} (h : l.length = l2.length) (hA : ∀ j, j < l.length → atR (dL l) j = atR (dL l2) j) : sameB l l2 = true := by
  unfold sameB
  rw [decide_eq_true_eq]
  apply List.ext_getElem?
  intro i
  by_cases hi : i < l.length
  · obtain ⟨x, hx⟩ := get_ex hi
    obtain ⟨y, hy⟩ := get_ex (l := l2) (k := i) (by omega)
    have := hA i hi
    rw [dL_at hx, dL_at hy] at this
    rw [dL_get hx, dL_get hy, this]
  · rw [List.getElem?_eq_none (by rw [dL_len]; omega), List.getElem?_eq_none (by rw [dL_len]; omega)]

set_option maxHeartbeats 1000000 in
theorem refSame_any {B C : Nat} (A A2 : Option Addr) (n c m d : Nat) (l l2 : List ByteArray) (w : World) (hn : l.length = n) (hr : RdS B w A l) (hm : n ≤ maxLen) (hn2 : l2.length = m) (hr2 : RdS C w A2 l2) :
    Calls Tryz.prog 50 #[.slice A n c, .slice A2 m d] w fun e w' => e = .returned (.bool (sameB l l2)) ∧ Drn w w' := by
  unfold maxLen at hm
  have HN := Lib.hid hn
  have HN2 := Lib.hid hn2
  clear hn hn2
  by_cases hnm : n = m
  · subst hnm
    go_enter Tryz.func50, Tryz.ntmps50
    go_wp2_with fail
    go_loopw [13] (fun i wr => ∃ k : Nat, k ≤ n ∧ i = .int .i64 k ∧ Hid (∀ j, j < k → atR (dL l) j = atR (dL l2) j) ∧ Drn w wr) (fun i _ => n - (intOf i).toNat)
    case atStart => exact ⟨0, Nat.zero_le _, rfl, fun j hj => by omega, Drn.refl _⟩
    case round =>
      obtain ⟨k, hk, rfl, hA, hD⟩ := hrel
      by_cases hlt : k < n
      · obtain ⟨x, hx⟩ := get_ex (show k < l.length by have := HN.out; omega)
        obtain ⟨y, hy⟩ := get_ex (show k < l2.length by have := HN2.out; omega)
        obtain ⟨ad, rfl, _, hc⟩ := (hr.keep (hD.below B) (Nat.le_refl _)) k x hx
        obtain ⟨ad2, rfl, _, hc2⟩ := (hr2.keep (hD.below C) (Nat.le_refl _)) k y hy
        have i1 : (0 : Int) ≤ (k : Int) := by omega
        have i2 : (k : Int) < (n : Int) := by omega
        have HX := Lib.hid hx
        have HY := Lib.hid hy
        clear hx hy
        by_cases hxy : x.data.toList = y.data.toList
        · have e0 : (x.toList == y.toList) = true := by rw [str_eqB, hxy]; simp
          have HA2 : Hid (∀ j, j < k + 1 → atR (dL l) j = atR (dL l2) j) := fun j hj => by
            by_cases e : j = k
            · subst e
              rw [dL_at HX.out, dL_at HY.out, hxy]
            · exact hA.out j (by omega)
          clear hxy hA
          go_wp2_with fail
          go_quiet (fail)
          go_wp2_with fail
          go_roundw
          case rel => exact ⟨k + 1, by omega, by go_num, HA2, hD.draws _⟩
          case measure => simp [intOf]; omega
        · have e0 : (x.toList == y.toList) = false := by rw [str_eqB]; simpa using hxy
          have R := Lib.hid (same_no HX.out HY.out hxy)
          clear hxy hA
          go_wp2_with fail
          go_quiet (fail)
          go_wp2_with fail
          go_ret
          exact ⟨ret_bool R.out.symm, hD.draws _⟩
      · have hq : ¬ (k : Int) < (n : Int) := by omega
        have R : Hid (sameB l l2 = true) := same_yes (HN.out.trans HN2.out.symm) fun j hj => hA.out j (by have := HN.out; omega)
        clear hA
        go_wp2_with fail
        go_ret
        exact ⟨ret_bool R.out.symm, hD⟩
  · have e0 : ((n : Int) != (m : Int)) = true := by rw [bne_iff_ne]; omega
    have R := Lib.hid (same_len (l := l) (l2 := l2) (by rw [HN.out, HN2.out]; exact hnm))
    clear hnm
    go_enter Tryz.func50, Tryz.ntmps50
    go_wp2_with fail
    go_ret
    exact ⟨ret_bool R.out.symm, Drn.refl _⟩
theorem take_succ_get {l : List ByteArray} {k : Nat} {x : ByteArray} (h : l[k]? = some x) : (dL l).take (k + 1) = (dL l).take k ++ [x.data.toList] := by
  have hg := dL_get h
  have hk := (List.getElem?_eq_some_iff.1 hg).1
  rw [List.take_succ_eq_append_getElem hk]
  congr 1
  rw [List.getElem?_eq_getElem hk] at hg
  injection hg with hg
  rw [hg]
theorem ByteArray.toList_data_append' (a b : ByteArray) : (a ++ b).data.toList = a.data.toList ++ b.data.toList := by simp
theorem ret_strD {a b : ByteArray} (h : a.data.toList = b.data.toList) : Ending.returned (.string a) = .returned (.string b) := by
  rw [show a = b from ByteArray.ext (Array.toList_inj.1 h)]
end Go.Proofs.YtpjleeeligahaaaGreatDoor

namespace Go.Proofs.YtpjleeeligahaaaGreatDoor
open Go.RowKit

/-- A function value that tells of each of these whether p holds, in whatever world that keeps w. -/
def PredB (g : Nat) (lb : Array Value) (p : List UInt8 → Bool) (l : List ByteArray) (w : World) : Prop :=
  ∀ (x : ByteArray), x ∈ l → ∀ W, Below w.heap.size w W → Calls Tryz.prog g (#[.string x] ++ lb) W fun e W' => e = .returned (.bool (p x.data.toList)) ∧ Below W.heap.size W W'
theorem pred_is {g : Nat} {lb : Array Value} {p : List UInt8 → Bool} {l : List ByteArray} {w : World} (h : PredB g lb p l w) {k : Nat} {x : ByteArray} (hx : l[k]? = some x) (b : Bool) (hb : p x.data.toList = b) {W : World} (hB : Below w.heap.size w W) :
    Calls Tryz.prog g (#[.string x] ++ lb) W fun e W' => e = .returned (.bool b) ∧ Below W.heap.size W W' := by
  subst hb
  exact h x (List.mem_of_getElem? hx) W hB
/-- Does it hold of one of them? -/
def anyP (p : List UInt8 → Bool) (l : List ByteArray) : Bool := (dL l).any p
theorem any_yes {l : List ByteArray} {p : List UInt8 → Bool} {k : Nat} {x : ByteArray} (hx : l[k]? = some x) (hb : p x.data.toList = true) : anyP p l = true :=
  List.any_eq_true.2 ⟨_, List.mem_of_getElem? (dL_get hx), hb⟩
theorem any_no {l : List ByteArray} {p : List UInt8 → Bool} (h : ∀ j, j < l.length → p (atR (dL l) j) = false) : anyP p l = false := by
  unfold anyP
  rw [List.any_eq_false]
  intro x hx
  obtain ⟨i, hi, rfl⟩ := mem_atR hx
  rw [h i (by rwa [dL_len] at hi)]
  exact Bool.false_ne_true

set_option maxHeartbeats 1000000 in
theorem idxL_any (g : Nat) (lb : Array Value) (eg : ∀ args w, (callFunc g args).run Tryz.prog w = .ok (.enter g args) w) (p : List UInt8 → Bool) (A : Option Addr) (n c : Nat) (l : List ByteArray) (w : World) (hn : l.length = n) (hr : RdS w.heap.size w A l) (hm : n ≤ maxLen) (hp : PredB g lb p l w) :
    Calls Tryz.prog 169 #[.slice A n c, .func (.func g) #[] lb] w fun e w' => (∃ z : Int, e = .returned (.int .i64 z) ∧ decide (0 ≤ z) = anyP p l) ∧ Below w.heap.size w w' := by
  unfold maxLen at hm
  have HN := Lib.hid hn
  have HP := Lib.hid hp
  clear hn hp
  go_enter Tryz.func169, Tryz.ntmps169
  go_wp2_with fail
  go_loopw [5, 8] (fun _ i wr => ∃ k : Nat, k ≤ n ∧ i = .int .i64 k ∧ Hid (∀ j, j < k → p (atR (dL l) j) = false) ∧ Below w.heap.size w wr) (fun _ i _ => n - (intOf i).toNat)
  case atStart => exact ⟨0, Nat.zero_le _, rfl, fun j hj => by omega, Below.refl _ _⟩
  case round =>
    obtain ⟨k, hk, rfl, hA, hB⟩ := hrel
    by_cases hlt : k < n
    · obtain ⟨x, hx⟩ := get_ex (show k < l.length by have := HN.out; omega)
      obtain ⟨ad, rfl, _, hc⟩ := (hr.keep hB (Nat.le_refl _)) k x hx
      have i1 : (0 : Int) ≤ (k : Int) := by omega
      have i2 : (k : Int) < (n : Int) := by omega
      have HX := Lib.hid hx
      clear hx
      by_cases hb : p x.data.toList = true
      · have HB := Lib.hid hb
        clear hb
        go_wp2_with (go_at_fn g; refine (pred_is HP.out HX.out true HB.out hB).mono ?_; rintro e w2 ⟨rfl, hb2⟩)
        go_ret
        exact ⟨⟨_, rfl, (decide_eq_true i1).trans (any_yes HX.out HB.out).symm⟩, bt hB hb2⟩
      · have HB := Lib.hid (Bool.eq_false_iff.2 hb)
        clear hb
        go_wp2_with (go_at_fn g; refine (pred_is HP.out HX.out false HB.out hB).mono ?_; rintro e w2 ⟨rfl, hb2⟩)
        go_roundw
        case rel =>
          refine ⟨k + 1, by omega, by go_num, fun j hj => ?_, bt hB hb2⟩
          by_cases e : j = k
          · subst e
            rw [dL_at HX.out]
            exact HB.out
          · exact hA.out j (by omega)
        case measure => simp [intOf]; omega
    · have hq : ¬ (k : Int) < (n : Int) := by omega
      have R : Hid (decide ((0 : Int) ≤ -1) = anyP p l) := by
        show _ = _
        rw [any_no fun j hj => hA.out j (by have := HN.out; omega)]
        rfl
      go_wp2_with fail
      go_ret
      exact ⟨⟨_, rfl, R.out⟩, hB⟩

set_option maxHeartbeats 1000000 in
theorem contL_any (g : Nat) (lb : Array Value) (eg : ∀ args w, (callFunc g args).run Tryz.prog w = .ok (.enter g args) w) (p : List UInt8 → Bool) (A : Option Addr) (n c : Nat) (l : List ByteArray) (w : World) (hn : l.length = n) (hr : RdS w.heap.size w A l) (hm : n ≤ maxLen) (hp : PredB g lb p l w) :
    Calls Tryz.prog 160 #[.slice A n c, .func (.func g) #[] lb] w fun e w' => e = .returned (.bool (anyP p l)) ∧ Below w.heap.size w w' := by
  go_enter Tryz.func160, Tryz.ntmps160
  go_wp2_with fail
  refine (idxL_any g lb eg p A n c l w hn hr hm hp).mono ?_
  rintro e w2 ⟨⟨z, rfl, hz⟩, hb2⟩
  have HZ := Lib.hid hz
  clear hz
  go_wp2_with fail
  go_ret
  exact ⟨ret_bool HZ.out, hb2⟩
theorem contL_is (g : Nat) (lb : Array Value) (eg : ∀ args w, (callFunc g args).run Tryz.prog w = .ok (.enter g args) w) (p : List UInt8 → Bool) (A : Option Addr) (n c : Nat) (l : List ByteArray) (w : World) (b : Bool) (hb : anyP p l = b) (hn : l.length = n) (hr : RdS w.heap.size w A l) (hm : n ≤ maxLen) (hp : PredB g lb p l w) :
    Calls Tryz.prog 160 #[.slice A n c, .func (.func g) #[] lb] w fun e w' => e = .returned (.bool b) ∧ Below w.heap.size w w' := by
  subst hb
  exact contL_any g lb eg p A n c l w hn hr hm hp
end Go.Proofs.YtpjleeeligahaaaGreatDoor

namespace Go.Proofs.YtpjleeeligahaaaGreatDoor
open Go.RowKit

theorem cmp_bytes (a b : UInt8) (l m : List UInt8) (h : a ≠ b) : Lib.compareBytes (a :: l) (b :: m) = Lib.compareInt a.toNat b.toNat := by
  have hn : a.toNat ≠ b.toNat := fun e => h (UInt8.toNat_inj.1 e)
  unfold Lib.compareBytes Lib.compareInt
  simp only [UInt8.lt_iff_toNat_lt, Int.ofNat_lt, gt_iff_lt]
  by_cases h1 : a.toNat < b.toNat
  · simp [h1]
  · have h2 : b.toNat < a.toNat := by omega
    simp [h1, h2]
theorem cmp_same (a : UInt8) (l m : List UInt8) : Lib.compareBytes (a :: l) (a :: m) = Lib.compareBytes l m := by
  have h : ¬ a < a := by rw [UInt8.lt_iff_toNat_lt]; omega
  simp [Lib.compareBytes, h]
theorem cmp_end (l m : List UInt8) (h : l = [] ∨ m = []) : Lib.compareBytes l m = Lib.compareInt l.length m.length := by
  rcases h with rfl | rfl
  · cases m with
    | nil => rfl
    | cons b t =>
      have h1 : ((0 : Nat) : Int) < ((t.length + 1 : Nat) : Int) := by omega
      simp only [Lib.compareBytes, List.length_nil, List.length_cons, Lib.compareInt, h1, if_true]
  · cases l with
    | nil => rfl
    | cons b t =>
      have h1 : ¬ ((t.length + 1 : Nat) : Int) < ((0 : Nat) : Int) := by omega
      have h2 : ((t.length + 1 : Nat) : Int) > ((0 : Nat) : Int) := by omega
      simp only [Lib.compareBytes, List.length_nil, List.length_cons, Lib.compareInt, h1, h2, if_false, if_true]



end Go.Proofs.YtpjleeeligahaaaGreatDoor

namespace Go.Proofs.YtpjleeeligahaaaGreatDoor
open Go.RowKit

theorem RdS.cells {B : Nat} {W : World} {ad : Addr} {l : List ByteArray} (h : RdS B W (some ad) l) {k : Nat} {x : ByteArray} (hx : l[k]? = some x) : W.cell? (ad.add k) = some (.string x) := by
  obtain ⟨a2, e, _, hc⟩ := h k x hx
  injection e with e
  subst e
  exact hc
theorem emptyB (x : ByteArray) : x.toList.isEmpty = x.data.toList.isEmpty := by rw [ByteArray.toList_eq]
theorem refKey_is (s : ByteArray) (b : Bool) (h : keyB s.data.toList = b) (hs : s.size ≤ maxLen) (w : World) :
    Calls Tryz.prog 111 #[.string s] w fun e w' => e = .returned (.bool b) ∧ w = w' := by
  subst h
  exact refKey_any s w hs
theorem ltB_val {a b : List UInt8} : (ltB a b = true ∧ Lib.compareBytes a b = -1) ∨ (ltB a b = false ∧ Lib.compareBytes a b = 0) ∨ (ltB a b = false ∧ Lib.compareBytes a b = 1) := by
  unfold ltB
  rcases cmpB_cases a b with h | h | h
  · exact Or.inl ⟨by rw [h]; rfl, h⟩
  · exact Or.inr (Or.inl ⟨by rw [h]; rfl, h⟩)
  · exact Or.inr (Or.inr ⟨by rw [h]; rfl, h⟩)
theorem okAt_pre {r : List (List UInt8)} {i : Nat} (h : preB (atR r i) = false) : okAt r i = false := by
  rw [Bool.eq_false_iff]
  intro hh
  rw [(okAt_iff.1 hh).1] at h
  cases h
theorem okAt_lt {r : List (List UInt8)} {i : Nat} (h0 : i ≠ 0) (h : ltB (atR r (i - 1)) (atR r i) = false) : okAt r i = false := by
  rw [Bool.eq_false_iff]
  intro hh
  rcases (okAt_iff.1 hh).2.1 with e | e
  · exact h0 e
  · rw [e] at h; cases h
theorem okAt_beg {r : List (List UInt8)} {i k : Nat} (hk : k < r.length) (hne : k ≠ i) (h : begB (atR r k) (atR r i) = true) : okAt r i = false := by
  rw [Bool.eq_false_iff]
  intro hh
  rw [(okAt_iff.1 hh).2.2 k hk hne] at h
  cases h

end Go.Proofs.YtpjleeeligahaaaGreatDoor

namespace Go.Proofs.YtpjleeeligahaaaGreatDoor
open Go.RowKit

theorem enters_pre : ∀ args w, (callFunc 161 args).run Tryz.prog w = .ok (.enter 161 args) w := enters_of Tryz.func161 (by kernel_rfl) rfl
theorem key_is (s : ByteArray) (w : World) (b : Bool) (hb : keyB s.data.toList = b) (hs : s.size ≤ maxLen) :
    Calls Tryz.prog 156 #[.string s] w fun e w' => e = .returned (.bool b) ∧ Below w.heap.size w w' := by
  subst hb
  exact key_any s w hs

/-! prefixes -/
set_option maxHeartbeats 1000000 in
theorem pre1_any (x : ByteArray) (W : World) (hs : x.size ≤ maxLen) :
    Calls Tryz.prog 161 #[.string x] W fun e W' => e = .returned (.bool (!preB x.data.toList)) ∧ Below W.heap.size W W' := by
  have HS := Lib.hid hs
  clear hs
  by_cases h0 : x.data.toList = []
  · have e0 : x.toList.isEmpty = true := by rw [ByteArray.toList_eq, h0]; rfl
    have R := Lib.hid (show (!preB x.data.toList) = false by rw [h0]; rfl)
    clear h0
    go_enter Tryz.func161, Tryz.ntmps161
    go_wp2_with fail
    go_ret
    exact ⟨ret_bool R.out.symm, Below.refl _ _⟩
  · have e0 : x.toList.isEmpty = false := by
      rw [ByteArray.toList_eq]
      cases hx : x.data.toList with
      | nil => exact absurd hx h0
      | cons => rfl
    have e1 : preB x.data.toList = keyB x.data.toList := by
      unfold preB
      rw [← ByteArray.toList_eq, e0, Bool.false_or]
    cases hk : keyB x.data.toList with
    | true =>
      have HK := Lib.hid hk
      have R := Lib.hid (show (!preB x.data.toList) = false by rw [e1, hk]; rfl)
      clear h0 hk e1
      go_enter Tryz.func161, Tryz.ntmps161
      go_wp2_with (go_at_call 156; refine (key_is _ _ true HK.out HS.out).mono ?_; rintro e w2 ⟨rfl, hb2⟩)
      go_ret
      exact ⟨ret_bool R.out.symm, hb2⟩
    | false =>
      have HK := Lib.hid hk
      have R := Lib.hid (show (!preB x.data.toList) = true by rw [e1, hk]; rfl)
      clear h0 hk e1
      go_enter Tryz.func161, Tryz.ntmps161
      go_wp2_with (go_at_call 156; refine (key_is _ _ false HK.out HS.out).mono ?_; rintro e w2 ⟨rfl, hb2⟩)
      go_ret
      exact ⟨ret_bool R.out.symm, hb2⟩
theorem all_not {α : Type} (l : List α) (p : α → Bool) : (!(l.any fun x => !p x)) = l.all p := by
  induction l with
  | nil => rfl
  | cons a t ih => simp [ih]
theorem pre1_pred (l : List ByteArray) (w : World) (hs : ∀ x, x ∈ l → x.size ≤ maxLen) : PredB 161 #[] (fun x => !preB x) l w :=
  fun x hx W _ => pre1_any x W (hs x hx)
theorem prefixes_is (A : Option Addr) (n c : Nat) (l : List ByteArray) (w : World) (b : Bool) (hb : (dL l).all preB = b) (hn : l.length = n) (hr : RdS w.heap.size w A l) (hm : n ≤ maxLen) (hs : ∀ x, x ∈ l → x.size ≤ maxLen) :
    Calls Tryz.prog 133 #[.slice A n c] w fun e w' => e = .returned (.bool b) ∧ Below w.heap.size w w' := by
  have R := Lib.hid (show (!anyP (fun x => !preB x) l) = b by rw [← hb]; exact all_not (dL l) preB)
  have HP := Lib.hid (pre1_pred l w hs)
  clear hb
  go_enter Tryz.func133, Tryz.ntmps133
  go_wp2_with fail
  refine (contL_any _ #[] enters_pre (fun x => !preB x) A n c l w hn hr hm HP.out).mono ?_
  rintro e w2 ⟨rfl, hb2⟩
  generalize anyP (fun x => !preB x) l = v at R ⊢
  go_wp2_with fail
  go_ret
  exact ⟨ret_bool R.out, hb2⟩

/-! Has -/
theorem hasPrefix_beg (s p : List UInt8) : Lib.hasPrefix s p = begB p s := rfl
/-! Covers -/
end Go.Proofs.YtpjleeeligahaaaGreatDoor

namespace Go.Proofs.YtpjleeeligahaaaGreatDoor
open Go

theorem lex_cons (a b : UInt8) (as1 bs : List UInt8) : Lib.compareBytes (a :: as1) (b :: bs) = if a < b then -1 else if b < a then 1 else Lib.compareBytes as1 bs := by simp only [Lib.compareBytes]
theorem begB_cons (a b : UInt8) (as1 bs : List UInt8) : begB (a :: as1) (b :: bs) = ((a == b) && begB as1 bs) := by simp [begB, List.isPrefixOf]
theorem u8_eq {a b : UInt8} (h : ¬ a < b) (k : ¬ b < a) : a = b := by
  rw [UInt8.lt_iff_toNat_lt] at *
  exact UInt8.toNat_inj.1 (by omega)
theorem u8_irrefl (a : UInt8) : ¬ a < a := by rw [UInt8.lt_iff_toNat_lt]; omega
theorem ltB_cons (a b : UInt8) (as1 bs : List UInt8) : ltB (a :: as1) (b :: bs) = if a < b then true else if b < a then false else ltB as1 bs := by
  unfold ltB
  rw [lex_cons]
  by_cases h : a < b
  · simp [h]
  · by_cases k : b < a
    · simp [h, k]
    · simp [h, k]
/-- What stands between a text and one that it begins begins with it. -/
theorem begB_between : ∀ (y q p : List UInt8), begB y p = true → ltB q y = false → ltB p q = false → begB y q = true
  | [], q, p, _, _, _ => by simp [begB, List.isPrefixOf]
  | a :: y, [], p, _, h1, _ => by simp [ltB, Lib.compareBytes] at h1
  | a :: y, b :: q, [], h, _, _ => by simp [begB, List.isPrefixOf] at h
  | a :: y, b :: q, c :: p, h, h1, h2 => by
    rw [begB_cons, Bool.and_eq_true, beq_iff_eq] at h
    obtain ⟨rfl, h⟩ := h
    rw [ltB_cons] at h1 h2
    have n1 : ¬ b < a := fun e => by simp [e] at h1
    have n2 : ¬ a < b := fun e => by simp [e] at h2
    have e : a = b := u8_eq n2 n1
    subst e
    rw [if_neg (u8_irrefl _), if_neg (u8_irrefl _)] at h1 h2
    rw [begB_cons, begB_between y q p h h1 h2]
    simp
/-- What begins a text isn't behind it. -/
theorem begB_le : ∀ (p x : List UInt8), begB p x = true → ltB x p = false
  | [], x, _ => by cases x <;> simp [ltB, Lib.compareBytes]
  | a :: p, [], h => by simp [begB, List.isPrefixOf] at h
  | a :: p, b :: x, h => by
    rw [begB_cons, Bool.and_eq_true, beq_iff_eq] at h
    obtain ⟨rfl, h⟩ := h
    rw [ltB_cons, if_neg (u8_irrefl _), if_neg (u8_irrefl _)]
    exact begB_le p x h
theorem list_lt_iff : ∀ (x y : List UInt8), x < y ↔ ltB x y = true
  | [], [] => by simp [ltB, Lib.compareBytes]
  | [], _ :: _ => by simp [ltB, Lib.compareBytes]
  | _ :: _, [] => by simp [ltB, Lib.compareBytes]
  | a :: x, b :: y => by
    rw [List.cons_lt_cons_iff, ltB_cons, list_lt_iff x y]
    by_cases h : a < b
    · simp [h]
    · by_cases k : b < a
      · have hne : a ≠ b := fun e => by subst e; exact h k
        simp [h, k, hne]
      · have e := u8_eq h k
        subst e
        simp [h]
theorem list_le_iff (x y : List UInt8) : decide (x ≤ y) = !ltB y x := by
  rw [Bool.eq_iff_iff, decide_eq_true_eq, Bool.not_eq_true', ← Bool.not_eq_true, ← list_lt_iff]
  exact List.not_lt.symm

/-- With one more. -/
def leastStep (left : List (List UInt8)) (p : List UInt8) : List (List UInt8) :=
  if left = [] ∨ begB (atR left (left.length - 1)) p = false then left ++ [p] else left
/-- What is left of a sorted list. -/
def leastL (s : List (List UInt8)) : List (List UInt8) := s.foldl leastStep []
theorem leastL_snoc (s : List (List UInt8)) (p : List UInt8) : leastL (s ++ [p]) = leastStep (leastL s) p := by
  unfold leastL
  rw [List.foldl_append]
  rfl
theorem leastStep_le (l : List (List UInt8)) (p : List UInt8) : (leastStep l p).length ≤ l.length + 1 := by
  unfold leastStep
  split <;> simp
theorem leastL_le (s : List (List UInt8)) : (leastL s).length ≤ s.length := by
  have key : ∀ (s l : List (List UInt8)), (s.foldl leastStep l).length ≤ l.length + s.length := by
    intro s
    induction s with
    | nil => intro l; simp
    | cons p s ih =>
      intro l
      have h1 := ih (leastStep l p)
      have h2 := leastStep_le l p
      simp only [List.foldl_cons, List.length_cons]
      omega
  have := key s []
  simpa [leastL] using this
/-- Sorted, though not each once. -/
def Sorted (s : List (List UInt8)) : Prop := s.Pairwise fun a b => ltB b a = false
/-- What the loop keeps. -/
structure LeastInv (s L : List (List UInt8)) : Prop where
  rises : Rises L
  mem : ∀ x, x ∈ L → x ∈ s
  low : ∀ x, x ∈ L → ∀ y, y ∈ s → begB y x = true → y = x
  cov : ∀ x, x ∈ s → ∃ y, y ∈ L ∧ begB y x = true
theorem least_inv_nil : LeastInv [] [] := ⟨List.Pairwise.nil, fun _ h => h, fun _ h => by simp at h, fun _ h => by simp at h⟩
theorem le_eq {a b : List UInt8} (h : ltB a b = false) (k : ltB b a = false) : a = b := by
  apply Classical.byContradiction
  intro hne
  rw [ltB_total h hne] at k
  cases k
theorem least_inv_step {s L : List (List UInt8)} {p : List UInt8} (h : LeastInv s L) (hp : ∀ x, x ∈ s → ltB p x = false) : LeastInv (s ++ [p]) (leastStep L p) := by
  unfold leastStep
  by_cases h0 : L = []
  · subst h0
    have hs : s = [] := by
      cases s with
      | nil => rfl
      | cons a t =>
        obtain ⟨y, hy, _⟩ := h.cov a List.mem_cons_self
        simp at hy
    subst hs
    rw [if_pos (Or.inl rfl)]
    refine ⟨by simp [Rises], fun x hx => hx, fun x hx y hy _ => ?_, fun x hx => ⟨x, hx, begB_refl x⟩⟩
    simp at hx hy
    rw [hx, hy]
  · have hlen := List.length_pos_iff.2 h0
    have hq : atR L (L.length - 1) ∈ L := atR_mem (by omega)
    have hlast : ∀ y, y ∈ L → y ≠ atR L (L.length - 1) → ltB y (atR L (L.length - 1)) = true := by
      intro y hy hne
      obtain ⟨i, hi, rfl⟩ := mem_atR hy
      have : i ≠ L.length - 1 := fun e => hne (by rw [e])
      exact rises_at h.rises (by omega) (by omega)
    generalize hqe : atR L (L.length - 1) = q at hq hlast
    by_cases hb : begB q p = true
    · rw [if_neg (by simp [h0, hb])]
      refine ⟨h.rises, fun x hx => List.mem_append_left _ (h.mem x hx), fun x hx y hy hbx => ?_, fun x hx => ?_⟩
      · rcases List.mem_append.1 hy with hy | hy
        · exact h.low x hx y hy hbx
        · rw [List.mem_singleton] at hy
          subst hy
          exact (le_eq (begB_le _ _ hbx) (hp x (h.mem x hx))).symm
      · rcases List.mem_append.1 hx with hx | hx
        · exact h.cov x hx
        · rw [List.mem_singleton] at hx
          subst hx
          exact ⟨q, hq, hb⟩
    · have hb' : begB q p = false := by simpa using hb
      rw [if_pos (Or.inr hb')]
      have hL : ∀ y, y ∈ L → begB y p = false := by
        intro y hy
        rw [Bool.eq_false_iff]
        intro hyp
        by_cases e : y = q
        · rw [e, hb'] at hyp; cases hyp
        · have h1 := ltB_asymm (hlast y hy e)
          have h2 := begB_between y q p hyp h1 (hp q (h.mem q hq))
          exact e (h.low q hq y (h.mem y hy) h2)
      have hS : ∀ y, y ∈ s → begB y p = false := by
        intro y hy
        rw [Bool.eq_false_iff]
        intro hyp
        obtain ⟨z, hz, hzy⟩ := h.cov y hy
        have := hL z hz
        rw [begB_trans hzy hyp] at this
        cases this
      refine ⟨?_, fun x hx => ?_, fun x hx y hy hbx => ?_, fun x hx => ?_⟩
      · refine List.pairwise_append.2 ⟨h.rises, List.pairwise_singleton _ _, fun x hx y hy => ?_⟩
        rw [List.mem_singleton] at hy
        subst hy
        refine ltB_total (hp x (h.mem x hx)) fun e => ?_
        have := hS x (h.mem x hx)
        rw [← e, begB_refl] at this
        cases this
      · rcases List.mem_append.1 hx with hx | hx
        · exact List.mem_append_left _ (h.mem x hx)
        · exact List.mem_append_right _ hx
      · rcases List.mem_append.1 hx with hxL | hx
        · rcases List.mem_append.1 hy with hy | hy
          · exact h.low x hxL y hy hbx
          · rw [List.mem_singleton] at hy
            subst hy
            exact (le_eq (begB_le _ _ hbx) (hp x (h.mem x hxL))).symm
        · rw [List.mem_singleton] at hx
          subst hx
          rcases List.mem_append.1 hy with hy | hy
          · rw [hS y hy] at hbx; cases hbx
          · exact List.mem_singleton.1 hy
      · rcases List.mem_append.1 hx with hx | hx
        · obtain ⟨y, hy, hyx⟩ := h.cov x hx
          exact ⟨y, List.mem_append_left _ hy, hyx⟩
        · exact ⟨x, List.mem_append_right _ hx, begB_refl x⟩
theorem least_inv (s : List (List UInt8)) (hs : Sorted s) : LeastInv s (leastL s) := by
  have key : ∀ k, k ≤ s.length → LeastInv (s.take k) (leastL (s.take k)) := by
    intro k
    induction k with
    | zero => intro _; simpa [leastL] using least_inv_nil
    | succ k ih =>
      intro hk
      rw [List.take_succ_eq_append_getElem (by omega), leastL_snoc]
      refine least_inv_step (ih (by omega)) fun x hx => ?_
      obtain ⟨i, hi, rfl⟩ := List.getElem_of_mem hx
      rw [List.length_take] at hi
      rw [List.getElem_take]
      exact List.pairwise_iff_getElem.1 hs i k (by omega) (by omega) (by omega)
  have := key s.length (Nat.le_refl _)
  rwa [List.take_length] at this
theorem least_made_of {s : List (List UInt8)} (hs : Sorted s) : IsMade (· ∈ s) (leastL s) := by
  have h := least_inv s hs
  refine ⟨h.rises, fun x => ⟨fun hx => ⟨h.mem x hx, fun y hy hb => h.low x hx y hy hb⟩, fun ⟨hx, hy⟩ => ?_⟩⟩
  obtain ⟨y, hyL, hb⟩ := h.cov x hx
  rw [← hy y (h.mem y hyL) hb]
  exact hyL
/-- The sort's answer. -/
def sortL (l : List (List UInt8)) : List (List UInt8) := l.mergeSort fun x y => decide (x ≤ y)
theorem sortL_perm (l : List (List UInt8)) : (sortL l).Perm l := List.mergeSort_perm _ _
theorem sortL_len (l : List (List UInt8)) : (sortL l).length = l.length := (sortL_perm l).length_eq
theorem sortL_sorted (l : List (List UInt8)) : Sorted (sortL l) := by
  have h := List.pairwise_mergeSort (le := fun x y : List UInt8 => decide (x ≤ y)) (fun a b c h k => by
    simp only [decide_eq_true_eq] at *
    exact List.le_trans h k) (fun a b => by
    have := List.le_total a b
    simpa [Bool.or_eq_true] using this) l
  refine h.imp fun {a b} hab => ?_
  rw [list_le_iff] at hab
  simpa using hab
/-- The prefixes that are left of any list. -/
def leastOf (l : List (List UInt8)) : List (List UInt8) := leastL (sortL l)
theorem least_made (l : List (List UInt8)) : IsMade (· ∈ l) (leastOf l) :=
  made_congr (least_made_of (sortL_sorted l)) fun _ => (sortL_perm l).mem_iff
theorem leastOf_len (l : List (List UInt8)) : (leastOf l).length ≤ l.length := by
  have := leastL_le (sortL l)
  rw [sortL_len] at this
  exact this
/-- It is a reach just if all may be prefixes, they are not too many, and none is dropped. -/
theorem goodR_least (r : List (List UInt8)) : goodR r = (decide (r.length ≤ 6) && (r.all preB && decide (r = leastOf r))) := by
  rw [Bool.eq_iff_iff, Bool.and_eq_true, Bool.and_eq_true, decide_eq_true_eq, decide_eq_true_eq, List.all_eq_true]
  constructor
  · intro h
    exact ⟨(goodR_iff.1 h).2, fun x hx => goodR_pre h hx, made_uniq (goodR_made h) (least_made r) fun _ => Iff.rfl⟩
  · rintro ⟨h1, h2, h3⟩
    have hm := least_made r
    rw [← h3] at hm
    exact made_good hm h2 h1
end Go.Proofs.YtpjleeeligahaaaGreatDoor
