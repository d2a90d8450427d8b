/-
  WHAT IS PROVED: plain facts on the texts of reaches: prefixes with a comma between. No program. No condition. · what the code of these statements reads of the package variables (a length that the library has), and that it stands in later worlds. · plain facts (what is made of prefixes exists; the chapter's examples), and, as definitions, what the walks of layer 4's statements take of package reach's calls. The definitions are proved elsewhere, of the code itself.
-/
import Derived.Test.YtokkmofcijfmiaaDoorReachMath
import Derived.Test.YtokkmofcijfmiaaDoorBase
import Derived.Test.YtokkmofcijfmiaaDoorReachRef2
namespace Go.Proofs.YtokkmofcijfmiaaDoor
open Go

/-- The pieces between commas. -/
def commas : List UInt8 → List (List UInt8)
  | [] => [[]]
  | c :: t => if c = 44 then [] :: commas t else (c :: (commas t).headD []) :: (commas t).tail
theorem commas_ne : ∀ s : List UInt8, commas s ≠ []
  | [] => by simp [commas]
  | c :: t => by unfold commas; split <;> simp
theorem commas_cons_head (s : List UInt8) : commas s = (commas s).headD [] :: (commas s).tail := by
  cases h : commas s with
  | nil => exact absurd h (commas_ne s)
  | cons a r => rfl
/-- With one byte more. -/
def growL (r : List (List UInt8)) (c : UInt8) : List (List UInt8) := r.dropLast ++ [r.getLastD [] ++ [c]]
theorem commas_snoc : ∀ (s : List UInt8) (c : UInt8), commas (s ++ [c]) = if c = 44 then commas s ++ [[]] else growL (commas s) c
  | [], c => by
    by_cases h : c = 44
    · subst h; rfl
    · simp [commas, h, growL]
  | a :: t, c => by
    have ih := commas_snoc t c
    have hne := commas_ne t
    have hh := commas_cons_head t
    by_cases h : c = 44
    · subst h
      rw [if_pos rfl] at ih ⊢
      show commas (a :: (t ++ [44])) = commas (a :: t) ++ [[]]
      by_cases ha : a = 44
      · simp only [commas, ha, if_true, ih]; rfl
      · simp only [commas, ha, if_false, ih]
        generalize commas t = L at hne hh ⊢
        cases L with
        | nil => exact absurd rfl hne
        | cons x xs => rfl
    · rw [if_neg h] at ih ⊢
      show commas (a :: (t ++ [c])) = growL (commas (a :: t)) c
      by_cases ha : a = 44
      · simp only [commas, ha, if_true, ih]
        generalize commas t = L at hne hh ⊢
        cases L with
        | nil => exact absurd rfl hne
        | cons x xs => simp [growL, List.dropLast, List.getLastD]
      · simp only [commas, ha, if_false, ih]
        generalize commas t = L at hne hh ⊢
        cases L with
        | nil => exact absurd rfl hne
        | cons x xs =>
          cases xs with
          | nil => simp [growL]
          | cons y ys => simp [growL, List.dropLast, List.getLastD]

/-- With a comma between. -/
def joinC : List (List UInt8) → List UInt8
  | [] => []
  | [a] => a
  | a :: b :: r => a ++ 44 :: joinC (b :: r)
theorem joinC_snoc : ∀ (r : List (List UInt8)) (x : List UInt8), joinC (r ++ [x]) = if r = [] then x else joinC r ++ 44 :: x
  | [], x => rfl
  | [a], x => rfl
  | a :: b :: r, x => by
    have ih := joinC_snoc (b :: r) x
    rw [if_neg (by simp)] at ih ⊢
    show a ++ 44 :: joinC ((b :: r) ++ [x]) = a ++ 44 :: joinC (b :: r) ++ 44 :: x
    rw [ih, List.append_assoc]
    rfl
theorem joinC_commas : ∀ s : List UInt8, joinC (commas s) = s
  | [] => rfl
  | c :: t => by
    have ih := joinC_commas t
    have hh := commas_cons_head t
    by_cases h : c = 44
    · subst h
      show joinC ([] :: commas t) = _
      rw [hh] at ih ⊢
      show [] ++ 44 :: joinC ((commas t).headD [] :: (commas t).tail) = _
      rw [ih]
      rfl
    · simp only [commas, h, if_false]
      generalize commas t = L at hh ih ⊢
      cases L with
      | nil => exact absurd hh (by simp)
      | cons x xs =>
        cases xs with
        | nil => rw [← ih]; rfl
        | cons y ys => rw [← ih]; rfl
theorem commas_plain : ∀ (a : List UInt8), (∀ c, c ∈ a → c ≠ 44) → commas a = [a]
  | [], _ => rfl
  | c :: t, h => by
    have h1 := h c List.mem_cons_self
    have ih := commas_plain t fun x hx => h x (List.mem_cons_of_mem _ hx)
    simp [commas, h1, ih]
theorem commas_app : ∀ (a t : List UInt8), (∀ c, c ∈ a → c ≠ 44) → commas (a ++ 44 :: t) = a :: commas t
  | [], t, _ => by simp [commas]
  | c :: a, t, h => by
    have h1 := h c List.mem_cons_self
    have ih := commas_app a t fun x hx => h x (List.mem_cons_of_mem _ hx)
    show commas (c :: (a ++ 44 :: t)) = _
    simp [commas, h1, ih]
theorem commas_joinC : ∀ r : List (List UInt8), r ≠ [] → (∀ x, x ∈ r → ∀ c, c ∈ x → c ≠ 44) → commas (joinC r) = r
  | [], h, _ => absurd rfl h
  | [a], _, h => commas_plain a (h a List.mem_cons_self)
  | a :: b :: r, _, h => by
    show commas (a ++ 44 :: joinC (b :: r)) = _
    rw [commas_app _ _ (h a List.mem_cons_self), commas_joinC (b :: r) (by simp) fun x hx => h x (List.mem_cons_of_mem _ hx)]

/-- A reach's text. -/
def textR (r : List (List UInt8)) : List UInt8 := if r = [] then [33] else if joinC r = [] then [42] else joinC r
/-- A text's reach. -/
def readR (s : List UInt8) : Option (List (List UInt8)) :=
  if s = [33] then some [] else if s = [42] then some [[]] else if goodR (commas s) = true ∧ atR (commas s) 0 ≠ [] then some (commas s) else none

theorem keyB_no44 {x : List UInt8} (h : keyB x = true) : ∀ c, c ∈ x → c ≠ 44 ∧ c ≠ 33 ∧ c ≠ 42 := by
  intro c hc
  have hk : keyC c = true := List.all_eq_true.1 (keyB_all h).1 c hc
  refine ⟨?_, ?_, ?_⟩
  all_goals
    rintro rfl
    revert hk
    decide
theorem preB_no44 {x : List UInt8} (h : preB x = true) : ∀ c, c ∈ x → c ≠ 44 := by
  intro c hc
  unfold preB at h
  rw [Bool.or_eq_true] at h
  rcases h with h | h
  · rw [List.isEmpty_iff] at h
    rw [h] at hc
    cases hc
  · exact (keyB_no44 h c hc).1
/-- A reach in which the empty text is. -/
theorem goodR_empty {r : List (List UInt8)} (h : goodR r = true) (he : [] ∈ r) : r = [[]] := by
  have ha : ∀ x, x ∈ r → x = [] := fun x hx => (goodR_mem h hx he rfl).symm
  have hr := goodR_rises h
  match r, he, ha, hr with
  | [a], _, ha, _ => rw [ha a (by simp)]
  | a :: b :: t, _, ha, hr =>
    have h1 := (List.pairwise_cons.1 hr).1 b (by simp)
    rw [ha a (by simp), ha b (by simp), ltB_irrefl] at h1
    cases h1
theorem read_text {r : List (List UInt8)} (h : goodR r = true) : readR (textR r) = some r := by
  unfold textR
  by_cases h0 : r = []
  · subst h0; rfl
  · rw [if_neg h0]
    have hs := commas_joinC r h0 fun x hx => preB_no44 (goodR_pre h hx)
    by_cases h1 : joinC r = []
    · rw [if_pos h1]
      rw [h1] at hs
      rw [← hs]
      rfl
    · rw [if_neg h1]
      have hne : [] ∉ r := by
        intro he
        rw [goodR_empty h he] at h1
        exact h1 rfl
      have hkey : ∀ x, x ∈ r → keyB x = true := by
        intro x hx
        have hp := goodR_pre h hx
        unfold preB at hp
        rw [Bool.or_eq_true] at hp
        rcases hp with e | e
        · rw [List.isEmpty_iff] at e
          exact absurd (e ▸ hx) hne
        · exact e
      unfold readR
      rw [if_neg, if_neg, if_pos, hs]
      · rw [hs]
        refine ⟨h, ?_⟩
        cases r with
        | nil => exact absurd rfl h0
        | cons a t => exact fun e => hne (by rw [← e]; exact List.mem_cons_self)
      · intro e
        rw [e] at hs
        have hb : [42] ∈ r := by rw [← hs]; exact List.mem_cons_self
        exact (keyB_no44 (hkey _ hb) 42 (by simp)).2.2 rfl
      · intro e
        rw [e] at hs
        have hb : [33] ∈ r := by rw [← hs]; exact List.mem_cons_self
        exact (keyB_no44 (hkey _ hb) 33 (by simp)).2.1 rfl
theorem text_read {s : List UInt8} {r : List (List UInt8)} (h : readR s = some r) : textR r = s ∧ goodR r = true := by
  unfold readR at h
  by_cases h1 : s = [33]
  · rw [if_pos h1] at h
    injection h with h
    subst h
    rw [h1]
    exact ⟨rfl, rfl⟩
  · rw [if_neg h1] at h
    by_cases h2 : s = [42]
    · rw [if_pos h2] at h
      injection h with h
      subst h
      rw [h2]
      exact ⟨rfl, by decide⟩
    · rw [if_neg h2] at h
      by_cases h3 : goodR (commas s) = true ∧ atR (commas s) 0 ≠ []
      · rw [if_pos h3] at h
        injection h with h
        subst h
        refine ⟨?_, h3.1⟩
        unfold textR
        rw [if_neg (commas_ne s), joinC_commas, if_neg]
        rintro rfl
        exact h3.2 rfl
      · rw [if_neg h3] at h
        cases h
theorem growL_length (r : List (List UInt8)) (c : UInt8) (h : r ≠ []) : (growL r c).length = r.length := by
  unfold growL
  have := List.length_pos_iff.2 h
  simp
  omega
theorem commas_length (s : List UInt8) : 1 ≤ (commas s).length := List.length_pos_iff.2 (commas_ne s)
theorem commas_le : ∀ s : List UInt8, (commas s).length ≤ s.length + 1
  | [] => by simp [commas]
  | c :: t => by
    have ih := commas_le t
    unfold commas
    split
    · simp; omega
    · simp; omega
theorem joinC_le : ∀ r : List (List UInt8), (joinC r).length ≤ (r.map List.length).sum + r.length
  | [] => by simp [joinC]
  | [a] => by simp [joinC]
  | a :: b :: r => by
    have ih := joinC_le (b :: r)
    simp only [joinC, List.length_append, List.length_cons, List.map_cons, List.sum_cons] at ih ⊢
    omega
end Go.Proofs.YtokkmofcijfmiaaDoor

namespace Go.Proofs.YtokkmofcijfmiaaDoor
open Go.RowKit

/-- What the code reads of the package variables: a length that the library has, whatever it is. -/
def LaidR (W : World) : Prop := ∃ m : Int, W.cell? ⟨2, 0, none⟩ = some (.int .i64 m)
theorem LaidR.keep {W W' : World} (h : LaidR W) (hb : Below W.heap.size W W') : LaidR W' := by
  obtain ⟨m, h2⟩ := h
  refine ⟨m, ?_⟩
  have hlt : 2 < W.heap.size := by
    by_cases g : 2 < W.heap.size
    · exact g
    · unfold World.cell? at h2
      rw [Array.getElem?_eq_none (by simpa using g)] at h2
      cases h2
  rw [(bcell hb).1 _ _ hlt, h2]
end Go.Proofs.YtokkmofcijfmiaaDoor

namespace Go.Proofs.YtokkmofcijfmiaaDoor
open Go.RowKit

theorem place_ex (r : List (List UInt8)) (x : List UInt8) : ∃ t, t ≤ r.length ∧ (∀ j, j < t → ltB (atR r j) x = true) ∧ (t < r.length → ltB (atR r t) x = false) := by
  have key : ∀ n, n ≤ r.length → (∀ j, j < n → ltB (atR r j) x = true) ∨ ∃ t, t < n ∧ (∀ j, j < t → ltB (atR r j) x = true) ∧ ltB (atR r t) x = false := by
    intro n
    induction n with
    | zero => intro _; exact Or.inl fun j hj => by omega
    | succ n ih =>
      intro hn
      rcases ih (by omega) with h | ⟨t, ht, h1, h2⟩
      · by_cases hb : ltB (atR r n) x = true
        · refine Or.inl fun j hj => ?_
          by_cases e : j = n
          · rw [e]; exact hb
          · exact h j (by omega)
        · exact Or.inr ⟨n, by omega, h, Bool.eq_false_iff.2 hb⟩
      · exact Or.inr ⟨t, by omega, h1, h2⟩
  rcases key r.length (Nat.le_refl _) with h | ⟨t, ht, h1, h2⟩
  · exact ⟨r.length, Nat.le_refl _, h, fun h => by omega⟩
  · exact ⟨t, by omega, h1, fun _ => h2⟩
theorem madeTo_ex (l : List (List UInt8)) : ∀ m, m ≤ l.length → ∃ r, MadeTo l m r
  | 0, _ => ⟨[], madeTo_zero l⟩
  | m + 1, h => by
    obtain ⟨r, hr⟩ := madeTo_ex l m (by omega)
    by_cases hb : loneB l m = true
    · obtain ⟨t, h1, h2, h3⟩ := place_ex r (atR l m)
      exact ⟨_, madeTo_put hr (by omega) hb h1 h2 h3⟩
    · exact ⟨r, madeTo_skip hr (Bool.eq_false_iff.2 hb)⟩
theorem made_ex (l : List (List UInt8)) : ∃ r, IsMade (· ∈ l) r := by
  obtain ⟨r, hr⟩ := madeTo_ex l l.length (Nat.le_refl _)
  exact ⟨r, madeTo_all hr⟩
/-- Out of a list of pairs' prefixes, too. -/
theorem both_ex (a b : List (List UInt8)) : ∃ r, IsMade (BothS a b) r := by
  obtain ⟨r, hr⟩ := made_ex ((b.filter fun x => hasB a x) ++ (a.filter fun x => hasB b x))
  refine ⟨r, made_congr hr fun x => ?_⟩
  unfold BothS
  rw [List.mem_append, List.mem_filter, List.mem_filter]

/-- The strings' sizes. -/
def Sz (m : Nat) (l : List ByteArray) : Prop := ∀ x, x ∈ l → x.size ≤ m
/-- A list that a call answered. -/
def Ans (R : List (List UInt8)) (code : Int) (e : Ending) (w' : World) : Prop :=
  ∃ (A : Option Addr) (c : Nat) (r : List ByteArray), e = .returned (.tuple #[.slice A R.length c, .int .i64 code]) ∧ RdS w'.heap.size w' A r ∧ dL r = R
def Ans1 (R : List (List UInt8)) (e : Ending) (w' : World) : Prop :=
  ∃ (A : Option Addr) (c : Nat) (r : List ByteArray), e = .returned (.slice A R.length c) ∧ RdS w'.heap.size w' A r ∧ dL r = R
def GoodC : Prop := ∀ (A : Option Addr) (n c : Nat) (l : List ByteArray) (w : World), LaidR w → l.length = n → RdS w.heap.size w A l → n ≤ 1000 → Sz 1000 l →
  Calls Tryd.prog 28 #[.slice A n c] w fun e w' => e = .returned (.bool (goodR (dL l))) ∧ Below w.heap.size w w'
def OfC : Prop := ∀ (A : Option Addr) (n c : Nat) (l : List ByteArray) (w : World) (R : List (List UInt8)), LaidR w → l.length = n → RdS w.heap.size w A l → n ≤ 1000 → Sz 1000 l → IsMade (· ∈ dL l) R →
  Calls Tryd.prog 24 #[.slice A n c] w fun e w' =>
    (if (dL l).all preB = true then if R.length ≤ 6 then Ans R 0 e w' else e = .returned (.tuple #[.slice none 0 0, .int .i64 3]) else e = .returned (.tuple #[.slice none 0 0, .int .i64 2])) ∧ Below w.heap.size w w'
def CoversC : Prop := ∀ (A A2 : Option Addr) (n c m d : Nat) (a b : List ByteArray) (w : World), LaidR w → a.length = n → RdS w.heap.size w A a → b.length = m → RdS w.heap.size w A2 b → goodR (dL a) = true → goodR (dL b) = true →
  Calls Tryd.prog 25 #[.slice A n c, .slice A2 m d] w fun e w' => e = .returned (.bool (covB (dL a) (dL b))) ∧ Below w.heap.size w w'
def BothC : Prop := ∀ (A A2 : Option Addr) (n c m d : Nat) (a b : List ByteArray) (w : World) (R : List (List UInt8)), LaidR w → a.length = n → RdS w.heap.size w A a → b.length = m → RdS w.heap.size w A2 b → goodR (dL a) = true → goodR (dL b) = true → IsMade (BothS (dL a) (dL b)) R →
  Calls Tryd.prog 26 #[.slice A n c, .slice A2 m d] w fun e w' => Ans1 R e w' ∧ Below w.heap.size w w'
def TextC : Prop := ∀ (A : Option Addr) (n c : Nat) (l : List ByteArray) (w : World), LaidR w → l.length = n → RdS w.heap.size w A l → goodR (dL l) = true →
  Calls Tryd.prog 14 #[.slice A n c] w fun e w' => (∃ s : ByteArray, e = .returned (.string s) ∧ s.data.toList = textR (dL l)) ∧ Below w.heap.size w w'
/-- All of them. -/
structure ReachC : Prop where
  good : GoodC
  of : OfC
  covers : CoversC
  both : BothC
  text : TextC

theorem goodR_sizes {l : List ByteArray} (h : goodR (dL l) = true) : Sz 20 l := by
  intro x hx
  have hp := goodR_pre h (x := x.data.toList) (List.mem_map_of_mem hx)
  have hl : x.data.toList.length = x.size := Array.length_toList
  unfold preB at hp
  rw [Bool.or_eq_true] at hp
  rcases hp with e | e
  · rw [List.isEmpty_iff] at e
    rw [e] at hl
    simp at hl
    omega
  · have := (keyB_all e).2.2
    omega
theorem goodR_six {l : List ByteArray} (h : goodR (dL l) = true) : l.length ≤ 6 := by
  have := (goodR_iff.1 h).2
  rwa [dL_len] at this
theorem goodR_one (p : List UInt8) : goodR [p] = preB p := by
  rw [Bool.eq_iff_iff, goodR_iff]
  constructor
  · rintro ⟨h, _⟩
    exact (okAt_iff.1 (h 0 (by simp))).1
  · intro h
    refine ⟨fun i hi => ?_, by simp⟩
    have e : i = 0 := by simp at hi; omega
    subst e
    exact okAt_iff.2 ⟨h, Or.inl rfl, fun k hk hne => by simp at hk; omega⟩
end Go.Proofs.YtokkmofcijfmiaaDoor
