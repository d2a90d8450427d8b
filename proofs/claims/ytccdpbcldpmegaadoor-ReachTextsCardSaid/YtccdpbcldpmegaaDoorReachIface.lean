/-
  WHAT IS PROVED: plain facts (what is made of prefixes exists; the chapter's examples), and, as definitions, what the walks of layer 4's statements take of package reach's calls. The definitions are proved elsewhere, of the code itself.
-/
import Derived.Test.YtccdpbcldpmegaaDoorReachRef2
import Derived.Test.YtccdpbcldpmegaaDoorReachMath2
import Derived.Test.YtccdpbcldpmegaaDoorLaidR
namespace Go.Proofs.YtccdpbcldpmegaaDoor
open Go.RowKit

theorem place_ex (r : List (List UInt8)) (x : List UInt8) : ∃ t, t ≤ r.length ∧ (∀ j, j < t → ltB (atR r j) x = true) ∧ (t < r.length → ltB (atR r t) x = false) := by
  have key : ∀ n, n ≤ r.length → (∀ j, j < n → ltB (atR r j) x = true) ∨ ∃ t, t < n ∧ (∀ j, j < t → ltB (atR r j) x = true) ∧ ltB (atR r t) x = false := by
    intro n
    induction n with
    | zero => intro _; exact Or.inl fun j hj => by omega
    | succ n ih =>
      intro hn
      rcases ih (by omega) with h | ⟨t, ht, h1, h2⟩
      · by_cases hb : ltB (atR r n) x = true
        · refine Or.inl fun j hj => ?_
          by_cases e : j = n
          · rw [e]; exact hb
          · exact h j (by omega)
        · exact Or.inr ⟨n, by omega, h, Bool.eq_false_iff.2 hb⟩
      · exact Or.inr ⟨t, by omega, h1, h2⟩
  rcases key r.length (Nat.le_refl _) with h | ⟨t, ht, h1, h2⟩
  · exact ⟨r.length, Nat.le_refl _, h, fun h => by omega⟩
  · exact ⟨t, by omega, h1, fun _ => h2⟩
theorem madeTo_ex (l : List (List UInt8)) : ∀ m, m ≤ l.length → ∃ r, MadeTo l m r
  | 0, _ => ⟨[], madeTo_zero l⟩
  | m + 1, h => by
    obtain ⟨r, hr⟩ := madeTo_ex l m (by omega)
    by_cases hb : loneB l m = true
    · obtain ⟨t, h1, h2, h3⟩ := place_ex r (atR l m)
      exact ⟨_, madeTo_put hr (by omega) hb h1 h2 h3⟩
    · exact ⟨r, madeTo_skip hr (Bool.eq_false_iff.2 hb)⟩
theorem made_ex (l : List (List UInt8)) : ∃ r, IsMade (· ∈ l) r := by
  obtain ⟨r, hr⟩ := madeTo_ex l l.length (Nat.le_refl _)
  exact ⟨r, madeTo_all hr⟩
/-- Out of a list of pairs' prefixes, too. -/
theorem both_ex (a b : List (List UInt8)) : ∃ r, IsMade (BothS a b) r := by
  obtain ⟨r, hr⟩ := made_ex ((b.filter fun x => hasB a x) ++ (a.filter fun x => hasB b x))
  refine ⟨r, made_congr hr fun x => ?_⟩
  unfold BothS
  rw [List.mem_append, List.mem_filter, List.mem_filter]

/-- The strings' sizes. -/
def Sz (m : Nat) (l : List ByteArray) : Prop := ∀ x, x ∈ l → x.size ≤ m
/-- A list that a call answered. -/
def Ans (R : List (List UInt8)) (code : Int) (e : Ending) (w' : World) : Prop :=
  ∃ (A : Option Addr) (c : Nat) (r : List ByteArray), e = .returned (.tuple #[.slice A R.length c, .int .i64 code]) ∧ RdS w'.heap.size w' A r ∧ dL r = R
def Ans1 (R : List (List UInt8)) (e : Ending) (w' : World) : Prop :=
  ∃ (A : Option Addr) (c : Nat) (r : List ByteArray), e = .returned (.slice A R.length c) ∧ RdS w'.heap.size w' A r ∧ dL r = R
def GoodC : Prop := ∀ (A : Option Addr) (n c : Nat) (l : List ByteArray) (w : World), LaidR w → l.length = n → RdS w.heap.size w A l → n ≤ 1000 → Sz 1000 l →
  Calls Tryd.prog 15 #[.slice A n c] w fun e w' => e = .returned (.bool (goodR (dL l))) ∧ Below w.heap.size w w'
def OfC : Prop := ∀ (A : Option Addr) (n c : Nat) (l : List ByteArray) (w : World) (R : List (List UInt8)), LaidR w → l.length = n → RdS w.heap.size w A l → n ≤ 1000 → Sz 1000 l → IsMade (· ∈ dL l) R →
  Calls Tryd.prog 11 #[.slice A n c] w fun e w' =>
    (if (dL l).all preB = true then if R.length ≤ 6 then Ans R 0 e w' else e = .returned (.tuple #[.slice none 0 0, .int .i64 3]) else e = .returned (.tuple #[.slice none 0 0, .int .i64 2])) ∧ Below w.heap.size w w'
def CoversC : Prop := ∀ (A A2 : Option Addr) (n c m d : Nat) (a b : List ByteArray) (w : World), LaidR w → a.length = n → RdS w.heap.size w A a → b.length = m → RdS w.heap.size w A2 b → goodR (dL a) = true → goodR (dL b) = true →
  Calls Tryd.prog 12 #[.slice A n c, .slice A2 m d] w fun e w' => e = .returned (.bool (covB (dL a) (dL b))) ∧ Below w.heap.size w w'
def BothC : Prop := ∀ (A A2 : Option Addr) (n c m d : Nat) (a b : List ByteArray) (w : World) (R : List (List UInt8)), LaidR w → a.length = n → RdS w.heap.size w A a → b.length = m → RdS w.heap.size w A2 b → goodR (dL a) = true → goodR (dL b) = true → IsMade (BothS (dL a) (dL b)) R →
  Calls Tryd.prog 13 #[.slice A n c, .slice A2 m d] w fun e w' => Ans1 R e w' ∧ Below w.heap.size w w'
def TextC : Prop := ∀ (A : Option Addr) (n c : Nat) (l : List ByteArray) (w : World), LaidR w → l.length = n → RdS w.heap.size w A l → goodR (dL l) = true →
  Calls Tryd.prog 8 #[.slice A n c] w fun e w' => (∃ s : ByteArray, e = .returned (.string s) ∧ s.data.toList = textR (dL l)) ∧ Below w.heap.size w w'
/-- All of them. -/
structure ReachC : Prop where
  good : GoodC
  of : OfC
  covers : CoversC
  both : BothC
  text : TextC

theorem goodR_sizes {l : List ByteArray} (h : goodR (dL l) = true) : Sz 20 l := by
  intro x hx
  have hp := goodR_pre h (x := x.data.toList) (List.mem_map_of_mem hx)
  have hl : x.data.toList.length = x.size := Array.length_toList
  unfold preB at hp
  rw [Bool.or_eq_true] at hp
  rcases hp with e | e
  · rw [List.isEmpty_iff] at e
    rw [e] at hl
    simp at hl
    omega
  · have := (keyB_all e).2.2
    omega
theorem goodR_six {l : List ByteArray} (h : goodR (dL l) = true) : l.length ≤ 6 := by
  have := (goodR_iff.1 h).2
  rwa [dL_len] at this
theorem goodR_one (p : List UInt8) : goodR [p] = preB p := by
  rw [Bool.eq_iff_iff, goodR_iff]
  constructor
  · rintro ⟨h, _⟩
    exact (okAt_iff.1 (h 0 (by simp))).1
  · intro h
    refine ⟨fun i hi => ?_, by simp⟩
    have e : i = 0 := by simp at hi; omega
    subst e
    exact okAt_iff.2 ⟨h, Or.inl rfl, fun k hk hne => by simp at hk; omega⟩
end Go.Proofs.YtccdpbcldpmegaaDoor
