/-
  WHAT IS PROVED: reach.least answers a row of its own of what is left of any list (leastOf). Conditions: those typed in the theorem. · plain facts on the texts of reaches: prefixes with a comma between. No program. No condition. · what the code of these statements reads of the package variables (a length that the library has), and that it stands in later worlds. · plain facts (what is made of prefixes exists; the chapter's examples), and, as definitions, what the walks of layer 4's statements take of package reach's calls. The definitions are proved elsewhere, of the code itself. · slices.Equal of two slices of strings; reach.Good tells whether a list is a reach (GoodC); reach.Of makes the reach of any prefixes, or tells what is wrong (OfC). Conditions: those typed in each definition. · package pack's reader: Value: what it answers and leaves, as the chapter says. Conditions: those typed in each theorem. · plain facts: the steps by which package pack's reader takes a write come to what the chapter says is taken. No program is spoken of.
-/
import Derived.Test.YtpjleeeligahaaaGreatDoorGQ5
import Derived.Test.YtpjleeeligahaaaGreatDoorGQ4
import Derived.Test.YtpjleeeligahaaaGreatDoorGQ0
import Derived.Test.YtpjleeeligahaaaGreatDoorGQ3
import Derived.Test.YtpjleeeligahaaaGreatDoorGQ9
namespace Go.Proofs.YtpjleeeligahaaaGreatDoor
open Go.RowKit

theorem least_take {S : List (List UInt8)} {k : Nat} {x : List UInt8} (h : S[k]? = some x) : leastL (S.take (k + 1)) = leastStep (leastL (S.take k)) x := by
  obtain ⟨hk, rfl⟩ := List.getElem?_eq_some_iff.1 h
  rw [List.take_succ_eq_append_getElem hk, leastL_snoc]
theorem least_first {S : List (List UInt8)} {k : Nat} {x : List UInt8} {L : List ByteArray} (hL : dL L = leastL (S.take k)) (h : S[k]? = some x) (y : ByteArray) (hy : y.data.toList = x) (h0 : L = []) : dL (L ++ [y]) = leastL (S.take (k + 1)) := by
  rw [least_take h, ← hL, h0]
  simp [leastStep, hy]
theorem least_put {S : List (List UInt8)} {k : Nat} {x : List UInt8} {L : List ByteArray} (hL : dL L = leastL (S.take k)) (h : S[k]? = some x) (y : ByteArray) (hy : y.data.toList = x) {q : ByteArray} (hq : L[L.length - 1]? = some q) (hb : begB q.data.toList x = false) : dL (L ++ [y]) = leastL (S.take (k + 1)) := by
  rw [least_take h, ← hL]
  unfold leastStep
  rw [dL_len, dL_at hq, if_pos (Or.inr hb)]
  simp [hy]
theorem least_drop {S : List (List UInt8)} {k : Nat} {x : List UInt8} {L : List ByteArray} (hL : dL L = leastL (S.take k)) (h : S[k]? = some x) {q : ByteArray} (hq : L[L.length - 1]? = some q) (hb : begB q.data.toList x = true) : dL L = leastL (S.take (k + 1)) := by
  rw [least_take h, ← hL]
  unfold leastStep
  have h0 : dL L ≠ [] := by
    intro e
    have e2 : L = [] := List.map_eq_nil_iff.1 e
    rw [e2] at hq
    cases hq
  rw [dL_len, dL_at hq, if_neg (by simp [h0, hb])]
theorem hasPrefix_is (s p : ByteArray) (w : World) (b : Bool) (hb : begB p.data.toList s.data.toList = b) :
    Calls Tryz.prog 164 #[.string s, .string p] w fun e w' => e = .returned (.bool b) ∧ w = w' := by
  subst hb
  exact (Tryz.strings_HasPrefix s p w).mono fun _ _ h => ⟨h.1, h.2.symm⟩

set_option maxRecDepth 100000 in
set_option maxHeartbeats 2000000 in
theorem least_any (A : Option Addr) (n c : Nat) (l : List ByteArray) (w : World) (hn : l.length = n) (hr : RdS w.heap.size w A l) (hm : n ≤ 1000000) :
    Calls Tryz.prog 135 #[.slice A n c] w fun e w' => AnsO w.heap.size (leastOf (dL l)) e w' ∧ Below w.heap.size w w' := by
  obtain ⟨i0, hi0, hz0, hz1, hz2⟩ := info_parts str_info
  have HN := Lib.hid hn
  go_enter Tryz.func135, Tryz.ntmps135
  go_wp2_with fail
  refine (clone_any A n c l w hn hr (by omega)).mono ?_
  rintro e w1 ⟨⟨A1, c1, rfl, hO1⟩, hb1⟩
  clear hn
  go_wp2_with fail
  refine (sort_any A1 n c1 l w1 hO1 (by omega) hb1.size).mono ?_
  rintro e w2 ⟨rfl, hO2, hb2⟩
  have hB2 := hb1.trans hb2
  clear hO1 hb1 hb2 hr
  have HS : Hid ((sortL (dL l)).length = n) := by
    show _ = _
    rw [sortL_len, dL_len, HN.out]
  have HL : Hid (leastOf (dL l) = leastL (sortL (dL l))) := rfl
  generalize sortL (dL l) = S at HS hO2 HL
  have hrS := hO2.rd
  have hs2 := hB2.size
  clear hO2
  go_wp2_with fail
  go_loopw [4, 14] (fun u i wr => ∃ (k m : Nat) (A2 : Option Addr) (c2 : Nat) (L : List ByteArray), k ≤ n ∧ i = .int .i64 k ∧ u = .slice A2 m c2 ∧ OwnS w2.heap.size wr A2 m c2 L ∧ Hid (dL L = leastL (S.take k)) ∧ m ≤ k ∧ Below w2.heap.size w2 wr) (fun _ i _ => n - (intOf i).toNat)
  case atStart => exact ⟨0, 0, none, 0, [], Nat.zero_le _, rfl, rfl, OwnS.nil _ _, rfl, Nat.le_refl _, Below.refl _ _⟩
  case round =>
    obtain ⟨k, m, A2, c2, L, hk, rfl, rfl, hO, hA, hmk, hB⟩ := hrel
    have hL := hO.len
    by_cases hlt : k < n
    · have hkS : k < S.length := by have := HS.out; omega
      obtain ⟨ad, hA1, _, hc⟩ := (hrS.keep hB (Nat.le_refl _)) k _ (baL_get hkS)
      subst hA1
      have HX : Hid (S[k]? = some S[k]) := List.getElem?_eq_getElem hkS
      have i1 : (0 : Int) ≤ (k : Int) := by omega
      have i2 : (k : Int) < (n : Int) := by omega
      generalize S[k] = xb at hc HX
      have HY : Hid ((⟨xb.toArray⟩ : ByteArray).data.toList = xb) := rfl
      generalize (⟨xb.toArray⟩ : ByteArray) = y at hc HY
      clear hkS
      have hB0 := hB.alloc hB.size (.cells #[.string y] 9)
      by_cases h0 : m = 0
      · subst h0
        have HA2 := Lib.hid (least_first hA.out HX.out y HY.out (List.length_eq_zero_iff.1 hL))
        clear hA hL
        have hO3 := hO.keep (b0 wr (.cells #[.string y] 9))
        go_wp2_with (at_builtin; refine wpList_apS (l := L) (l2 := [y]) (B := wr.heap.size + 1) rfl _ _ rfl Tryz.underlying52 Tryz.underlying52 hi0 hz0 hz1 hz2 rfl rfl hO3 (rdOne wr y _ rfl) rfl 1 rfl (by omega) ?b ?_)
        case b => have := hB.size; simp; omega
        intro A' c' w' k1 k2 k3
        have hB3 := hB0.trans k2
        go_wp2_with fail
        go_roundw
        case rel => exact ⟨k + 1, 1, A', c', L ++ [y], by omega, by go_num, rfl, k1, HA2, by omega, hB3⟩
        case measure => simp [intOf]; omega
      · obtain ⟨q, hq⟩ := get_ex (show m - 1 < L.length by omega)
        obtain ⟨ad2, hA2, _, hc2⟩ := hO.rd _ q hq
        subst hA2
        have HQ : Hid (L[L.length - 1]? = some q) := by
          show _ = _
          rw [hL]
          exact hq
        clear hq
        obtain ⟨m1, rfl⟩ : ∃ m1, m = m1 + 1 := ⟨m - 1, by omega⟩
        rw [Nat.add_sub_cancel] at hc2
        have j0 : ((m1 + 1 : Nat) : Int) - 1 = (m1 : Int) := by omega
        have j1 : (0 : Int) ≤ (m1 : Int) := by omega
        have j2 : (m1 : Int) < ((m1 + 1 : Nat) : Int) := by omega
        have j3 : ¬ ((m1 + 1 : Nat) : Int) = 0 := by omega
        cases hb : begB q.data.toList y.data.toList with
        | true =>
          have HB := Lib.hid hb
          have HA2 := Lib.hid (least_drop hA.out HX.out HQ.out (by rw [← HY.out]; exact hb))
          clear hb hA hL
          go_wp2_with (go_at_call 164; refine (hasPrefix_is _ _ _ true HB.out).mono ?_; rintro e w3 ⟨rfl, rfl⟩)
          go_roundw
          case rel => exact ⟨k + 1, m1 + 1, _, c2, L, by omega, by go_num, rfl, hO, HA2, by omega, hB⟩
          case measure => simp [intOf]; omega
        | false =>
          have HB := Lib.hid hb
          have HA2 := Lib.hid (least_put hA.out HX.out y HY.out HQ.out (by rw [← HY.out]; exact hb))
          clear hb hA hL
          have hO3 := hO.keep (b0 wr (.cells #[.string y] 9))
          go_wp2_with first
            | (go_at_call 164; refine (hasPrefix_is _ _ _ false HB.out).mono ?_; rintro e w3 ⟨rfl, rfl⟩)
            | (at_builtin; refine wpList_apS (l := L) (l2 := [y]) (B := wr.heap.size + 1) rfl _ _ rfl Tryz.underlying52 Tryz.underlying52 hi0 hz0 hz1 hz2 rfl rfl hO3 (rdOne wr y _ rfl) rfl (m1 + 1 + 1) rfl (by omega) ?b ?_)
          case b => have := hB.size; simp; omega
          intro A' c' w' k1 k2 k3
          have hB3 := hB0.trans k2
          go_wp2_with fail
          go_roundw
          case rel => exact ⟨k + 1, m1 + 1 + 1, A', c', L ++ [y], by omega, by go_num, rfl, k1, HA2, by omega, hB3⟩
          case measure => simp [intOf]; omega
    · have hq : ¬ (k : Int) < (n : Int) := by omega
      have HA2 : Hid (dL L = leastOf (dL l)) := by
        show _ = _
        rw [HL.out, hA.out, List.take_of_length_le (by have := HS.out; omega)]
      have HM : Hid (m = (leastOf (dL l)).length) := by
        show _ = _
        rw [← HA2.out, dL_len, hL]
      clear hA hL HL
      go_wp2_with fail
      go_ret
      refine ⟨⟨A2, c2, L, by rw [← HM.out]; rfl, by rw [← HM.out]; exact hO.less hs2, HA2.out⟩, hB2.trans (hB.mono hs2)⟩
end Go.Proofs.YtpjleeeligahaaaGreatDoor

namespace Go.Proofs.YtpjleeeligahaaaGreatDoor
open Go

/-- The pieces between commas. -/
def commas : List UInt8 → List (List UInt8)
  | [] => [[]]
  | c :: t => if c = 44 then [] :: commas t else (c :: (commas t).headD []) :: (commas t).tail
theorem commas_ne : ∀ s : List UInt8, commas s ≠ []
  | [] => by simp [commas]
  | c :: t => by unfold commas; split <;> simp
theorem commas_cons_head (s : List UInt8) : commas s = (commas s).headD [] :: (commas s).tail := by
  cases h : commas s with
  | nil => exact absurd h (commas_ne s)
  | cons a r => rfl
/-- With one byte more. -/
def growL (r : List (List UInt8)) (c : UInt8) : List (List UInt8) := r.dropLast ++ [r.getLastD [] ++ [c]]
theorem commas_snoc : ∀ (s : List UInt8) (c : UInt8), commas (s ++ [c]) = if c = 44 then commas s ++ [[]] else growL (commas s) c
  | [], c => by
    by_cases h : c = 44
    · subst h; rfl
    · simp [commas, h, growL]
  | a :: t, c => by
    have ih := commas_snoc t c
    have hne := commas_ne t
    have hh := commas_cons_head t
    by_cases h : c = 44
    · subst h
      rw [if_pos rfl] at ih ⊢
      show commas (a :: (t ++ [44])) = commas (a :: t) ++ [[]]
      by_cases ha : a = 44
      · simp only [commas, ha, if_true, ih]; rfl
      · simp only [commas, ha, if_false, ih]
        generalize commas t = L at hne hh ⊢
        cases L with
        | nil => exact absurd rfl hne
        | cons x xs => rfl
    · rw [if_neg h] at ih ⊢
      show commas (a :: (t ++ [c])) = growL (commas (a :: t)) c
      by_cases ha : a = 44
      · simp only [commas, ha, if_true, ih]
        generalize commas t = L at hne hh ⊢
        cases L with
        | nil => exact absurd rfl hne
        | cons x xs => simp [growL, List.dropLast, List.getLastD]
      · simp only [commas, ha, if_false, ih]
        generalize commas t = L at hne hh ⊢
        cases L with
        | nil => exact absurd rfl hne
        | cons x xs =>
          cases xs with
          | nil => simp [growL]
          | cons y ys => simp [growL, List.dropLast, List.getLastD]

/-- With a comma between. -/
def joinC : List (List UInt8) → List UInt8
  | [] => []
  | [a] => a
  | a :: b :: r => a ++ 44 :: joinC (b :: r)
theorem joinC_snoc : ∀ (r : List (List UInt8)) (x : List UInt8), joinC (r ++ [x]) = if r = [] then x else joinC r ++ 44 :: x
  | [], x => rfl
  | [a], x => rfl
  | a :: b :: r, x => by
    have ih := joinC_snoc (b :: r) x
    rw [if_neg (by simp)] at ih ⊢
    show a ++ 44 :: joinC ((b :: r) ++ [x]) = a ++ 44 :: joinC (b :: r) ++ 44 :: x
    rw [ih, List.append_assoc]
    rfl
theorem joinC_commas : ∀ s : List UInt8, joinC (commas s) = s
  | [] => rfl
  | c :: t => by
    have ih := joinC_commas t
    have hh := commas_cons_head t
    by_cases h : c = 44
    · subst h
      show joinC ([] :: commas t) = _
      rw [hh] at ih ⊢
      show [] ++ 44 :: joinC ((commas t).headD [] :: (commas t).tail) = _
      rw [ih]
      rfl
    · simp only [commas, h, if_false]
      generalize commas t = L at hh ih ⊢
      cases L with
      | nil => exact absurd hh (by simp)
      | cons x xs =>
        cases xs with
        | nil => rw [← ih]; rfl
        | cons y ys => rw [← ih]; rfl
theorem commas_plain : ∀ (a : List UInt8), (∀ c, c ∈ a → c ≠ 44) → commas a = [a]
  | [], _ => rfl
  | c :: t, h => by
    have h1 := h c List.mem_cons_self
    have ih := commas_plain t fun x hx => h x (List.mem_cons_of_mem _ hx)
    simp [commas, h1, ih]
theorem commas_app : ∀ (a t : List UInt8), (∀ c, c ∈ a → c ≠ 44) → commas (a ++ 44 :: t) = a :: commas t
  | [], t, _ => by simp [commas]
  | c :: a, t, h => by
    have h1 := h c List.mem_cons_self
    have ih := commas_app a t fun x hx => h x (List.mem_cons_of_mem _ hx)
    show commas (c :: (a ++ 44 :: t)) = _
    simp [commas, h1, ih]
theorem commas_joinC : ∀ r : List (List UInt8), r ≠ [] → (∀ x, x ∈ r → ∀ c, c ∈ x → c ≠ 44) → commas (joinC r) = r
  | [], h, _ => absurd rfl h
  | [a], _, h => commas_plain a (h a List.mem_cons_self)
  | a :: b :: r, _, h => by
    show commas (a ++ 44 :: joinC (b :: r)) = _
    rw [commas_app _ _ (h a List.mem_cons_self), commas_joinC (b :: r) (by simp) fun x hx => h x (List.mem_cons_of_mem _ hx)]

/-- A reach's text. -/
def textR (r : List (List UInt8)) : List UInt8 := if r = [] then [33] else if joinC r = [] then [42] else joinC r
/-- A text's reach. -/
def readR (s : List UInt8) : Option (List (List UInt8)) :=
  if s = [33] then some [] else if s = [42] then some [[]] else if goodR (commas s) = true ∧ atR (commas s) 0 ≠ [] then some (commas s) else none

theorem keyB_no44 {x : List UInt8} (h : keyB x = true) : ∀ c, c ∈ x → c ≠ 44 ∧ c ≠ 33 ∧ c ≠ 42 := by
  intro c hc
  have hk : keyC c = true := List.all_eq_true.1 (keyB_all h).1 c hc
  refine ⟨?_, ?_, ?_⟩
  all_goals
    rintro rfl
    revert hk
    decide
theorem preB_no44 {x : List UInt8} (h : preB x = true) : ∀ c, c ∈ x → c ≠ 44 := by
  intro c hc
  unfold preB at h
  rw [Bool.or_eq_true] at h
  rcases h with h | h
  · rw [List.isEmpty_iff] at h
    rw [h] at hc
    cases hc
  · exact (keyB_no44 h c hc).1
/-- A reach in which the empty text is. -/
theorem goodR_empty {r : List (List UInt8)} (h : goodR r = true) (he : [] ∈ r) : r = [[]] := by
  have ha : ∀ x, x ∈ r → x = [] := fun x hx => (goodR_mem h hx he rfl).symm
  have hr := goodR_rises h
  match r, he, ha, hr with
  | [a], _, ha, _ => rw [ha a (by simp)]
  | a :: b :: t, _, ha, hr =>
    have h1 := (List.pairwise_cons.1 hr).1 b (by simp)
    rw [ha a (by simp), ha b (by simp), ltB_irrefl] at h1
    cases h1
theorem read_text {r : List (List UInt8)} (h : goodR r = true) : readR (textR r) = some r := by
  unfold textR
  by_cases h0 : r = []
  · subst h0; rfl
  · rw [if_neg h0]
    have hs := commas_joinC r h0 fun x hx => preB_no44 (goodR_pre h hx)
    by_cases h1 : joinC r = []
    · rw [if_pos h1]
      rw [h1] at hs
      rw [← hs]
      rfl
    · rw [if_neg h1]
      have hne : [] ∉ r := by
        intro he
        rw [goodR_empty h he] at h1
        exact h1 rfl
      have hkey : ∀ x, x ∈ r → keyB x = true := by
        intro x hx
        have hp := goodR_pre h hx
        unfold preB at hp
        rw [Bool.or_eq_true] at hp
        rcases hp with e | e
        · rw [List.isEmpty_iff] at e
          exact absurd (e ▸ hx) hne
        · exact e
      unfold readR
      rw [if_neg, if_neg, if_pos, hs]
      · rw [hs]
        refine ⟨h, ?_⟩
        cases r with
        | nil => exact absurd rfl h0
        | cons a t => exact fun e => hne (by rw [← e]; exact List.mem_cons_self)
      · intro e
        rw [e] at hs
        have hb : [42] ∈ r := by rw [← hs]; exact List.mem_cons_self
        exact (keyB_no44 (hkey _ hb) 42 (by simp)).2.2 rfl
      · intro e
        rw [e] at hs
        have hb : [33] ∈ r := by rw [← hs]; exact List.mem_cons_self
        exact (keyB_no44 (hkey _ hb) 33 (by simp)).2.1 rfl
theorem text_read {s : List UInt8} {r : List (List UInt8)} (h : readR s = some r) : textR r = s ∧ goodR r = true := by
  unfold readR at h
  by_cases h1 : s = [33]
  · rw [if_pos h1] at h
    injection h with h
    subst h
    rw [h1]
    exact ⟨rfl, rfl⟩
  · rw [if_neg h1] at h
    by_cases h2 : s = [42]
    · rw [if_pos h2] at h
      injection h with h
      subst h
      rw [h2]
      exact ⟨rfl, by decide⟩
    · rw [if_neg h2] at h
      by_cases h3 : goodR (commas s) = true ∧ atR (commas s) 0 ≠ []
      · rw [if_pos h3] at h
        injection h with h
        subst h
        refine ⟨?_, h3.1⟩
        unfold textR
        rw [if_neg (commas_ne s), joinC_commas, if_neg]
        rintro rfl
        exact h3.2 rfl
      · rw [if_neg h3] at h
        cases h
theorem growL_length (r : List (List UInt8)) (c : UInt8) (h : r ≠ []) : (growL r c).length = r.length := by
  unfold growL
  have := List.length_pos_iff.2 h
  simp
  omega
theorem commas_length (s : List UInt8) : 1 ≤ (commas s).length := List.length_pos_iff.2 (commas_ne s)
theorem commas_le : ∀ s : List UInt8, (commas s).length ≤ s.length + 1
  | [] => by simp [commas]
  | c :: t => by
    have ih := commas_le t
    unfold commas
    split
    · simp; omega
    · simp; omega
theorem joinC_le : ∀ r : List (List UInt8), (joinC r).length ≤ (r.map List.length).sum + r.length
  | [] => by simp [joinC]
  | [a] => by simp [joinC]
  | a :: b :: r => by
    have ih := joinC_le (b :: r)
    simp only [joinC, List.length_append, List.length_cons, List.map_cons, List.sum_cons] at ih ⊢
    omega
end Go.Proofs.YtpjleeeligahaaaGreatDoor

namespace Go.Proofs.YtpjleeeligahaaaGreatDoor
open Go.RowKit

end Go.Proofs.YtpjleeeligahaaaGreatDoor

namespace Go.Proofs.YtpjleeeligahaaaGreatDoor
open Go.RowKit

theorem place_ex (r : List (List UInt8)) (x : List UInt8) : ∃ t, t ≤ r.length ∧ (∀ j, j < t → ltB (atR r j) x = true) ∧ (t < r.length → ltB (atR r t) x = false) := by
  have key : ∀ n, n ≤ r.length → (∀ j, j < n → ltB (atR r j) x = true) ∨ ∃ t, t < n ∧ (∀ j, j < t → ltB (atR r j) x = true) ∧ ltB (atR r t) x = false := by
    intro n
    induction n with
    | zero => intro _; exact Or.inl fun j hj => by omega
    | succ n ih =>
      intro hn
      rcases ih (by omega) with h | ⟨t, ht, h1, h2⟩
      · by_cases hb : ltB (atR r n) x = true
        · refine Or.inl fun j hj => ?_
          by_cases e : j = n
          · rw [e]; exact hb
          · exact h j (by omega)
        · exact Or.inr ⟨n, by omega, h, Bool.eq_false_iff.2 hb⟩
      · exact Or.inr ⟨t, by omega, h1, h2⟩
  rcases key r.length (Nat.le_refl _) with h | ⟨t, ht, h1, h2⟩
  · exact ⟨r.length, Nat.le_refl _, h, fun h => by omega⟩
  · exact ⟨t, by omega, h1, fun _ => h2⟩
theorem madeTo_ex (l : List (List UInt8)) : ∀ m, m ≤ l.length → ∃ r, MadeTo l m r
  | 0, _ => ⟨[], madeTo_zero l⟩
  | m + 1, h => by
    obtain ⟨r, hr⟩ := madeTo_ex l m (by omega)
    by_cases hb : loneB l m = true
    · obtain ⟨t, h1, h2, h3⟩ := place_ex r (atR l m)
      exact ⟨_, madeTo_put hr (by omega) hb h1 h2 h3⟩
    · exact ⟨r, madeTo_skip hr (Bool.eq_false_iff.2 hb)⟩
theorem made_ex (l : List (List UInt8)) : ∃ r, IsMade (· ∈ l) r := by
  obtain ⟨r, hr⟩ := madeTo_ex l l.length (Nat.le_refl _)
  exact ⟨r, madeTo_all hr⟩
/-- Out of a list of pairs' prefixes, too. -/
theorem both_ex (a b : List (List UInt8)) : ∃ r, IsMade (BothS a b) r := by
  obtain ⟨r, hr⟩ := made_ex ((b.filter fun x => hasB a x) ++ (a.filter fun x => hasB b x))
  refine ⟨r, made_congr hr fun x => ?_⟩
  unfold BothS
  rw [List.mem_append, List.mem_filter, List.mem_filter]

/-- The strings' sizes. -/
def Sz (m : Nat) (l : List ByteArray) : Prop := ∀ x, x ∈ l → x.size ≤ m
/-- A list that a call answered. -/
def Ans (R : List (List UInt8)) (code : Int) (e : Ending) (w' : World) : Prop :=
  ∃ (A : Option Addr) (c : Nat) (r : List ByteArray), e = .returned (.tuple #[.slice A R.length c, .int .i64 code]) ∧ RdS w'.heap.size w' A r ∧ dL r = R
def Ans1 (R : List (List UInt8)) (e : Ending) (w' : World) : Prop :=
  ∃ (A : Option Addr) (c : Nat) (r : List ByteArray), e = .returned (.slice A R.length c) ∧ RdS w'.heap.size w' A r ∧ dL r = R
theorem goodR_sizes {l : List ByteArray} (h : goodR (dL l) = true) : Sz 20 l := by
  intro x hx
  have hp := goodR_pre h (x := x.data.toList) (List.mem_map_of_mem hx)
  have hl : x.data.toList.length = x.size := Array.length_toList
  unfold preB at hp
  rw [Bool.or_eq_true] at hp
  rcases hp with e | e
  · rw [List.isEmpty_iff] at e
    rw [e] at hl
    simp at hl
    omega
  · have := (keyB_all e).2.2
    omega
theorem goodR_six {l : List ByteArray} (h : goodR (dL l) = true) : l.length ≤ 6 := by
  have := (goodR_iff.1 h).2
  rwa [dL_len] at this
theorem goodR_one (p : List UInt8) : goodR [p] = preB p := by
  rw [Bool.eq_iff_iff, goodR_iff]
  constructor
  · rintro ⟨h, _⟩
    exact (okAt_iff.1 (h 0 (by simp))).1
  · intro h
    refine ⟨fun i hi => ?_, by simp⟩
    have e : i = 0 := by simp at hi; omega
    subst e
    exact okAt_iff.2 ⟨h, Or.inl rfl, fun k hk hne => by simp at hk; omega⟩
end Go.Proofs.YtpjleeeligahaaaGreatDoor

namespace Go.Proofs.YtpjleeeligahaaaGreatDoor
open Go.RowKit

set_option maxHeartbeats 1000000 in
theorem equal_any {B C : Nat} (A A2 : Option Addr) (n c m d : Nat) (l l2 : List ByteArray) (w : World) (hn : l.length = n) (hr : RdS B w A l) (hm : n ≤ maxLen) (hn2 : l2.length = m) (hr2 : RdS C w A2 l2) :
    Calls Tryz.prog 134 #[.slice A n c, .slice A2 m d] w fun e w' => e = .returned (.bool (sameB l l2)) ∧ Drn w w' := by
  unfold maxLen at hm
  have HN := Lib.hid hn
  have HN2 := Lib.hid hn2
  clear hn hn2
  by_cases hnm : n = m
  · subst hnm
    go_enter Tryz.func134, Tryz.ntmps134
    go_wp2_with fail
    go_loopw [13] (fun i wr => ∃ k : Nat, k ≤ n ∧ i = .int .i64 k ∧ Hid (∀ j, j < k → atR (dL l) j = atR (dL l2) j) ∧ Drn w wr) (fun i _ => n - (intOf i).toNat)
    case atStart => exact ⟨0, Nat.zero_le _, rfl, fun j hj => by omega, Drn.refl _⟩
    case round =>
      obtain ⟨k, hk, rfl, hA, hD⟩ := hrel
      by_cases hlt : k < n
      · obtain ⟨x, hx⟩ := get_ex (show k < l.length by have := HN.out; omega)
        obtain ⟨y, hy⟩ := get_ex (show k < l2.length by have := HN2.out; omega)
        obtain ⟨ad, rfl, _, hc⟩ := (hr.keep (hD.below B) (Nat.le_refl _)) k x hx
        obtain ⟨ad2, rfl, _, hc2⟩ := (hr2.keep (hD.below C) (Nat.le_refl _)) k y hy
        have i1 : (0 : Int) ≤ (k : Int) := by omega
        have i2 : (k : Int) < (n : Int) := by omega
        have HX := Lib.hid hx
        have HY := Lib.hid hy
        clear hx hy
        by_cases hxy : x.data.toList = y.data.toList
        · have e0 : (x.toList == y.toList) = true := by rw [str_eqB, hxy]; simp
          have HA2 : Hid (∀ j, j < k + 1 → atR (dL l) j = atR (dL l2) j) := fun j hj => by
            by_cases e : j = k
            · subst e
              rw [dL_at HX.out, dL_at HY.out, hxy]
            · exact hA.out j (by omega)
          clear hxy hA
          go_wp2_with fail
          go_quiet (fail)
          go_wp2_with fail
          go_roundw
          case rel => exact ⟨k + 1, by omega, by go_num, HA2, hD.draws _⟩
          case measure => simp [intOf]; omega
        · have e0 : (x.toList == y.toList) = false := by rw [str_eqB]; simpa using hxy
          have R := Lib.hid (same_no HX.out HY.out hxy)
          clear hxy hA
          go_wp2_with fail
          go_quiet (fail)
          go_wp2_with fail
          go_ret
          exact ⟨ret_bool R.out.symm, hD.draws _⟩
      · have hq : ¬ (k : Int) < (n : Int) := by omega
        have R : Hid (sameB l l2 = true) := same_yes (HN.out.trans HN2.out.symm) fun j hj => hA.out j (by have := HN.out; omega)
        clear hA
        go_wp2_with fail
        go_ret
        exact ⟨ret_bool R.out.symm, hD⟩
  · have e0 : ((n : Int) != (m : Int)) = true := by rw [bne_iff_ne]; omega
    have R := Lib.hid (same_len (l := l) (l2 := l2) (by rw [HN.out, HN2.out]; exact hnm))
    clear hnm
    go_enter Tryz.func134, Tryz.ntmps134
    go_wp2_with fail
    go_ret
    exact ⟨ret_bool R.out.symm, Drn.refl _⟩

theorem reachGood_any (A : Option Addr) (n c : Nat) (l : List ByteArray) (w : World) (hn : l.length = n) (hr : RdS w.heap.size w A l) (hm1 : n ≤ maxLen) (hs1 : ∀ x, x ∈ l → x.size ≤ maxLen) :
    Calls Tryz.prog 92 #[.slice A n c] w fun e w' => e = .returned (.bool (goodR (dL l))) ∧ Below w.heap.size w w' := by
  have HG := Lib.hid (goodR_least (dL l))
  by_cases h6 : n ≤ 6
  · have i6 : (n : Int) ≤ 6 := by omega
    cases hp : (dL l).all preB with
    | true =>
      have HP := Lib.hid hp
      have R : Hid (sameB l (baL (leastOf (dL l))) = goodR (dL l)) := by
        show _ = _
        rw [HG.out, hp, dL_len, hn, decide_eq_true h6, Bool.true_and, Bool.true_and]
        unfold sameB
        rw [dL_baL]
      clear hp HG
      go_enter Tryz.func92, Tryz.ntmps92
      go_wp2_with fail
      refine (prefixes_is A n c l w true HP.out hn hr hm1 hs1).mono ?_
      rintro e w2 ⟨rfl, hb2⟩
      go_wp2_with fail
      refine (least_any A n c l w2 hn ((hr.keep hb2 (Nat.le_refl _)).more hb2.size) (by omega)).mono ?_
      rintro e w3 ⟨⟨A3, c3, r3, rfl, hO3, hd3⟩, hb3⟩
      have R2 : Hid (sameB l r3 = goodR (dL l)) := by
        rw [← R.out]
        unfold sameB
        rw [dL_baL, hd3]
        exact rfl
      have hl3 : r3.length = (leastOf (dL l)).length := hO3.len
      generalize (leastOf (dL l)).length = m3 at hO3 hl3 ⊢
      clear hd3 R
      go_wp2_with fail
      refine (equal_any A A3 n c m3 c3 l r3 w3 hn ((hr.keep hb2 (Nat.le_refl _)).keep hb3 hb2.size) hm1 hl3 hO3.rd).mono ?_
      rintro e w4 ⟨rfl, hD4⟩
      generalize sameB l r3 = v at R2 ⊢
      go_wp2_with fail
      go_ret
      exact ⟨ret_bool R2.out, (bt hb2 hb3).trans ((hD4.below _))⟩
    | false =>
      have HP := Lib.hid hp
      have R : Hid (goodR (dL l) = false) := by
        show _ = _
        rw [HG.out, hp]
        simp
      clear hp HG
      go_enter Tryz.func92, Tryz.ntmps92
      go_wp2_with fail
      refine (prefixes_is A n c l w false HP.out hn hr hm1 hs1).mono ?_
      rintro e w2 ⟨rfl, hb2⟩
      go_wp2_with fail
      go_ret
      exact ⟨ret_bool R.out.symm, hb2⟩
  · have i6 : (6 : Int) < (n : Int) := by omega
    have R : Hid (goodR (dL l) = false) := by
      show _ = _
      rw [HG.out, dL_len, hn, decide_eq_false h6, Bool.false_and]
    clear HG
    go_enter Tryz.func92, Tryz.ntmps92
    go_wp2_with fail
    go_ret
    exact ⟨ret_bool R.out.symm, Below.refl _ _⟩

theorem rd_own {base : Nat} {W : World} {A : Option Addr} {n c : Nat} {l : List ByteArray} (h : OwnS base W A n c l) {W' : World} (hb : Below W.heap.size W W') : RdS W'.heap.size W' A l := (h.rd.keep hb (Nat.le_refl _)).more hb.size
/-- Each that is left was there. -/
theorem leastOf_sz {l r : List ByteArray} (h : dL r = leastOf (dL l)) {N : Nat} (hs : ∀ x, x ∈ l → x.size ≤ N) : ∀ x, x ∈ r → x.size ≤ N := by
  intro x hx
  have h1 : x.data.toList ∈ leastOf (dL l) := by rw [← h]; exact List.mem_map_of_mem hx
  have h2 := (((least_made (dL l)).2 _).1 h1).1
  obtain ⟨y, hy, e⟩ := List.mem_map.1 h2
  have e1 : x.data.toList.length = x.size := Array.length_toList
  have e2 : y.data.toList.length = y.size := Array.length_toList
  rw [← e1, ← e, e2]
  exact hs y hy
end Go.Proofs.YtpjleeeligahaaaGreatDoor

namespace Go.Proofs.YtpjleeeligahaaaGreatDoor
open Go.RowKit

theorem below3_at {B b : Nat} {w W : World} (h : Below B w W) (hb : B ≤ b) (v0 v1 v2 : Value) : Below B w (((W.setCell ⟨b, 0, none⟩ v0).setCell ⟨b, 1, none⟩ v1).setCell ⟨b, 2, none⟩ v2) :=
  ((h.setCell (p := ⟨b, 0, none⟩) hb v0).setCell (p := ⟨b, 1, none⟩) hb v1).setCell (p := ⟨b, 2, none⟩) hb v2

set_option maxRecDepth 100000 in
set_option maxHeartbeats 1000000 in
theorem soundV_any (S : Addr) (g : Nat) (st : Rest) (k x : Int) (s : ByteArray) (w : World) (hR : RdrP S w g st) :
    Calls Tryz.prog 118 #[.pointer (some ⟨g, 0, none⟩), .agg #[.int .i64 k, .int .i64 x, .string s]] w fun e w' => e = .returned (soundM (.agg #[.int .i64 0, .int .i64 0, .string ⟨#[]⟩]) st (.agg #[.int .i64 k, .int .i64 x, .string s])) ∧ Below w.heap.size w w' := by
  have hlt := hR.lt
  cases st with
  | none =>
    obtain ⟨e1, he1, hb⟩ := hR
    obtain ⟨t1, v1, rfl⟩ := errP_nil he1
    have c1 := hb.cell 1
    go_enter Tryz.func118, Tryz.ntmps118
    go_wp2_with fail
    exact bodyPost_ret (v := .agg #[.int .i64 0, .int .i64 0, .string ⟨#[]⟩]) (by simp [results, Tryz.results118, go_sem]) rfl ⟨rfl, by repeat (first | exact Below.refl _ _ | (refine Below.alloc ?_ (by simp <;> omega) _) | (refine Below.setCell ?_ (by simp <;> omega) _))⟩
  | some b =>
    obtain ⟨hl, s1, hs, hb⟩ := hR
    have c1 := hb.cell 1
    go_enter Tryz.func118, Tryz.ntmps118
    go_wp2_with fail
    exact bodyPost_ret (v := .agg #[.int .i64 k, .int .i64 x, .string s]) (by simp [results, Tryz.results118, go_sem]) rfl ⟨rfl, by repeat (first | exact Below.refl _ _ | (refine Below.alloc ?_ (by simp <;> omega) _) | (refine Below.setCell ?_ (by simp <;> omega) _))⟩

theorem getM (st : Rest) (k x : Int) (l : List UInt8) (s : ByteArray) (hs : s.data.toList = l) :
    ∃ s2 : ByteArray, soundM (.agg #[.int .i64 0, .int .i64 0, .string ⟨#[]⟩]) st (.agg #[.int .i64 k, .int .i64 x, .string s]) = Value.agg #[.int .i64 (soundM valZ st (k, x, l)).1, .int .i64 (soundM valZ st (k, x, l)).2.1, .string s2] ∧ s2.data.toList = (soundM valZ st (k, x, l)).2.2 := by
  cases st with
  | none => exact ⟨⟨#[]⟩, rfl, rfl⟩
  | some b => exact ⟨s, rfl, hs⟩
theorem RdrP.set3 {S : Addr} {W : World} {g b : Nat} {st : Rest} (h : RdrP S W g st) (hne : b ≠ g) (v0 v1 v2 : Value) : RdrP S (((W.setCell ⟨b, 0, none⟩ v0).setCell ⟨b, 1, none⟩ v1).setCell ⟨b, 2, none⟩ v2) g st := by
  have hr : some b ≠ some g := by intro e; injection e; omega
  exact ((h.keep set_grown hr).keep set_grown hr).keep set_grown hr
theorem grown_set {w W : World} {g b i : Nat} {v : Value} (h : w.grownBy W (some g)) (hb : w.heap.size ≤ b) : w.grownBy (W.setCell ⟨b, i, none⟩ v) (some g) :=
  h.andThen (set_grown (g := b)) (fun j e => by injection e with e; exact .inl (by omega))
theorem textOf_most (st : Rest) (most : Nat) : (textOf st most).1.length ≤ most := by
  rw [← text_is]
  exact Nat.le_trans (takeM_len _ _) (numOf_lt st most).1
theorem good_one (x : Int) : goodB 1 x ⟨#[]⟩ = true := by
  unfold goodB
  simp
  rfl
theorem good_two (s : ByteArray) (h : s.size ≤ 40) : goodB 2 0 s = true := by
  unfold goodB
  simp [h]
theorem good_nat (k : Nat) (h1 : ¬ k = 1) (h2 : ¬ k = 2) : goodB (k : Int) 0 ⟨#[]⟩ = decide (k = 0) := by
  have h1' : ¬ (k : Int) = 1 := by omega
  have h2' : ¬ (k : Int) = 2 := by omega
  unfold goodB
  rw [Bool.eq_iff_iff]
  simp [h1', h2']
  intro _
  rfl
set_option maxRecDepth 100000 in
set_option maxHeartbeats 2000000 in
theorem rValue_any (S : Addr) (g : Nat) (st : Rest) (w : World) (hL : LaidS S w) (hR : RdrP S w g st) :
    Calls Tryz.prog 72 #[.pointer (some ⟨g, 0, none⟩)] w fun e w' => (∃ s : ByteArray, e = .returned (.agg #[.int .i64 (valOf st).1.1, .int .i64 (valOf st).1.2.1, .string s]) ∧ s.data.toList = (valOf st).1.2.2) ∧ RdrP S w' g (valOf st).2 ∧ w.grownBy w' (some g) := by
  rw [← val_is]
  unfold valM
  have hlt := hR.lt
  have hB := b0 w (.cells #[.int .i64 0, .int .i64 0, .string ⟨#[]⟩] 43)
  have hK0 := blk_new w #[.int .i64 0, .int .i64 0, .string ⟨#[]⟩] 43
  have HL := Lib.hid (fun W' (hg : w.grownBy W' (some g)) => hL.grown hR hg)
  have HM := Lib.hid (fun W (hb : Below w.heap.size w W) => small_any S g st W (hL.keep hb) (hR.below hb))
  have hn := (numOf_lt st 9223372036854775807).1
  generalize numOf st 9223372036854775807 = p at HM hn ⊢
  obtain ⟨k, st1⟩ := p
  dsimp only at HM hn ⊢
  clear hL hR
  have hk3 : k = 1 ∨ k = 2 ∨ (¬ k = 1 ∧ ¬ k = 2) := by omega
  rcases hk3 with rfl | rfl | ⟨hk1, hk2⟩
  · rw [if_pos rfl]
    have HI := Lib.hid (fun W hL hR => rInt_any S g st1 W hL hR)
    generalize intOfR st1 = q at HI ⊢
    obtain ⟨x, st2⟩ := q
    dsimp only at HI ⊢
    go_enter Tryz.func72, Tryz.ntmps72
    go_wp2_with fail
    have hM := HM.out _ hB
    generalize w.alloc (.cells #[.int .i64 0, .int .i64 0, .string ⟨#[]⟩] 43) = W at hB hK0 hM ⊢
    have hG0 := grown_below hB (some g)
    refine hM.mono ?_
    rintro e w1 ⟨rfl, hR1, hg1⟩
    have hK1 := blk_grown hK0 hg1 (by intro e; injection e; omega)
    have hG1 := hG0.trans hg1
    have hvb := hG1.size
    clear hM hK0 hG0 hg1 hB
    generalize hrb : w.heap.size = rb at hK1 hlt ⊢
    go_wp2_with fail
    have hB1 := b0 w1 (.cells #[.int .i64 1, .int .i64 0, .string ⟨#[]⟩] 43)
    have hV1 := blk_new w1 #[.int .i64 1, .int .i64 0, .string ⟨#[]⟩] 43
    have hlg1 := hR1.lt
    have hlb1 := hK1.lt
    replace hK1 := hK1.keep hB1
    replace hR1 := hR1.below hB1
    replace hG1 := hG1.trans (grown_below hB1 (some g))
    generalize w1.alloc (.cells #[.int .i64 1, .int .i64 0, .string ⟨#[]⟩] 43) = W1 at hV1 hK1 hR1 hG1 ⊢
    generalize w1.heap.size = vb at hV1 hlg1 hlb1 hvb ⊢
    have hne1 : vb ≠ g := by omega
    have hne2 : vb ≠ rb := by omega
    have hne3 : rb ≠ g := by omega
    refine (HI.out W1 (HL.out W1 hG1) hR1).mono ?_
    rintro e w2 ⟨rfl, hR2, hg2⟩
    have hV2 := blk_grown hV1 hg2 (by intro e; injection e; omega)
    have hK2 := blk_grown hK1 hg2 (by intro e; injection e; omega)
    have hG2 := hG1.trans hg2
    clear hV1 hK1 hg2 hG1 hR1 hB1
    obtain ⟨c0, c1, c2, c3⟩ := hV2.c3
    obtain ⟨f0, f1, f2⟩ := hV2.f3
    go_wp2_with fail
    have hV3 : Blk (w2.setCell ⟨vb, 1, none⟩ (.int .i64 x)) vb #[.int .i64 1, .int .i64 x, .string ⟨#[]⟩] 43 := hV2.set 1 (.int .i64 x)
    have hK3 := blk_grown hK2 (set_grown (W := w2) (g := vb) (i := 1) (v := (.int .i64 x))) (by intro e; injection e; omega)
    have hR3 := hR2.keep (set_grown (W := w2) (g := vb) (i := 1) (v := (.int .i64 x))) (by intro e; injection e; omega)
    have hG3 := grown_set (i := 1) (v := (.int .i64 x)) hG2 hvb
    clear c0 c1 c2 c3 f0 f1 f2 hV2 hK2 hR2 hG2
    generalize w2.setCell ⟨vb, 1, none⟩ (.int .i64 x) = W2 at hV3 hK3 hR3 hG3 ⊢
    refine (good_any 1 x ⟨#[]⟩ W2 (by decide)).mono ?_
    rintro e w3 ⟨rfl, hb3⟩
    rw [good_one x]
    replace hV3 := hV3.keep hb3
    replace hK3 := hK3.keep hb3
    replace hR3 := hR3.below hb3
    replace hG3 := hG3.trans (grown_below hb3 (some g))
    clear hb3
    obtain ⟨c0, c1, c2, c3⟩ := hV3.c3
    go_wp2_with fail
    refine (must_any S g _ _ _ w3 hR3).mono ?_
    rintro e w4 ⟨rfl, hR4, hg4⟩
    replace hV3 := blk_grown hV3 hg4 (by intro e; injection e; omega)
    replace hK3 := blk_grown hK3 hg4 (by intro e; injection e; omega)
    replace hG3 := hG3.trans hg4
    clear hg4 hR3 c0 c1 c2 c3
    obtain ⟨c0, c1, c2, c3⟩ := hV3.c3
    go_wp2_with fail
    refine (soundV_any S g _ 1 x ⟨#[]⟩ w4 hR4).mono ?_
    rintro e w5 ⟨rfl, hb5⟩
    obtain ⟨s9, e9, hs9⟩ := getM (mustM true st2) 1 x [] ⟨#[]⟩ rfl
    rw [e9]
    replace hK3 := hK3.keep hb5
    replace hR4 := hR4.below hb5
    replace hG3 := hG3.trans (grown_below hb5 (some g))
    have hS9 := Lib.hid hs9
    clear hb5 c0 c1 c2 c3 hV3 e9 hs9
    obtain ⟨c0, c1, c2, c3⟩ := hK3.c3
    obtain ⟨f0, f1, f2⟩ := hK3.f3
    go_wp2_with fail
    exact bodyPost_ret (v := .agg #[.int .i64 (soundM valZ (mustM true st2) (1, x, [])).1, .int .i64 (soundM valZ (mustM true st2) (1, x, [])).2.1, .string s9]) (by simp [results, Tryz.results72, go_sem, c0, c1, c2]) rfl ⟨⟨s9, rfl, hS9.out⟩, hR4.set3 hne3 _ _ _, grown_set (grown_set (grown_set hG3 (by omega)) (by omega)) (by omega)⟩
  · rw [if_neg (by omega), if_pos rfl]
    have HI := Lib.hid (fun W hL hR => rText_any S g st1 40 W hL hR (by omega))
    have h40 := textOf_most st1 40
    generalize textOf st1 40 = q at HI h40 ⊢
    obtain ⟨l, st2⟩ := q
    dsimp only at HI h40 ⊢
    go_enter Tryz.func72, Tryz.ntmps72
    go_wp2_with fail
    have hM := HM.out _ hB
    generalize w.alloc (.cells #[.int .i64 0, .int .i64 0, .string ⟨#[]⟩] 43) = W at hB hK0 hM ⊢
    have hG0 := grown_below hB (some g)
    refine hM.mono ?_
    rintro e w1 ⟨rfl, hR1, hg1⟩
    have hK1 := blk_grown hK0 hg1 (by intro e; injection e; omega)
    have hG1 := hG0.trans hg1
    have hvb := hG1.size
    clear hM hK0 hG0 hg1 hB
    generalize hrb : w.heap.size = rb at hK1 hlt ⊢
    go_wp2_with fail
    have hB1 := b0 w1 (.cells #[.int .i64 2, .int .i64 0, .string ⟨#[]⟩] 43)
    have hV1 := blk_new w1 #[.int .i64 2, .int .i64 0, .string ⟨#[]⟩] 43
    have hlg1 := hR1.lt
    have hlb1 := hK1.lt
    replace hK1 := hK1.keep hB1
    replace hR1 := hR1.below hB1
    replace hG1 := hG1.trans (grown_below hB1 (some g))
    generalize w1.alloc (.cells #[.int .i64 2, .int .i64 0, .string ⟨#[]⟩] 43) = W1 at hV1 hK1 hR1 hG1 ⊢
    generalize w1.heap.size = vb at hV1 hlg1 hlb1 hvb ⊢
    have hne1 : vb ≠ g := by omega
    have hne2 : vb ≠ rb := by omega
    have hne3 : rb ≠ g := by omega
    refine (HI.out W1 (HL.out W1 hG1) hR1).mono ?_
    rintro e w2 ⟨⟨s, rfl, hs⟩, hR2, hg2⟩
    have hV2 := blk_grown hV1 hg2 (by intro e; injection e; omega)
    have hK2 := blk_grown hK1 hg2 (by intro e; injection e; omega)
    have hG2 := hG1.trans hg2
    clear hV1 hK1 hg2 hG1 hR1 hB1
    obtain ⟨c0, c1, c2, c3⟩ := hV2.c3
    obtain ⟨f0, f1, f2⟩ := hV2.f3
    go_wp2_with fail
    have hV3 : Blk (w2.setCell ⟨vb, 2, none⟩ (.string s)) vb #[.int .i64 2, .int .i64 0, .string s] 43 := hV2.set 2 (.string s)
    have hK3 := blk_grown hK2 (set_grown (W := w2) (g := vb) (i := 2) (v := (.string s))) (by intro e; injection e; omega)
    have hR3 := hR2.keep (set_grown (W := w2) (g := vb) (i := 2) (v := (.string s))) (by intro e; injection e; omega)
    have hG3 := grown_set (i := 2) (v := (.string s)) hG2 hvb
    clear c0 c1 c2 c3 f0 f1 f2 hV2 hK2 hR2 hG2
    generalize w2.setCell ⟨vb, 2, none⟩ (.string s) = W2 at hV3 hK3 hR3 hG3 ⊢
    have hs40 : s.size ≤ 40 := by
      have : s.size = s.data.toList.length := Array.length_toList.symm
      rw [this, hs]
      exact h40
    refine (good_any 2 0 s W2 (by unfold maxLen; omega)).mono ?_
    rintro e w3 ⟨rfl, hb3⟩
    rw [good_two s hs40]
    replace hV3 := hV3.keep hb3
    replace hK3 := hK3.keep hb3
    replace hR3 := hR3.below hb3
    replace hG3 := hG3.trans (grown_below hb3 (some g))
    clear hb3
    obtain ⟨c0, c1, c2, c3⟩ := hV3.c3
    go_wp2_with fail
    refine (must_any S g _ _ _ w3 hR3).mono ?_
    rintro e w4 ⟨rfl, hR4, hg4⟩
    replace hV3 := blk_grown hV3 hg4 (by intro e; injection e; omega)
    replace hK3 := blk_grown hK3 hg4 (by intro e; injection e; omega)
    replace hG3 := hG3.trans hg4
    clear hg4 hR3 c0 c1 c2 c3
    obtain ⟨c0, c1, c2, c3⟩ := hV3.c3
    go_wp2_with fail
    refine (soundV_any S g _ 2 0 s w4 hR4).mono ?_
    rintro e w5 ⟨rfl, hb5⟩
    obtain ⟨s9, e9, hs9⟩ := getM (mustM true st2) 2 0 l s hs
    rw [e9]
    replace hK3 := hK3.keep hb5
    replace hR4 := hR4.below hb5
    replace hG3 := hG3.trans (grown_below hb5 (some g))
    have hS9 := Lib.hid hs9
    clear hb5 c0 c1 c2 c3 hV3 e9 hs9
    obtain ⟨c0, c1, c2, c3⟩ := hK3.c3
    obtain ⟨f0, f1, f2⟩ := hK3.f3
    go_wp2_with fail
    exact bodyPost_ret (v := .agg #[.int .i64 (soundM valZ (mustM true st2) (2, 0, l)).1, .int .i64 (soundM valZ (mustM true st2) (2, 0, l)).2.1, .string s9]) (by simp [results, Tryz.results72, go_sem, c0, c1, c2]) rfl ⟨⟨s9, rfl, hS9.out⟩, hR4.set3 hne3 _ _ _, grown_set (grown_set (grown_set hG3 (by omega)) (by omega)) (by omega)⟩
  · rw [if_neg hk1, if_neg hk2]
    have hq1 : ¬ (k : Int) = 1 := by omega
    have hq2 : ¬ (k : Int) = 2 := by omega
    go_enter Tryz.func72, Tryz.ntmps72
    go_wp2_with fail
    have hM := HM.out _ hB
    generalize w.alloc (.cells #[.int .i64 0, .int .i64 0, .string ⟨#[]⟩] 43) = W at hB hK0 hM ⊢
    have hG0 := grown_below hB (some g)
    refine hM.mono ?_
    rintro e w1 ⟨rfl, hR1, hg1⟩
    have hK1 := blk_grown hK0 hg1 (by intro e; injection e; omega)
    have hG1 := hG0.trans hg1
    have hvb := hG1.size
    clear hM hK0 hG0 hg1 hB
    generalize hrb : w.heap.size = rb at hK1 hlt ⊢
    go_wp2_with fail
    have hB1 := b0 w1 (.cells #[.int .i64 k, .int .i64 0, .string ⟨#[]⟩] 43)
    have hV1 := blk_new w1 #[.int .i64 k, .int .i64 0, .string ⟨#[]⟩] 43
    have hlg1 := hR1.lt
    have hlb1 := hK1.lt
    replace hK1 := hK1.keep hB1
    replace hR1 := hR1.below hB1
    replace hG1 := hG1.trans (grown_below hB1 (some g))
    generalize w1.alloc (.cells #[.int .i64 k, .int .i64 0, .string ⟨#[]⟩] 43) = W1 at hV1 hK1 hR1 hG1 ⊢
    generalize w1.heap.size = vb at hV1 hlg1 hlb1 hvb ⊢
    have hne1 : vb ≠ g := by omega
    have hne2 : vb ≠ rb := by omega
    have hne3 : rb ≠ g := by omega
    have hV3 := hV1
    have hK3 := hK1
    have hR3 := hR1
    have hG3 := hG1
    clear hV1 hK1 hR1 hG1 hB1
    have hzz : soundM valZ (mustM (decide (k = 0)) st1) ((k : Int), 0, []) = valZ := by
      by_cases hk0 : k = 0
      · subst hk0
        cases st1 <;> rfl
      · simp [mustM, hk0, soundM]
    generalize W1 = W2 at hV3 hK3 hR3 hG3 ⊢
    refine (good_any k 0 ⟨#[]⟩ W2 (by decide)).mono ?_
    rintro e w3 ⟨rfl, hb3⟩
    rw [good_nat k hk1 hk2]
    replace hV3 := hV3.keep hb3
    replace hK3 := hK3.keep hb3
    replace hR3 := hR3.below hb3
    replace hG3 := hG3.trans (grown_below hb3 (some g))
    clear hb3
    obtain ⟨c0, c1, c2, c3⟩ := hV3.c3
    go_wp2_with fail
    refine (must_any S g _ _ _ w3 hR3).mono ?_
    rintro e w4 ⟨rfl, hR4, hg4⟩
    replace hV3 := blk_grown hV3 hg4 (by intro e; injection e; omega)
    replace hK3 := blk_grown hK3 hg4 (by intro e; injection e; omega)
    replace hG3 := hG3.trans hg4
    clear hg4 hR3 c0 c1 c2 c3
    obtain ⟨c0, c1, c2, c3⟩ := hV3.c3
    go_wp2_with fail
    refine (soundV_any S g _ k 0 ⟨#[]⟩ w4 hR4).mono ?_
    rintro e w5 ⟨rfl, hb5⟩
    obtain ⟨s9, e9, hs9⟩ := getM (mustM (decide (k = 0)) st1) k 0 [] ⟨#[]⟩ rfl
    rw [hzz] at e9 hs9
    rw [e9]
    replace hK3 := hK3.keep hb5
    replace hR4 := hR4.below hb5
    replace hG3 := hG3.trans (grown_below hb5 (some g))
    have hS9 := Lib.hid hs9
    clear hb5 c0 c1 c2 c3 hV3 e9 hs9
    obtain ⟨c0, c1, c2, c3⟩ := hK3.c3
    obtain ⟨f0, f1, f2⟩ := hK3.f3
    go_wp2_with fail
    exact bodyPost_ret (v := .agg #[.int .i64 valZ.1, .int .i64 valZ.2.1, .string s9]) (by simp [results, Tryz.results72, go_sem, c0, c1, c2]) rfl ⟨⟨s9, rfl, hS9.out⟩, hR4.set3 hne3 _ _ _, grown_set (grown_set (grown_set hG3 (by omega)) (by omega)) (by omega)⟩
end Go.Proofs.YtpjleeeligahaaaGreatDoor

namespace Go.Proofs.YtpjleeeligahaaaGreatDoor

/-- What a reader takes of a write behind its three numbers. -/
def wrX (d q kk : Nat) (st3 : Rest) : Wr := ⟨(d : Int), (q : Int), (kk : Int), ⟨(textOf st3 20).1.toArray⟩, (valOf (textOf st3 20).2).1.1, (valOf (textOf st3 20).2).1.2.1, ⟨(valOf (textOf st3 20).2).1.2.2.toArray⟩, (valOf (valOf (textOf st3 20).2).2).1.1, (valOf (valOf (textOf st3 20).2).2).1.2.1, ⟨(valOf (valOf (textOf st3 20).2).2).1.2.2.toArray⟩⟩
def wrS (d q kk : Nat) (st3 : Rest) : Rest := mustM (wrX d q kk st3).good (valOf (valOf (textOf st3 20).2).2).2
def wrC2 (d q kk : Nat) (st3 : Rest) : Wr × Rest := (soundM wrNo (wrS d q kk st3) (wrX d q kk st3), wrS d q kk st3)
def wrM (m : Nat) (st : Rest) : Wr × Rest := wrC2 (numOf st m).1 (numOf (numOf st m).2 m).1 (numOf (numOf (numOf st m).2 m).2 m).1 (numOf (numOf (numOf st m).2 m).2 m).2
theorem wrC_none (d q kk : Nat) : wrC2 d q kk none = (wrNo, none) := by
  have e : wrS d q kk none = none := mustM_none _
  unfold wrC2
  rw [e]
  rfl
theorem wrC_bad {d q kk : Nat} {st3 : Rest} (h : (wrX d q kk st3).good = false) : wrC2 d q kk st3 = (wrNo, none) := by
  have e : wrS d q kk st3 = none := by unfold wrS; rw [h]; rfl
  unfold wrC2
  rw [e]
  rfl
theorem wrC_big {d q kk : Nat} (st3 : Rest) (h : 1000 < d ∨ 1000 < q ∨ 1000 < kk) : wrC2 d q kk st3 = (wrNo, none) := by
  refine wrC_bad ?_
  cases hg : (wrX d q kk st3).good with
  | false => rfl
  | true =>
    have := good_in hg
    have h1 : (wrX d q kk st3).dev = (d : Int) := rfl
    have h2 : (wrX d q kk st3).seq = (q : Int) := rfl
    have h3 : (wrX d q kk st3).K = (kk : Int) := rfl
    rw [h1, h2, h3] at this
    omega
theorem wrM_less (st : Rest) : wrM 9223372036854775807 st = wrM 1000 st := by
  have hM : (1000 : Nat) ≤ 9223372036854775807 := by omega
  unfold wrM
  have e1 := numOf_most st hM
  by_cases h1 : (numOf st 9223372036854775807).1 ≤ 1000
  · rw [if_pos h1] at e1
    rw [e1]
    generalize numOf st 9223372036854775807 = p1
    have e2 := numOf_most p1.2 hM
    by_cases h2 : (numOf p1.2 9223372036854775807).1 ≤ 1000
    · rw [if_pos h2] at e2
      rw [e2]
      generalize numOf p1.2 9223372036854775807 = p2
      have e3 := numOf_most p2.2 hM
      by_cases h3 : (numOf p2.2 9223372036854775807).1 ≤ 1000
      · rw [if_pos h3] at e3
        rw [e3]
      · rw [if_neg h3] at e3
        rw [e3, wrC_big _ (by omega)]
        exact (wrC_none _ _ _).symm
    · rw [if_neg h2] at e2
      rw [e2, wrC_big _ (by omega)]
      exact (wrC_none _ _ _).symm
  · rw [if_neg h1] at e1
    rw [e1, wrC_big _ (by omega)]
    exact (wrC_none _ _ _).symm

theorem numOf_at (l : List UInt8) (j : Nat) : numOf (some (l.drop (posW l j))) 1000 = if (numW l j).2 = 0 then (0, none) else ((numW l j).1, some (l.drop (posW l (j + 1)))) := by
  rw [posW_succ, ← List.drop_drop]
  rfl
theorem wr_is (st : Rest) : wrM 9223372036854775807 st = wrOf st := by
  rw [wrM_less]
  cases st with
  | none => exact wrC_none _ _ _
  | some l =>
    have hno : ¬ stdW l → wrOf (some l) = (wrNo, none) := fun h => by
      unfold wrOf
      dsimp only
      rw [takeWr_no h]
      rfl
    unfold wrM
    have e0 : numOf (some l) 1000 = if (numW l 0).2 = 0 then (0, none) else ((numW l 0).1, some (l.drop (posW l 1))) := numOf_at l 0
    by_cases h0 : (numW l 0).2 = 0
    · rw [if_pos h0] at e0
      rw [e0, hno (fun h => h.1 0 (by omega) h0)]
      exact wrC_none _ _ _
    rw [if_neg h0] at e0
    rw [e0]
    dsimp only
    have e1 : numOf (some (l.drop (posW l 1))) 1000 = if (numW l 1).2 = 0 then (0, none) else ((numW l 1).1, some (l.drop (posW l 2))) := numOf_at l 1
    by_cases h1 : (numW l 1).2 = 0
    · rw [if_pos h1] at e1
      rw [e1, hno (fun h => h.1 1 (by omega) h1)]
      exact wrC_none _ _ _
    rw [if_neg h1] at e1
    rw [e1]
    dsimp only
    have e2 : numOf (some (l.drop (posW l 2))) 1000 = if (numW l 2).2 = 0 then (0, none) else ((numW l 2).1, some (l.drop (posW l 3))) := numOf_at l 2
    by_cases h2 : (numW l 2).2 = 0
    · rw [if_pos h2] at e2
      rw [e2, hno (fun h => h.1 2 (by omega) h2)]
      exact wrC_none _ _ _
    rw [if_neg h2] at e2
    rw [e2]
    dsimp only
    have e3 : textOf (some (l.drop (posW l 3))) 20 = if (textW l).2 = 0 then ([], none) else ((textW l).1, some (l.drop (posW l 3 + (textW l).2))) := by
      rw [← List.drop_drop]
      rfl
    have e4 : valOf (some (l.drop (posW l 3 + (textW l).2))) = if (val1W l).2 = 0 then (valZ, none) else ((val1W l).1, some (l.drop (posW l 3 + (textW l).2 + (val1W l).2))) := by
      rw [show l.drop (posW l 3 + (textW l).2 + (val1W l).2) = (l.drop (posW l 3 + (textW l).2)).drop (val1W l).2 from List.drop_drop.symm]
      rfl
    have e5 : valOf (some (l.drop (posW l 3 + (textW l).2 + (val1W l).2))) = if (val2W l).2 = 0 then (valZ, none) else ((val2W l).1, some (l.drop (posW l 3 + (textW l).2 + (val1W l).2 + (val2W l).2))) := by
      rw [show l.drop (posW l 3 + (textW l).2 + (val1W l).2 + (val2W l).2) = (l.drop (posW l 3 + (textW l).2 + (val1W l).2)).drop (val2W l).2 from List.drop_drop.symm]
      rfl
    have hz : valOf none = (valZ, none) := rfl
    by_cases h3 : (textW l).2 = 0
    · rw [if_pos h3] at e3
      rw [hno (fun h => h.2.1 h3)]
      unfold wrC2 wrS
      rw [e3]
      dsimp only
      rw [hz]
      dsimp only
      rw [hz, mustM_none]
      rfl
    rw [if_neg h3] at e3
    by_cases h4 : (val1W l).2 = 0
    · rw [if_pos h4] at e4
      rw [hno (fun h => h.2.2.1 h4)]
      unfold wrC2 wrS
      rw [e3]
      dsimp only
      rw [e4]
      dsimp only
      rw [hz, mustM_none]
      rfl
    rw [if_neg h4] at e4
    by_cases h5 : (val2W l).2 = 0
    · rw [if_pos h5] at e5
      rw [hno (fun h => h.2.2.2.1 h5)]
      unfold wrC2 wrS
      rw [e3]
      dsimp only
      rw [e4]
      dsimp only
      rw [e5, mustM_none]
      rfl
    rw [if_neg h5] at e5
    have ex : wrX (numW l 0).1 (numW l 1).1 (numW l 2).1 (some (l.drop (posW l 3))) = gotW l := by
      simp only [wrX, e3, e4, e5, gotW]
    have es : wrS (numW l 0).1 (numW l 1).1 (numW l 2).1 (some (l.drop (posW l 3))) = mustM (gotW l).good (some (l.drop (posW l 3 + (textW l).2 + (val1W l).2 + (val2W l).2))) := by
      unfold wrS
      rw [ex, e3]
      dsimp only
      rw [e4]
      dsimp only
      rw [e5]
    unfold wrC2
    rw [ex, es]
    cases hg : (gotW l).good with
    | false =>
      rw [hno (fun h => by have h9 := h.2.2.2.2; rw [hg] at h9; cases h9)]
      rfl
    | true =>
      have hstd : stdW l := ⟨fun m hm => by
        have : m = 0 ∨ m = 1 ∨ m = 2 := by omega
        rcases this with rfl | rfl | rfl
        · exact h0
        · exact h1
        · exact h2, h3, h4, h5, hg⟩
      unfold wrOf
      dsimp only
      rw [takeWr_yes hstd]
      have hpos : ¬ posW l 3 + (textW l).2 + (val1W l).2 + (val2W l).2 = 0 := by omega
      rw [if_neg hpos]
      rfl

theorem int_fits (st : Rest) : -9223372036854775808 ≤ (intOfR st).1 ∧ (intOfR st).1 ≤ 9223372036854775807 := by
  cases st with
  | none => exact ⟨by show (-9223372036854775808 : Int) ≤ 0; omega, by show (0 : Int) ≤ 9223372036854775807; omega⟩
  | some b =>
    unfold intOfR takeIntB
    dsimp only
    by_cases h : (takeNum b 18446744073709551615).2 = 0
    · rw [if_pos h]
      exact ⟨by show (-9223372036854775808 : Int) ≤ 0; omega, by show (0 : Int) ≤ 9223372036854775807; omega⟩
    · rw [if_neg h]
      exact unzig_in (num_take (show takeNum b 18446744073709551615 = ((takeNum b 18446744073709551615).1, (takeNum b 18446744073709551615).2) from rfl) h).2.1
theorem val_fits (st : Rest) : (-9223372036854775808 ≤ (valOf st).1.2.1 ∧ (valOf st).1.2.1 ≤ 9223372036854775807) ∧ (valOf st).1.2.2.length ≤ 40 := by
  have hz : ((-9223372036854775808 : Int) ≤ valZ.2.1 ∧ valZ.2.1 ≤ 9223372036854775807) ∧ valZ.2.2.length ≤ 40 := ⟨⟨by show (-9223372036854775808 : Int) ≤ 0; omega, by show (0 : Int) ≤ 9223372036854775807; omega⟩, Nat.zero_le _⟩
  have hs : ∀ (st : Rest) (v : Int × Int × List UInt8), ((-9223372036854775808 ≤ v.2.1 ∧ v.2.1 ≤ 9223372036854775807) ∧ v.2.2.length ≤ 40) → ((-9223372036854775808 ≤ (soundM valZ st v).2.1 ∧ (soundM valZ st v).2.1 ≤ 9223372036854775807) ∧ (soundM valZ st v).2.2.length ≤ 40) := by
    intro st v hv
    cases st with
    | none => exact hz
    | some b => exact hv
  rw [← val_is]
  unfold valM
  split
  · exact hs _ _ ⟨int_fits _, Nat.zero_le _⟩
  · split
    · exact hs _ _ ⟨⟨by show (-9223372036854775808 : Int) ≤ 0; omega, by show (0 : Int) ≤ 9223372036854775807; omega⟩, by rw [← text_is]; exact Nat.le_trans (takeM_len _ _) (numOf_lt _ 40).1⟩
    · exact hz
end Go.Proofs.YtpjleeeligahaaaGreatDoor
