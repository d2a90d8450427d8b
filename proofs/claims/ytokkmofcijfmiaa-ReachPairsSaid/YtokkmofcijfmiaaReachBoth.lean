/-
  WHAT IS PROVED: spinneyref04.Both makes the reach of what both have (IsMade of BothS), for slices of at most 6 strings. Conditions: those typed in the theorem.
-/
import Derived.Test.YtokkmofcijfmiaaReachMade
namespace Go.Proofs.Ytokkmofcijfmiaa
open Go.RowKit

/-- What a pair gives. -/
def pairV (a b : List (List UInt8)) (i k : Nat) : Option (List UInt8) :=
  if begB (atR a i) (atR b k) = true then some (atR b k) else if begB (atR b k) (atR a i) = true then some (atR a i) else none
/-- What the pairs ahead of (i, k) gave. -/
def BothTo (a b : List (List UInt8)) (i k : Nat) (r : List (List UInt8)) : Prop :=
  ∀ v, v ∈ r ↔ ∃ i' k', (i' < i ∧ k' < b.length ∨ i' = i ∧ k' < k) ∧ pairV a b i' k' = some v
theorem bothTo_zero (a b : List (List UInt8)) : BothTo a b 0 0 [] := fun v => ⟨fun h => by simp at h, fun ⟨i', k', h, _⟩ => by omega⟩
theorem bothTo_row {a b : List (List UInt8)} {i : Nat} {r : List (List UInt8)} (h : BothTo a b i b.length r) : BothTo a b (i + 1) 0 r := by
  intro v
  rw [h]
  constructor
  · rintro ⟨i', k', h1, h2⟩
    exact ⟨i', k', Or.inl (by omega), h2⟩
  · rintro ⟨i', k', h1, h2⟩
    exact ⟨i', k', by omega, h2⟩
theorem bothTo_skip {a b : List (List UInt8)} {i k : Nat} {r : List (List UInt8)} (h : BothTo a b i k r) (hn : pairV a b i k = none) : BothTo a b i (k + 1) r := by
  intro v
  rw [h]
  constructor
  · rintro ⟨i', k', h1, h2⟩
    exact ⟨i', k', by omega, h2⟩
  · rintro ⟨i', k', h1, h2⟩
    by_cases e : i' = i ∧ k' = k
    · rw [e.1, e.2, hn] at h2
      cases h2
    · exact ⟨i', k', by omega, h2⟩
theorem bothTo_put {a b : List (List UInt8)} {i k : Nat} {r : List (List UInt8)} {x : List UInt8} (h : BothTo a b i k r) (hn : pairV a b i k = some x) : BothTo a b i (k + 1) (r ++ [x]) := by
  intro v
  rw [List.mem_append, List.mem_singleton, h]
  constructor
  · rintro (⟨i', k', h1, h2⟩ | rfl)
    · exact ⟨i', k', by omega, h2⟩
    · exact ⟨i, k, Or.inr ⟨rfl, by omega⟩, hn⟩
  · rintro ⟨i', k', h1, h2⟩
    by_cases e : i' = i ∧ k' = k
    · rw [e.1, e.2, hn] at h2
      injection h2 with h2
      exact Or.inr h2.symm
    · exact Or.inl ⟨i', k', by omega, h2⟩
theorem begB_anti {p q : List UInt8} (h : begB p q = true) (k : begB q p = true) : p = q :=
  List.IsPrefix.eq_of_length (begB_iff.1 h) (Nat.le_antisymm (begB_iff.1 h).length_le (begB_iff.1 k).length_le)
theorem bothTo_all {a b : List (List UInt8)} {r : List (List UInt8)} (h : BothTo a b a.length 0 r) (v : List UInt8) : v ∈ r ↔ BothS a b v := by
  rw [h]
  unfold BothS
  constructor
  · rintro ⟨i, k, h1, h2⟩
    have hi : i < a.length := by omega
    have hk : k < b.length := by omega
    unfold pairV at h2
    split at h2
    · injection h2 with h2
      subst h2
      exact Or.inl ⟨atR_mem hk, hasB_iff.2 ⟨_, atR_mem hi, by assumption⟩⟩
    · split at h2
      · injection h2 with h2
        subst h2
        exact Or.inr ⟨atR_mem hi, hasB_iff.2 ⟨_, atR_mem hk, by assumption⟩⟩
      · cases h2
  · rintro (⟨hv, hb⟩ | ⟨hv, hb⟩)
    · obtain ⟨k, hk, rfl⟩ := mem_atR hv
      obtain ⟨p, hp, hpb⟩ := hasB_iff.1 hb
      obtain ⟨i, hi, rfl⟩ := mem_atR hp
      exact ⟨i, k, Or.inl ⟨hi, hk⟩, by unfold pairV; rw [if_pos hpb]⟩
    · obtain ⟨i, hi, rfl⟩ := mem_atR hv
      obtain ⟨p, hp, hpb⟩ := hasB_iff.1 hb
      obtain ⟨k, hk, rfl⟩ := mem_atR hp
      refine ⟨i, k, Or.inl ⟨hi, hk⟩, ?_⟩
      unfold pairV
      by_cases e : begB (atR a i) (atR b k) = true
      · rw [if_pos e, begB_anti e hpb]
      · rw [if_neg e, if_pos hpb]

/-- What Both answers. -/
def BothP (w : World) (a b : List ByteArray) (e : Ending) (w' : World) : Prop :=
  (∃ (A' : Option Addr) (n' c' : Nat) (r : List ByteArray), e = .returned (.slice A' n' c') ∧ OwnS w.heap.size w' A' n' c' r ∧ IsMade (BothS (dL a) (dL b)) (dL r) ∧ (∀ x, x ∈ r → x ∈ a ∨ x ∈ b)) ∧ Below w.heap.size w w'
theorem madeTo_is {l r : List (List UInt8)} {m : Nat} (h : MadeTo l m r) (hm : m = l.length) : IsMade (· ∈ l) r := by subst hm; exact madeTo_all h

set_option maxRecDepth 100000 in
set_option maxHeartbeats 8000000 in
theorem refBoth_any {B C : Nat} (A A2 : Option Addr) (n c m d : Nat) (a b : List ByteArray) (w : World) (hn : a.length = n) (hr : RdS B w A a) (hB : B ≤ w.heap.size) (hm : n ≤ 6) (hs : ∀ x, x ∈ a → x.size ≤ maxLen)
    (hn2 : b.length = m) (hr2 : RdS C w A2 b) (hC : C ≤ w.heap.size) (hm2 : m ≤ 6) (hs2 : ∀ x, x ∈ b → x.size ≤ maxLen) :
    Calls Try.prog 18 #[.slice A n c, .slice A2 m d] w fun e w' => BothP w a b e w' := by
  obtain ⟨i0, hi0, hz0, hz1, hz2⟩ := info_parts str_info
  have HN := Lib.hid hn
  have HS := Lib.hid hs
  have HN2 := Lib.hid hn2
  have HS2 := Lib.hid hs2
  clear hn hs hn2 hs2
  go_enter Try.func18, Try.ntmps18
  go_wp2_with fail
  go_loopw [5, 10] (fun out i wr => ∃ (k : Nat) (A3 : Option Addr) (n3 c3 : Nat) (r : List ByteArray), k ≤ n ∧ i = .int .i64 k ∧ out = .slice A3 n3 c3 ∧ n3 ≤ 6 * k ∧ OwnS w.heap.size wr A3 n3 c3 r ∧ Hid (BothTo (dL a) (dL b) k 0 (dL r)) ∧ Hid (∀ x, x ∈ r → x ∈ a ∨ x ∈ b) ∧ Below w.heap.size w wr) (fun _ i _ => n - (intOf i).toNat)
  case atStart => exact ⟨0, none, 0, 0, [], Nat.zero_le _, rfl, rfl, Nat.le_refl _, OwnS.nil _ _, bothTo_zero _ _, fun x hx => absurd hx (by simp), Below.refl _ _⟩
  case round =>
    obtain ⟨k, A3, n3, c3, r, hk, rfl, rfl, hn3, hO, hM, hI, hBw⟩ := hrel
    by_cases hlt : k < n
    · obtain ⟨x, hx⟩ := get_ex (show k < a.length by have := HN.out; omega)
      have i1 : (0 : Int) ≤ (k : Int) := by omega
      have i2 : (k : Int) < (n : Int) := by omega
      have HX := Lib.hid hx
      obtain ⟨ad, rfl, hadB, _⟩ := hr k x hx
      clear hx
      go_wp2_with fail
      go_loopw [5, 15] (fun out t wr2 => ∃ (j : Nat) (A3 : Option Addr) (n3 c3 : Nat) (r : List ByteArray), j ≤ m ∧ t = .int .i64 j ∧ out = .slice A3 n3 c3 ∧ n3 ≤ 6 * k + j ∧ OwnS w.heap.size wr2 A3 n3 c3 r ∧ Hid (BothTo (dL a) (dL b) k j (dL r)) ∧ Hid (∀ x, x ∈ r → x ∈ a ∨ x ∈ b) ∧ Below w.heap.size w wr2) (fun _ t _ => m - (intOf t).toNat)
      case atStart => exact ⟨0, A3, n3, c3, r, Nat.zero_le _, rfl, rfl, by omega, hO, hM, hI, hBw⟩
      case round =>
        clear hO hM hI hBw hn3
        obtain ⟨j, A4, n4, c4, r4, hj, rfl, rfl, hn4, hO, hM, hI, hBw⟩ := hrel
        have hcx := (hr.keep hBw hB).cells HX.out
        by_cases hjl : j < m
        · obtain ⟨y, hy⟩ := get_ex (show j < b.length by have := HN2.out; omega)
          obtain ⟨ad2, rfl, hadC, _⟩ := hr2 j y hy
          have HY := Lib.hid hy
          clear hy
          have hcy := (hr2.keep hBw hC).cells HY.out
          have j1 : (0 : Int) ≤ (j : Int) := by omega
          have j2 : (j : Int) < (m : Int) := by omega
          have ey := dL_at HY.out
          have ex := dL_at HX.out
          by_cases hb : begB x.data.toList y.data.toList = true
          · have HM2 : Hid (BothTo (dL a) (dL b) k (j + 1) (dL (r4 ++ [y]))) := by
              have h := bothTo_put (x := y.data.toList) hM.out (by unfold pairV; rw [ex, ey, if_pos hb])
              show BothTo _ _ _ _ _
              simpa using h
            have HI2 : Hid (∀ z, z ∈ r4 ++ [y] → z ∈ a ∨ z ∈ b) := fun z hz => by
              rw [List.mem_append, List.mem_singleton] at hz
              rcases hz with hz | rfl
              · exact hI.out z hz
              · exact Or.inr (List.mem_of_getElem? HY.out)
            have HB := Lib.hid hb
            clear hb ex ey
            go_wp2_with fail
            go_quiet ((go_at_call 41; exact Calls.quiet_of_same ((begins_is _ _ true HB.out _).mono fun _ _ h => ⟨h.1, h.2.symm⟩)))
            have hO1 := hO.draws nq
            have hB1 := bdn hBw nq
            have hcy1 : (wr.drewN nq).cell? (ad2.add j) = some (.string y) := hcy
            clear hO hBw hcx hcy
            generalize wr.drewN nq = W at hO1 hB1 hcy1 ⊢
            go_wp2_with (at_builtin; refine wpList_apS (base := w.heap.size) (n := n4) (m := 1) (l := r4) (l2 := [y]) (by rfl) _ _ (by rfl) Try.underlying22 Try.underlying22 hi0 hz0 hz1 hz2 (by rfl) (by rfl) (hO1.keep (b0 _ _)) (rdOne W y _ rfl) rfl (n4 + 1) rfl (by omega) (by have := hB1.size; simp; omega) ?_; intro A5 c5 w5 hO5 hb5 hg5)
            go_roundw
            case rel => exact ⟨j + 1, A5, n4 + 1, c5, r4 ++ [y], by omega, by go_num, rfl, by omega, hO5, HM2, HI2, (hB1.alloc hB1.size _).trans hb5⟩
            case measure => simp [intOf]; omega
          · have HB := Lib.hid (Bool.eq_false_iff.2 hb)
            by_cases hb2 : begB y.data.toList x.data.toList = true
            · have HM2 : Hid (BothTo (dL a) (dL b) k (j + 1) (dL (r4 ++ [x]))) := by
                have h := bothTo_put (x := x.data.toList) hM.out (by unfold pairV; rw [ex, ey, if_neg hb, if_pos hb2])
                show BothTo _ _ _ _ _
                simpa using h
              have HI2 : Hid (∀ z, z ∈ r4 ++ [x] → z ∈ a ∨ z ∈ b) := fun z hz => by
                rw [List.mem_append, List.mem_singleton] at hz
                rcases hz with hz | rfl
                · exact hI.out z hz
                · exact Or.inl (List.mem_of_getElem? HX.out)
              have HB2 := Lib.hid hb2
              clear hb hb2 ex ey
              go_wp2_with fail
              go_quiet ((go_at_call 41; exact Calls.quiet_of_same ((begins_is _ _ false HB.out _).mono fun _ _ h => ⟨h.1, h.2.symm⟩)))
              have hO1 := hO.draws nq
              have hB1 := bdn hBw nq
              have hcx1 : (wr.drewN nq).cell? (ad.add k) = some (.string x) := hcx
              have hcy1 : (wr.drewN nq).cell? (ad2.add j) = some (.string y) := hcy
              clear hO hBw hcx hcy
              generalize wr.drewN nq = W1 at hO1 hB1 hcx1 hcy1 ⊢
              go_wp2_with fail
              go_quiet ((go_at_call 41; exact Calls.quiet_of_same ((begins_is _ _ true HB2.out _).mono fun _ _ h => ⟨h.1, h.2.symm⟩)))
              have hO2 := hO1.draws nq
              have hB2 := bdn hB1 nq
              have hcx2 : (W1.drewN nq).cell? (ad.add k) = some (.string x) := hcx1
              clear hO1 hB1 hcx1 hcy1
              generalize W1.drewN nq = W at hO2 hB2 hcx2 ⊢
              go_wp2_with (at_builtin; refine wpList_apS (base := w.heap.size) (n := n4) (m := 1) (l := r4) (l2 := [x]) (by rfl) _ _ (by rfl) Try.underlying22 Try.underlying22 hi0 hz0 hz1 hz2 (by rfl) (by rfl) (hO2.keep (b0 _ _)) (rdOne W x _ rfl) rfl (n4 + 1) rfl (by omega) (by have := hB2.size; simp; omega) ?_; intro A5 c5 w5 hO5 hb5 hg5)
              go_roundw
              case rel => exact ⟨j + 1, A5, n4 + 1, c5, r4 ++ [x], by omega, by go_num, rfl, by omega, hO5, HM2, HI2, (hB2.alloc hB2.size _).trans hb5⟩
              case measure => simp [intOf]; omega
            · have HB2 := Lib.hid (Bool.eq_false_iff.2 hb2)
              have HM2 : Hid (BothTo (dL a) (dL b) k (j + 1) (dL r4)) := bothTo_skip hM.out (by unfold pairV; rw [ex, ey, if_neg hb, if_neg hb2])
              clear hb hb2 ex ey
              go_wp2_with fail
              go_quiet ((go_at_call 41; exact Calls.quiet_of_same ((begins_is _ _ false HB.out _).mono fun _ _ h => ⟨h.1, h.2.symm⟩)))
              have hO1 := hO.draws nq
              have hB1 := bdn hBw nq
              have hcx1 : (wr.drewN nq).cell? (ad.add k) = some (.string x) := hcx
              have hcy1 : (wr.drewN nq).cell? (ad2.add j) = some (.string y) := hcy
              clear hO hBw hcx hcy
              generalize wr.drewN nq = W1 at hO1 hB1 hcx1 hcy1 ⊢
              go_wp2_with fail
              go_quiet ((go_at_call 41; exact Calls.quiet_of_same ((begins_is _ _ false HB2.out _).mono fun _ _ h => ⟨h.1, h.2.symm⟩)))
              have hO2 := hO1.draws nq
              have hB2 := bdn hB1 nq
              clear hO1 hB1 hcx1 hcy1
              generalize W1.drewN nq = W at hO2 hB2 ⊢
              go_wp2_with fail
              go_roundw
              case rel => exact ⟨j + 1, A4, n4, c4, r4, by omega, by go_num, rfl, by omega, hO2, HM2, hI, hB2⟩
              case measure => simp [intOf]; omega
        · have hq : ¬ (j : Int) < (m : Int) := by omega
          have HM2 : Hid (BothTo (dL a) (dL b) (k + 1) 0 (dL r4)) := bothTo_row (by
            have e : j = (dL b).length := by rw [dL_len, HN2.out]; omega
            rw [← e]
            exact hM.out)
          go_wp2_with fail
          go_roundw
          case rel => exact ⟨k + 1, A4, n4, c4, r4, by omega, by go_num, rfl, by omega, hO, HM2, hI, hBw⟩
          case measure => simp [intOf]; omega
    · have hq : ¬ (k : Int) < (n : Int) := by omega
      have HM2 : Hid (∀ v, v ∈ dL r ↔ BothS (dL a) (dL b) v) := bothTo_all (by
        have e : k = (dL a).length := by rw [dL_len, HN.out]; omega
        rw [← e]
        exact hM.out)
      go_wp2_with (go_at_call 11; refine (refMade_any A3 n3 c3 r _ hO.len hO.rd (Nat.le_refl _) (by omega) (fun z hz => (hI.out z hz).elim (HS.out z) (HS2.out z))).mono ?_; rintro e w2 ⟨⟨A5, n5, c5, r5, rfl, hO5, hM5, hI5⟩, hb5⟩)
      go_ret
      exact ⟨⟨A5, n5, c5, r5, rfl, hO5.less hBw.size, made_congr (madeTo_is hM5 (dL_len _).symm) HM2.out, fun z hz => hI.out z (hI5 z hz)⟩, bt hBw hb5⟩
end Go.Proofs.Ytokkmofcijfmiaa
