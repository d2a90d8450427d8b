/-
  WHAT IS PROVED: slices.Equal of two slices of strings; reach.Good tells whether a list is a reach (GoodC); reach.Of makes the reach of any prefixes, or tells what is wrong (OfC). Conditions: those typed in each definition. · plain facts on how a text is cut at its commas. No program. No condition.
-/
import Derived.Test.YtokkmofcijfmiaaDoorGQ4
import Derived.Test.YtokkmofcijfmiaaDoorGQ5
import Derived.Lib.Split
import Derived.Lib.IndexBytes
namespace Go.Proofs.YtokkmofcijfmiaaDoor
open Go.RowKit

set_option maxHeartbeats 1000000 in
theorem equal_any {B C : Nat} (A A2 : Option Addr) (n c m d : Nat) (l l2 : List ByteArray) (w : World) (hn : l.length = n) (hr : RdS B w A l) (hm : n ≤ maxLen) (hn2 : l2.length = m) (hr2 : RdS C w A2 l2) :
    Calls Tryd.prog 49 #[.slice A n c, .slice A2 m d] w fun e w' => e = .returned (.bool (sameB l l2)) ∧ Drn w w' := by
  unfold maxLen at hm
  have HN := Lib.hid hn
  have HN2 := Lib.hid hn2
  clear hn hn2
  by_cases hnm : n = m
  · subst hnm
    go_enter Tryd.func49, Tryd.ntmps49
    go_wp2_with fail
    go_loopw [13] (fun i wr => ∃ k : Nat, k ≤ n ∧ i = .int .i64 k ∧ Hid (∀ j, j < k → atR (dL l) j = atR (dL l2) j) ∧ Drn w wr) (fun i _ => n - (intOf i).toNat)
    case atStart => exact ⟨0, Nat.zero_le _, rfl, fun j hj => by omega, Drn.refl _⟩
    case round =>
      obtain ⟨k, hk, rfl, hA, hD⟩ := hrel
      by_cases hlt : k < n
      · obtain ⟨x, hx⟩ := get_ex (show k < l.length by have := HN.out; omega)
        obtain ⟨y, hy⟩ := get_ex (show k < l2.length by have := HN2.out; omega)
        obtain ⟨ad, rfl, _, hc⟩ := (hr.keep (hD.below B) (Nat.le_refl _)) k x hx
        obtain ⟨ad2, rfl, _, hc2⟩ := (hr2.keep (hD.below C) (Nat.le_refl _)) k y hy
        have i1 : (0 : Int) ≤ (k : Int) := by omega
        have i2 : (k : Int) < (n : Int) := by omega
        have HX := Lib.hid hx
        have HY := Lib.hid hy
        clear hx hy
        by_cases hxy : x.data.toList = y.data.toList
        · have e0 : (x.toList == y.toList) = true := by rw [str_eqB, hxy]; simp
          have HA2 : Hid (∀ j, j < k + 1 → atR (dL l) j = atR (dL l2) j) := fun j hj => by
            by_cases e : j = k
            · subst e
              rw [dL_at HX.out, dL_at HY.out, hxy]
            · exact hA.out j (by omega)
          clear hxy hA
          go_wp2_with fail
          go_quiet (fail)
          go_wp2_with fail
          go_roundw
          case rel => exact ⟨k + 1, by omega, by go_num, HA2, hD.draws _⟩
          case measure => simp [intOf]; omega
        · have e0 : (x.toList == y.toList) = false := by rw [str_eqB]; simpa using hxy
          have R := Lib.hid (same_no HX.out HY.out hxy)
          clear hxy hA
          go_wp2_with fail
          go_quiet (fail)
          go_wp2_with fail
          go_ret
          exact ⟨ret_bool R.out.symm, hD.draws _⟩
      · have hq : ¬ (k : Int) < (n : Int) := by omega
        have R : Hid (sameB l l2 = true) := same_yes (HN.out.trans HN2.out.symm) fun j hj => hA.out j (by have := HN.out; omega)
        clear hA
        go_wp2_with fail
        go_ret
        exact ⟨ret_bool R.out.symm, hD⟩
  · have e0 : ((n : Int) != (m : Int)) = true := by rw [bne_iff_ne]; omega
    have R := Lib.hid (same_len (l := l) (l2 := l2) (by rw [HN.out, HN2.out]; exact hnm))
    clear hnm
    go_enter Tryd.func49, Tryd.ntmps49
    go_wp2_with fail
    go_ret
    exact ⟨ret_bool R.out.symm, Drn.refl _⟩

theorem reachGood_any (A : Option Addr) (n c : Nat) (l : List ByteArray) (w : World) (hn : l.length = n) (hr : RdS w.heap.size w A l) (hm1 : n ≤ maxLen) (hs1 : ∀ x, x ∈ l → x.size ≤ maxLen) :
    Calls Tryd.prog 28 #[.slice A n c] w fun e w' => e = .returned (.bool (goodR (dL l))) ∧ Below w.heap.size w w' := by
  have HG := Lib.hid (goodR_least (dL l))
  by_cases h6 : n ≤ 6
  · have i6 : (n : Int) ≤ 6 := by omega
    cases hp : (dL l).all preB with
    | true =>
      have HP := Lib.hid hp
      have R : Hid (sameB l (baL (leastOf (dL l))) = goodR (dL l)) := by
        show _ = _
        rw [HG.out, hp, dL_len, hn, decide_eq_true h6, Bool.true_and, Bool.true_and]
        unfold sameB
        rw [dL_baL]
      clear hp HG
      go_enter Tryd.func28, Tryd.ntmps28
      go_wp2_with fail
      refine (prefixes_is A n c l w true HP.out hn hr hm1 hs1).mono ?_
      rintro e w2 ⟨rfl, hb2⟩
      go_wp2_with fail
      refine (least_any A n c l w2 hn ((hr.keep hb2 (Nat.le_refl _)).more hb2.size) (by omega)).mono ?_
      rintro e w3 ⟨⟨A3, c3, r3, rfl, hO3, hd3⟩, hb3⟩
      have R2 : Hid (sameB l r3 = goodR (dL l)) := by
        rw [← R.out]
        unfold sameB
        rw [dL_baL, hd3]
        exact rfl
      have hl3 : r3.length = (leastOf (dL l)).length := hO3.len
      generalize (leastOf (dL l)).length = m3 at hO3 hl3 ⊢
      clear hd3 R
      go_wp2_with fail
      refine (equal_any A A3 n c m3 c3 l r3 w3 hn ((hr.keep hb2 (Nat.le_refl _)).keep hb3 hb2.size) hm1 hl3 hO3.rd).mono ?_
      rintro e w4 ⟨rfl, hD4⟩
      generalize sameB l r3 = v at R2 ⊢
      go_wp2_with fail
      go_ret
      exact ⟨ret_bool R2.out, (bt hb2 hb3).trans ((hD4.below _))⟩
    | false =>
      have HP := Lib.hid hp
      have R : Hid (goodR (dL l) = false) := by
        show _ = _
        rw [HG.out, hp]
        simp
      clear hp HG
      go_enter Tryd.func28, Tryd.ntmps28
      go_wp2_with fail
      refine (prefixes_is A n c l w false HP.out hn hr hm1 hs1).mono ?_
      rintro e w2 ⟨rfl, hb2⟩
      go_wp2_with fail
      go_ret
      exact ⟨ret_bool R.out.symm, hb2⟩
  · have i6 : (6 : Int) < (n : Int) := by omega
    have R : Hid (goodR (dL l) = false) := by
      show _ = _
      rw [HG.out, dL_len, hn, decide_eq_false h6, Bool.false_and]
    clear HG
    go_enter Tryd.func28, Tryd.ntmps28
    go_wp2_with fail
    go_ret
    exact ⟨ret_bool R.out.symm, Below.refl _ _⟩

theorem goodC : GoodC := fun A n c l w _ hn hr hm hs => reachGood_any A n c l w hn hr (by unfold maxLen; omega) fun x hx => Nat.le_trans (hs x hx) (by unfold maxLen; omega)

theorem rd_own {base : Nat} {W : World} {A : Option Addr} {n c : Nat} {l : List ByteArray} (h : OwnS base W A n c l) {W' : World} (hb : Below W.heap.size W W') : RdS W'.heap.size W' A l := (h.rd.keep hb (Nat.le_refl _)).more hb.size
/-- Each that is left was there. -/
theorem leastOf_sz {l r : List ByteArray} (h : dL r = leastOf (dL l)) {N : Nat} (hs : ∀ x, x ∈ l → x.size ≤ N) : ∀ x, x ∈ r → x.size ≤ N := by
  intro x hx
  have h1 : x.data.toList ∈ leastOf (dL l) := by rw [← h]; exact List.mem_map_of_mem hx
  have h2 := (((least_made (dL l)).2 _).1 h1).1
  obtain ⟨y, hy, e⟩ := List.mem_map.1 h2
  have e1 : x.data.toList.length = x.size := Array.length_toList
  have e2 : y.data.toList.length = y.size := Array.length_toList
  rw [← e1, ← e, e2]
  exact hs y hy
theorem ofC : OfC := by
  intro A n c l w R _ hn hr hm hs hR
  have hm1 : n ≤ maxLen := by unfold maxLen; omega
  have hs1 : ∀ x, x ∈ l → x.size ≤ maxLen := fun x hx => Nat.le_trans (hs x hx) (by unfold maxLen; omega)
  have HR : Hid (leastOf (dL l) = R) := made_uniq (least_made (dL l)) hR fun _ => Iff.rfl
  clear hR
  cases hp : (dL l).all preB with
  | true =>
    simp only [if_true]
    have HP := Lib.hid hp
    clear hp
    suffices hh : Calls Tryd.prog 24 #[.slice A n c] w fun e w' => ((R.length ≤ 6 → Ans R 0 e w') ∧ (¬ R.length ≤ 6 → e = .returned (.tuple #[.slice none 0 0, .int .i64 3]))) ∧ Below w.heap.size w w' by
      refine hh.mono fun e w' h => ⟨?_, h.2⟩
      by_cases h6 : R.length ≤ 6
      · rw [if_pos h6]; exact h.1.1 h6
      · rw [if_neg h6]; exact h.1.2 h6
    have HZ : Hid (∀ r : List ByteArray, dL r = R → ∀ x, x ∈ r → x.size ≤ 1000) := fun r hr => leastOf_sz (l := l) (by rw [hr, HR.out]) hs
    have hlen := leastOf_len (dL l)
    rw [HR.out, dL_len, hn] at hlen
    go_enter Tryd.func24, Tryd.ntmps24
    go_wp2_with fail
    refine (prefixes_is A n c l w true HP.out hn hr hm1 hs1).mono ?_
    rintro e w2 ⟨rfl, hb2⟩
    go_wp2_with fail
    refine (least_any A n c l w2 hn ((hr.keep hb2 (Nat.le_refl _)).more hb2.size) (by omega)).mono ?_
    rw [HR.out]
    rintro e w3 ⟨⟨A3, c3, r3, rfl, hO3, hd3⟩, hb3⟩
    have HD := Lib.hid hd3
    have hB3 := bt hb2 hb3
    have hsz := HZ.out r3 hd3
    clear hd3 HR
    by_cases h6 : R.length ≤ 6
    · have H6 := Lib.hid h6
      have i6 : (R.length : Int) ≤ 6 := by omega
      generalize hlr : R.length = nR at hO3 hlen h6 i6 ⊢
      have HLR := Lib.hid hlr
      clear hlr
      go_wp2_with fail
      refine (freshTexts_any A3 nR c3 r3 w3 hO3.len hO3.rd (by omega) (fun x hx => Nat.le_trans (hsz x hx) (by omega))).mono ?_
      rintro e w4 ⟨⟨g, rfl, hO4⟩, hb4⟩
      go_wp2_with fail
      go_ret2
      refine ⟨⟨fun _ => ⟨some ⟨g, 0, none⟩, nR, r3, ?_, hO4.rd, HD.out⟩, fun h => absurd H6.out h⟩, bt hB3 hb4⟩
      rw [HLR.out]
      rfl
    · have H6 := Lib.hid h6
      have i6 : (6 : Int) < (R.length : Int) := by omega
      generalize R.length = nR at hO3 hlen h6 i6 ⊢
      go_wp2_with fail
      go_ret2
      exact ⟨⟨fun h => absurd h H6.out, fun _ => rfl⟩, hB3⟩
  | false =>
    simp only [Bool.false_eq_true, if_false]
    have HP := Lib.hid hp
    clear hp
    go_enter Tryd.func24, Tryd.ntmps24
    go_wp2_with fail
    refine (prefixes_is A n c l w false HP.out hn hr hm1 hs1).mono ?_
    rintro e w2 ⟨rfl, hb2⟩
    go_wp2_with fail
    go_ret2
    exact ⟨rfl, hb2⟩
end Go.Proofs.YtokkmofcijfmiaaDoor

namespace Go.Proofs.YtokkmofcijfmiaaDoor
open Go

/-- What is ahead of the first comma, what is behind it. -/
def cutC : List UInt8 → Option (List UInt8 × List UInt8)
  | [] => none
  | c :: r => if c = 44 then some ([], r) else (cutC r).map fun p => (c :: p.1, p.2)
theorem cutC_some : ∀ {l a b : List UInt8}, cutC l = some (a, b) → l = a ++ 44 :: b ∧ (44 : UInt8) ∉ a
  | [], a, b, h => by simp [cutC] at h
  | c :: r, a, b, h => by
    unfold cutC at h
    by_cases hc : c = 44
    · rw [if_pos hc] at h
      simp only [Option.some.injEq, Prod.mk.injEq] at h
      obtain ⟨rfl, rfl⟩ := h
      exact ⟨by rw [hc]; rfl, by simp⟩
    · rw [if_neg hc] at h
      obtain ⟨⟨a', b'⟩, h1, h2⟩ := Option.map_eq_some_iff.1 h
      simp only [Prod.mk.injEq] at h2
      obtain ⟨rfl, rfl⟩ := h2
      obtain ⟨h3, h4⟩ := cutC_some h1
      refine ⟨by rw [h3]; rfl, ?_⟩
      simp only [List.mem_cons, not_or]
      exact ⟨fun e => hc e.symm, h4⟩
theorem cutC_none : ∀ {l : List UInt8}, cutC l = none → (44 : UInt8) ∉ l
  | [], _ => by simp
  | c :: r, h => by
    unfold cutC at h
    by_cases hc : c = 44
    · rw [if_pos hc] at h
      cases h
    · rw [if_neg hc, Option.map_eq_none_iff] at h
      simp only [List.mem_cons, not_or]
      exact ⟨fun e => hc e.symm, cutC_none h⟩
theorem cutC_app : ∀ (a b : List UInt8), (44 : UInt8) ∉ a → cutC (a ++ 44 :: b) = some (a, b)
  | [], b, _ => by simp [cutC]
  | c :: r, b, h => by
    simp only [List.mem_cons, not_or] at h
    rw [List.cons_append, cutC, if_neg (fun e => h.1 e.symm), cutC_app r b h.2]
    rfl
theorem cutC_of_none : ∀ (a : List UInt8), (44 : UInt8) ∉ a → cutC a = none
  | [], _ => rfl
  | c :: r, h => by
    simp only [List.mem_cons, not_or] at h
    rw [cutC, if_neg (fun e => h.1 e.symm), cutC_of_none r h.2]
    rfl

/-- Cut at the first k commas at most. -/
def pieceC : Nat → List UInt8 → List (List UInt8)
  | 0, l => [l]
  | k + 1, l => match cutC l with
    | none => [l]
    | some p => p.1 :: pieceC k p.2
theorem pieceC_none (k : Nat) {l : List UInt8} (h : cutC l = none) : pieceC k l = [l] := by
  cases k with
  | zero => rfl
  | succ k => rw [pieceC, h]
theorem pieceC_some (k : Nat) {l a b : List UInt8} (h : cutC l = some (a, b)) : pieceC (k + 1) l = a :: pieceC k b := by rw [pieceC, h]
theorem index_cutC : ∀ (l : List UInt8), Lib.indexByte l 44 = (match cutC l with | none => -1 | some p => (p.1.length : Int))
  | [] => rfl
  | c :: r => by
    have ih := index_cutC r
    by_cases hc : c = 44
    · subst hc
      simp [cutC, Lib.indexByte]
    · rw [cutC, if_neg hc]
      have e : (c == 44) = false := by simpa using hc
      cases hr : cutC r with
      | none =>
        rw [hr] at ih
        simp only at ih
        simp [Lib.indexByte, hc, ih]
      | some p =>
        rw [hr] at ih
        simp only at ih
        simp [Lib.indexByte, hc, ih]
        try omega
theorem split_pieceC : ∀ (k : Nat) (l : List UInt8), Lib.splitK [44] 0 k l = pieceC k l
  | 0, _ => rfl
  | k + 1, l => by
    unfold Lib.splitK
    rw [Lib.index_one, index_cutC]
    cases h : cutC l with
    | none => rw [pieceC_none _ h]; simp
    | some p =>
      obtain ⟨a, b⟩ := p
      obtain ⟨h1, h2⟩ := cutC_some h
      rw [pieceC_some k h]
      have h3 : ¬ (((a.length : Nat) : Int) == -1) = true := by simp
      simp only
      rw [if_neg h3, split_pieceC k]
      have h4 : ((a.length : Nat) : Int).toNat = a.length := by omega
      rw [h4, h1]
      simp
theorem pieceC_more : ∀ (k m : Nat) (l : List UInt8), l.length ≤ k → pieceC (k + m) l = pieceC k l
  | 0, m, l, h => by
    have : l = [] := List.length_eq_zero_iff.1 (by omega)
    subst this
    rw [pieceC_none _ rfl, pieceC_none _ rfl]
  | k + 1, m, l, h => by
    cases hc : cutC l with
    | none => rw [pieceC_none _ hc, pieceC_none _ hc]
    | some p =>
      obtain ⟨a, b⟩ := p
      obtain ⟨h1, _⟩ := cutC_some hc
      have hl : l.length = a.length + (b.length + 1) := by rw [h1]; simp
      rw [show k + 1 + m = k + m + 1 by omega, pieceC_some _ hc, pieceC_some _ hc, pieceC_more k m b (by omega)]
/-- As strings.SplitN counts. -/
theorem pieceC_six (l : List UInt8) : pieceC (min 7 (l.length + 1) - 1) l = pieceC 6 l := by
  by_cases h : 6 ≤ l.length
  · rw [show min 7 (l.length + 1) - 1 = 6 by omega]
  · obtain ⟨m, hm⟩ : ∃ m, 6 = l.length + m := ⟨6 - l.length, by omega⟩
    rw [show min 7 (l.length + 1) - 1 = l.length by omega, hm, pieceC_more _ _ _ (Nat.le_refl _)]
theorem pieceC_len : ∀ (k : Nat) (l : List UInt8), 1 ≤ (pieceC k l).length ∧ (pieceC k l).length ≤ k + 1
  | 0, _ => by simp [pieceC]
  | k + 1, l => by
    cases h : cutC l with
    | none => rw [pieceC_none _ h]; simp
    | some p =>
      have := pieceC_len k p.2
      rw [pieceC_some k h]
      simp only [List.length_cons]
      omega
theorem pieceC_each : ∀ (k : Nat) (l x : List UInt8), x ∈ pieceC k l → x.length ≤ l.length
  | 0, l, x, h => by
    simp only [pieceC, List.mem_singleton] at h
    rw [h]
    exact Nat.le_refl _
  | k + 1, l, x, h => by
    cases hc : cutC l with
    | none =>
      rw [pieceC_none _ hc, List.mem_singleton] at h
      rw [h]
      exact Nat.le_refl _
    | some p =>
      obtain ⟨a, b⟩ := p
      obtain ⟨h1, _⟩ := cutC_some hc
      have hl : l.length = a.length + (b.length + 1) := by rw [h1]; simp
      rw [pieceC_some k hc, List.mem_cons] at h
      rcases h with rfl | h
      · omega
      · have := pieceC_each k b x h
        omega
/-- Where there are few pieces, all are cut. -/
theorem pieceC_commas : ∀ (k : Nat) (l : List UInt8), (commas l).length ≤ k + 1 → pieceC k l = commas l
  | 0, l, h => by
    cases hc : cutC l with
    | none => exact (commas_plain l fun c hm e => cutC_none hc (e ▸ hm)).symm
    | some p =>
      obtain ⟨a, b⟩ := p
      obtain ⟨h1, h2⟩ := cutC_some hc
      rw [h1, commas_app a b fun c hm e => h2 (e ▸ hm), List.length_cons] at h
      have := List.length_pos_iff.2 (commas_ne b)
      omega
  | k + 1, l, h => by
    cases hc : cutC l with
    | none =>
      rw [pieceC_none _ hc]
      exact (commas_plain l fun c hm e => cutC_none hc (e ▸ hm)).symm
    | some p =>
      obtain ⟨a, b⟩ := p
      obtain ⟨h1, h2⟩ := cutC_some hc
      have hca : commas l = a :: commas b := by rw [h1]; exact commas_app a b fun c hm e => h2 (e ▸ hm)
      rw [hca, List.length_cons] at h
      rw [pieceC_some k hc, pieceC_commas k b (by omega), hca]
/-- The star stands for the empty one. -/
def unstar (p : List UInt8) : List UInt8 := if p = [42] then [] else p
/-- What is read of a text, whatever it is. -/
def parseL (s : List UInt8) : List (List UInt8) := if s = [33] then [] else (pieceC 6 s).map unstar
theorem unstar_len (p : List UInt8) : (unstar p).length ≤ p.length := by
  unfold unstar
  split
  · exact Nat.zero_le _
  · exact Nat.le_refl _
theorem parseL_text {s : List UInt8} {R : List (List UInt8)} (h : readR s = some R) : parseL s = R := by
  obtain ⟨ht, hg⟩ := text_read h
  unfold parseL
  by_cases h1 : s = [33]
  · rw [if_pos h1]
    subst h1
    have e : readR [33] = some [] := rfl
    rw [e] at h
    injection h
  · rw [if_neg h1]
    have h0 : R ≠ [] := by
      rintro rfl
      exact h1 ht.symm
    by_cases h2 : s = [42]
    · subst h2
      have e : readR [42] = some [[]] := rfl
      rw [e] at h
      injection h
    · have hj : joinC R = s := by
        unfold textR at ht
        rw [if_neg h0] at ht
        by_cases hj : joinC R = []
        · rw [if_pos hj] at ht
          exact absurd ht.symm h2
        · rwa [if_neg hj] at ht
      have hc : commas s = R := by
        rw [← hj]
        exact commas_joinC R h0 fun x hx => preB_no44 (goodR_pre hg hx)
      rw [pieceC_commas 6 s (by rw [hc]; have := (goodR_iff.1 hg).2; omega), hc]
      conv => rhs; rw [← List.map_id R]
      apply List.map_congr_left
      intro x hx
      refine if_neg ?_
      rintro rfl
      have hp := goodR_pre hg hx
      revert hp
      decide
/-- A text is read as its pieces, if these are a reach whose text it is. -/
theorem readR_parse (s : List UInt8) : readR s = if goodR (parseL s) = true ∧ textR (parseL s) = s then some (parseL s) else none := by
  by_cases h : goodR (parseL s) = true ∧ textR (parseL s) = s
  · rw [if_pos h]
    have := read_text h.1
    rwa [h.2] at this
  · rw [if_neg h]
    cases hr : readR s with
    | none => rfl
    | some R =>
      exfalso
      obtain ⟨ht, hg⟩ := text_read hr
      rw [parseL_text hr] at h
      exact h ⟨hg, ht⟩
end Go.Proofs.YtokkmofcijfmiaaDoor
