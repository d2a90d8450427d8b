/-
  WHAT IS PROVED: the law RosterTight returns true. Conditions: those typed in each theorem.
-/
import Derived.Test.YtkfhkfddhijkcaaRoG
import Derived.Test.YtkfhkfddhijkcaaRoI
namespace Go.Proofs.Ytkfhkfddhijkcaa
open Go.RowKit

/-- What holds behind each write that was asked: K are those known, N the lasts. -/
structure TgI (l : List Int) (K : List Wr) (N : List Int) : Prop where
  eq : N = ofL l K
  len : N.length = 12
  ok : (tst K).1 = true
  last : ∀ d : Nat, d < 12 → ∀ a, (tst K).2 d = some a → a = gI N d
  has : ∀ d : Nat, d < 12 → ∀ q : Int, gI l d < q → q ≤ gI N d → ∃ y, y ∈ K ∧ y.dev = (d : Int) ∧ y.seq = q
  low : ∀ y, y ∈ K → ∃ d : Nat, d < 12 ∧ y.dev = (d : Int) ∧ y.seq ≤ gI N d
  sml : ∀ j, 0 ≤ gI N j ∧ gI N j ≤ 40
  good : ∀ y, y ∈ K → y.good = true
theorem tgI_0 {l : List Int} (hl : l.length = 12) (hs : ∀ j, 0 ≤ gI l j ∧ gI l j ≤ 40) : TgI l [] l :=
  ⟨rfl, hl, rfl, (fun d _ a h => nomatch h), (fun d _ q h1 h2 => (by omega)), (fun y hy => nomatch hy), hs, (fun y hy => nomatch hy)⟩
theorem gI_set' {l : List Int} {j k : Nat} {v : Int} (hj : j < l.length) : gI (l.set j v) k = if j = k then v else gI l k := by
  by_cases hk : k < l.length
  · exact gI_set hk
  · rw [if_neg (by omega)]
    unfold gI
    rw [List.getElem?_set, if_neg (by omega)]
theorem TgI.next {l : List Int} {K : List Wr} {N : List Int} (h : TgI l K N) {x : Wr} {d : Nat} (hd : d < 12) (e : x.dev = (d : Int)) (hq : x.seq = gI N d + 1) (hx : x.seq ≤ 40) (hgx : x.good = true) : TgI l (K ++ [x]) (ofS N x) ∧ gI (ofS N x) d = gI N d + 1 := by
  have hN : ofS N x = N.set d (gI N d + 1) := by rw [ofS_yes hd e, hq, show max (gI N d) (gI N d + 1) = gI N d + 1 by omega]
  have hg : ∀ k, gI (ofS N x) k = if d = k then gI N d + 1 else gI N k := fun k => by rw [hN, gI_set' (by rw [h.len]; exact hd)]
  have ht : tst (K ++ [x]) = tstep (tst K) x := by unfold tst; rw [List.foldl_append]; rfl
  have hsd := h.sml d
  refine ⟨⟨?_, ofS_len h.len x, ?_, ?_, ?_, ?_, ?_, ?_⟩, by rw [hg, if_pos rfl]⟩
  · unfold ofL
    rw [List.foldl_append, ← show ofL l K = K.foldl ofS l from rfl, ← h.eq]
    rfl
  · rw [ht]
    unfold tstep
    show ((tst K).1 && okT ((tst K).2 x.dev) x.seq) = true
    rw [h.ok, Bool.true_and, e]
    cases hl : (tst K).2 (d : Int) with
    | none => rfl
    | some a =>
      have ea := h.last d hd a hl
      subst ea
      show (decide (gI N d < x.seq) && (IntKind.i64.wrap (gI N d + 1) == x.seq)) = true
      have wr : IntKind.i64.wrap (gI N d + 1) = gI N d + 1 := by
        generalize gI N d = y at hsd ⊢
        unfold IntKind.wrap
        simp [IntKind.bits, IntKind.signed]
        omega
      rw [wr, hq]
      simp
      omega
  · intro k hk a ha
    rw [ht] at ha
    unfold tstep at ha
    dsimp only at ha
    rw [hg]
    by_cases hkd : d = k
    · subst hkd
      rw [if_pos e.symm] at ha
      injection ha with ha
      rw [if_pos rfl, ← ha, hq]
    · rw [if_neg (by rw [e]; omega)] at ha
      rw [if_neg hkd]
      exact h.last k hk a ha
  · intro k hk q h1 h2
    rw [hg] at h2
    by_cases hkd : d = k
    · subst hkd
      rw [if_pos rfl] at h2
      by_cases h3 : q ≤ gI N d
      · obtain ⟨y, hy, h4⟩ := h.has d hd q h1 h3
        exact ⟨y, List.mem_append_left _ hy, h4⟩
      · exact ⟨x, by simp, e, by omega⟩
    · rw [if_neg hkd] at h2
      obtain ⟨y, hy, h4⟩ := h.has k hk q h1 h2
      exact ⟨y, List.mem_append_left _ hy, h4⟩
  · intro y hy
    rcases List.mem_append.1 hy with hy | hy
    · obtain ⟨k, hk, h1, h2⟩ := h.low y hy
      refine ⟨k, hk, h1, ?_⟩
      rw [hg]
      by_cases hkd : d = k
      · subst hkd; rw [if_pos rfl]; omega
      · rw [if_neg hkd]; exact h2
    · have ey : y = x := by simpa using hy
      subst ey
      exact ⟨d, hd, e, by rw [hg, if_pos rfl]; omega⟩
  · intro j
    rw [hg]
    have := h.sml j
    split <;> omega
  · intro y hy
    rcases List.mem_append.1 hy with hy | hy
    · exact h.good y hy
    · rw [show y = x by simpa using hy]
      exact hgx
theorem TgI.smlS {l : List Int} {K : List Wr} {N : List Int} (h : TgI l K N) : Sml N := ⟨h.len, fun j => by have := h.sml j; omega⟩
theorem isId_iff {d q : Int} {x : Wr} : isId d q x = true ↔ x.dev = d ∧ x.seq = q := by
  unfold isId
  rw [Bool.and_eq_true, beq_iff_eq, beq_iff_eq]
theorem findGo_neg (p : Wr → Bool) : ∀ (ws : List Wr) (i : Int), 0 ≤ i → (findGo p i ws < 0 ↔ ∀ x, x ∈ ws → p x = false)
  | [], i, _ => by simp [findGo]
  | a :: r, i, hi => by
    unfold findGo
    have ih := findGo_neg p r (i + 1) (by omega)
    cases ha : p a with
    | true =>
      constructor
      · intro h
        have h2 : i < 0 := h
        omega
      · intro h
        have := h a (List.mem_cons_self ..)
        rw [ha] at this
        cases this
    | false =>
      show findGo p (i + 1) r < 0 ↔ _
      rw [ih]
      constructor
      · intro h x hx
        rcases List.mem_cons.1 hx with e | hx
        · rw [e]; exact ha
        · exact h x hx
      · intro h x hx
        exact h x (List.mem_cons_of_mem _ hx)
theorem ask_cases {N : List Int} {d : Nat} (hd : d < 12) (q : Int) : (askI N d q = 0 ∧ q = gI N d + 1) ∨ (askI N d q = 6 ∧ q ≤ gI N d) ∨ (askI N d q = 15 ∧ gI N d + 1 < q) := by
  have e : lastI N d = gI N d := by
    unfold lastI nodeB
    rw [decide_eq_true (by omega), decide_eq_true (by omega), Int.toNat_natCast]
    rfl
  unfold askI
  rw [e]
  by_cases h1 : q ≤ gI N d
  · right; left
    rw [decide_eq_true h1]
    exact ⟨rfl, h1⟩
  · by_cases h2 : gI N d + 1 < q
    · right; right
      rw [decide_eq_false h1, decide_eq_true h2]
      exact ⟨rfl, h2⟩
    · left
      rw [decide_eq_false h1, decide_eq_false h2]
      exact ⟨rfl, by omega⟩
theorem TgI.old {l : List Int} {K : List Wr} {N : List Int} (h : TgI l K N) {d : Nat} (hd : d < 12) {q : Int} (hq : q ≤ gI N d) : (decide (findZ (d : Int) q K < 0) && decide (gI l d < q)) = false := by
  by_cases h1 : gI l d < q
  · obtain ⟨y, hy, e1, e2⟩ := h.has d hd q h1 hq
    rw [decide_eq_false, Bool.false_and]
    intro hf
    have := (findGo_neg (isId (d : Int) q) K 0 (Int.le_refl _)).1 hf y hy
    rw [isId_iff.2 ⟨e1, e2⟩] at this
    cases this
  · rw [decide_eq_false h1, Bool.and_false]
theorem TgI.ahead {l : List Int} {K : List Wr} {N : List Int} (h : TgI l K N) {d : Nat} {q : Int} (hq : gI N d + 1 < q) : decide (0 ≤ findZ (d : Int) q K) = false := by
  rw [decide_eq_false]
  have : findZ (d : Int) q K < 0 := by
    refine (findGo_neg (isId (d : Int) q) K 0 (Int.le_refl _)).2 fun y hy => ?_
    obtain ⟨k, hk, e1, e2⟩ := h.low y hy
    cases hi : isId (d : Int) q y with
    | false => rfl
    | true =>
      obtain ⟨e3, e4⟩ := isId_iff.1 hi
      have : k = d := by omega
      subst this
      omega
  omega
theorem TgI.none {l : List Int} {K : List Wr} {N : List Int} (h : TgI l K N) : leftL N K = [] := by
  unfold leftL
  rw [List.filter_eq_nil_iff]
  intro y hy
  obtain ⟨k, hk, e1, e2⟩ := h.low y hy
  unfold notOld
  rw [e1]
  rcases ask_cases hk y.seq (N := N) with ⟨_, h2⟩ | ⟨h1, _⟩ | ⟨_, h2⟩
  · omega
  · rw [h1]
    simp
  · omega
theorem glaB_40 {x : List Int} (hx : x.length = 12) (h : glaB x = true) : ∀ j, 0 ≤ gI x j ∧ gI x j ≤ 40 := fun j => by
  unfold glaB at h
  rw [Bool.and_eq_true, glaB_iff] at h
  by_cases hj : j < 12
  · exact h.1 j hj
  · unfold gI
    rw [List.getElem?_eq_none (by omega)]
    exact ⟨Int.le_refl _, show (0 : Int) ≤ 40 by decide⟩
theorem good_id {x : Wr} (h : x.good = true) : ∃ d : Nat, d < 12 ∧ x.dev = (d : Int) ∧ 1 ≤ x.seq ∧ x.seq ≤ 40 := by
  unfold Wr.good wrGoodB at h
  rw [Bool.and_eq_true] at h
  have h1 := of_decide_eq_true (show decide _ = true from h.1)
  exact ⟨x.dev.toNat, by omega, by omega, by omega, by omega⟩
end Go.Proofs.Ytkfhkfddhijkcaa
