/-
  WHAT IS PROVED: plain words for a queue: writes taken one after the other (Chn), what is left of them beside lasts, is tight. No condition.
-/
import Derived.Test.YtkfhkfddhijkcaaRoJ
namespace Go.Proofs.Ytkfhkfddhijkcaa

abbrev zL : List Int := laL 0 0 0 0 0 0 0 0 0 0 0 0
theorem zL_gI (j : Nat) : gI zL j = 0 := by
  by_cases h : j < 12
  · have hc : j = 0 ∨ j = 1 ∨ j = 2 ∨ j = 3 ∨ j = 4 ∨ j = 5 ∨ j = 6 ∨ j = 7 ∨ j = 8 ∨ j = 9 ∨ j = 10 ∨ j = 11 := by omega
    rcases hc with rfl | rfl | rfl | rfl | rfl | rfl | rfl | rfl | rfl | rfl | rfl | rfl <;> rfl
  · unfold gI
    rw [List.getElem?_eq_none (by show 12 ≤ j; omega)]
    rfl
/-- Writes that were taken one after the other. -/
inductive Chn : List Wr → Prop
  | nil : Chn []
  | snoc {T : List Wr} {x : Wr} {d : Nat} (h : Chn T) (e : x.dev = (d : Int)) (hd : d < 12) (hq : x.seq = gI (ofL zL T) d + 1) (h4 : x.seq ≤ 40) (hg : x.good = true) : Chn (T ++ [x])
theorem Chn.tg {T : List Wr} (h : Chn T) : TgI zL T (ofL zL T) := by
  induction h with
  | nil => exact tgI_0 rfl fun j => by rw [zL_gI]; omega
  | @snoc T x d h e hd hq h4 hg ih =>
    have h2 := (ih.next hd e hq h4 hg).1
    have e2 : ofL zL (T ++ [x]) = ofS (ofL zL T) x := by unfold ofL; rw [List.foldl_append]; rfl
    rw [e2]
    exact h2
theorem Chn.fin {T : List Wr} (h : Chn T) {x : Wr} (hx : x ∈ T) : ∃ d : Nat, d < 12 ∧ x.dev = (d : Int) ∧ x.seq ≤ gI (ofL zL T) d := h.tg.low x hx
theorem notOld_is {M : List Int} {x : Wr} {d : Nat} (hd : d < 12) (e : x.dev = (d : Int)) : notOld M x = decide (gI M d < x.seq) := by
  unfold notOld
  rw [e]
  rcases ask_cases hd x.seq (N := M) with ⟨h1, h2⟩ | ⟨h1, h2⟩ | ⟨h1, h2⟩
  · rw [h1, decide_eq_true (by omega)]; rfl
  · rw [h1, decide_eq_false (by omega)]; rfl
  · rw [h1, decide_eq_true (by omega)]; rfl
theorem tst_snoc (A : List Wr) (x : Wr) : tst (A ++ [x]) = tstep (tst A) x := by unfold tst; rw [List.foldl_append]; rfl
theorem leftL_snoc (M : List Int) (T : List Wr) (x : Wr) : leftL M (T ++ [x]) = bif notOld M x then leftL M T ++ [x] else leftL M T := by
  unfold leftL
  rw [List.filter_append]
  cases h : notOld M x with
  | true => simp [h]
  | false => simp [h]
theorem ofL_snoc (l : List Int) (T : List Wr) (x : Wr) : ofL l (T ++ [x]) = ofS (ofL l T) x := by unfold ofL; rw [List.foldl_append]; rfl
theorem gI_ofS {N : List Int} (hl : N.length = 12) {x : Wr} {d : Nat} (hd : d < 12) (e : x.dev = (d : Int)) (k : Nat) : gI (ofS N x) k = if d = k then max (gI N d) x.seq else gI N k := by
  rw [ofS_yes hd e, gI_set' (by rw [hl]; exact hd)]
theorem Chn.left {T : List Wr} (h : Chn T) {M : List Int} : (tst (leftL M T)).1 = true ∧ ∀ d : Nat, d < 12 → ∀ a, (tst (leftL M T)).2 d = some a → a = gI (ofL zL T) d ∧ gI M d < a := by
  induction h with
  | nil => exact ⟨rfl, fun d _ a h => nomatch h⟩
  | @snoc T x d h e hd hq h4 hg ih =>
    have hn := h.tg.len
    have hv : ∀ k, gI (ofL zL (T ++ [x])) k = if d = k then x.seq else gI (ofL zL T) k := fun k => by
      rw [ofL_snoc, gI_ofS hn hd e k]
      split
      · omega
      · rfl
    have hs0 := h.tg.sml d
    rw [leftL_snoc, notOld_is hd e]
    by_cases ho : gI M d < x.seq
    · rw [decide_eq_true ho]
      show (tst (leftL M T ++ [x])).1 = true ∧ ∀ k : Nat, k < 12 → ∀ a, (tst (leftL M T ++ [x])).2 k = some a → _
      rw [tst_snoc]
      refine ⟨?_, fun k hk a ha => ?_⟩
      · unfold tstep
        show ((tst (leftL M T)).1 && okT ((tst (leftL M T)).2 x.dev) x.seq) = true
        rw [ih.1, Bool.true_and, e]
        cases hl : (tst (leftL M T)).2 (d : Int) with
        | none => rfl
        | some a =>
          obtain ⟨ea, _⟩ := ih.2 d hd a hl
          rw [← ea] at hq hs0
          show (decide (a < x.seq) && (IntKind.i64.wrap (a + 1) == x.seq)) = true
          have wr : IntKind.i64.wrap (a + 1) = a + 1 := by
            unfold IntKind.wrap
            simp [IntKind.bits, IntKind.signed]
            omega
          rw [wr, hq]
          simp
          omega
      · unfold tstep at ha
        dsimp only at ha
        rw [hv]
        by_cases hkd : d = k
        · subst hkd
          rw [if_pos e.symm] at ha
          injection ha with ha
          rw [if_pos rfl, ← ha]
          exact ⟨rfl, ho⟩
        · rw [if_neg (by rw [e]; omega)] at ha
          rw [if_neg hkd]
          exact ih.2 k hk a ha
    · rw [decide_eq_false ho]
      show (tst (leftL M T)).1 = true ∧ ∀ k : Nat, k < 12 → ∀ a, (tst (leftL M T)).2 k = some a → _
      refine ⟨ih.1, fun k hk a ha => ?_⟩
      obtain ⟨h1, h2⟩ := ih.2 k hk a ha
      rw [hv]
      by_cases hkd : d = k
      · subst hkd
        omega
      · rw [if_neg hkd]
        exact ⟨h1, h2⟩
/-- Nowhere below. -/
def LeL (a b : List Int) : Prop := ∀ j, gI a j ≤ gI b j
theorem mx_left {M : List Int} {j : Nat} : ∀ (ws : List Wr) (m : Int), (∀ x, x ∈ ws → ∃ d : Nat, d < 12 ∧ x.dev = (d : Int)) → gI M j ≤ m → mxI j m (leftL M ws) = mxI j m ws := by
  intro ws
  induction ws with
  | nil => intro m _ _; rfl
  | cons x r ih =>
    intro m hd hm
    obtain ⟨d, hd1, e⟩ := hd x (List.mem_cons_self ..)
    have hr : ∀ y, y ∈ r → ∃ d : Nat, d < 12 ∧ y.dev = (d : Int) := fun y hy => hd y (List.mem_cons_of_mem _ hy)
    unfold leftL
    rw [List.filter_cons, notOld_is hd1 e]
    by_cases ho : gI M d < x.seq
    · rw [decide_eq_true ho, if_pos rfl]
      show mxI j (if x.dev = (j : Int) then max m x.seq else m) (leftL M r) = mxI j (if x.dev = (j : Int) then max m x.seq else m) r
      refine ih _ hr ?_
      split <;> omega
    · rw [decide_eq_false ho, if_neg (by decide)]
      show mxI j m (leftL M r) = mxI j (if x.dev = (j : Int) then max m x.seq else m) r
      rw [ih m hr hm]
      by_cases hj : x.dev = (j : Int)
      · rw [if_pos hj]
        have : d = j := by omega
        subst this
        rw [show max m x.seq = m by omega]
      · rw [if_neg hj]
theorem Chn.dev {T : List Wr} (h : Chn T) : ∀ x, x ∈ T → ∃ d : Nat, d < 12 ∧ x.dev = (d : Int) := fun x hx => by
  obtain ⟨d, h1, h2, _⟩ := h.fin hx
  exact ⟨d, h1, h2⟩
theorem Chn.lasts {T : List Wr} (h : Chn T) {M : List Int} (hm : M.length = 12) (h0 : ∀ j, 0 ≤ gI M j) (hle : LeL M (ofL zL T)) : ofL M (leftL M T) = ofL zL T := by
  refine (ofL_eq hm (ofL_len rfl T) fun j hj => ?_).symm
  rw [mx_left T _ h.dev (Int.le_refl _), gI_ofL hj T zL rfl, zL_gI]
  have h1 := hle j
  rw [gI_ofL hj T zL rfl, zL_gI] at h1
  have h2 := mxI_max j T 0 (gI M j)
  rw [show max 0 (gI M j) = gI M j by have := h0 j; omega] at h2
  omega
theorem Chn.settle {T : List Wr} (h : Chn T) {M M2 : List Int} (hle : LeL M M2) : leftL M2 (leftL M T) = leftL M2 T := by
  unfold leftL
  rw [List.filter_filter]
  refine List.filter_congr fun x hx => ?_
  obtain ⟨d, hd, e⟩ := h.dev x hx
  rw [notOld_is hd e, notOld_is hd e]
  have := hle d
  by_cases h2 : gI M2 d < x.seq
  · rw [decide_eq_true h2, decide_eq_true (by omega)]; rfl
  · rw [decide_eq_false h2, Bool.false_and]
theorem gI_out {l : List Int} (h : l.length = 12) {j : Nat} (hj : ¬ j < 12) : gI l j = 0 := by
  unfold gI
  rw [List.getElem?_eq_none (by omega)]
  rfl
/-- What is known grows by some of those that were taken. -/
theorem Chn.grow {T : List Wr} (h : Chn T) {M : List Int} (hm : M.length = 12) (h0 : ∀ j, 0 ≤ gI M j) (hle : LeL M (ofL zL T)) (n : Nat) : (ofL M (T.take n)).length = 12 ∧ LeL M (ofL M (T.take n)) ∧ LeL (ofL M (T.take n)) (ofL zL T) := by
  have hl := ofL_len hm (T.take n)
  refine ⟨hl, fun j => ?_, fun j => ?_⟩
  · by_cases hj : j < 12
    · rw [gI_ofL hj _ M hm]
      exact mxI_le _ _ _
    · rw [gI_out hm hj, gI_out hl hj]
      exact Int.le_refl _
  · by_cases hj : j < 12
    · have h1 := hle j
      rw [gI_ofL hj _ M hm, gI_ofL hj T zL rfl, zL_gI]
      rw [gI_ofL hj T zL rfl, zL_gI] at h1
      have h2 := mxI_max j T 0 (gI M j)
      rw [show max 0 (gI M j) = gI M j by have := h0 j; omega] at h2
      have h3 : mxI j (gI M j) T = mxI j (mxI j (gI M j) (T.take n)) (T.drop n) := by rw [← mxI_app, List.take_append_drop]
      have h4 := mxI_le j (T.drop n) (mxI j (gI M j) (T.take n))
      omega
    · rw [gI_out hl hj, gI_out (ofL_len rfl T) hj]
      exact Int.le_refl _
theorem Chn.sml {T : List Wr} (h : Chn T) : ∀ j, 0 ≤ gI (ofL zL T) j ∧ gI (ofL zL T) j ≤ 40 := h.tg.sml
theorem Chn.new {T : List Wr} (h : Chn T) {M : List Int} (hle : LeL M (ofL zL T)) {x : Wr} {d : Nat} (e : x.dev = (d : Int)) (hd : d < 12) (hq : x.seq = gI (ofL zL T) d + 1) : leftL M (T ++ [x]) = leftL M T ++ [x] := by
  rw [leftL_snoc, notOld_is hd e, decide_eq_true (by have := hle d; omega)]
  rfl
theorem Chn.le {T : List Wr} (h : Chn T) {x : Wr} {d : Nat} (e : x.dev = (d : Int)) (hd : d < 12) (hq : x.seq = gI (ofL zL T) d + 1) {M : List Int} (hm : M.length = 12) (hle : LeL M (ofL zL T)) : LeL M (ofL zL (T ++ [x])) := fun j => by
  rw [ofL_snoc, gI_ofS h.tg.len hd e j]
  have := hle j
  split
  · rename_i h2
    subst h2
    omega
  · exact this
theorem left_low {M : List Int} {T : List Wr} (h : Chn T) {x : Wr} (hx : x ∈ leftL M T) : ∃ d : Nat, d < 12 ∧ x.dev = (d : Int) ∧ gI M d < x.seq := by
  have h1 := List.mem_filter.1 hx
  obtain ⟨d, hd, e⟩ := h.dev x h1.1
  have h2 := h1.2
  rw [notOld_is hd e] at h2
  exact ⟨d, hd, e, of_decide_eq_true h2⟩
theorem Chn.good {T : List Wr} (h : Chn T) {x : Wr} (hx : x ∈ T) : x.good = true := h.tg.good x hx
end Go.Proofs.Ytkfhkfddhijkcaa
