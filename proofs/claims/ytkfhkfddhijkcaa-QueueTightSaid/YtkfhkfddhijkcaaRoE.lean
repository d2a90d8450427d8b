/-
  WHAT IS PROVED: the law RosterOrder returns true. Conditions: those typed in each theorem.
-/
import Derived.Test.YtkfhkfddhijkcaaRoC
import Derived.Test.YtkfhkfddhijkcaaRoD
import Derived.Test.YtkfhkfddhijkcaaApM
namespace Go.Proofs.Ytkfhkfddhijkcaa
open Go.RowKit

/-- The greatest of a number and a device's. -/
def mxI (j : Nat) (m : Int) (ws : List Wr) : Int := ws.foldl (fun m x => if x.dev = (j : Int) then max m x.seq else m) m
theorem mxI_app (j : Nat) (m : Int) (a c : List Wr) : mxI j m (a ++ c) = mxI j (mxI j m a) c := by unfold mxI; rw [List.foldl_append]
theorem mxI_max (j : Nat) (ws : List Wr) : ∀ m c : Int, mxI j (max m c) ws = max (mxI j m ws) c := by
  induction ws with
  | nil => intro m c; rfl
  | cons x r ih =>
    intro m c
    show mxI j (if x.dev = (j : Int) then max (max m c) x.seq else max m c) r = max (mxI j (if x.dev = (j : Int) then max m x.seq else m) r) c
    split
    · rw [show max (max m c) x.seq = max (max m x.seq) c by omega]
      exact ih _ _
    · exact ih _ _
theorem mxI_le (j : Nat) (ws : List Wr) : ∀ m : Int, m ≤ mxI j m ws := by
  induction ws with
  | nil => intro m; exact Int.le_refl _
  | cons x r ih =>
    intro m
    show m ≤ mxI j (if x.dev = (j : Int) then max m x.seq else m) r
    refine Int.le_trans ?_ (ih _)
    split <;> omega
theorem mxI_two (j : Nat) (m : Int) (a c : List Wr) : mxI j (mxI j m a) c = max (mxI j m a) (mxI j m c) := by
  have h := mxI_le j a m
  have e : mxI j m a = max m (mxI j m a) := by omega
  rw [e, mxI_max, ← e]
  omega
theorem gI_ofL {j : Nat} (hj : j < 12) : ∀ (ws : List Wr) (l : List Int), l.length = 12 → gI (ofL l ws) j = mxI j (gI l j) ws := by
  intro ws
  induction ws with
  | nil => intro l _; rfl
  | cons x r ih =>
    intro l hl
    show gI (ofL (ofS l x) r) j = mxI j (if x.dev = (j : Int) then max (gI l j) x.seq else gI l j) r
    rw [ih _ (ofS_len hl x)]
    congr 1
    cases hn : nodeB x.dev with
    | false =>
      rw [ofS_no hn, if_neg]
      intro e
      unfold nodeB at hn
      rw [e, decide_eq_true (by omega), decide_eq_true (by omega)] at hn
      cases hn
    | true =>
      obtain ⟨d, hd, e⟩ := nodeB_nat hn
      rw [ofS_yes hd e, gI_set (by omega), e]
      by_cases h : d = j
      · subst h
        rw [if_pos rfl, if_pos rfl]
      · rw [if_neg h, if_neg (by omega)]
theorem ofL_eq {l : List Int} (hl : l.length = 12) {m : List Int} (hm : m.length = 12) {ws : List Wr} (h : ∀ j, j < 12 → gI m j = mxI j (gI l j) ws) : m = ofL l ws :=
  li_ext hm (ofL_len hl ws) fun j hj => by rw [h j hj, gI_ofL hj ws l hl]
theorem order_true {l : List Int} (hl : l.length = 12) (ws : List Wr) (k : Nat) :
    ofL l (ws.drop k ++ ws.take k) = ofL l ws ∧ ofL (ofL l (ws.take k)) (ws.drop k) = ofL l ws ∧ joinL (ofL l (ws.take k)) (ofL l (ws.drop k)) = ofL l ws ∧ covLB (ofL l ws) l = true := by
  have ht : ∀ j, mxI j (gI l j) ws = max (mxI j (gI l j) (ws.take k)) (mxI j (gI l j) (ws.drop k)) := fun j => by
    rw [← mxI_two, ← mxI_app, List.take_append_drop]
  refine ⟨ofL_eq hl (ofL_len hl _) fun j hj => ?_, ofL_eq hl (ofL_len (ofL_len hl _) _) fun j hj => ?_, ofL_eq hl (joinL_len ..) fun j hj => ?_, (covLB_iff (ofL_len hl ws)).2 fun j hj => ?_⟩
  · rw [gI_ofL hj _ l hl, mxI_app, mxI_two, ht j]
    omega
  · rw [gI_ofL hj _ _ (ofL_len hl _), gI_ofL hj _ l hl, mxI_two, ht j]
  · rw [gI_join hj, gI_ofL hj _ l hl, gI_ofL hj _ l hl, ht j]
  · rw [gI_ofL hj _ l hl]
    exact mxI_le j ws _
end Go.Proofs.Ytkfhkfddhijkcaa
