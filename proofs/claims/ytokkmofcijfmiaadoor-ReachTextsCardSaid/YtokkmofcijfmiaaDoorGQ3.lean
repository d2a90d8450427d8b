/-
  WHAT IS PROVED: of the code of reaches: prefixes tells whether all may be prefixes, Has whether one of them begins a text, Covers whether one has all that another one has. Conditions: those typed in each theorem. · plain facts on what is left of a sorted list of texts if each is dropped that begins with the last one left: the reach of these prefixes. No program. No condition.
-/
import Derived.Test.YtokkmofcijfmiaaDoorGQ1
import Derived.Test.YtokkmofcijfmiaaDoorGQ2
import Derived.Test.YtokkmofcijfmiaaDoorShelf
import Derived.Test.YtokkmofcijfmiaaDoorReachRef2
import Derived.Test.YtokkmofcijfmiaaDoorReachMath
namespace Go.Proofs.YtokkmofcijfmiaaDoor
open Go.RowKit

theorem enters_pre : ∀ args w, (callFunc 59 args).run Tryd.prog w = .ok (.enter 59 args) w := enters_of Tryd.func59 (by kernel_rfl) rfl
theorem enters_has : ∀ args w, (callFunc 65 args).run Tryd.prog w = .ok (.enter 65 args) w := enters_of Tryd.func65 (by kernel_rfl) rfl
theorem enters_cov : ∀ args w, (callFunc 44 args).run Tryd.prog w = .ok (.enter 44 args) w := enters_of Tryd.func44 (by kernel_rfl) rfl

theorem key_is (s : ByteArray) (w : World) (b : Bool) (hb : keyB s.data.toList = b) (hs : s.size ≤ maxLen) :
    Calls Tryd.prog 60 #[.string s] w fun e w' => e = .returned (.bool b) ∧ Below w.heap.size w w' := by
  subst hb
  exact key_any s w hs

/-! prefixes -/
set_option maxHeartbeats 1000000 in
theorem pre1_any (x : ByteArray) (W : World) (hs : x.size ≤ maxLen) :
    Calls Tryd.prog 59 #[.string x] W fun e W' => e = .returned (.bool (!preB x.data.toList)) ∧ Below W.heap.size W W' := by
  have HS := Lib.hid hs
  clear hs
  by_cases h0 : x.data.toList = []
  · have e0 : x.toList.isEmpty = true := by rw [ByteArray.toList_eq, h0]; rfl
    have R := Lib.hid (show (!preB x.data.toList) = false by rw [h0]; rfl)
    clear h0
    go_enter Tryd.func59, Tryd.ntmps59
    go_wp2_with fail
    go_ret
    exact ⟨ret_bool R.out.symm, Below.refl _ _⟩
  · have e0 : x.toList.isEmpty = false := by
      rw [ByteArray.toList_eq]
      cases hx : x.data.toList with
      | nil => exact absurd hx h0
      | cons => rfl
    have e1 : preB x.data.toList = keyB x.data.toList := by
      unfold preB
      rw [← ByteArray.toList_eq, e0, Bool.false_or]
    cases hk : keyB x.data.toList with
    | true =>
      have HK := Lib.hid hk
      have R := Lib.hid (show (!preB x.data.toList) = false by rw [e1, hk]; rfl)
      clear h0 hk e1
      go_enter Tryd.func59, Tryd.ntmps59
      go_wp2_with (go_at_call 60; refine (key_is _ _ true HK.out HS.out).mono ?_; rintro e w2 ⟨rfl, hb2⟩)
      go_ret
      exact ⟨ret_bool R.out.symm, hb2⟩
    | false =>
      have HK := Lib.hid hk
      have R := Lib.hid (show (!preB x.data.toList) = true by rw [e1, hk]; rfl)
      clear h0 hk e1
      go_enter Tryd.func59, Tryd.ntmps59
      go_wp2_with (go_at_call 60; refine (key_is _ _ false HK.out HS.out).mono ?_; rintro e w2 ⟨rfl, hb2⟩)
      go_ret
      exact ⟨ret_bool R.out.symm, hb2⟩
theorem all_not {α : Type} (l : List α) (p : α → Bool) : (!(l.any fun x => !p x)) = l.all p := by
  induction l with
  | nil => rfl
  | cons a t ih => simp [ih]
theorem pre1_pred (l : List ByteArray) (w : World) (hs : ∀ x, x ∈ l → x.size ≤ maxLen) : PredB 59 #[] (fun x => !preB x) l w :=
  fun x hx W _ => pre1_any x W (hs x hx)
theorem prefixes_is (A : Option Addr) (n c : Nat) (l : List ByteArray) (w : World) (b : Bool) (hb : (dL l).all preB = b) (hn : l.length = n) (hr : RdS w.heap.size w A l) (hm : n ≤ maxLen) (hs : ∀ x, x ∈ l → x.size ≤ maxLen) :
    Calls Tryd.prog 41 #[.slice A n c] w fun e w' => e = .returned (.bool b) ∧ Below w.heap.size w w' := by
  have R := Lib.hid (show (!anyP (fun x => !preB x) l) = b by rw [← hb]; exact all_not (dL l) preB)
  have HP := Lib.hid (pre1_pred l w hs)
  clear hb
  go_enter Tryd.func41, Tryd.ntmps41
  go_wp2_with fail
  refine (contL_any _ #[] enters_pre (fun x => !preB x) A n c l w hn hr hm HP.out).mono ?_
  rintro e w2 ⟨rfl, hb2⟩
  generalize anyP (fun x => !preB x) l = v at R ⊢
  go_wp2_with fail
  go_ret
  exact ⟨ret_bool R.out, hb2⟩

/-! Has -/
theorem hasPrefix_beg (s p : List UInt8) : Lib.hasPrefix s p = begB p s := rfl
set_option maxHeartbeats 1000000 in
theorem has1_any (x key : ByteArray) (B : Nat) (W : World) (hc : W.cell? ⟨B, 0, none⟩ = some (.string key)) :
    Calls Tryd.prog 65 #[.string x, .pointer (some ⟨B, 0, none⟩)] W fun e W' => e = .returned (.bool (begB x.data.toList key.data.toList)) ∧ W' = W := by
  go_enter Tryd.func65, Tryd.ntmps65
  go_wp2_with (go_at_call 63; refine (Tryd.strings_HasPrefix _ _ _).mono ?_; rintro e w2 ⟨rfl, rfl⟩)
  go_ret
  exact ⟨rfl, rfl⟩
theorem has1_pred (l : List ByteArray) (key : ByteArray) (w : World) : PredB 65 #[.pointer (some ⟨w.heap.size, 0, none⟩)] (fun x => begB x key.data.toList) l (w.alloc (.cells #[.string key] 9)) :=
  fun x _ W hW => by
    have hc : W.cell? ⟨w.heap.size, 0, none⟩ = some (.string key) := (hW.cell (p := ⟨w.heap.size, 0, none⟩) (by simp)).trans (by go_simp)
    exact (has1_any x key w.heap.size W hc).mono fun e W' ⟨h, h2⟩ => ⟨h, by rw [h2]; exact Below.refl _ _⟩
set_option maxHeartbeats 1000000 in
theorem has_any (A : Option Addr) (n c : Nat) (l : List ByteArray) (key : ByteArray) (w : World) (hn : l.length = n) (hr : RdS w.heap.size w A l) (hm : n ≤ maxLen) :
    Calls Tryd.prog 45 #[.slice A n c, .string key] w fun e w' => e = .returned (.bool (hasB (dL l) key.data.toList)) ∧ Below w.heap.size w w' := by
  have hr2 := (hr.keep (b0 w (.cells #[.string key] 9)) (Nat.le_refl _)).more (show w.heap.size ≤ (w.alloc (.cells #[.string key] 9)).heap.size by simp)
  go_enter Tryd.func45, Tryd.ntmps45
  go_wp2_with fail
  refine (contR_any _ #[.pointer (some ⟨w.heap.size, 0, none⟩)] enters_has (fun x => begB x key.data.toList) A n c l _ hn hr2 hm (has1_pred l key w)).mono ?_
  rintro e w2 ⟨rfl, hb2⟩
  generalize hv : anyP (fun x => begB x key.data.toList) l = v
  have HV := Lib.hid hv
  clear hv
  go_wp2_with fail
  go_ret
  exact ⟨ret_bool HV.out.symm, (b0 _ _).trans (hb2.mono (by simp))⟩
theorem has_is (A : Option Addr) (n c : Nat) (l : List ByteArray) (key : ByteArray) (w : World) (b : Bool) (hb : hasB (dL l) key.data.toList = b) (hn : l.length = n) (hr : RdS w.heap.size w A l) (hm : n ≤ maxLen) :
    Calls Tryd.prog 45 #[.slice A n c, .string key] w fun e w' => e = .returned (.bool b) ∧ Below w.heap.size w w' := by
  subst hb
  exact has_any A n c l key w hn hr hm

/-! Covers -/
set_option maxHeartbeats 1000000 in
theorem cov1_any (x : ByteArray) (A : Option Addr) (n c : Nat) (l : List ByteArray) (B : Nat) (W : World) (hc : W.cell? ⟨B, 0, none⟩ = some (.slice A n c)) (hn : l.length = n) (hr : RdS W.heap.size W A l) (hm : n ≤ maxLen) :
    Calls Tryd.prog 44 #[.string x, .pointer (some ⟨B, 0, none⟩)] W fun e W' => e = .returned (.bool (!hasB (dL l) x.data.toList)) ∧ Below W.heap.size W W' := by
  generalize hv : hasB (dL l) x.data.toList = v
  have HV := Lib.hid hv
  clear hv
  go_enter Tryd.func44, Tryd.ntmps44
  go_wp2_with (go_at_call 45; refine (has_is A n c l x _ v HV.out hn hr hm).mono ?_; rintro e w2 ⟨rfl, hb2⟩)
  go_ret
  exact ⟨rfl, hb2⟩
theorem cov1_pred (A : Option Addr) (n c : Nat) (a b : List ByteArray) (w : World) (hn : a.length = n) (hr : RdS w.heap.size w A a) (hm : n ≤ maxLen) : PredB 44 #[.pointer (some ⟨w.heap.size, 0, none⟩)] (fun x => !hasB (dL a) x) b (w.alloc (.cells #[.slice A n c] 23)) :=
  fun x _ W hW => by
    have hc : W.cell? ⟨w.heap.size, 0, none⟩ = some (.slice A n c) := (hW.cell (p := ⟨w.heap.size, 0, none⟩) (by simp)).trans (by go_simp)
    have h0 := (b0 w (.cells #[.slice A n c] 23)).trans (hW.mono (by simp))
    exact cov1_any x A n c a w.heap.size W hc hn ((hr.keep h0 (Nat.le_refl _)).more h0.size) hm
set_option maxHeartbeats 1000000 in
theorem covers_any (A A2 : Option Addr) (n c m d : Nat) (a b : List ByteArray) (w : World) (ha : a.length = n) (hr : RdS w.heap.size w A a) (hm : n ≤ maxLen) (hb : b.length = m) (hr2 : RdS w.heap.size w A2 b) (hm2 : m ≤ maxLen) :
    Calls Tryd.prog 25 #[.slice A n c, .slice A2 m d] w fun e w' => e = .returned (.bool (covB (dL a) (dL b))) ∧ Below w.heap.size w w' := by
  have h2 := (hr2.keep (b0 w (.cells #[.slice A n c] 23)) (Nat.le_refl _)).more (show w.heap.size ≤ (w.alloc (.cells #[.slice A n c] 23)).heap.size by simp)
  have R := Lib.hid (show (!anyP (fun x => !hasB (dL a) x) b) = covB (dL a) (dL b) from all_not (dL b) (fun x => hasB (dL a) x))
  go_enter Tryd.func25, Tryd.ntmps25
  go_wp2_with fail
  refine (contR_any _ #[.pointer (some ⟨w.heap.size, 0, none⟩)] enters_cov (fun x => !hasB (dL a) x) A2 m d b _ hb h2 hm2 (cov1_pred A n c a b w ha hr hm)).mono ?_
  rintro e w2 ⟨rfl, hb2⟩
  generalize anyP (fun x => !hasB (dL a) x) b = v at R ⊢
  go_wp2_with fail
  go_ret
  exact ⟨ret_bool R.out, (b0 _ _).trans (hb2.mono (by simp))⟩
end Go.Proofs.YtokkmofcijfmiaaDoor

namespace Go.Proofs.YtokkmofcijfmiaaDoor
open Go

theorem lex_cons (a b : UInt8) (as1 bs : List UInt8) : Lib.compareBytes (a :: as1) (b :: bs) = if a < b then -1 else if b < a then 1 else Lib.compareBytes as1 bs := by simp only [Lib.compareBytes]
theorem begB_cons (a b : UInt8) (as1 bs : List UInt8) : begB (a :: as1) (b :: bs) = ((a == b) && begB as1 bs) := by simp [begB, List.isPrefixOf]
theorem u8_eq {a b : UInt8} (h : ¬ a < b) (k : ¬ b < a) : a = b := by
  rw [UInt8.lt_iff_toNat_lt] at *
  exact UInt8.toNat_inj.1 (by omega)
theorem u8_irrefl (a : UInt8) : ¬ a < a := by rw [UInt8.lt_iff_toNat_lt]; omega
theorem ltB_cons (a b : UInt8) (as1 bs : List UInt8) : ltB (a :: as1) (b :: bs) = if a < b then true else if b < a then false else ltB as1 bs := by
  unfold ltB
  rw [lex_cons]
  by_cases h : a < b
  · simp [h]
  · by_cases k : b < a
    · simp [h, k]
    · simp [h, k]
/-- What stands between a text and one that it begins begins with it. -/
theorem begB_between : ∀ (y q p : List UInt8), begB y p = true → ltB q y = false → ltB p q = false → begB y q = true
  | [], q, p, _, _, _ => by simp [begB, List.isPrefixOf]
  | a :: y, [], p, _, h1, _ => by simp [ltB, Lib.compareBytes] at h1
  | a :: y, b :: q, [], h, _, _ => by simp [begB, List.isPrefixOf] at h
  | a :: y, b :: q, c :: p, h, h1, h2 => by
    rw [begB_cons, Bool.and_eq_true, beq_iff_eq] at h
    obtain ⟨rfl, h⟩ := h
    rw [ltB_cons] at h1 h2
    have n1 : ¬ b < a := fun e => by simp [e] at h1
    have n2 : ¬ a < b := fun e => by simp [e] at h2
    have e : a = b := u8_eq n2 n1
    subst e
    rw [if_neg (u8_irrefl _), if_neg (u8_irrefl _)] at h1 h2
    rw [begB_cons, begB_between y q p h h1 h2]
    simp
/-- What begins a text isn't behind it. -/
theorem begB_le : ∀ (p x : List UInt8), begB p x = true → ltB x p = false
  | [], x, _ => by cases x <;> simp [ltB, Lib.compareBytes]
  | a :: p, [], h => by simp [begB, List.isPrefixOf] at h
  | a :: p, b :: x, h => by
    rw [begB_cons, Bool.and_eq_true, beq_iff_eq] at h
    obtain ⟨rfl, h⟩ := h
    rw [ltB_cons, if_neg (u8_irrefl _), if_neg (u8_irrefl _)]
    exact begB_le p x h
theorem list_lt_iff : ∀ (x y : List UInt8), x < y ↔ ltB x y = true
  | [], [] => by simp [ltB, Lib.compareBytes]
  | [], _ :: _ => by simp [ltB, Lib.compareBytes]
  | _ :: _, [] => by simp [ltB, Lib.compareBytes]
  | a :: x, b :: y => by
    rw [List.cons_lt_cons_iff, ltB_cons, list_lt_iff x y]
    by_cases h : a < b
    · simp [h]
    · by_cases k : b < a
      · have hne : a ≠ b := fun e => by subst e; exact h k
        simp [h, k, hne]
      · have e := u8_eq h k
        subst e
        simp [h]
theorem list_le_iff (x y : List UInt8) : decide (x ≤ y) = !ltB y x := by
  rw [Bool.eq_iff_iff, decide_eq_true_eq, Bool.not_eq_true', ← Bool.not_eq_true, ← list_lt_iff]
  exact List.not_lt.symm

/-- With one more. -/
def leastStep (left : List (List UInt8)) (p : List UInt8) : List (List UInt8) :=
  if left = [] ∨ begB (atR left (left.length - 1)) p = false then left ++ [p] else left
/-- What is left of a sorted list. -/
def leastL (s : List (List UInt8)) : List (List UInt8) := s.foldl leastStep []
theorem leastL_snoc (s : List (List UInt8)) (p : List UInt8) : leastL (s ++ [p]) = leastStep (leastL s) p := by
  unfold leastL
  rw [List.foldl_append]
  rfl
theorem leastStep_le (l : List (List UInt8)) (p : List UInt8) : (leastStep l p).length ≤ l.length + 1 := by
  unfold leastStep
  split <;> simp
theorem leastL_le (s : List (List UInt8)) : (leastL s).length ≤ s.length := by
  have key : ∀ (s l : List (List UInt8)), (s.foldl leastStep l).length ≤ l.length + s.length := by
    intro s
    induction s with
    | nil => intro l; simp
    | cons p s ih =>
      intro l
      have h1 := ih (leastStep l p)
      have h2 := leastStep_le l p
      simp only [List.foldl_cons, List.length_cons]
      omega
  have := key s []
  simpa [leastL] using this
/-- Sorted, though not each once. -/
def Sorted (s : List (List UInt8)) : Prop := s.Pairwise fun a b => ltB b a = false
/-- What the loop keeps. -/
structure LeastInv (s L : List (List UInt8)) : Prop where
  rises : Rises L
  mem : ∀ x, x ∈ L → x ∈ s
  low : ∀ x, x ∈ L → ∀ y, y ∈ s → begB y x = true → y = x
  cov : ∀ x, x ∈ s → ∃ y, y ∈ L ∧ begB y x = true
theorem least_inv_nil : LeastInv [] [] := ⟨List.Pairwise.nil, fun _ h => h, fun _ h => by simp at h, fun _ h => by simp at h⟩
theorem le_eq {a b : List UInt8} (h : ltB a b = false) (k : ltB b a = false) : a = b := by
  apply Classical.byContradiction
  intro hne
  rw [ltB_total h hne] at k
  cases k
theorem least_inv_step {s L : List (List UInt8)} {p : List UInt8} (h : LeastInv s L) (hp : ∀ x, x ∈ s → ltB p x = false) : LeastInv (s ++ [p]) (leastStep L p) := by
  unfold leastStep
  by_cases h0 : L = []
  · subst h0
    have hs : s = [] := by
      cases s with
      | nil => rfl
      | cons a t =>
        obtain ⟨y, hy, _⟩ := h.cov a List.mem_cons_self
        simp at hy
    subst hs
    rw [if_pos (Or.inl rfl)]
    refine ⟨by simp [Rises], fun x hx => hx, fun x hx y hy _ => ?_, fun x hx => ⟨x, hx, begB_refl x⟩⟩
    simp at hx hy
    rw [hx, hy]
  · have hlen := List.length_pos_iff.2 h0
    have hq : atR L (L.length - 1) ∈ L := atR_mem (by omega)
    have hlast : ∀ y, y ∈ L → y ≠ atR L (L.length - 1) → ltB y (atR L (L.length - 1)) = true := by
      intro y hy hne
      obtain ⟨i, hi, rfl⟩ := mem_atR hy
      have : i ≠ L.length - 1 := fun e => hne (by rw [e])
      exact rises_at h.rises (by omega) (by omega)
    generalize hqe : atR L (L.length - 1) = q at hq hlast
    by_cases hb : begB q p = true
    · rw [if_neg (by simp [h0, hb])]
      refine ⟨h.rises, fun x hx => List.mem_append_left _ (h.mem x hx), fun x hx y hy hbx => ?_, fun x hx => ?_⟩
      · rcases List.mem_append.1 hy with hy | hy
        · exact h.low x hx y hy hbx
        · rw [List.mem_singleton] at hy
          subst hy
          exact (le_eq (begB_le _ _ hbx) (hp x (h.mem x hx))).symm
      · rcases List.mem_append.1 hx with hx | hx
        · exact h.cov x hx
        · rw [List.mem_singleton] at hx
          subst hx
          exact ⟨q, hq, hb⟩
    · have hb' : begB q p = false := by simpa using hb
      rw [if_pos (Or.inr hb')]
      have hL : ∀ y, y ∈ L → begB y p = false := by
        intro y hy
        rw [Bool.eq_false_iff]
        intro hyp
        by_cases e : y = q
        · rw [e, hb'] at hyp; cases hyp
        · have h1 := ltB_asymm (hlast y hy e)
          have h2 := begB_between y q p hyp h1 (hp q (h.mem q hq))
          exact e (h.low q hq y (h.mem y hy) h2)
      have hS : ∀ y, y ∈ s → begB y p = false := by
        intro y hy
        rw [Bool.eq_false_iff]
        intro hyp
        obtain ⟨z, hz, hzy⟩ := h.cov y hy
        have := hL z hz
        rw [begB_trans hzy hyp] at this
        cases this
      refine ⟨?_, fun x hx => ?_, fun x hx y hy hbx => ?_, fun x hx => ?_⟩
      · refine List.pairwise_append.2 ⟨h.rises, List.pairwise_singleton _ _, fun x hx y hy => ?_⟩
        rw [List.mem_singleton] at hy
        subst hy
        refine ltB_total (hp x (h.mem x hx)) fun e => ?_
        have := hS x (h.mem x hx)
        rw [← e, begB_refl] at this
        cases this
      · rcases List.mem_append.1 hx with hx | hx
        · exact List.mem_append_left _ (h.mem x hx)
        · exact List.mem_append_right _ hx
      · rcases List.mem_append.1 hx with hxL | hx
        · rcases List.mem_append.1 hy with hy | hy
          · exact h.low x hxL y hy hbx
          · rw [List.mem_singleton] at hy
            subst hy
            exact (le_eq (begB_le _ _ hbx) (hp x (h.mem x hxL))).symm
        · rw [List.mem_singleton] at hx
          subst hx
          rcases List.mem_append.1 hy with hy | hy
          · rw [hS y hy] at hbx; cases hbx
          · exact List.mem_singleton.1 hy
      · rcases List.mem_append.1 hx with hx | hx
        · obtain ⟨y, hy, hyx⟩ := h.cov x hx
          exact ⟨y, List.mem_append_left _ hy, hyx⟩
        · exact ⟨x, List.mem_append_right _ hx, begB_refl x⟩
theorem least_inv (s : List (List UInt8)) (hs : Sorted s) : LeastInv s (leastL s) := by
  have key : ∀ k, k ≤ s.length → LeastInv (s.take k) (leastL (s.take k)) := by
    intro k
    induction k with
    | zero => intro _; simpa [leastL] using least_inv_nil
    | succ k ih =>
      intro hk
      rw [List.take_succ_eq_append_getElem (by omega), leastL_snoc]
      refine least_inv_step (ih (by omega)) fun x hx => ?_
      obtain ⟨i, hi, rfl⟩ := List.getElem_of_mem hx
      rw [List.length_take] at hi
      rw [List.getElem_take]
      exact List.pairwise_iff_getElem.1 hs i k (by omega) (by omega) (by omega)
  have := key s.length (Nat.le_refl _)
  rwa [List.take_length] at this
theorem least_made_of {s : List (List UInt8)} (hs : Sorted s) : IsMade (· ∈ s) (leastL s) := by
  have h := least_inv s hs
  refine ⟨h.rises, fun x => ⟨fun hx => ⟨h.mem x hx, fun y hy hb => h.low x hx y hy hb⟩, fun ⟨hx, hy⟩ => ?_⟩⟩
  obtain ⟨y, hyL, hb⟩ := h.cov x hx
  rw [← hy y (h.mem y hyL) hb]
  exact hyL
/-- The sort's answer. -/
def sortL (l : List (List UInt8)) : List (List UInt8) := l.mergeSort fun x y => decide (x ≤ y)
theorem sortL_perm (l : List (List UInt8)) : (sortL l).Perm l := List.mergeSort_perm _ _
theorem sortL_len (l : List (List UInt8)) : (sortL l).length = l.length := (sortL_perm l).length_eq
theorem sortL_sorted (l : List (List UInt8)) : Sorted (sortL l) := by
  have h := List.pairwise_mergeSort (le := fun x y : List UInt8 => decide (x ≤ y)) (fun a b c h k => by
    simp only [decide_eq_true_eq] at *
    exact List.le_trans h k) (fun a b => by
    have := List.le_total a b
    simpa [Bool.or_eq_true] using this) l
  refine h.imp fun {a b} hab => ?_
  rw [list_le_iff] at hab
  simpa using hab
/-- The prefixes that are left of any list. -/
def leastOf (l : List (List UInt8)) : List (List UInt8) := leastL (sortL l)
theorem least_made (l : List (List UInt8)) : IsMade (· ∈ l) (leastOf l) :=
  made_congr (least_made_of (sortL_sorted l)) fun _ => (sortL_perm l).mem_iff
theorem leastOf_len (l : List (List UInt8)) : (leastOf l).length ≤ l.length := by
  have := leastL_le (sortL l)
  rw [sortL_len] at this
  exact this
/-- It is a reach just if all may be prefixes, they are not too many, and none is dropped. -/
theorem goodR_least (r : List (List UInt8)) : goodR r = (decide (r.length ≤ 6) && (r.all preB && decide (r = leastOf r))) := by
  rw [Bool.eq_iff_iff, Bool.and_eq_true, Bool.and_eq_true, decide_eq_true_eq, decide_eq_true_eq, List.all_eq_true]
  constructor
  · intro h
    exact ⟨(goodR_iff.1 h).2, fun x hx => goodR_pre h hx, made_uniq (goodR_made h) (least_made r) fun _ => Iff.rfl⟩
  · rintro ⟨h1, h2, h3⟩
    have hm := least_made r
    rw [← h3] at hm
    exact made_good hm h2 h1
end Go.Proofs.YtokkmofcijfmiaaDoor
