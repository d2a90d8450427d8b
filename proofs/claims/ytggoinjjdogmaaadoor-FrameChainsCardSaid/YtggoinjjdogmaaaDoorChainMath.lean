/-
  WHAT IS PROVED: plain facts: frames that were sealed, one behind the other, are scanned piece by piece; a torn one behind them is told. No program is spoken of.
-/
import Derived.Test.YtggoinjjdogmaaaDoorFrameMath
namespace Go.Proofs.YtggoinjjdogmaaaDoor
open Go.RowKit

/-- Frames one behind the other, their kinds counted from i. -/
def joinF : Nat → List (List UInt8) → List UInt8
  | _, [] => []
  | i, x :: t => sealL (UInt8.ofNat i) x ++ joinF (i + 1) t
def pcsF : Nat → List (List UInt8) → List Pc
  | _, [] => []
  | i, x :: t => (UInt8.ofNat i, x) :: pcsF (i + 1) t
theorem joinF_app : ∀ (l l2 : List (List UInt8)) (i : Nat), joinF i (l ++ l2) = joinF i l ++ joinF (i + l.length) l2
  | [], l2, i => rfl
  | x :: t, l2, i => by
    show sealL (UInt8.ofNat i) x ++ joinF (i + 1) (t ++ l2) = (sealL (UInt8.ofNat i) x ++ joinF (i + 1) t) ++ joinF (i + (t.length + 1)) l2
    rw [joinF_app t l2 (i + 1), List.append_assoc, show i + 1 + t.length = i + (t.length + 1) by omega]
theorem joinF_snoc (l : List (List UInt8)) (x : List UInt8) : joinF 0 (l ++ [x]) = joinF 0 l ++ sealL (UInt8.ofNat l.length) x := by
  rw [joinF_app, Nat.zero_add]
  show joinF 0 l ++ (sealL (UInt8.ofNat l.length) x ++ []) = _
  rw [List.append_nil]
theorem pcsF_len : ∀ (l : List (List UInt8)) (i : Nat), (pcsF i l).length = l.length
  | [], _ => rfl
  | x :: t, i => by
    show (pcsF (i + 1) t).length + 1 = t.length + 1
    rw [pcsF_len t (i + 1)]
theorem pcsF_get : ∀ (l : List (List UInt8)) (i k : Nat) (x : List UInt8), l[k]? = some x → (pcsF i l)[k]? = some (UInt8.ofNat (i + k), x)
  | [], i, k, x, h => by simp at h
  | y :: t, i, 0, x, h => by
    have e : y = x := by simpa using h
    subst e
    rfl
  | y :: t, i, k + 1, x, h => by
    have h2 : t[k]? = some x := by simpa using h
    have := pcsF_get t (i + 1) k x h2
    show (pcsF (i + 1) t)[k]? = _
    rw [this, show i + 1 + k = i + (k + 1) by omega]
theorem scan_app : ∀ (l : List (List UInt8)) (i : Nat) (r : List UInt8) (l' : List Pc) (m code : Nat), (∀ x, x ∈ l → x.length ≤ 100000) → ScanR r l' m code → ScanR (joinF i l ++ r) (pcsF i l ++ l') ((joinF i l).length + m) code
  | [], i, r, l', m, code, _, h => by
    show ScanR r l' (0 + m) code
    rw [Nat.zero_add]
    exact h
  | x :: t, i, r, l', m, code, hl, h => by
    have ih := scan_app t (i + 1) r l' m code (fun y hy => hl y (List.mem_cons_of_mem _ hy)) h
    have hx := hl x List.mem_cons_self
    have ht := take_seal (UInt8.ofNat i) x (joinF (i + 1) t ++ r) hx
    have hlen := sealL_len (UInt8.ofNat i) x
    have hd : (sealL (UInt8.ofNat i) x ++ (joinF (i + 1) t ++ r)).drop (x.length + 9) = joinF (i + 1) t ++ r := by
      rw [show x.length + 9 = (sealL (UInt8.ofNat i) x).length by omega, List.drop_left]
    have hne : sealL (UInt8.ofNat i) x ++ (joinF (i + 1) t ++ r) ≠ [] := by
      intro e
      have := congrArg List.length e
      rw [List.length_append, hlen] at this
      simp at this
    have hs := ScanR.more (b := sealL (UInt8.ofNat i) x ++ (joinF (i + 1) t ++ r)) (l := pcsF (i + 1) t ++ l') (m := (joinF (i + 1) t).length + m) (code := code) hne (by rw [ht]) (by rw [ht]; simp only; rw [hd]; exact ih)
    rw [ht] at hs
    simp only at hs
    show ScanR ((sealL (UInt8.ofNat i) x ++ joinF (i + 1) t) ++ r) ((UInt8.ofNat i, x) :: (pcsF (i + 1) t ++ l')) ((sealL (UInt8.ofNat i) x ++ joinF (i + 1) t).length + m) code
    rw [List.append_assoc, List.length_append, hlen, show 9 + x.length + (joinF (i + 1) t).length + m = x.length + 9 + ((joinF (i + 1) t).length + m) by omega]
    exact hs
theorem byteAt_take' {x : List UInt8} {m i : Nat} (h : i < m) : byteAt (x.take m) i = byteAt x i := by
  unfold byteAt
  rw [List.getD_eq_getElem?_getD, List.getD_eq_getElem?_getD, List.getElem?_take, if_pos h]
/-- A torn frame. -/
theorem torn (k : UInt8) (x : List UInt8) (m : Nat) (hx : x.length ≤ 100000) (h0 : 0 < m) (hm : m < x.length + 9) : ScanR ((sealL k x).take m) [] 0 2 := by
  have hl : ((sealL k x).take m).length = m := by
    rw [List.length_take, sealL_len]
    omega
  have hc : (takeF ((sealL k x).take m)).2.2.2 = 2 := by
    unfold takeF
    by_cases h9 : ((sealL k x).take m).length < 9 ∨ byteAt ((sealL k x).take m) 0 ≠ 229
    · rw [if_pos h9]
    · rw [if_neg h9, if_pos]
      have hm9 : 9 ≤ m := by omega
      have e : lenF ((sealL k x).take m) = x.length := by
        have h1 := lenF_seal k x [] hx
        rw [List.append_nil] at h1
        unfold lenF at h1 ⊢
        rw [byteAt_take' (by omega), byteAt_take' (by omega), byteAt_take' (by omega)]
        exact h1
      rw [e, hl]
      omega
  have hne : (sealL k x).take m ≠ [] := by
    intro e
    rw [e] at hl
    simp at hl
    omega
  have h := ScanR.stop hne (by rw [hc]; decide)
  rw [hc] at h
  exact h
/-- All of them. -/
theorem scan_all (l : List (List UInt8)) (hl : ∀ x, x ∈ l → x.length ≤ 100000) : ScanR (joinF 0 l) (pcsF 0 l) (joinF 0 l).length 0 := by
  have h := scan_app l 0 [] [] 0 0 hl .done
  rwa [List.append_nil, List.append_nil, Nat.add_zero] at h
/-- The last one torn. -/
theorem scan_torn (l : List (List UInt8)) (x : List UInt8) (k : Nat) (hl : ∀ y, y ∈ l ++ [x] → y.length ≤ 100000) (h1 : 1 ≤ k) (hk : k ≤ x.length + 8) :
    ScanR ((joinF 0 (l ++ [x])).take ((joinF 0 (l ++ [x])).length - k)) (pcsF 0 l) ((joinF 0 (l ++ [x])).length - (x.length + 9)) 2 := by
  have hx : x.length ≤ 100000 := hl x (by simp)
  have hlen := sealL_len (UInt8.ofNat l.length) x
  rw [joinF_snoc, List.length_append, hlen]
  have e : (joinF 0 l ++ sealL (UInt8.ofNat l.length) x).take ((joinF 0 l).length + (9 + x.length) - k) = joinF 0 l ++ (sealL (UInt8.ofNat l.length) x).take (x.length + 9 - k) := by
    rw [List.take_append, List.take_of_length_le (by omega)]
    congr 2
    omega
  rw [e, show (joinF 0 l).length + (9 + x.length) - (x.length + 9) = (joinF 0 l).length + 0 by omega]
  have h := scan_app l 0 ((sealL (UInt8.ofNat l.length) x).take (x.length + 9 - k)) [] 0 2 (fun y hy => hl y (List.mem_append_left _ hy)) (torn _ x _ hx (by omega) (by omega))
  rwa [List.append_nil] at h
end Go.Proofs.YtggoinjjdogmaaaDoor
