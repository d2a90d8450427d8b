/-
  WHAT IS PROVED: of the code of reaches: prefixes tells whether all may be prefixes, Has whether one of them begins a text, Covers whether one has all that another one has. Conditions: those typed in each theorem.
-/
import Derived.Test.YtccdpbcldpmegaaDoorSlcFunc
import Derived.Test.YtccdpbcldpmegaaDoorKey
import Derived.Test.YtccdpbcldpmegaaDoorShelf
import Derived.Test.YtccdpbcldpmegaaDoorReachRef2
namespace Go.Proofs.YtccdpbcldpmegaaDoor
open Go.RowKit

theorem enters_pre : ∀ args w, (callFunc 35 args).run Tryd.prog w = .ok (.enter 35 args) w := enters_of Tryd.func35 (by kernel_rfl) rfl
theorem enters_has : ∀ args w, (callFunc 41 args).run Tryd.prog w = .ok (.enter 41 args) w := enters_of Tryd.func41 (by kernel_rfl) rfl
theorem enters_cov : ∀ args w, (callFunc 25 args).run Tryd.prog w = .ok (.enter 25 args) w := enters_of Tryd.func25 (by kernel_rfl) rfl

theorem key_is (s : ByteArray) (w : World) (b : Bool) (hb : keyB s.data.toList = b) (hs : s.size ≤ maxLen) :
    Calls Tryd.prog 36 #[.string s] w fun e w' => e = .returned (.bool b) ∧ Below w.heap.size w w' := by
  subst hb
  exact key_any s w hs

/-! prefixes -/
set_option maxHeartbeats 1000000 in
theorem pre1_any (x : ByteArray) (W : World) (hs : x.size ≤ maxLen) :
    Calls Tryd.prog 35 #[.string x] W fun e W' => e = .returned (.bool (!preB x.data.toList)) ∧ Below W.heap.size W W' := by
  have HS := Lib.hid hs
  clear hs
  by_cases h0 : x.data.toList = []
  · have e0 : x.toList.isEmpty = true := by rw [ByteArray.toList_eq, h0]; rfl
    have R := Lib.hid (show (!preB x.data.toList) = false by rw [h0]; rfl)
    clear h0
    go_enter Tryd.func35, Tryd.ntmps35
    go_wp2_with fail
    go_ret
    exact ⟨ret_bool R.out.symm, Below.refl _ _⟩
  · have e0 : x.toList.isEmpty = false := by
      rw [ByteArray.toList_eq]
      cases hx : x.data.toList with
      | nil => exact absurd hx h0
      | cons => rfl
    have e1 : preB x.data.toList = keyB x.data.toList := by
      unfold preB
      rw [← ByteArray.toList_eq, e0, Bool.false_or]
    cases hk : keyB x.data.toList with
    | true =>
      have HK := Lib.hid hk
      have R := Lib.hid (show (!preB x.data.toList) = false by rw [e1, hk]; rfl)
      clear h0 hk e1
      go_enter Tryd.func35, Tryd.ntmps35
      go_wp2_with (go_at_call 36; refine (key_is _ _ true HK.out HS.out).mono ?_; rintro e w2 ⟨rfl, hb2⟩)
      go_ret
      exact ⟨ret_bool R.out.symm, hb2⟩
    | false =>
      have HK := Lib.hid hk
      have R := Lib.hid (show (!preB x.data.toList) = true by rw [e1, hk]; rfl)
      clear h0 hk e1
      go_enter Tryd.func35, Tryd.ntmps35
      go_wp2_with (go_at_call 36; refine (key_is _ _ false HK.out HS.out).mono ?_; rintro e w2 ⟨rfl, hb2⟩)
      go_ret
      exact ⟨ret_bool R.out.symm, hb2⟩
theorem all_not {α : Type} (l : List α) (p : α → Bool) : (!(l.any fun x => !p x)) = l.all p := by
  induction l with
  | nil => rfl
  | cons a t ih => simp [ih]
theorem pre1_pred (l : List ByteArray) (w : World) (hs : ∀ x, x ∈ l → x.size ≤ maxLen) : PredB 35 #[] (fun x => !preB x) l w :=
  fun x hx W _ => pre1_any x W (hs x hx)
theorem prefixes_is (A : Option Addr) (n c : Nat) (l : List ByteArray) (w : World) (b : Bool) (hb : (dL l).all preB = b) (hn : l.length = n) (hr : RdS w.heap.size w A l) (hm : n ≤ maxLen) (hs : ∀ x, x ∈ l → x.size ≤ maxLen) :
    Calls Tryd.prog 22 #[.slice A n c] w fun e w' => e = .returned (.bool b) ∧ Below w.heap.size w w' := by
  have R := Lib.hid (show (!anyP (fun x => !preB x) l) = b by rw [← hb]; exact all_not (dL l) preB)
  have HP := Lib.hid (pre1_pred l w hs)
  clear hb
  go_enter Tryd.func22, Tryd.ntmps22
  go_wp2_with fail
  refine (contL_any _ #[] enters_pre (fun x => !preB x) A n c l w hn hr hm HP.out).mono ?_
  rintro e w2 ⟨rfl, hb2⟩
  generalize anyP (fun x => !preB x) l = v at R ⊢
  go_wp2_with fail
  go_ret
  exact ⟨ret_bool R.out, hb2⟩

/-! Has -/
theorem hasPrefix_beg (s p : List UInt8) : Lib.hasPrefix s p = begB p s := rfl
set_option maxHeartbeats 1000000 in
theorem has1_any (x key : ByteArray) (B : Nat) (W : World) (hc : W.cell? ⟨B, 0, none⟩ = some (.string key)) :
    Calls Tryd.prog 41 #[.string x, .pointer (some ⟨B, 0, none⟩)] W fun e W' => e = .returned (.bool (begB x.data.toList key.data.toList)) ∧ W' = W := by
  go_enter Tryd.func41, Tryd.ntmps41
  go_wp2_with (go_at_call 39; refine (Tryd.strings_HasPrefix _ _ _).mono ?_; rintro e w2 ⟨rfl, rfl⟩)
  go_ret
  exact ⟨rfl, rfl⟩
theorem has1_pred (l : List ByteArray) (key : ByteArray) (w : World) : PredB 41 #[.pointer (some ⟨w.heap.size, 0, none⟩)] (fun x => begB x key.data.toList) l (w.alloc (.cells #[.string key] 9)) :=
  fun x _ W hW => by
    have hc : W.cell? ⟨w.heap.size, 0, none⟩ = some (.string key) := (hW.cell (p := ⟨w.heap.size, 0, none⟩) (by simp)).trans (by go_simp)
    exact (has1_any x key w.heap.size W hc).mono fun e W' ⟨h, h2⟩ => ⟨h, by rw [h2]; exact Below.refl _ _⟩
set_option maxHeartbeats 1000000 in
theorem has_any (A : Option Addr) (n c : Nat) (l : List ByteArray) (key : ByteArray) (w : World) (hn : l.length = n) (hr : RdS w.heap.size w A l) (hm : n ≤ maxLen) :
    Calls Tryd.prog 26 #[.slice A n c, .string key] w fun e w' => e = .returned (.bool (hasB (dL l) key.data.toList)) ∧ Below w.heap.size w w' := by
  have hr2 := (hr.keep (b0 w (.cells #[.string key] 9)) (Nat.le_refl _)).more (show w.heap.size ≤ (w.alloc (.cells #[.string key] 9)).heap.size by simp)
  go_enter Tryd.func26, Tryd.ntmps26
  go_wp2_with fail
  refine (contR_any _ #[.pointer (some ⟨w.heap.size, 0, none⟩)] enters_has (fun x => begB x key.data.toList) A n c l _ hn hr2 hm (has1_pred l key w)).mono ?_
  rintro e w2 ⟨rfl, hb2⟩
  generalize hv : anyP (fun x => begB x key.data.toList) l = v
  have HV := Lib.hid hv
  clear hv
  go_wp2_with fail
  go_ret
  exact ⟨ret_bool HV.out.symm, (b0 _ _).trans (hb2.mono (by simp))⟩
theorem has_is (A : Option Addr) (n c : Nat) (l : List ByteArray) (key : ByteArray) (w : World) (b : Bool) (hb : hasB (dL l) key.data.toList = b) (hn : l.length = n) (hr : RdS w.heap.size w A l) (hm : n ≤ maxLen) :
    Calls Tryd.prog 26 #[.slice A n c, .string key] w fun e w' => e = .returned (.bool b) ∧ Below w.heap.size w w' := by
  subst hb
  exact has_any A n c l key w hn hr hm

/-! Covers -/
set_option maxHeartbeats 1000000 in
theorem cov1_any (x : ByteArray) (A : Option Addr) (n c : Nat) (l : List ByteArray) (B : Nat) (W : World) (hc : W.cell? ⟨B, 0, none⟩ = some (.slice A n c)) (hn : l.length = n) (hr : RdS W.heap.size W A l) (hm : n ≤ maxLen) :
    Calls Tryd.prog 25 #[.string x, .pointer (some ⟨B, 0, none⟩)] W fun e W' => e = .returned (.bool (!hasB (dL l) x.data.toList)) ∧ Below W.heap.size W W' := by
  generalize hv : hasB (dL l) x.data.toList = v
  have HV := Lib.hid hv
  clear hv
  go_enter Tryd.func25, Tryd.ntmps25
  go_wp2_with (go_at_call 26; refine (has_is A n c l x _ v HV.out hn hr hm).mono ?_; rintro e w2 ⟨rfl, hb2⟩)
  go_ret
  exact ⟨rfl, hb2⟩
theorem cov1_pred (A : Option Addr) (n c : Nat) (a b : List ByteArray) (w : World) (hn : a.length = n) (hr : RdS w.heap.size w A a) (hm : n ≤ maxLen) : PredB 25 #[.pointer (some ⟨w.heap.size, 0, none⟩)] (fun x => !hasB (dL a) x) b (w.alloc (.cells #[.slice A n c] 23)) :=
  fun x _ W hW => by
    have hc : W.cell? ⟨w.heap.size, 0, none⟩ = some (.slice A n c) := (hW.cell (p := ⟨w.heap.size, 0, none⟩) (by simp)).trans (by go_simp)
    have h0 := (b0 w (.cells #[.slice A n c] 23)).trans (hW.mono (by simp))
    exact cov1_any x A n c a w.heap.size W hc hn ((hr.keep h0 (Nat.le_refl _)).more h0.size) hm
set_option maxHeartbeats 1000000 in
theorem covers_any (A A2 : Option Addr) (n c m d : Nat) (a b : List ByteArray) (w : World) (ha : a.length = n) (hr : RdS w.heap.size w A a) (hm : n ≤ maxLen) (hb : b.length = m) (hr2 : RdS w.heap.size w A2 b) (hm2 : m ≤ maxLen) :
    Calls Tryd.prog 12 #[.slice A n c, .slice A2 m d] w fun e w' => e = .returned (.bool (covB (dL a) (dL b))) ∧ Below w.heap.size w w' := by
  have h2 := (hr2.keep (b0 w (.cells #[.slice A n c] 23)) (Nat.le_refl _)).more (show w.heap.size ≤ (w.alloc (.cells #[.slice A n c] 23)).heap.size by simp)
  have R := Lib.hid (show (!anyP (fun x => !hasB (dL a) x) b) = covB (dL a) (dL b) from all_not (dL b) (fun x => hasB (dL a) x))
  go_enter Tryd.func12, Tryd.ntmps12
  go_wp2_with fail
  refine (contR_any _ #[.pointer (some ⟨w.heap.size, 0, none⟩)] enters_cov (fun x => !hasB (dL a) x) A2 m d b _ hb h2 hm2 (cov1_pred A n c a b w ha hr hm)).mono ?_
  rintro e w2 ⟨rfl, hb2⟩
  generalize anyP (fun x => !hasB (dL a) x) b = v at R ⊢
  go_wp2_with fail
  go_ret
  exact ⟨ret_bool R.out, (b0 _ _).trans (hb2.mono (by simp))⟩
end Go.Proofs.YtccdpbcldpmegaaDoor
