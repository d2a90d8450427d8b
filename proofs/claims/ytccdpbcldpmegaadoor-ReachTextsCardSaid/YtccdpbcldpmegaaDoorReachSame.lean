/-
  WHAT IS PROVED: of the document's answers for reaches (spinneyref04): Same, for all slices of strings. Conditions: those typed in each theorem.
-/
import Derived.Test.YtccdpbcldpmegaaDoorReachBeg
import Derived.Test.YtccdpbcldpmegaaDoorStrs
namespace Go.Proofs.YtccdpbcldpmegaaDoor
open Go.RowKit

/-- The texts as lists of bytes. -/
abbrev dL (l : List ByteArray) : List (List UInt8) := l.map (·.data.toList)
theorem dL_len (l : List ByteArray) : (dL l).length = l.length := by simp
theorem dL_get {l : List ByteArray} {k : Nat} {x : ByteArray} (h : l[k]? = some x) : (dL l)[k]? = some x.data.toList := by rw [List.getElem?_map, h]; rfl
theorem dL_at {l : List ByteArray} {k : Nat} {x : ByteArray} (h : l[k]? = some x) : atR (dL l) k = x.data.toList := atR_get (dL_get h)
theorem get_ex {l : List ByteArray} {k : Nat} (h : k < l.length) : ∃ x, l[k]? = some x := ⟨_, List.getElem?_eq_getElem h⟩

theorem begins_is (p s : ByteArray) (b : Bool) (h : begB p.data.toList s.data.toList = b) (w : World) :
    Calls Tryd.prog 21 #[.string p, .string s] w fun e w' => e = .returned (.bool b) ∧ w = w' := by
  subst h
  exact begins_any p s w

/-- The same lists? -/
def sameB (l l2 : List ByteArray) : Bool := decide (dL l = dL l2)
theorem same_no {l l2 : List ByteArray} {k : Nat} {x y : ByteArray} (h : l[k]? = some x) (h2 : l2[k]? = some y) (hne : x.data.toList ≠ y.data.toList) : sameB l l2 = false := by
  unfold sameB
  rw [decide_eq_false_iff_not]
  intro e
  have h3 := dL_get h
  rw [e, dL_get h2] at h3
  injection h3 with h3
  exact hne h3.symm
theorem same_len {l l2 : List ByteArray} (h : l.length ≠ l2.length) : sameB l l2 = false := by
  unfold sameB
  rw [decide_eq_false_iff_not]
  intro e
  have := congrArg List.length e
  rw [dL_len, dL_len] at this
  exact h this
theorem same_yes {l l2 : List ByteArray} (h : l.length = l2.length) (hA : ∀ j, j < l.length → atR (dL l) j = atR (dL l2) j) : sameB l l2 = true := by
  unfold sameB
  rw [decide_eq_true_eq]
  apply List.ext_getElem?
  intro i
  by_cases hi : i < l.length
  · obtain ⟨x, hx⟩ := get_ex hi
    obtain ⟨y, hy⟩ := get_ex (l := l2) (k := i) (by omega)
    have := hA i hi
    rw [dL_at hx, dL_at hy] at this
    rw [dL_get hx, dL_get hy, this]
  · rw [List.getElem?_eq_none (by rw [dL_len]; omega), List.getElem?_eq_none (by rw [dL_len]; omega)]

set_option maxHeartbeats 1000000 in
theorem refSame_any {B C : Nat} (A A2 : Option Addr) (n c m d : Nat) (l l2 : List ByteArray) (w : World) (hn : l.length = n) (hr : RdS B w A l) (hm : n ≤ maxLen) (hn2 : l2.length = m) (hr2 : RdS C w A2 l2) :
    Calls Tryd.prog 7 #[.slice A n c, .slice A2 m d] w fun e w' => e = .returned (.bool (sameB l l2)) ∧ Drn w w' := by
  unfold maxLen at hm
  have HN := Lib.hid hn
  have HN2 := Lib.hid hn2
  clear hn hn2
  by_cases hnm : n = m
  · subst hnm
    go_enter Tryd.func7, Tryd.ntmps7
    go_wp2_with fail
    go_loopw [13] (fun i wr => ∃ k : Nat, k ≤ n ∧ i = .int .i64 k ∧ Hid (∀ j, j < k → atR (dL l) j = atR (dL l2) j) ∧ Drn w wr) (fun i _ => n - (intOf i).toNat)
    case atStart => exact ⟨0, Nat.zero_le _, rfl, fun j hj => by omega, Drn.refl _⟩
    case round =>
      obtain ⟨k, hk, rfl, hA, hD⟩ := hrel
      by_cases hlt : k < n
      · obtain ⟨x, hx⟩ := get_ex (show k < l.length by have := HN.out; omega)
        obtain ⟨y, hy⟩ := get_ex (show k < l2.length by have := HN2.out; omega)
        obtain ⟨ad, rfl, _, hc⟩ := (hr.keep (hD.below B) (Nat.le_refl _)) k x hx
        obtain ⟨ad2, rfl, _, hc2⟩ := (hr2.keep (hD.below C) (Nat.le_refl _)) k y hy
        have i1 : (0 : Int) ≤ (k : Int) := by omega
        have i2 : (k : Int) < (n : Int) := by omega
        have HX := Lib.hid hx
        have HY := Lib.hid hy
        clear hx hy
        by_cases hxy : x.data.toList = y.data.toList
        · have e0 : (x.toList == y.toList) = true := by rw [str_eqB, hxy]; simp
          have HA2 : Hid (∀ j, j < k + 1 → atR (dL l) j = atR (dL l2) j) := fun j hj => by
            by_cases e : j = k
            · subst e
              rw [dL_at HX.out, dL_at HY.out, hxy]
            · exact hA.out j (by omega)
          clear hxy hA
          go_wp2_with fail
          go_quiet (fail)
          go_wp2_with fail
          go_roundw
          case rel => exact ⟨k + 1, by omega, by go_num, HA2, hD.draws _⟩
          case measure => simp [intOf]; omega
        · have e0 : (x.toList == y.toList) = false := by rw [str_eqB]; simpa using hxy
          have R := Lib.hid (same_no HX.out HY.out hxy)
          clear hxy hA
          go_wp2_with fail
          go_quiet (fail)
          go_wp2_with fail
          go_ret
          exact ⟨ret_bool R.out.symm, hD.draws _⟩
      · have hq : ¬ (k : Int) < (n : Int) := by omega
        have R : Hid (sameB l l2 = true) := same_yes (HN.out.trans HN2.out.symm) fun j hj => hA.out j (by have := HN.out; omega)
        clear hA
        go_wp2_with fail
        go_ret
        exact ⟨ret_bool R.out.symm, hD⟩
  · have e0 : ((n : Int) != (m : Int)) = true := by rw [bne_iff_ne]; omega
    have R := Lib.hid (same_len (l := l) (l2 := l2) (by rw [HN.out, HN2.out]; exact hnm))
    clear hnm
    go_enter Tryd.func7, Tryd.ntmps7
    go_wp2_with fail
    go_ret
    exact ⟨ret_bool R.out.symm, Drn.refl _⟩
theorem take_succ_get {l : List ByteArray} {k : Nat} {x : ByteArray} (h : l[k]? = some x) : (dL l).take (k + 1) = (dL l).take k ++ [x.data.toList] := by
  have hg := dL_get h
  have hk := (List.getElem?_eq_some_iff.1 hg).1
  rw [List.take_succ_eq_append_getElem hk]
  congr 1
  rw [List.getElem?_eq_getElem hk] at hg
  injection hg with hg
  rw [hg]
theorem ByteArray.toList_data_append' (a b : ByteArray) : (a ++ b).data.toList = a.data.toList ++ b.data.toList := by simp
theorem ret_strD {a b : ByteArray} (h : a.data.toList = b.data.toList) : Ending.returned (.string a) = .returned (.string b) := by
  rw [show a = b from ByteArray.ext (Array.toList_inj.1 h)]
end Go.Proofs.YtccdpbcldpmegaaDoor
