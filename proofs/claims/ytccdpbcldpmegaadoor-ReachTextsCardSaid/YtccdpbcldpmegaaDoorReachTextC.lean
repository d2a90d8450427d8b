/-
  WHAT IS PROVED: reach.Text answers a good reach's text (TextC). Conditions: those typed in the definition.
-/
import Derived.Test.YtccdpbcldpmegaaDoorReachGood
import Derived.Test.YtccdpbcldpmegaaDoorBuildS
namespace Go.Proofs.YtccdpbcldpmegaaDoor
open Go.RowKit

/-- A star in the empty one's place. -/
def starL (p : List UInt8) : List UInt8 := if p = [] then [42] else p
/-- The text of the first k. -/
def jt (l : List (List UInt8)) (k : Nat) : List UInt8 := joinC ((l.take k).map starL)
theorem jt_zero (l : List (List UInt8)) : jt l 0 = [] := by simp [jt, joinC]
theorem jt_first {l : List ByteArray} {x : ByteArray} (h : l[0]? = some x) : jt (dL l) (0 + 1) = jt (dL l) 0 ++ starL x.data.toList := by
  unfold jt
  rw [take_succ_get h]
  simp [joinC]
theorem jt_more {l : List ByteArray} {k : Nat} {x : ByteArray} (hk : k ≠ 0) (h : l[k]? = some x) : jt (dL l) (k + 1) = jt (dL l) k ++ [44] ++ starL x.data.toList := by
  have hlt := (List.getElem?_eq_some_iff.1 h).1
  unfold jt
  rw [take_succ_get h, List.map_append]
  show joinC (_ ++ [starL x.data.toList]) = _
  rw [joinC_snoc, if_neg, List.append_assoc]
  · rfl
  · intro e
    rw [List.map_eq_nil_iff] at e
    have h1 : ((dL l).take k).length = k := by rw [List.length_take, dL_len]; omega
    rw [e] at h1
    simp at h1
    omega
theorem jt_all {l : List (List UInt8)} (h : goodR l = true) (h0 : l ≠ []) : jt l l.length = textR l := by
  unfold jt textR
  rw [List.take_length, if_neg h0]
  by_cases he : [] ∈ l
  · rw [goodR_empty h he]
    rfl
  · have e1 : l.map starL = l := by
      conv => rhs; rw [← List.map_id l]
      apply List.map_congr_left
      intro x hx
      unfold starL
      rw [if_neg (fun e : x = [] => he (e ▸ hx))]
      rfl
    have hs := commas_joinC l h0 fun x hx => preB_no44 (goodR_pre h hx)
    rw [e1, if_neg]
    intro e
    rw [e] at hs
    exact he (by rw [← hs]; exact List.mem_cons_self)
theorem star_empty {x : ByteArray} (h : x.data.toList = []) : starL x.data.toList = [42] := by unfold starL; rw [if_pos h]
theorem star_not {x : ByteArray} (h : x.data.toList ≠ []) : starL x.data.toList = x.data.toList := by unfold starL; rw [if_neg h]
theorem star_len (x : ByteArray) (h : x.size ≤ 20) : (starL x.data.toList).length ≤ 20 := by
  have e : x.data.toList.length = x.size := Array.length_toList
  unfold starL
  split
  · simp
  · omega

set_option maxRecDepth 100000 in
set_option maxHeartbeats 2000000 in
theorem textC : TextC := by
  intro A n c l w _ hn hr hg
  have n6 : n ≤ 6 := by rw [← hn]; exact goodR_six hg
  have S1 := Lib.hid (goodR_sizes hg)
  have HN := Lib.hid hn
  by_cases h0 : n = 0
  · subst h0
    have e0 : l = [] := List.length_eq_zero_iff.1 hn
    subst e0
    clear hn hg
    go_enter Tryd.func8, Tryd.ntmps8
    go_wp2_with fail
    go_ret
    exact ⟨⟨_, rfl, rfl⟩, Below.refl _ _⟩
  · have HT : Hid (jt (dL l) n = textR (dL l)) := by
      have := jt_all hg (fun e => h0 (by rw [← hn, ← dL_len, e]; rfl))
      rwa [dL_len, hn] at this
    have i0 : ((n : Int) == 0) = false := by rw [beq_eq_false_iff_ne]; omega
    clear hn hg
    have HF := Lib.hid (Lib.fresh_isBuilder 41 5 w)
    go_enter Tryd.func8, Tryd.ntmps8
    go_wp2_with fail
    go_loopw [11] (fun i wr => ∃ k : Nat, k ≤ n ∧ i = .int .i64 k ∧ Lib.IsBuilder 41 5 w.heap.size w.heap.size (Lib.byteCells (jt (dL l) k)) wr ∧ Below w.heap.size w wr ∧ Hid ((jt (dL l) k).length ≤ 30 * k)) (fun i _ => n - (intOf i).toNat)
    case atStart => exact ⟨0, Nat.zero_le _, rfl, by rw [jt_zero]; exact HF.out, b0 _ _, by rw [jt_zero]; exact Nat.le_refl _⟩
    case round =>
      obtain ⟨k, hk, rfl, hI, hB, HZ⟩ := hrel
      clear HF
      by_cases hlt : k < n
      · obtain ⟨x, hx⟩ := get_ex (show k < l.length by have := HN.out; omega)
        have hrw := hr.keep hB (Nat.le_refl _)
        obtain ⟨ad, rfl, _, hc⟩ := hrw k x hx
        have i1 : (0 : Int) ≤ (k : Int) := by omega
        have i2 : (k : Int) < (n : Int) := by omega
        have hxz := S1.out x (List.mem_of_getElem? hx)
        have hsl := star_len x hxz
        have hz := HZ.out
        by_cases hk0 : k = 0
        · subst hk0
          have hc0 : wr.cell? ad = some (.string x) := by rw [← hc]; simp [Addr.add]
          have HJ := Lib.hid (jt_first hx)
          by_cases hx0 : x.data.toList = []
          · have e0 : (x.toList == []) = true := by rw [ByteArray.toList_eq, hx0]; rfl
            have e1 : x.toList.isEmpty = true := by rw [ByteArray.toList_eq, hx0]; rfl
            have HS := Lib.hid (star_empty hx0)
            clear hx hx0
            go_wp2_with fail
            refine (wbs w.heap.size w.heap.size (jt (dL l) 0) [42] ⟨#[42]⟩ rfl wr hI (by simp; omega) hB.size).mono ?_
            rintro e w2 ⟨rfl, hI2, hb2⟩
            go_wp2_with fail
            go_roundw
            case rel => exact ⟨0 + 1, by omega, by go_num, by rw [HJ.out, HS.out]; exact hI2, hB.trans hb2, by show _ ≤ _; rw [HJ.out, List.length_append]; omega⟩
            case measure => simp [intOf]; omega
          · have e0 : (x.toList == []) = false := by rw [ByteArray.toList_eq]; simpa using hx0
            have e1 : x.toList.isEmpty = false := by rw [ByteArray.toList_eq]; simpa using hx0
            have HS := Lib.hid (star_not hx0)
            clear hx hx0
            go_wp2_with fail
            refine (wbs w.heap.size w.heap.size (jt (dL l) 0) _ x HS.out.symm wr hI (by omega) hB.size).mono ?_
            rintro e w2 ⟨rfl, hI2, hb2⟩
            go_wp2_with fail
            go_roundw
            case rel => exact ⟨0 + 1, by omega, by go_num, by rw [HJ.out]; exact hI2, hB.trans hb2, by show _ ≤ _; rw [HJ.out, List.length_append]; omega⟩
            case measure => simp [intOf]; omega
        · have i3 : (0 : Int) < (k : Int) := by omega
          have HJ := Lib.hid (jt_more hk0 hx)
          by_cases hx0 : x.data.toList = []
          · have e0 : (x.toList == []) = true := by rw [ByteArray.toList_eq, hx0]; rfl
            have e1 : x.toList.isEmpty = true := by rw [ByteArray.toList_eq, hx0]; rfl
            have HS := Lib.hid (star_empty hx0)
            clear hx hx0
            go_wp2_with fail
            refine (wbs w.heap.size w.heap.size (jt (dL l) k) [44] ⟨#[44]⟩ rfl wr hI (by simp; omega) hB.size).mono ?_
            rintro e w2 ⟨rfl, hI2, hb2⟩
            go_wp2_with fail
            refine (wbs w.heap.size w.heap.size (jt (dL l) k ++ [44]) [42] ⟨#[42]⟩ rfl w2 hI2 (by simp; omega) (hB.trans hb2).size).mono ?_
            rintro e w3 ⟨rfl, hI3, hb3⟩
            go_wp2_with fail
            go_roundw
            case rel => exact ⟨k + 1, by omega, by go_num, by rw [HJ.out, HS.out]; exact hI3, (hB.trans hb2).trans hb3, by show _ ≤ _; rw [HJ.out, List.length_append, List.length_append]; simp only [List.length_singleton]; omega⟩
            case measure => simp [intOf]; omega
          · have e0 : (x.toList == []) = false := by rw [ByteArray.toList_eq]; simpa using hx0
            have e1 : x.toList.isEmpty = false := by rw [ByteArray.toList_eq]; simpa using hx0
            have HS := Lib.hid (star_not hx0)
            clear hx hx0
            go_wp2_with fail
            refine (wbs w.heap.size w.heap.size (jt (dL l) k) [44] ⟨#[44]⟩ rfl wr hI (by simp; omega) hB.size).mono ?_
            rintro e w2 ⟨rfl, hI2, hb2⟩
            go_wp2_with fail
            refine (wbs w.heap.size w.heap.size (jt (dL l) k ++ [44]) _ x HS.out.symm w2 hI2 (by rw [List.length_append]; simp only [List.length_singleton]; omega) (hB.trans hb2).size).mono ?_
            rintro e w3 ⟨rfl, hI3, hb3⟩
            go_wp2_with fail
            go_roundw
            case rel => exact ⟨k + 1, by omega, by go_num, by rw [HJ.out]; exact hI3, (hB.trans hb2).trans hb3, by show _ ≤ _; rw [HJ.out, List.length_append, List.length_append]; simp only [List.length_singleton]; omega⟩
            case measure => simp [intOf]; omega
      · have hq : ¬ (k : Int) < (n : Int) := by omega
        have hkn : k = n := by omega
        subst hkn
        rw [HT.out] at hI
        clear HZ
        go_wp2_with fail
        refine (Tryd.Builder_String_any w.heap.size w.heap.size (textR (dL l)) wr hI hB.size).mono ?_
        rintro e w3 ⟨rfl, hb3⟩
        go_wp2_with fail
        go_ret
        exact ⟨⟨⟨(textR (dL l)).toArray⟩, rfl, by simp⟩, hB.trans hb3⟩
end Go.Proofs.YtccdpbcldpmegaaDoor
