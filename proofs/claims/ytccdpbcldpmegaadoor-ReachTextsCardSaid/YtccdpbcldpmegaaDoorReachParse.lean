/-
  WHAT IS PROVED: reach.parse reads a text's pieces (parseL), a star as the empty one, for texts of at most 500 bytes. Conditions: those typed in each theorem.
-/
import Derived.Test.YtccdpbcldpmegaaDoorReachGood
import Derived.Test.YtccdpbcldpmegaaDoorCommaMath
namespace Go.Proofs.YtccdpbcldpmegaaDoor
open Go.RowKit

theorem splitC_any (s : ByteArray) (w : World) (hs : s.size ≤ 500) (hL : LaidR w) :
    Calls Tryd.prog 29 #[.string s, .string ⟨#[44]⟩, .int .i64 7] w fun e w' => (∃ (g n c : Nat) (l : List ByteArray), e = .returned (.slice (some ⟨g, 0, none⟩) n c) ∧ OwnS w.heap.size w' (some ⟨g, 0, none⟩) n c l ∧ dL l = pieceC 6 s.data.toList) ∧ Below w.heap.size w w' := by
  obtain ⟨m, hm⟩ := hL
  refine (Tryd.strings_SplitN s ⟨#[44]⟩ 7 m w (by omega) hm (by decide) (by omega) (by omega)).mono ?_
  rintro e w' ⟨rfl, rfl⟩
  have hl : s.data.toList.length = s.size := Array.length_toList
  have hd : dL (Lib.splitB ⟨#[44]⟩ 0 (min 7 (s.size + 1) - 1) s) = pieceC 6 s.data.toList := by
    show List.map _ _ = _
    rw [Lib.splitB_data, ← pieceC_six, hl]
    exact split_pieceC _ _
  have hle := Lib.splitB_length_le ⟨#[44]⟩ 0 (min 7 (s.size + 1) - 1) s
  refine ⟨⟨w.heap.size, _, _, _, rfl, ?_, hd⟩, b0 _ _⟩
  generalize Lib.splitB ⟨#[44]⟩ 0 (min 7 (s.size + 1) - 1) s = ps at hle
  refine ⟨by simp, .inr ⟨w.heap.size, min 7 (s.size + 1), Lib.cellsOf ps (min 7 (s.size + 1)), rfl, Nat.le_refl _, ?_, by omega, by unfold maxLen; omega, ?_, ?_⟩⟩
  · show (w.heap.push _)[w.heap.size]? = _
    simp
  · rw [Lib.cellsOf_size (by omega), Nat.mul_one]
  · unfold Lib.cellsOf
    simp

/-- What stands there behind k rounds. -/
def unTo (l : List (List UInt8)) (k : Nat) : List (List UInt8) := (l.take k).map unstar ++ l.drop k
theorem unTo_zero (l : List (List UInt8)) : unTo l 0 = l := by simp [unTo]
theorem unTo_all {l : List (List UInt8)} {k : Nat} (h : k = l.length) : unTo l k = l.map unstar := by subst h; simp [unTo]
theorem unTo_get {l : List (List UInt8)} {k : Nat} : (unTo l k)[k]? = l[k]? := by
  unfold unTo
  by_cases hk : k < l.length
  · rw [List.getElem?_append_right (by simp; omega)]
    simp [Nat.min_eq_left (Nat.le_of_lt hk)]
  · rw [List.getElem?_eq_none (by simp; omega), List.getElem?_eq_none (by omega)]
theorem unTo_step {l : List (List UInt8)} {k : Nat} {x : List UInt8} (h : l[k]? = some x) : unTo l (k + 1) = (unTo l k).set k (unstar x) := by
  obtain ⟨hk, rfl⟩ := List.getElem?_eq_some_iff.1 h
  unfold unTo
  rw [List.set_append_right _ _ (by simp; omega), List.take_succ_eq_append_getElem hk, List.map_append, List.append_assoc]
  congr 1
  rw [List.length_map, List.length_take, Nat.min_eq_left (by omega), Nat.sub_self, List.drop_eq_getElem_cons hk, List.set_cons_zero]
  rfl
theorem unTo_keep {l : List (List UInt8)} {k : Nat} {x : List UInt8} (h : l[k]? = some x) (hx : x ≠ [42]) : unTo l (k + 1) = unTo l k := by
  rw [unTo_step h]
  have h1 : (unTo l k)[k]? = some x := unTo_get.trans h
  obtain ⟨hk, e⟩ := List.getElem?_eq_some_iff.1 h1
  unfold unstar
  rw [if_neg hx, ← e, List.set_getElem_self]
theorem dL_set (r : List ByteArray) (k : Nat) (x : ByteArray) : dL (r.set k x) = (dL r).set k x.data.toList := List.map_set

set_option maxRecDepth 100000 in
set_option maxHeartbeats 2000000 in
theorem parse_anyR (s : ByteArray) (w : World) (hs : s.size ≤ 500) (hL : LaidR w) :
    Calls Tryd.prog 14 #[.string s] w fun e w' => AnsO w.heap.size (parseL s.data.toList) e w' ∧ Below w.heap.size w w' := by
  by_cases h1 : s.data.toList = [33]
  · have e1 : (s.toList == [33]) = true := by rw [ByteArray.toList_eq, h1]; rfl
    have H1 : Hid (parseL s.data.toList = []) := by
      show _ = _
      unfold parseL
      rw [if_pos h1]
    clear h1
    go_enter Tryd.func14, Tryd.ntmps14
    go_wp2_with fail
    go_ret
    refine ⟨?_, Below.refl _ _⟩
    rw [H1.out]
    exact ⟨none, 0, [], rfl, OwnS.nil _ _, rfl⟩
  · have e1 : (s.toList == [33]) = false := by rw [ByteArray.toList_eq]; simpa using h1
    have H1 : Hid (parseL s.data.toList = (pieceC 6 s.data.toList).map unstar) := by
      show _ = _
      unfold parseL
      rw [if_neg h1]
    have hpl := (pieceC_len 6 s.data.toList).2
    clear h1
    go_enter Tryd.func14, Tryd.ntmps14
    go_wp2_with fail
    refine (splitC_any s w hs hL).mono ?_
    rintro e w1 ⟨⟨g, n, c, l, rfl, hO, hd⟩, hb1⟩
    have hln : l.length = n := hO.len
    rw [← hd, dL_len, hln] at hpl
    have HD := Lib.hid hd
    have HN := Lib.hid hln
    clear hd hln
    go_wp2_with fail
    go_loopw [12] (fun i wr => ∃ (k : Nat) (L : List ByteArray), k ≤ n ∧ i = .int .i64 k ∧ OwnS w.heap.size wr (some ⟨g, 0, none⟩) n c L ∧ Hid (dL L = unTo (dL l) k) ∧ Below w.heap.size w wr) (fun i _ => n - (intOf i).toNat)
    case atStart => exact ⟨0, l, Nat.zero_le _, rfl, hO, (unTo_zero _).symm, hb1⟩
    case round =>
      obtain ⟨k, L, hk, rfl, hOL, hA, hB⟩ := hrel
      by_cases hlt : k < n
      · obtain ⟨x, hx⟩ := get_ex (show k < l.length by have := HN.out; omega)
        obtain ⟨y, hy⟩ := get_ex (show k < L.length by have := hOL.len; omega)
        have hxy : y.data.toList = x.data.toList := by
          have h2 := dL_get hy
          rw [hA.out, unTo_get, dL_get hx] at h2
          injection h2 with h2
          exact h2.symm
        obtain ⟨ad, he, _, hc⟩ := hOL.rd k y hy
        injection he with he
        subst he
        have ec : (Addr.mk g 0 none).add k = Addr.mk g k none := by unfold Addr.add; split <;> simp_all
        rw [ec] at hc
        have i1 : (0 : Int) ≤ (k : Int) := by omega
        have i2 : (k : Int) < (n : Int) := by omega
        have hf := hOL.free k
        by_cases hx0 : x.data.toList = [42]
        · have e2 : (y.toList == [42]) = true := by rw [ByteArray.toList_eq, hxy, hx0]; rfl
          have HA2 : Hid (dL (L.set k ⟨#[]⟩) = unTo (dL l) (k + 1)) := by
            show _ = _
            rw [unTo_step (dL_get hx), dL_set, hA.out, hx0]
            rfl
          clear hA hx hy hxy hx0
          go_wp2_with fail
          go_roundw
          case rel => exact ⟨k + 1, L.set k ⟨#[]⟩, by omega, by go_num, hOL.set k _, HA2, hB.setCell (p := ⟨g, k, none⟩) ((hOL.blk rfl).1) _⟩
          case measure => simp [intOf]; omega
        · have e2 : (y.toList == [42]) = false := by rw [ByteArray.toList_eq, hxy]; simpa using hx0
          have HA2 : Hid (dL L = unTo (dL l) (k + 1)) := by
            show _ = _
            rw [unTo_keep (dL_get hx) hx0, hA.out]
          clear hA hx hy hxy hx0
          go_wp2_with fail
          go_roundw
          case rel => exact ⟨k + 1, L, by omega, by go_num, hOL, HA2, hB⟩
          case measure => simp [intOf]; omega
      · have hq : ¬ (k : Int) < (n : Int) := by omega
        have HA2 : Hid (dL L = parseL s.data.toList) := by
          show _ = _
          rw [H1.out, hA.out, unTo_all (by rw [dL_len, HN.out]; omega), HD.out]
        have hll : n = (parseL s.data.toList).length := by rw [← HA2.out, dL_len, hOL.len]
        clear hA
        go_wp2_with fail
        go_ret
        refine ⟨⟨some ⟨g, 0, none⟩, c, L, ?_, ?_, HA2.out⟩, hB⟩
        · rw [← hll]
          rfl
        · rw [← hll]; exact hOL
end Go.Proofs.YtccdpbcldpmegaaDoor
