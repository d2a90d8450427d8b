/-
  WHAT IS PROVED: cell.readInt and cell.Read answer as the plain functions readI and readV do, for texts of at most 2^40 bytes, where strconv.ErrRange holds an interface value that is not nil.
-/
import Derived.Test.YtmilcgikncecnaaDoorReadText
import Derived.Test.YtmilcgikncecnaaDoorReadMath2
import Derived.WalkSmall
import Derived.Lib.ConvBytes
import Derived.Lib.LaidTab
namespace Go.Proofs.YtmilcgikncecnaaDoor
open Go.RowKit

theorem gTab : Tryd.prog.globalNamed "internal/strconv.uint64pow10" = some 1 := by kernel_rfl
theorem gRange : Tryd.prog.globalNamed "strconv.ErrRange" = some 5 := by kernel_rfl
/-- What the library's variables hold, as far as the walks read them. -/
def LaidV (W : World) : Prop := Lib.TabIs Tryd.prog W "internal/strconv.uint64pow10" .u64 Lib.pow10Tab ∧ ∃ tp p, W.var? Tryd.prog "strconv.ErrRange" = some #[.iface tp p]
theorem var_lt {W : World} {n : String} {g : Nat} {cs : Array Value} (hg : Tryd.prog.globalNamed n = some g) (h : W.var? Tryd.prog n = some cs) : g < W.heap.size := by
  unfold World.var? at h
  rw [hg] at h
  simp only [Option.bind_some] at h
  by_cases hlt : g < W.heap.size
  · exact hlt
  · rw [Array.getElem?_eq_none (by omega)] at h
    cases h
theorem LaidV.keep {W W' : World} (h : LaidV W) (hb : Below W.heap.size W W') : LaidV W' := by
  obtain ⟨h1, tp, p, h2⟩ := h
  exact ⟨var?_below hb gTab (var_lt gTab h1) h1, tp, p, var?_below hb gRange (var_lt gRange h2) h2⟩

theorem trim_neg (l : List UInt8) : Lib.trimPrefix l [45] = stripNeg l := by
  match l with
  | [] => rfl
  | c :: r =>
    by_cases h : c = 45
    · subst h
      rw [strip_neg]
      simp [Lib.trimPrefix, Lib.hasPrefix]
    · rw [strip_other c r h]
      have h' : ¬ 45 = c := fun e => h e.symm
      simp [Lib.trimPrefix, Lib.hasPrefix, h']
theorem has_neg (l : List UInt8) : Lib.hasPrefix l [45] = isNeg l := by
  match l with
  | [] => rfl
  | c :: r =>
    rw [isNeg_cons]
    by_cases h : c = 45
    · subst h
      simp [Lib.hasPrefix]
    · have h' : ¬ 45 = c := fun e => h e.symm
      have e1 : (45 == c) = false := by simpa using h'
      have e2 : (c == 45) = false := by simpa using h
      rw [e2, Lib.hasPrefix, List.isPrefixOf, e1, Bool.false_and]
theorem data_eq' {a b : ByteArray} (h : a.data.toList = b.data.toList) : a = b := by
  cases a; cases b
  simp only [ByteArray.mk.injEq]
  exact Array.toList_inj.1 h

theorem cutNeg (s d : ByteArray) (hd : d.data.toList = stripNeg s.data.toList) (w : World) :
    Calls Tryd.prog 67 #[.string s, .string ⟨#[45]⟩] w fun e w' => e = .returned (.tuple #[.string d, .bool (isNeg s.data.toList)]) ∧ w = w' := by
  refine (Tryd.strings_CutPrefix _ _ _).mono ?_
  rintro e w' ⟨rfl, rfl⟩
  have e1 : (⟨#[45]⟩ : ByteArray).data.toList = [45] := rfl
  rw [e1, trim_neg, has_neg, ← hd]
  exact ⟨rfl, rfl⟩

theorem up_of {w w2 : World} {o : Obj} (h : Below (w.alloc o).heap.size (w.alloc o) w2) : Below (w.heap.size + 1) (w.alloc o) w2 := h.mono (by simp)

/-- strconv.Atoi of what it can read. -/
theorem atoi_ok (s : ByteArray) (hs : s.size ≤ 1099511627776) (v : Int) (h : Lib.atoiAll s.data.toList = .ok v) (w : World) :
    Calls Tryd.prog 69 #[.string s] w fun e w' => e = .returned (.tuple #[.int .i64 v, .nilIface]) ∧ Below w.heap.size w w' := by
  refine (Tryd.strconv_Atoi_ok s (by omega) v h w).mono ?_
  rintro e w' ⟨rfl, hw⟩
  refine ⟨rfl, ?_⟩
  rcases hw with rfl | ⟨t, rfl⟩
  · exact Below.refl _ _
  · exact Lib.bytesWorld_below _ _ _
/-- .. and of what is too great. -/
def RangeEnd (w : World) (e : Ending) (w' : World) : Prop := ∃ (N : Nat) (x : Int), e = .returned (.tuple #[.int .i64 x, .iface 110 (.pointer (some ⟨N, 0, none⟩))]) ∧ Below w.heap.size w w'
theorem atoi_range (s : ByteArray) (hs : s.size ≤ 1099511627776) (h : Lib.atoiAll s.data.toList = .range) (w : World) (hL : LaidV w) :
    Calls Tryd.prog 69 #[.string s] w (RangeEnd w) := by
  obtain ⟨_, tp, p, hv⟩ := hL
  refine (Tryd.strconv_Atoi_range_var s (by omega) h tp p w hv).mono ?_
  rintro e w' ⟨N, rfl, _, _, hb⟩
  exact ⟨N, _, rfl, hb⟩

set_option maxHeartbeats 2000000 in
theorem readInt_any (s : ByteArray) (w : World) (hs : s.size ≤ 1099511627776) (hL : LaidV w) :
    Calls Tryd.prog 56 #[.string s] w fun e w' => e = .returned (rvOf (readI s.data.toList)) ∧ Below w.heap.size w w' := by
  obtain ⟨d, hd⟩ : ∃ d : ByteArray, d.data.toList = stripNeg s.data.toList := ⟨⟨(stripNeg s.data.toList).toArray⟩, by simp⟩
  have hds : d.size ≤ maxLen := by
    have l1 : d.data.toList.length = d.size := Array.length_toList
    have l2 : s.data.toList.length = s.size := Array.length_toList
    have : (stripNeg s.data.toList).length ≤ s.data.toList.length := by
      unfold stripNeg
      split
      · rename_i e
        rw [e]
        simp
      · exact Nat.le_refl _
    rw [← hd] at this
    unfold maxLen
    omega
  have Hd := Lib.hid hd
  clear hd
  by_cases hn : isNum d.data.toList = false
  · have R : Hid (readI s.data.toList = (0, 0, [], 2)) := by
      show _ = _
      unfold readI
      rw [if_pos]
      left
      rw [← Hd.out]
      exact hn
    have Hn := Lib.hid hn
    clear hn
    rw [R.out]
    go_enter Tryd.func56, Tryd.ntmps56
    go_wp2_with (go_at_call 67; refine (cutNeg _ d Hd.out _).mono ?_; rintro e w2 ⟨rfl, rfl⟩)
    refine (number_any _ _ hds).mono ?_
    rintro e w2 ⟨rfl, hb2⟩
    have hB2 := up_of hb2
    obtain ⟨q0, q1, q2, f0, f1, f2⟩ := res_cells hB2
    rw [Hn.out]
    go_wp2_with fail
    exact bodyPost_ret (v := rvOf (0, 0, [], 2)) (by simp [results, Tryd.results56, go_sem, rvOf, q0, q1, q2]) rfl ⟨rfl, below3 (below_up hB2) _ _ _⟩
  · have Hn : Hid (isNum d.data.toList = true) := by show _ = _; simpa using hn
    clear hn
    by_cases hz : isNeg s.data.toList = true ∧ d.data.toList = [48]
    · have R : Hid (readI s.data.toList = (0, 0, [], 2)) := by
        show _ = _
        unfold readI
        rw [if_pos]
        right
        rw [← Hd.out]
        exact hz
      obtain ⟨hz1, hz2⟩ := hz
      obtain rfl : d = ⟨#[48]⟩ := data_eq' hz2
      have Hz := Lib.hid hz1
      clear hz1 hz2
      rw [R.out]
      go_enter Tryd.func56, Tryd.ntmps56
      go_wp2_with (go_at_call 67; refine (cutNeg _ _ Hd.out _).mono ?_; rintro e w2 ⟨rfl, rfl⟩)
      refine (number_any _ _ hds).mono ?_
      rintro e w2 ⟨rfl, hb2⟩
      have hB2 := up_of hb2
      obtain ⟨q0, q1, q2, f0, f1, f2⟩ := res_cells hB2
      rw [Hn.out, Hz.out]
      go_wp2_with fail
      exact bodyPost_ret (v := rvOf (0, 0, [], 2)) (by simp [results, Tryd.results56, go_sem, rvOf, q0, q1, q2]) rfl ⟨rfl, below3 (below_up hB2) _ _ _⟩
    · have A1 := atoi_read s.data.toList (by rw [← Hd.out]; exact Hn.out)
      have R : readI s.data.toList = if isNeg s.data.toList = true then (if natFrom 0 (stripNeg s.data.toList) ≤ 9223372036854775808 then (1, -(natFrom 0 (stripNeg s.data.toList) : Int), [], 0) else (0, 0, [], 1)) else if natFrom 0 (stripNeg s.data.toList) ≤ 9223372036854775807 then (1, natFrom 0 (stripNeg s.data.toList), [], 0) else (0, 0, [], 1) := by
        unfold readI
        rw [if_neg]
        rw [← Hd.out, Hn.out]
        simpa using hz
      have tail : (∃ v : Int, Lib.atoiAll s.data.toList = .ok v ∧ readI s.data.toList = (1, v, [], 0)) ∨ (Lib.atoiAll s.data.toList = .range ∧ readI s.data.toList = (0, 0, [], 1)) := by
        rw [A1, R]
        by_cases g1 : isNeg s.data.toList = true
        · rw [if_pos g1, if_pos g1]
          by_cases g2 : natFrom 0 (stripNeg s.data.toList) ≤ 9223372036854775808
          · exact Or.inl ⟨_, by rw [if_pos g2], by rw [if_pos g2]⟩
          · exact Or.inr ⟨by rw [if_neg g2], by rw [if_neg g2]⟩
        · rw [if_neg g1, if_neg g1]
          by_cases g2 : natFrom 0 (stripNeg s.data.toList) ≤ 9223372036854775807
          · exact Or.inl ⟨_, by rw [if_pos g2], by rw [if_pos g2]⟩
          · exact Or.inr ⟨by rw [if_neg g2], by rw [if_neg g2]⟩
      clear A1 R
      have Z : isNeg s.data.toList = false ∨ (isNeg s.data.toList = true ∧ (d.toList == [48]) = false) := by
        cases g : isNeg s.data.toList with
        | false => exact Or.inl rfl
        | true => exact Or.inr ⟨rfl, beq_eq_false_iff_ne.2 fun e => hz ⟨g, by rw [← ByteArray.toList_eq]; exact e⟩⟩
      clear hz
      rcases tail with ⟨v, hv, R⟩ | ⟨hv, R⟩
      · rw [R]
        have Hv := Lib.hid hv
        clear hv R
        rcases Z with hz | ⟨hz, hz2⟩
        · have Hz := Lib.hid hz
          clear hz
          go_enter Tryd.func56, Tryd.ntmps56
          go_wp2_with (go_at_call 67; refine (cutNeg _ _ Hd.out _).mono ?_; rintro e w2 ⟨rfl, rfl⟩)
          refine (number_any _ _ hds).mono ?_
          rintro e w2 ⟨rfl, hb2⟩
          have hB2 := up_of hb2
          rw [Hn.out, Hz.out]
          go_wp2_with (go_at_call 69; refine (atoi_ok _ hs _ Hv.out _).mono ?_; rintro e w3 ⟨rfl, hb3⟩; have hB3 := hB2.trans (hb3.mono (by have := hB2.size; simpa using this)); obtain ⟨q0, q1, q2, f0, f1, f2⟩ := res_cells hB3)
          exact bodyPost_ret (v := rvOf (1, v, [], 0)) (by simp [results, Tryd.results56, go_sem, rvOf, q0, q1, q2]) rfl ⟨rfl, below3 (below_up hB3) _ _ _⟩
        · have Hz := Lib.hid hz
          clear hz
          go_enter Tryd.func56, Tryd.ntmps56
          go_wp2_with (go_at_call 67; refine (cutNeg _ _ Hd.out _).mono ?_; rintro e w2 ⟨rfl, rfl⟩)
          refine (number_any _ _ hds).mono ?_
          rintro e w2 ⟨rfl, hb2⟩
          have hB2 := up_of hb2
          rw [Hn.out, Hz.out]
          go_wp2_with (go_at_call 69; refine (atoi_ok _ hs _ Hv.out _).mono ?_; rintro e w3 ⟨rfl, hb3⟩; have hB3 := hB2.trans (hb3.mono (by have := hB2.size; simpa using this)); obtain ⟨q0, q1, q2, f0, f1, f2⟩ := res_cells hB3)
          exact bodyPost_ret (v := rvOf (1, v, [], 0)) (by simp [results, Tryd.results56, go_sem, rvOf, q0, q1, q2]) rfl ⟨rfl, below3 (below_up hB3) _ _ _⟩
      · rw [R]
        have Hv := Lib.hid hv
        clear hv R
        rcases Z with hz | ⟨hz, hz2⟩
        · have Hz := Lib.hid hz
          clear hz
          go_enter Tryd.func56, Tryd.ntmps56
          go_wp2_with (go_at_call 67; refine (cutNeg _ _ Hd.out _).mono ?_; rintro e w2 ⟨rfl, rfl⟩)
          refine (number_any _ _ hds).mono ?_
          rintro e w2 ⟨rfl, hb2⟩
          have hB2 := up_of hb2
          rw [Hn.out, Hz.out]
          have hL2 := hL.keep (below_up hB2)
          go_wp2_with (go_at_call 69; refine (atoi_range _ hs Hv.out _ hL2).mono ?_; rintro e w3 ⟨N, x, rfl, hb3⟩; have hB3 := hB2.trans (hb3.mono (by have := hB2.size; simpa using this)); obtain ⟨q0, q1, q2, f0, f1, f2⟩ := res_cells hB3)
          exact bodyPost_ret (v := rvOf (0, 0, [], 1)) (by simp [results, Tryd.results56, go_sem, rvOf, q0, q1, q2]) rfl ⟨rfl, below3 (below_up hB3) _ _ _⟩
        · have Hz := Lib.hid hz
          clear hz
          go_enter Tryd.func56, Tryd.ntmps56
          go_wp2_with (go_at_call 67; refine (cutNeg _ _ Hd.out _).mono ?_; rintro e w2 ⟨rfl, rfl⟩)
          refine (number_any _ _ hds).mono ?_
          rintro e w2 ⟨rfl, hb2⟩
          have hB2 := up_of hb2
          rw [Hn.out, Hz.out]
          have hL2 := hL.keep (below_up hB2)
          go_wp2_with (go_at_call 69; refine (atoi_range _ hs Hv.out _ hL2).mono ?_; rintro e w3 ⟨N, x, rfl, hb3⟩; have hB3 := hB2.trans (hb3.mono (by have := hB2.size; simpa using this)); obtain ⟨q0, q1, q2, f0, f1, f2⟩ := res_cells hB3)
          exact bodyPost_ret (v := rvOf (0, 0, [], 1)) (by simp [results, Tryd.results56, go_sem, rvOf, q0, q1, q2]) rfl ⟨rfl, below3 (below_up hB3) _ _ _⟩

theorem toList_ne {s : ByteArray} {l : List UInt8} (h : s.data.toList ≠ l) : (s.toList == l) = false := beq_eq_false_iff_ne.2 (by rw [ByteArray.toList_eq]; exact h)

set_option maxHeartbeats 2000000 in
theorem read_any (s : ByteArray) (w : World) (hs : s.size ≤ 1099511627776) (hL : LaidV w) :
    Calls Tryd.prog 45 #[.string s] w fun e w' => e = .returned (rvOf (readV s.data.toList)) ∧ Below w.heap.size w w' := by
  have hl : s.data.toList.length = s.size := Array.length_toList
  by_cases h1 : s.data.toList = [110, 105, 108]
  · obtain rfl : s = ⟨#[110, 105, 108]⟩ := data_eq' h1
    clear h1 hl
    go_enter Tryd.func45, Tryd.ntmps45
    go_wp2_with fail
    exact bodyPost_ret (v := rvOf (0, 0, [], 0)) (by simp [results, Tryd.results45, go_sem, rvOf]) rfl ⟨by rw [readV, if_pos rfl], b0 _ _⟩
  · have n1 := toList_ne h1
    by_cases h2 : s.data.toList.head? = some 34
    · have h0 : 0 < s.size := by
        by_cases q : 0 < s.size
        · exact q
        · rw [List.length_eq_zero_iff.1 (by omega : s.data.toList.length = 0)] at h2
          cases h2
      have i0 : (0 : Int) < (s.size : Int) := by omega
      have e0 : ((s[0].toNat : Int) == 34) = true := by
        rw [cons_of s h0, List.head?_cons, Option.some.injEq] at h2
        rw [h2]
        rfl
      by_cases h3 : 2 ≤ s.size ∧ s.data.toList.getLast? = some 34
      · obtain ⟨h3, h4⟩ := h3
        have k : s.size - 1 < s.size := by omega
        have h5 : s[s.size - 1] = 34 := by
          rw [List.getLast?_eq_getElem?, hl, get_some s _ k, Option.some.injEq] at h4
          exact h4
        have R : Hid (readV s.data.toList = readQ (s.extract 1 (s.size - 1)).data.toList) := by
          show _ = _
          rw [readV, if_neg h1, if_pos h2, if_pos ⟨by omega, h4⟩, Lib.extract_data, hl]
          rw [show s.size - 1 - 1 = s.size - 2 by omega]
        obtain ⟨⟨rk, rn, rt, re⟩, hr⟩ : ∃ r, readQ (s.extract 1 (s.size - 1)).data.toList = r := ⟨_, rfl⟩
        have c := fun W => readText_good s W hs h3 k h5
        have R2 := R.out
        rw [hr] at c R2
        rw [R2]
        unfold rvOf at c ⊢
        simp only at c ⊢
        have C := Lib.hid c
        clear h1 h2 h4 h5 hl R hr R2 c
        go_enter Tryd.func45, Tryd.ntmps45
        go_wp2_with (go_at_call 55; refine (C.out _).mono ?_; rintro e w2 ⟨rfl, hb2⟩; have hB2 := up_of hb2; obtain ⟨q0, q1, q2, f0, f1, f2⟩ := res_cells hB2)
        exact bodyPost_ret (v := rvOf (rk, rn, rt, re)) (by simp [results, Tryd.results45, go_sem, rvOf, q0, q1, q2]) rfl ⟨rfl, below3 (below_up hB2) _ _ _⟩
      · have hbad : s.size < 2 ∨ ∃ k : s.size - 1 < s.size, 2 ≤ s.size ∧ s[s.size - 1] ≠ 34 := by
          by_cases q : s.size < 2
          · exact Or.inl q
          · have k : s.size - 1 < s.size := by omega
            refine Or.inr ⟨k, by omega, fun e => h3 ⟨by omega, ?_⟩⟩
            rw [List.getLast?_eq_getElem?, hl, get_some s _ k, e]
        have R : Hid (readV s.data.toList = (0, 0, [], 2)) := by
          show _ = _
          rw [readV, if_neg h1, if_pos h2, if_neg]
          rw [hl]
          exact h3
        have Hb := Lib.hid hbad
        clear h1 h2 h3 hbad hl
        rw [R.out]
        go_enter Tryd.func45, Tryd.ntmps45
        go_wp2_with (go_at_call 55; refine (readText_bad _ _ hs Hb.out).mono ?_; unfold rvOf; rintro e w2 ⟨rfl, hb2⟩; have hB2 := up_of hb2; obtain ⟨q0, q1, q2, f0, f1, f2⟩ := res_cells hB2)
        exact bodyPost_ret (v := rvOf (0, 0, [], 2)) (by simp [results, Tryd.results45, go_sem, rvOf, q0, q1, q2]) rfl ⟨rfl, below3 (below_up hB2) _ _ _⟩
    · have R : Hid (readV s.data.toList = readI s.data.toList) := by
        show _ = _
        rw [readV, if_neg h1, if_neg h2]
      obtain ⟨⟨rk, rn, rt, re⟩, hr⟩ : ∃ r, readI s.data.toList = r := ⟨_, rfl⟩
      have c := fun W (h : LaidV W) => readInt_any s W hs h
      have R2 := R.out
      rw [hr] at c R2
      rw [R2]
      unfold rvOf at c ⊢
      simp only at c ⊢
      have C := Lib.hid c
      clear c
      have hL2 := hL.keep (b0 w (.cells #[.int .i64 0, .int .i64 0, .string ⟨#[]⟩] 26))
      by_cases h0 : s.size = 0
      · have i0 : ¬ (0 : Int) < (s.size : Int) := by omega
        clear h1 h2 hl R hr R2 h0
        go_enter Tryd.func45, Tryd.ntmps45
        go_wp2_with (go_at_call 56; refine (C.out _ hL2).mono ?_; rintro e w2 ⟨rfl, hb2⟩; have hB2 := up_of hb2; obtain ⟨q0, q1, q2, f0, f1, f2⟩ := res_cells hB2)
        exact bodyPost_ret (v := rvOf (rk, rn, rt, re)) (by simp [results, Tryd.results45, go_sem, rvOf, q0, q1, q2]) rfl ⟨rfl, below3 (below_up hB2) _ _ _⟩
      · have i0 : (0 : Int) < (s.size : Int) := by omega
        have j0 : 0 < s.size := by omega
        have e0 : ((s[0].toNat : Int) == 34) = false := by
          have : s[0].toNat ≠ 34 := fun e => h2 (by have e34 : s[0] = 34 := UInt8.toNat_inj.1 e; rw [cons_of s j0, List.head?_cons, e34])
          simp
          omega
        clear h1 h2 hl R hr R2 h0
        go_enter Tryd.func45, Tryd.ntmps45
        go_wp2_with (go_at_call 56; refine (C.out _ hL2).mono ?_; rintro e w2 ⟨rfl, hb2⟩; have hB2 := up_of hb2; obtain ⟨q0, q1, q2, f0, f1, f2⟩ := res_cells hB2)
        exact bodyPost_ret (v := rvOf (rk, rn, rt, re)) (by simp [results, Tryd.results45, go_sem, rvOf, q0, q1, q2]) rfl ⟨rfl, below3 (below_up hB2) _ _ _⟩
end Go.Proofs.YtmilcgikncecnaaDoor
