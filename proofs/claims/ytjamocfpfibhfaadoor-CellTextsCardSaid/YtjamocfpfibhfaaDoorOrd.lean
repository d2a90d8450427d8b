/-
  WHAT IS PROVED: cell.Compare and the document's Compare answer the same order of values (ordV), for good values. Conditions: those typed in each theorem.
-/
import Derived.Test.YtjamocfpfibhfaaDoorOrdMath
import Derived.Test.YtjamocfpfibhfaaDoorCellBase
import Derived.Test.YtjamocfpfibhfaaDoorShelf
import Derived.Test.YtjamocfpfibhfaaDoorQuote
namespace Go.Proofs.YtjamocfpfibhfaaDoor
open Go.RowKit

theorem ret_i64 {a b : Int} (h : a = b) : Ending.returned (.int .i64 a) = .returned (.int .i64 b) := by rw [h]

set_option maxHeartbeats 400000 in
theorem ints_any (a b : Int) (w : World) :
    Calls Tryd.prog 22 #[.int .i64 a, .int .i64 b] w fun e w' => e = .returned (.int .i64 (Lib.compareInt a b)) ∧ w = w' := by
  by_cases h : a < b
  · go_enter Tryd.func22, Tryd.ntmps22
    go_wp2
    go_ret
    exact ⟨ret_i64 (by simp [Lib.compareInt, h]), rfl⟩
  · by_cases h' : b < a
    · go_enter Tryd.func22, Tryd.ntmps22
      go_wp2
      go_ret
      exact ⟨ret_i64 (by simp [Lib.compareInt, h, h']), rfl⟩
    · go_enter Tryd.func22, Tryd.ntmps22
      go_wp2
      go_ret
      exact ⟨ret_i64 (by rw [show a = b by omega]; simp [Lib.compareInt]), rfl⟩

set_option maxHeartbeats 400000 in
theorem cmpKind_any (a b : Int) (w : World) :
    Calls Tryd.prog 19 #[.int .i64 a, .int .i64 b] w fun e w' => e = .returned (.int .i64 (Lib.compareInt a b)) ∧ w = w' := by
  by_cases h : a < b
  · go_enter Tryd.func19, Tryd.ntmps19
    go_wp2
    go_ret
    exact ⟨ret_i64 (by simp [Lib.compareInt, h]), rfl⟩
  · by_cases h' : b < a
    · go_enter Tryd.func19, Tryd.ntmps19
      go_wp2
      go_ret
      exact ⟨ret_i64 (by simp [Lib.compareInt, h, h']), rfl⟩
    · go_enter Tryd.func19, Tryd.ntmps19
      go_wp2
      go_ret
      exact ⟨ret_i64 (by rw [show a = b by omega]; simp [Lib.compareInt]), rfl⟩

theorem drop_cons (s : ByteArray) (k : Nat) (h : k < s.size) : s.data.toList.drop k = s[k] :: s.data.toList.drop (k + 1) := by
  rw [List.drop_eq_getElem_cons (by simpa using h)]; rfl

theorem cmp_bytes (a b : UInt8) (l m : List UInt8) (h : a ≠ b) : Lib.compareBytes (a :: l) (b :: m) = Lib.compareInt a.toNat b.toNat := by
  have hn : a.toNat ≠ b.toNat := fun e => h (UInt8.toNat_inj.1 e)
  unfold Lib.compareBytes Lib.compareInt
  simp only [UInt8.lt_iff_toNat_lt, Int.ofNat_lt, gt_iff_lt]
  by_cases h1 : a.toNat < b.toNat
  · simp [h1]
  · have h2 : b.toNat < a.toNat := by omega
    simp [h1, h2]
theorem cmp_same (a : UInt8) (l m : List UInt8) : Lib.compareBytes (a :: l) (a :: m) = Lib.compareBytes l m := by
  have h : ¬ a < a := by rw [UInt8.lt_iff_toNat_lt]; omega
  simp [Lib.compareBytes, h]
theorem cmp_end (l m : List UInt8) (h : l = [] ∨ m = []) : Lib.compareBytes l m = Lib.compareInt l.length m.length := by
  rcases h with rfl | rfl
  · cases m with
    | nil => rfl
    | cons b t =>
      have h1 : ((0 : Nat) : Int) < ((t.length + 1 : Nat) : Int) := by omega
      simp only [Lib.compareBytes, List.length_nil, List.length_cons, Lib.compareInt, h1, if_true]
  · cases l with
    | nil => rfl
    | cons b t =>
      have h1 : ¬ ((t.length + 1 : Nat) : Int) < ((0 : Nat) : Int) := by omega
      have h2 : ((t.length + 1 : Nat) : Int) > ((0 : Nat) : Int) := by omega
      simp only [Lib.compareBytes, List.length_nil, List.length_cons, Lib.compareInt, h1, h2, if_false, if_true]

theorem wrap_byte (c : UInt8) : wrap64 (c.toNat : Int) = (c.toNat : Int) := by
  have := c.toNat_lt
  unfold wrap64
  omega

theorem bdn {B : Nat} {a w : World} (h : Below B a w) (n : Nat) : Below B a (w.drewN n) := ⟨h.os, h.tape, h.output, h.size, h.block⟩

set_option maxHeartbeats 2000000 in
theorem texts_any (a b : ByteArray) (w : World) (ha : a.size ≤ maxLen) (_hb : b.size ≤ maxLen) :
    Calls Tryd.prog 23 #[.string a, .string b] w fun e w' => e = .returned (.int .i64 (Lib.compareBytes a.data.toList b.data.toList)) ∧ Below w.heap.size w w' := by
  unfold maxLen at ha _hb
  go_enter Tryd.func23, Tryd.ntmps23
  go_wp2_with fail
  go_loopw [5] (fun i wr => ∃ k : Nat, k ≤ a.size ∧ k ≤ b.size ∧ i = .int .i64 k ∧ Hid (Lib.compareBytes a.data.toList b.data.toList = Lib.compareBytes (a.data.toList.drop k) (b.data.toList.drop k)) ∧ Below w.heap.size w wr) (fun i _ => a.size - (intOf i).toNat)
  case atStart => exact ⟨0, Nat.zero_le _, Nat.zero_le _, rfl, rfl, Below.refl _ _⟩
  case round =>
    obtain ⟨k, hka, hkb, rfl, hE, hB⟩ := hrel
    by_cases hlt : k < a.size ∧ k < b.size
    · obtain ⟨h1, h2⟩ := hlt
      have i1 : (0 : Int) ≤ (k : Int) := by omega
      have i2 : (k : Int) < (a.size : Int) := by omega
      have i3 : (k : Int) < (b.size : Int) := by omega
      have ea := drop_cons a k h1
      have eb := drop_cons b k h2
      by_cases hab : a[k] = b[k]
      · have hE' : Hid (Lib.compareBytes a.data.toList b.data.toList = Lib.compareBytes (a.data.toList.drop (k + 1)) (b.data.toList.drop (k + 1))) := by
          have e := hE.out
          rw [ea, eb, hab, cmp_same] at e
          exact e
        clear ea eb hE
        have hab' : ((a[k].toNat : Int) != (b[k].toNat : Int)) = false := by rw [hab]; simp
        have Hab := Lib.hid hab
        clear hab
        go_wp2_with fail
        go_quiet (fail)
        go_wp2_with fail
        go_roundw
        case rel => exact ⟨k + 1, by omega, by omega, by go_num, hE', bdn hB _⟩
        case measure => simp [intOf]; omega
      · have hE' : Hid (Lib.compareBytes a.data.toList b.data.toList = Lib.compareInt a[k].toNat b[k].toNat) := by
          have e := hE.out
          rw [ea, eb, cmp_bytes _ _ _ _ hab] at e
          exact e
        clear ea eb hE
        have hab' : ((a[k].toNat : Int) != (b[k].toNat : Int)) = true := by
          have : a[k].toNat ≠ b[k].toNat := fun e => hab (UInt8.toNat_inj.1 e)
          simp
          omega
        clear hab
        go_wp2_with fail
        go_quiet (fail)
        go_wp2_with fail
        have hB2 := bdn hB nq
        generalize wr.drewN nq = w2 at hB2 ⊢
        go_quiet ((go_at_call 22; exact Calls.quiet_of_same ((ints_any _ _ _).mono fun _ _ h => ⟨h.1, h.2.symm⟩)))
        go_wp2_with fail
        go_ret
        exact ⟨ret_i64 (by rw [wrap_byte, wrap_byte]; exact hE'.out.symm), bdn hB2 _⟩
    · have hE' : Hid (Lib.compareBytes a.data.toList b.data.toList = Lib.compareInt a.size b.size) := by
        have e := hE.out
        have l1 : a.data.toList.length = a.size := Array.length_toList
        have l2 : b.data.toList.length = b.size := Array.length_toList
        have hend : a.data.toList.drop k = [] ∨ b.data.toList.drop k = [] := by
          by_cases h : k < a.size
          · exact Or.inr (List.drop_eq_nil_of_le (by omega))
          · exact Or.inl (List.drop_eq_nil_of_le (by omega))
        rw [cmp_end (a.data.toList.drop k) (b.data.toList.drop k) hend] at e
        have e2 : Lib.compareInt (a.data.toList.drop k).length (b.data.toList.drop k).length = Lib.compareInt a.size b.size := by
          unfold Lib.compareInt
          simp only [List.length_drop, l1, l2]
          repeat' split
          all_goals omega
        exact e.trans e2
      clear hE
      go_wp2_with (go_at_call 22; refine (ints_any _ _ _).mono ?_; rintro e w2 ⟨rfl, rfl⟩)
      all_goals go_ret
      all_goals exact ⟨ret_i64 hE'.out.symm, hB⟩


set_option maxHeartbeats 2000000 in
theorem compare_any (ka na kb nb : Int) (sa sb : ByteArray) (w : World) :
    Calls Tryd.prog 11 #[.agg #[.int .i64 ka, .int .i64 na, .string sa], .agg #[.int .i64 kb, .int .i64 nb, .string sb]] w fun e w' => e = .returned (.int .i64 (ordV ka na kb nb sa.data.toList sb.data.toList)) ∧ Below w.heap.size w w' := by
  by_cases h : ka = kb
  · subst h
    by_cases h1 : ka = 1
    · subst h1
      go_enter Tryd.func11, Tryd.ntmps11
      go_wp2_with (go_at_call 20; refine (Tryd.cmp_Compare_int _ _ _).mono ?_; rintro e w2 ⟨rfl, rfl⟩)
      go_ret
      exact ⟨ret_i64 (by simp [ordV]), ba (b0 _ _) _⟩
    · by_cases h2 : ka = 2
      · subst h2
        go_enter Tryd.func11, Tryd.ntmps11
        go_wp2_with (go_at_call 21; refine (Tryd.strings_Compare _ _ _).mono ?_; rintro e w2 ⟨rfl, rfl⟩)
        go_ret
        exact ⟨ret_i64 (by simp [ordV]), ba (b0 _ _) _⟩
      · have e1 : (ka == 1) = false := by simpa using h1
        have e2 : (ka == 2) = false := by simpa using h2
        have H1 := Lib.hid h1
        have H2 := Lib.hid h2
        clear h1 h2
        go_enter Tryd.func11, Tryd.ntmps11
        go_wp2_with fail
        go_ret
        exact ⟨ret_i64 (by simp [ordV, H1.out, H2.out]), ba (b0 _ _) _⟩
  · have e1 : (ka != kb) = true := by simpa using h
    have H1 := Lib.hid h
    clear h
    go_enter Tryd.func11, Tryd.ntmps11
    go_wp2_with (go_at_call 19; refine (cmpKind_any _ _ _).mono ?_; rintro e w2 ⟨rfl, rfl⟩)
    go_ret
    exact ⟨ret_i64 (by simp [ordV, H1.out]), ba (b0 _ _) _⟩

set_option maxHeartbeats 2000000 in
theorem refCompare_any (ka na kb nb : Int) (sa sb : ByteArray) (w : World) (ga : GoodV ka na sa.data.toList) (gb : GoodV kb nb sb.data.toList) (ha : sa.size ≤ maxLen) (hb : sb.size ≤ maxLen) :
    Calls Tryd.prog 12 #[.agg #[.int .i64 ka, .int .i64 na, .string sa], .agg #[.int .i64 kb, .int .i64 nb, .string sb]] w fun e w' => e = .returned (.int .i64 (ordV ka na kb nb sa.data.toList sb.data.toList)) ∧ Below w.heap.size w w' := by
  by_cases h : ka = kb
  · subst h
    by_cases h1 : ka = 1
    · subst h1
      clear ga gb
      go_enter Tryd.func12, Tryd.ntmps12
      go_wp2_with (go_at_call 22; refine (ints_any _ _ _).mono ?_; rintro e w2 ⟨rfl, rfl⟩)
      go_ret
      exact ⟨ret_i64 (by simp [ordV]), ba (b0 _ _) _⟩
    · have e1 : (ka == 1) = false := by simpa using h1
      have hz : Hid (Lib.compareBytes sa.data.toList sb.data.toList = ordV ka na ka nb sa.data.toList sb.data.toList) := by
        show _ = _
        rcases ga with ⟨h0, _, hs⟩ | ⟨h0, _⟩ | ⟨h0, _⟩
        · rcases gb with ⟨_, _, ht⟩ | ⟨h3, _⟩ | ⟨h3, _⟩
          · simp [ordV, h0, hs, ht, Lib.compareBytes]
          · omega
          · omega
        · exact absurd h0 h1
        · simp [ordV, h0]
      clear h1 ga gb
      go_enter Tryd.func12, Tryd.ntmps12
      go_wp2_with (go_at_call 23; refine (texts_any _ _ _ ha hb).mono ?_; rintro e w2 ⟨rfl, hb2⟩)
      go_ret
      exact ⟨ret_i64 hz.out, bt (ba (b0 _ _) _) hb2⟩
  · have e1 : (ka != kb) = true := by simpa using h
    have H1 := Lib.hid h
    clear h ga gb
    go_enter Tryd.func12, Tryd.ntmps12
    go_wp2_with (go_at_call 22; refine (ints_any _ _ _).mono ?_; rintro e w2 ⟨rfl, rfl⟩)
    go_ret
    exact ⟨ret_i64 (by simp [ordV, H1.out]), ba (b0 _ _) _⟩
end Go.Proofs.YtjamocfpfibhfaaDoor
