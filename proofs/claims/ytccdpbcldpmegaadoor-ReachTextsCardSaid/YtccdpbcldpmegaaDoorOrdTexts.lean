/-
  WHAT IS PROVED: the document's order of ints and of texts (spinneyref01.Ints, Texts), for every two. Conditions: those typed in each theorem.
-/
import Derived.Test.YtccdpbcldpmegaaDoorOrdMath
import Derived.Test.YtccdpbcldpmegaaDoorBase
namespace Go.Proofs.YtccdpbcldpmegaaDoor
open Go.RowKit

set_option maxHeartbeats 400000 in
theorem ints_any (a b : Int) (w : World) :
    Calls Tryd.prog 33 #[.int .i64 a, .int .i64 b] w fun e w' => e = .returned (.int .i64 (Lib.compareInt a b)) ∧ w = w' := by
  by_cases h : a < b
  · go_enter Tryd.func33, Tryd.ntmps33
    go_wp2
    go_ret
    exact ⟨ret_i64 (by simp [Lib.compareInt, h]), rfl⟩
  · by_cases h' : b < a
    · go_enter Tryd.func33, Tryd.ntmps33
      go_wp2
      go_ret
      exact ⟨ret_i64 (by simp [Lib.compareInt, h, h']), rfl⟩
    · go_enter Tryd.func33, Tryd.ntmps33
      go_wp2
      go_ret
      exact ⟨ret_i64 (by rw [show a = b by omega]; simp [Lib.compareInt]), rfl⟩

theorem cmp_bytes (a b : UInt8) (l m : List UInt8) (h : a ≠ b) : Lib.compareBytes (a :: l) (b :: m) = Lib.compareInt a.toNat b.toNat := by
  have hn : a.toNat ≠ b.toNat := fun e => h (UInt8.toNat_inj.1 e)
  unfold Lib.compareBytes Lib.compareInt
  simp only [UInt8.lt_iff_toNat_lt, Int.ofNat_lt, gt_iff_lt]
  by_cases h1 : a.toNat < b.toNat
  · simp [h1]
  · have h2 : b.toNat < a.toNat := by omega
    simp [h1, h2]
theorem cmp_same (a : UInt8) (l m : List UInt8) : Lib.compareBytes (a :: l) (a :: m) = Lib.compareBytes l m := by
  have h : ¬ a < a := by rw [UInt8.lt_iff_toNat_lt]; omega
  simp [Lib.compareBytes, h]
theorem cmp_end (l m : List UInt8) (h : l = [] ∨ m = []) : Lib.compareBytes l m = Lib.compareInt l.length m.length := by
  rcases h with rfl | rfl
  · cases m with
    | nil => rfl
    | cons b t =>
      have h1 : ((0 : Nat) : Int) < ((t.length + 1 : Nat) : Int) := by omega
      simp only [Lib.compareBytes, List.length_nil, List.length_cons, Lib.compareInt, h1, if_true]
  · cases l with
    | nil => rfl
    | cons b t =>
      have h1 : ¬ ((t.length + 1 : Nat) : Int) < ((0 : Nat) : Int) := by omega
      have h2 : ((t.length + 1 : Nat) : Int) > ((0 : Nat) : Int) := by omega
      simp only [Lib.compareBytes, List.length_nil, List.length_cons, Lib.compareInt, h1, h2, if_false, if_true]



set_option maxHeartbeats 2000000 in
theorem texts_drn (a b : ByteArray) (w : World) (ha : a.size ≤ maxLen) (_hb : b.size ≤ maxLen) :
    Calls Tryd.prog 20 #[.string a, .string b] w fun e w' => e = .returned (.int .i64 (Lib.compareBytes a.data.toList b.data.toList)) ∧ Drn w w' := by
  unfold maxLen at ha _hb
  go_enter Tryd.func20, Tryd.ntmps20
  go_wp2_with fail
  go_loopw [5] (fun i wr => ∃ k : Nat, k ≤ a.size ∧ k ≤ b.size ∧ i = .int .i64 k ∧ Hid (Lib.compareBytes a.data.toList b.data.toList = Lib.compareBytes (a.data.toList.drop k) (b.data.toList.drop k)) ∧ Drn w wr) (fun i _ => a.size - (intOf i).toNat)
  case atStart => exact ⟨0, Nat.zero_le _, Nat.zero_le _, rfl, rfl, Drn.refl _⟩
  case round =>
    obtain ⟨k, hka, hkb, rfl, hE, hB⟩ := hrel
    by_cases hlt : k < a.size ∧ k < b.size
    · obtain ⟨h1, h2⟩ := hlt
      have i1 : (0 : Int) ≤ (k : Int) := by omega
      have i2 : (k : Int) < (a.size : Int) := by omega
      have i3 : (k : Int) < (b.size : Int) := by omega
      have ea := drop_cons a k h1
      have eb := drop_cons b k h2
      by_cases hab : a[k] = b[k]
      · have hE' : Hid (Lib.compareBytes a.data.toList b.data.toList = Lib.compareBytes (a.data.toList.drop (k + 1)) (b.data.toList.drop (k + 1))) := by
          have e := hE.out
          rw [ea, eb, hab, cmp_same] at e
          exact e
        clear ea eb hE
        have hab' : ((a[k].toNat : Int) != (b[k].toNat : Int)) = false := by rw [hab]; simp
        have Hab := Lib.hid hab
        clear hab
        go_wp2_with fail
        go_quiet (fail)
        go_wp2_with fail
        go_roundw
        case rel => exact ⟨k + 1, by omega, by omega, by go_num, hE', hB.draws _⟩
        case measure => simp [intOf]; omega
      · have hE' : Hid (Lib.compareBytes a.data.toList b.data.toList = Lib.compareInt a[k].toNat b[k].toNat) := by
          have e := hE.out
          rw [ea, eb, cmp_bytes _ _ _ _ hab] at e
          exact e
        clear ea eb hE
        have hab' : ((a[k].toNat : Int) != (b[k].toNat : Int)) = true := by
          have : a[k].toNat ≠ b[k].toNat := fun e => hab (UInt8.toNat_inj.1 e)
          simp
          omega
        clear hab
        go_wp2_with fail
        go_quiet (fail)
        go_wp2_with fail
        have hB2 := hB.draws nq
        generalize wr.drewN nq = w2 at hB2 ⊢
        go_quiet ((go_at_call 33; exact Calls.quiet_of_same ((ints_any _ _ _).mono fun _ _ h => ⟨h.1, h.2.symm⟩)))
        go_wp2_with fail
        go_ret
        exact ⟨ret_i64 (by rw [wrap_byte, wrap_byte]; exact hE'.out.symm), hB2.draws _⟩
    · have hE' : Hid (Lib.compareBytes a.data.toList b.data.toList = Lib.compareInt a.size b.size) := by
        have e := hE.out
        have l1 : a.data.toList.length = a.size := Array.length_toList
        have l2 : b.data.toList.length = b.size := Array.length_toList
        have hend : a.data.toList.drop k = [] ∨ b.data.toList.drop k = [] := by
          by_cases h : k < a.size
          · exact Or.inr (List.drop_eq_nil_of_le (by omega))
          · exact Or.inl (List.drop_eq_nil_of_le (by omega))
        rw [cmp_end (a.data.toList.drop k) (b.data.toList.drop k) hend] at e
        have e2 : Lib.compareInt (a.data.toList.drop k).length (b.data.toList.drop k).length = Lib.compareInt a.size b.size := by
          unfold Lib.compareInt
          simp only [List.length_drop, l1, l2]
          repeat' split
          all_goals omega
        exact e.trans e2
      clear hE
      go_wp2_with (go_at_call 33; refine (ints_any _ _ _).mono ?_; rintro e w2 ⟨rfl, rfl⟩)
      all_goals go_ret
      all_goals exact ⟨ret_i64 hE'.out.symm, hB⟩

theorem texts_any (a b : ByteArray) (w : World) (ha : a.size ≤ maxLen) (hb : b.size ≤ maxLen) :
    Calls Tryd.prog 20 #[.string a, .string b] w fun e w' => e = .returned (.int .i64 (Lib.compareBytes a.data.toList b.data.toList)) ∧ Below w.heap.size w w' :=
  (texts_drn a b w ha hb).mono fun _ _ h => ⟨h.1, h.2.below _⟩
end Go.Proofs.YtccdpbcldpmegaaDoor
