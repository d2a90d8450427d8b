/-
  WHAT IS PROVED: cell.quoted returns the text's text, for every text of at most 2^40 bytes.
-/
import Derived.Test.YtmilcgikncecnaaDoorCellBase
import Derived.Test.YtmilcgikncecnaaDoorBuild
import Derived.Test.YtmilcgikncecnaaDoorShelf
namespace Go.Proofs.YtmilcgikncecnaaDoor
open Go.RowKit

theorem take_snoc (s : ByteArray) (k : Nat) (h : k < s.size) : s.data.toList.take (k + 1) = s.data.toList.take k ++ [s[k]] := by
  rw [List.take_succ_eq_append_getElem (by simpa using h)]; rfl

/-- WriteByte, in bytes. -/
theorem wb (B b : Nat) (l : List UInt8) (c : Int) (d : UInt8) (hc : c = (d.toNat : Int)) (w : World) (h : Lib.IsBuilder 61 5 B b (Lib.byteCells l) w) (hlen : l.length + 1 ≤ 140737488355328) (hBw : B ≤ w.heap.size) :
    Calls Tryd.prog 50 #[.pointer (some ⟨b, 0, none⟩), .int .u8 c] w fun e w' => e = .returned .nilIface ∧ Lib.IsBuilder 61 5 B b (Lib.byteCells (l ++ [d])) w' ∧ Below B w w' := by
  refine (writeByte B b (Lib.byteCells l) c w h (by rw [Lib.byteCells_length]; exact hlen) hBw).mono ?_
  rintro e w' ⟨rfl, hA, hb⟩
  refine ⟨rfl, Or.inr ?_, hb⟩
  rw [Lib.byteCells_append]
  subst hc
  exact hA

set_option maxHeartbeats 1000000 in
set_option maxRecDepth 100000 in
theorem quoted_any (s : ByteArray) (w : World) (hs : s.size ≤ 1099511627776) :
    Calls Tryd.prog 39 #[.string s] w fun e w' => e = .returned (.string ⟨(34 :: quoL s.data.toList ++ [34]).toArray⟩) ∧ Below w.heap.size w w' := by
  go_enter Tryd.func39, Tryd.ntmps39
  go_wp2_with (go_at_call 50; refine (wb w.heap.size w.heap.size [] 34 34 rfl _ (Lib.fresh_isBuilder 61 5 w) (by simp) (by simp)).mono ?_; rintro e w1 ⟨rfl, hI1, hb1⟩)
  have hb1' : Below w.heap.size w w1 := ((Below.refl _ w).alloc (Nat.le_refl _) _).trans hb1
  clear hb1
  go_loopw [4] (fun i wr => ∃ k : Nat, k ≤ s.size ∧ i = .int .i64 k ∧ Lib.IsBuilder 61 5 w.heap.size w.heap.size (Lib.byteCells (34 :: quoL (s.data.toList.take k))) wr ∧ Below w.heap.size w wr) (fun i _ => s.size - (intOf i).toNat)
  case atStart => exact ⟨0, Nat.zero_le _, rfl, hI1, hb1'⟩
  case round =>
    obtain ⟨k, hk, rfl, hI, hb⟩ := hrel
    by_cases hlt : k < s.size
    · have hql := quoL_len (s.data.toList.take k)
      have htl : (s.data.toList.take k).length ≤ k := List.length_take_le _ _
      by_cases hp : plainC s[k] = true
      · have hp' : plainB s[k].toNat = true := hp
        go_wp2_with (first | (go_at_call 51; refine (plain_any _ _).mono ?_; rintro e w2 ⟨rfl, rfl⟩) | (go_at_call 50; refine (wb w.heap.size w.heap.size _ _ s[k] rfl _ hI (by simp; omega) hb.size).mono ?_; rintro e w2 ⟨rfl, hI2, hb2⟩))
        go_roundw
        case rel =>
          refine ⟨k + 1, by omega, by go_num, ?_, hb.trans hb2⟩
          rw [take_snoc s k hlt, quoL_snoc, quoB, if_pos hp]
          exact hI2
        case measure => simp [intOf]; omega
      · have hp' : plainB s[k].toNat = false := by simpa [plainC] using hp
        have hc : s[k].toNat < 256 := s[k].toNat_lt
        go_wp2_with (go_at_call 51; refine (plain_any _ _).mono ?_; rintro e w2 ⟨rfl, rfl⟩)
        refine (wb w.heap.size w.heap.size _ _ 37 rfl _ hI (by simp; omega) hb.size).mono ?_
        rintro e w2 ⟨rfl, hI2, hb2⟩
        have hs2 := hb2.size
        have hsz := hb.size
        go_wp2_with fail
        refine (wb w.heap.size w.heap.size _ _ _ rfl _ hI2 (by simp; omega) (by omega)).mono ?_
        rintro e w3 ⟨rfl, hI3, hb3⟩
        have hs3 := hb3.size
        go_wp2_with fail
        refine (wb w.heap.size w.heap.size _ _ _ rfl _ hI3 (by simp; omega) (by omega)).mono ?_
        rintro e w4 ⟨rfl, hI4, hb4⟩
        go_wp2_with fail
        go_roundw
        case rel =>
          refine ⟨k + 1, by omega, by go_num, ?_, ((hb.trans hb2).trans hb3).trans hb4⟩
          rw [take_snoc s k hlt, quoL_snoc, quoB, if_neg hp]
          rw [hexd_at _ (by omega), hexd_at _ (by omega)] at hI4
          simpa using hI4
        case measure => simp [intOf]; omega
    · go_wp2_with (go_at_call 50; refine (wb w.heap.size w.heap.size _ _ 34 rfl _ hI (by have hql := quoL_len (s.data.toList.take k); have htl : (s.data.toList.take k).length ≤ k := List.length_take_le _ _; simp; omega) hb.size).mono ?_; rintro e w2 ⟨rfl, hI2, hb2⟩)
      have hsz2 := hb2.size
      have hsz := hb.size
      have ht : s.data.toList.take k = s.data.toList := List.take_of_length_le (by simp; omega)
      rw [ht] at hI2
      clear ht
      go_wp2_with (go_at_call 42; refine (Tryd.Builder_String_any w.heap.size w.heap.size (34 :: quoL s.data.toList ++ [34]) _ hI2 (by omega)).mono ?_; rintro e w3 ⟨rfl, hb3⟩)
      go_ret
      exact ⟨rfl, (hb.trans hb2).trans hb3⟩
end Go.Proofs.YtmilcgikncecnaaDoor
