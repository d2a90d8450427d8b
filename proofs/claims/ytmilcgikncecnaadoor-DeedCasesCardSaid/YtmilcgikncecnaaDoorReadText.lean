/-
  WHAT IS PROVED: cell.readText reads what stands within the quotes as the plain function readQ does, for texts of at most 2^40 bytes.
-/
import Derived.Test.YtmilcgikncecnaaDoorReadByte
import Derived.Test.YtmilcgikncecnaaDoorSmall
import Derived.Test.YtmilcgikncecnaaDoorGood
namespace Go.Proofs.YtmilcgikncecnaaDoor
open Go.RowKit

/-- An answer of two: a value, an error. -/
def rvOf (r : RV) : Value := .tuple #[.agg #[.int .i64 r.1, .int .i64 r.2.1, .string ⟨r.2.2.1.toArray⟩], .int .i64 r.2.2.2]
def strLen : Value → Nat
  | .string r => r.size
  | _ => 0
theorem extract_tail (r : ByteArray) (n : Nat) : (r.extract n r.size).data.toList = r.data.toList.drop n := by
  have h : r.data.toList.length = r.size := Array.length_toList
  rw [Lib.extract_data]
  rw [List.take_of_length_le (by rw [List.length_drop, h]; omega)]
theorem cons_of (r : ByteArray) (h : 0 < r.size) : r.data.toList = r[0] :: r.data.toList.drop 1 := by
  have := drop_cons r 0 h
  simpa using this

set_option maxHeartbeats 2000000 in
theorem readText_bad (s : ByteArray) (w : World) (hs : s.size ≤ 1099511627776) (h : s.size < 2 ∨ ∃ k : s.size - 1 < s.size, 2 ≤ s.size ∧ s[s.size - 1] ≠ 34) :
    Calls Tryd.prog 55 #[.string s] w fun e w' => e = .returned (rvOf (0, 0, [], 2)) ∧ Below w.heap.size w w' := by
  rcases h with h | ⟨k, h2, h⟩
  · have i1 : (s.size : Int) < 2 := by omega
    go_enter Tryd.func55, Tryd.ntmps55
    go_wp2_with fail
    exact bodyPost_ret (v := rvOf (0, 0, [], 2)) (by simp [results, Tryd.results55, go_sem, rvOf]) rfl ⟨rfl, b0 _ _⟩
  · have e1 : ((s[s.size - 1].toNat : Int) != 34) = true := by
      have : s[s.size - 1].toNat ≠ 34 := fun e => h (UInt8.toNat_inj.1 e)
      simp
      omega
    have i1 : ¬ (s.size : Int) < 2 := by omega
    have i2 : (0 : Int) ≤ (s.size : Int) - 1 := by omega
    have i3 : (s.size : Int) - 1 < (s.size : Int) := by omega
    clear h
    go_enter Tryd.func55, Tryd.ntmps55
    go_wp2_with fail
    exact bodyPost_ret (v := rvOf (0, 0, [], 2)) (by simp [results, Tryd.results55, go_sem, rvOf]) rfl ⟨rfl, b0 _ _⟩

theorem lenB (B b : Nat) (l : List UInt8) (w : World) (h : Lib.IsBuilder 61 5 B b (Lib.byteCells l) w) :
    Calls Tryd.prog 66 #[.pointer (some ⟨b, 0, none⟩)] w fun e w' => e = .returned (.int .i64 l.length) ∧ w = w' := by
  refine (Tryd.Builder_Len B b _ w h).mono ?_
  rintro e w' ⟨rfl, rfl⟩
  rw [Lib.byteCells_length]
  exact ⟨rfl, rfl⟩
theorem startB (w : World) (o : Obj) : Lib.IsBuilder 61 5 (w.heap.size + 1) (w.heap.size + 1) [] ((w.alloc o).alloc (.cells #[.pointer none, .slice none 0 0] 61)) := by
  have hz : (w.alloc o).heap.size = w.heap.size + 1 := by simp
  have h := Lib.fresh_isBuilder 61 5 (w.alloc o)
  rwa [hz] at h

set_option maxHeartbeats 4000000 in
theorem readText_good (s : ByteArray) (w : World) (hs : s.size ≤ 1099511627776) (h2 : 2 ≤ s.size) (k : s.size - 1 < s.size) (h : s[s.size - 1] = 34) :
    Calls Tryd.prog 55 #[.string s] w fun e w' => e = .returned (rvOf (readQ (s.extract 1 (s.size - 1)).data.toList)) ∧ Below w.heap.size w w' := by
  have e1 : ((s[s.size - 1].toNat : Int) != 34) = false := by rw [h]; rfl
  have i1 : ¬ (s.size : Int) < 2 := by omega
  have i2 : (0 : Int) ≤ (s.size : Int) - 1 := by omega
  have i3 : (s.size : Int) - 1 < (s.size : Int) := by omega
  have i4 : (1 : Int) ≤ (s.size : Int) - 1 := by omega
  clear h
  go_enter Tryd.func55, Tryd.ntmps55
  go_wp2_with fail
  go_loopw [5] (fun v wr => ∃ (r : ByteArray) (acc : List UInt8), v = .string r ∧ acc.length + r.size ≤ s.size ∧ Lib.IsBuilder 61 5 (w.heap.size + 1) (w.heap.size + 1) (Lib.byteCells acc) wr ∧
      Below (w.heap.size + 1) (w.alloc (.cells #[.int .i64 0, .int .i64 0, .string ⟨#[]⟩] 26)) wr ∧ Hid (unq (s.extract 1 (s.size - 1)).data.toList = (unq r.data.toList).map (acc ++ ·))) (fun v _ => strLen v)
  case atStart =>
    refine ⟨s.extract 1 (s.size - 1), [], rfl, ?_, startB _ _, (Below.refl _ _).alloc (by simp) _, ?_⟩
    · rw [ByteArray.size_extract]
      simp
      omega
    · show _ = _
      simp
  case round =>
    obtain ⟨r, acc, rfl, hlen, hI, hB, hU⟩ := hrel
    obtain ⟨q0, q1, q2, f0, f1, f2⟩ := res_cells hB
    have hBz : w.heap.size + 1 ≤ wr.heap.size := by simpa using hB.size
    by_cases hr : r.size = 0
    · have E := (isEmpty_iff r).2 hr
      have hq : Hid (unq (s.extract 1 (s.size - 1)).data.toList = some acc) := by
        have h0 : r.data.toList = [] := by
          have : r.data.toList.length = r.size := Array.length_toList
          exact List.length_eq_zero_iff.1 (by omega)
        have := hU.out
        rw [h0] at this
        show _ = _
        rw [this]
        simp [unq]
      by_cases h40 : 40 < acc.length
      · have j1 : (40 : Int) < (acc.length : Int) := by omega
        have R : Hid (readQ (s.extract 1 (s.size - 1)).data.toList = (0, 0, [], 1)) := by
          show _ = _
          unfold readQ
          rw [hq.out]
          simp only
          rw [if_pos h40]
        go_wp2_with (go_at_call 66; refine (lenB _ _ _ _ hI).mono ?_; rintro e w2 ⟨rfl, rfl⟩)
        rw [R.out]
        exact bodyPost_ret (v := rvOf (0, 0, [], 1)) (by simp [results, Tryd.results55, go_sem, rvOf, q0, q1, q2]) rfl ⟨rfl, below3 (below_up hB) _ _ _⟩
      · have j1 : ¬ (40 : Int) < (acc.length : Int) := by omega
        have R : Hid (readQ (s.extract 1 (s.size - 1)).data.toList = (2, 0, acc, 0)) := by
          show _ = _
          unfold readQ
          rw [hq.out]
          simp only
          rw [if_neg h40]
        go_wp2_with (first | (go_at_call 66; refine (lenB _ _ _ _ hI).mono ?_; rintro e w2 ⟨rfl, rfl⟩) | (go_at_call 42; refine (Tryd.Builder_String_any _ _ _ _ hI hBz).mono ?_; rintro e w2 ⟨rfl, hb2⟩; have hB2 := hB.trans hb2; obtain ⟨q0', q1', q2', f0', f1', f2'⟩ := res_cells hB2))
        rw [R.out]
        exact bodyPost_ret (v := rvOf (2, 0, acc, 0)) (by simp [results, Tryd.results55, go_sem, rvOf, q0', q1', q2']) rfl ⟨rfl, below3 (below_up hB2) _ _ _⟩
    · have E : r.toList.isEmpty = false := by
        cases hx : r.toList.isEmpty with
        | false => rfl
        | true => exact absurd ((isEmpty_iff r).1 hx) hr
      have h0 : 0 < r.size := by omega
      have hrs : r.size ≤ maxLen := by unfold maxLen; omega
      have hcons := cons_of r h0
      by_cases hp : plainC r[0] = true
      · have hU2 : Hid (unq (s.extract 1 (s.size - 1)).data.toList = (unq (r.extract 1 r.size).data.toList).map ((acc ++ [r[0]]) ++ ·)) := by
          have := hU.out
          rw [hcons, unq_plain _ _ hp] at this
          show _ = _
          rw [this, extract_tail]
          simp [Function.comp_def]
        have Hp := Lib.hid hp
        clear hp hcons hr
        go_wp2_with (go_at_call 65; refine (readByte_plain _ _ h0 hrs Hp.out).mono ?_; rintro e w2 ⟨rfl, rfl⟩)
        refine (wb _ _ acc _ r[0] rfl _ hI (by omega) hBz).mono ?_
        rintro e w3 ⟨rfl, hI3, hb3⟩
        have i5 : (1 : Int) ≤ (r.size : Int) := by omega
        go_wp2_with fail
        go_roundw
        case rel =>
          refine ⟨r.extract 1 r.size, acc ++ [r[0]], rfl, ?_, hI3, hB.trans hb3, hU2⟩
          rw [ByteArray.size_extract]
          simp
          omega
        case measure =>
          simp only [strLen]
          rw [ByteArray.size_extract]
          omega
      · have hp0 : plainC r[0] = false := by simpa using hp
        by_cases hsh : r[0] ≠ 37 ∨ r.size < 3
        · have R : Hid (readQ (s.extract 1 (s.size - 1)).data.toList = (0, 0, [], 2)) := by
            have hl : r.data.toList.length = r.size := Array.length_toList
            have := hU.out
            rw [hcons, unq_bad _ _ hp0 (by
              rcases hsh with h | h
              · exact Or.inl h
              · refine Or.inr (Or.inl ?_)
                rw [List.length_drop]
                omega)] at this
            show _ = _
            unfold readQ
            rw [this]
            rfl
          have Hp := Lib.hid hp0
          have Hs := Lib.hid hsh
          clear hp hp0 hcons hr hsh
          go_wp2_with (go_at_call 65; refine (readByte_short _ _ h0 hrs Hp.out Hs.out).mono ?_; rintro e w2 ⟨rfl, rfl⟩)
          rw [R.out]
          exact bodyPost_ret (v := rvOf (0, 0, [], 2)) (by simp [results, Tryd.results55, go_sem, rvOf, q0, q1, q2]) rfl ⟨rfl, below3 (below_up hB) _ _ _⟩
        · have h37 : r[0] = 37 := by
            by_cases q : r[0] = 37
            · exact q
            · exact absurd (Or.inl q) hsh
          have h3 : 2 < r.size := by
            by_cases q : r.size < 3
            · exact absurd (Or.inr q) hsh
            · omega
          have l1 : 1 < r.size := by omega
          clear hsh hr
          have hl3 : r.data.toList = (37 : UInt8) :: r[1] :: r[2] :: r.data.toList.drop 3 := by
            have g1 := drop_cons r 1 l1
            have g2 := drop_cons r 2 h3
            have g : r.data.toList = r[0] :: r[1] :: r[2] :: r.data.toList.drop 3 := hcons.trans (by rw [g1, g2])
            rw [h37] at g
            exact g
          by_cases hx : hexv r[1] < 16 ∧ hexv r[2] < 16
          · obtain ⟨hx1, hx2⟩ := hx
            by_cases hpl : plainC (escV r[1] r[2]) = true
            · have hb : (!plainC (escV r[1] r[2])) = false := by rw [hpl]; rfl
              have R : Hid (readQ (s.extract 1 (s.size - 1)).data.toList = (0, 0, [], 2)) := by
                have := hU.out
                have hesc : escB r[1] r[2] = false := by
                  have h1 : plainC (UInt8.ofNat (16 * hexv r[1] + hexv r[2])) = true := hpl
                  simp only [escB, h1, Bool.not_true, Bool.and_false]
                rw [hl3, unq_bad _ _ (by decide) (Or.inr (Or.inr ⟨_, _, _, rfl, hesc⟩))] at this
                show _ = _
                unfold readQ
                rw [this]
                rfl
              have H37 := Lib.hid h37
              clear hp hp0 hcons hl3 h37 hpl
              go_wp2_with (go_at_call 65; refine (readByte_hex _ _ h3 hrs H37.out hx1 hx2).mono ?_; rintro e w2 ⟨rfl, hd2⟩; have hb2 := hd2.below; have hB2 := hB.trans (hb2.mono hBz); obtain ⟨q0', q1', q2', f0', f1', f2'⟩ := res_cells hB2)
              rw [R.out]
              exact bodyPost_ret (v := rvOf (0, 0, [], 2)) (by simp [results, Tryd.results55, go_sem, rvOf, q0', q1', q2']) rfl ⟨rfl, below3 (below_up hB2) _ _ _⟩
            · have hb : (!plainC (escV r[1] r[2])) = true := by simpa using hpl
              have hU2 : Hid (unq (s.extract 1 (s.size - 1)).data.toList = (unq (r.extract 3 r.size).data.toList).map ((acc ++ [escV r[1] r[2]]) ++ ·)) := by
                have := hU.out
                have hesc : escB r[1] r[2] = true := by
                  have h1 : plainC (UInt8.ofNat (16 * hexv r[1] + hexv r[2])) = false := Bool.eq_false_iff.2 hpl
                  simp only [escB, h1, hx1, hx2, and_self, decide_true, Bool.not_false, Bool.and_self]
                rw [hl3, unq_esc _ _ _ hesc] at this
                show _ = _
                rw [this, extract_tail]
                simp [Function.comp_def, escV]
              have H37 := Lib.hid h37
              clear hp hp0 hcons hl3 h37 hpl
              go_wp2_with (go_at_call 65; refine (readByte_hex _ _ h3 hrs H37.out hx1 hx2).mono ?_; rintro e w2 ⟨rfl, hb2⟩)
              have hI2 : Lib.IsBuilder 61 5 (w.heap.size + 1) (w.heap.size + 1) (Lib.byteCells acc) w2 := by
                obtain ⟨n, rfl⟩ := hb2
                exact hI
              have hB2 := hB.trans (hb2.below.mono hBz)
              have hBz2 : w.heap.size + 1 ≤ w2.heap.size := Nat.le_trans hBz hb2.below.size
              refine (wb _ _ acc _ _ rfl _ hI2 (by omega) hBz2).mono ?_
              rintro e w3 ⟨rfl, hI3, hb3⟩
              have i5 : (3 : Int) ≤ (r.size : Int) := by omega
              go_wp2_with fail
              go_roundw
              case rel =>
                refine ⟨r.extract 3 r.size, acc ++ [escV r[1] r[2]], rfl, ?_, hI3, hB2.trans hb3, hU2⟩
                rw [ByteArray.size_extract]
                simp
                omega
              case measure =>
                simp only [strLen]
                rw [ByteArray.size_extract]
                omega
          · have R : Hid (readQ (s.extract 1 (s.size - 1)).data.toList = (0, 0, [], 2)) := by
              have := hU.out
              have hesc : escB r[1] r[2] = false := by
                have h1 : decide (hexv r[1] < 16 ∧ hexv r[2] < 16) = false := by simpa using hx
                simp only [escB, h1, Bool.false_and]
              rw [hl3, unq_bad _ _ (by decide) (Or.inr (Or.inr ⟨_, _, _, rfl, hesc⟩))] at this
              show _ = _
              unfold readQ
              rw [this]
              rfl
            have hxx : ¬ hexv r[1] < 16 ∨ ¬ hexv r[2] < 16 := by
              by_cases q : hexv r[1] < 16
              · exact Or.inr fun q2 => hx ⟨q, q2⟩
              · exact Or.inl q
            have H37 := Lib.hid h37
            have Hx := Lib.hid hxx
            clear hp hp0 hcons hl3 h37 hx hxx
            go_wp2_with (go_at_call 65; refine (readByte_nohex _ _ h3 hrs H37.out Hx.out).mono ?_; rintro e w2 ⟨rfl, hb2⟩; have hB2 := hB.trans (hb2.mono hBz); obtain ⟨q0', q1', q2', f0', f1', f2'⟩ := res_cells hB2)
            rw [R.out]
            exact bodyPost_ret (v := rvOf (0, 0, [], 2)) (by simp [results, Tryd.results55, go_sem, rvOf, q0', q1', q2']) rfl ⟨rfl, below3 (below_up hB2) _ _ _⟩
end Go.Proofs.YtmilcgikncecnaaDoor
