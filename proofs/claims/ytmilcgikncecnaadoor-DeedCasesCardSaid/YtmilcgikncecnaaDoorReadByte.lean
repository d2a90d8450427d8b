/-
  WHAT IS PROVED: contracts of cell.readByte and cell.number. Conditions: those typed in each theorem.
-/
import Derived.Test.YtmilcgikncecnaaDoorCellBase
import Derived.Test.YtmilcgikncecnaaDoorShelf
import Derived.Test.YtmilcgikncecnaaDoorQuote
import Derived.Test.YtmilcgikncecnaaDoorReadMath
namespace Go.Proofs.YtmilcgikncecnaaDoor
open Go.RowKit

theorem hex_index (c : UInt8) : Lib.indexByte [48, 49, 50, 51, 52, 53, 54, 55, 56, 57, 97, 98, 99, 100, 101, 102] c = if hexv c < 16 then (hexv c : Int) else -1 := by
  have : ∀ m : Fin 256, Lib.indexByte [48, 49, 50, 51, 52, 53, 54, 55, 56, 57, 97, 98, 99, 100, 101, 102] (UInt8.ofNat m.val) = if hexv (UInt8.ofNat m.val) < 16 then (hexv (UInt8.ofNat m.val) : Int) else -1 := by decide +kernel
  have := this ⟨c.toNat, c.toNat_lt⟩
  simpa using this
theorem byte_back (c : UInt8) : ((c.toNat : Int)).toNat.toUInt8 = c := by simp

/-- strings.IndexByte in the sixteen digits. -/
def idxOf (c : UInt8) : Int := if hexv c < 16 then (hexv c : Int) else -1
theorem hexIndex (c : UInt8) (w : World) :
    Calls Tryd.prog 78 #[.string ⟨#[48, 49, 50, 51, 52, 53, 54, 55, 56, 57, 97, 98, 99, 100, 101, 102]⟩, .int .u8 c.toNat] w fun e w' => e = .returned (.int .i64 (idxOf c)) ∧ w' = w := by
  refine (Tryd.strings_IndexByte _ _ _).mono ?_
  rintro e w' ⟨rfl, rfl⟩
  rw [byte_back, hex_index]
  exact ⟨rfl, rfl⟩

set_option maxHeartbeats 1000000 in
theorem readByte_plain (s : ByteArray) (w : World) (h0 : 0 < s.size) (hs : s.size ≤ maxLen) (hp : plainC s[0] = true) :
    Calls Tryd.prog 65 #[.string s] w fun e w' => e = .returned (.tuple #[.int .u8 s[0].toNat, .int .i64 1, .bool true]) ∧ w = w' := by
  unfold maxLen at hs
  have hp' : plainB s[0].toNat = true := hp
  have i2 : (0 : Int) < (s.size : Int) := by omega
  go_enter Tryd.func65, Tryd.ntmps65
  go_wp2_with (go_at_call 51; refine (plain_any _ _).mono ?_; rintro e w2 ⟨rfl, rfl⟩)
  go_ret3
  exact ⟨rfl, rfl⟩

set_option maxHeartbeats 1000000 in
theorem readByte_short (s : ByteArray) (w : World) (h0 : 0 < s.size) (hs : s.size ≤ maxLen) (hp : plainC s[0] = false) (h : s[0] ≠ 37 ∨ s.size < 3) :
    Calls Tryd.prog 65 #[.string s] w fun e w' => e = .returned (.tuple #[.int .u8 0, .int .i64 0, .bool false]) ∧ w = w' := by
  unfold maxLen at hs
  have hp' : plainB s[0].toNat = false := hp
  have i2 : (0 : Int) < (s.size : Int) := by omega
  by_cases h1 : s[0] = 37
  · have h2 : (s.size : Int) < 3 := by
      rcases h with h | h
      · exact absurd h1 h
      · omega
    have e1 : ((s[0].toNat : Int) != 37) = false := by rw [h1]; rfl
    clear h1 h
    go_enter Tryd.func65, Tryd.ntmps65
    go_wp2_with (go_at_call 51; refine (plain_any _ _).mono ?_; rintro e w2 ⟨rfl, rfl⟩)
    go_ret3
    exact ⟨rfl, rfl⟩
  · have e1 : ((s[0].toNat : Int) != 37) = true := by
      have : s[0].toNat ≠ 37 := fun e => h1 (UInt8.toNat_inj.1 e)
      simp
      omega
    clear h1 h
    go_enter Tryd.func65, Tryd.ntmps65
    go_wp2_with (go_at_call 51; refine (plain_any _ _).mono ?_; rintro e w2 ⟨rfl, rfl⟩)
    go_ret3
    exact ⟨rfl, rfl⟩

set_option maxHeartbeats 1000000 in
theorem readByte_nohex (s : ByteArray) (w : World) (h0 : 2 < s.size) (hs : s.size ≤ maxLen) (hp : s[0] = 37) (h : ¬ hexv s[1] < 16 ∨ ¬ hexv s[2] < 16) :
    Calls Tryd.prog 65 #[.string s] w fun e w' => e = .returned (.tuple #[.int .u8 0, .int .i64 0, .bool false]) ∧ Below w.heap.size w w' := by
  unfold maxLen at hs
  have hp' : plainB s[0].toNat = false := by rw [hp]; decide
  have i1 : (1 : Int) < (s.size : Int) := by omega
  have i2 : (2 : Int) < (s.size : Int) := by omega
  have j1 : 1 < s.size := by omega
  have e1 : ((s[0].toNat : Int) != 37) = false := by rw [hp]; rfl
  have hi : idxOf s[1] < 0 ∨ (0 ≤ idxOf s[1] ∧ idxOf s[2] < 0) := by
    unfold idxOf
    by_cases k : hexv s[1] < 16
    · rw [if_pos k]
      rcases h with h | h
      · exact absurd k h
      · rw [if_neg h]
        omega
    · rw [if_neg k]
      omega
  clear h hp
  go_enter Tryd.func65, Tryd.ntmps65
  go_wp2_with (go_at_call 51; refine (plain_any _ _).mono ?_; rintro e w2 ⟨rfl, rfl⟩)
  go_quiet ((go_at_call 78; exact Calls.quiet_of_same (hexIndex _ _)))
  rcases hi with hi | ⟨hi, hj⟩
  · go_wp2_with fail
    go_ret3
    exact ⟨rfl, ⟨rfl, rfl, rfl, Nat.le_refl _, fun _ _ => rfl⟩⟩
  · go_wp2_with fail
    go_ret3
    exact ⟨rfl, ⟨rfl, rfl, rfl, Nat.le_refl _, fun _ _ => rfl⟩⟩

theorem or_parts (a b : UInt8) (ha : hexv a < 16) (hb : hexv b < 16) : bits BinOp.or IntKind.i64 (wrap64 (idxOf a * 16)) (idxOf b) % 256 = ((16 * hexv a + hexv b : Nat) : Int) := by
  have : ∀ x y : Fin 16, bits BinOp.or IntKind.i64 (wrap64 (((x.val : Nat) : Int) * 16)) ((y.val : Nat) : Int) % 256 = ((16 * x.val + y.val : Nat) : Int) := by decide +kernel
  have h := this ⟨hexv a, ha⟩ ⟨hexv b, hb⟩
  unfold idxOf
  rw [if_pos ha, if_pos hb]
  exact h
theorem plain_nat (m : Nat) (h : m < 256) : plainB (m : Int) = plainC (UInt8.ofNat m) := by
  unfold plainC
  rw [UInt8.toNat_ofNat_of_lt']
  exact h
/-- The byte for which two digits stand. -/
def escV (a b : UInt8) : UInt8 := UInt8.ofNat (16 * hexv a + hexv b)
theorem plain_or (a b : UInt8) (ha : hexv a < 16) (hb : hexv b < 16) (w : World) :
    Calls Tryd.prog 51 #[.int .u8 (bits BinOp.or IntKind.i64 (wrap64 (idxOf a * 16)) (idxOf b) % 256)] w fun e w' => e = .returned (.bool (plainC (escV a b))) ∧ w = w' := by
  unfold escV
  have := plain_any (bits BinOp.or IntKind.i64 (wrap64 (idxOf a * 16)) (idxOf b) % 256) w
  rw [or_parts a b ha hb] at this ⊢
  rw [← plain_nat _ (by omega)]
  exact this
theorem escV_nat (a b : UInt8) (ha : hexv a < 16) (hb : hexv b < 16) : bits BinOp.or IntKind.i64 (wrap64 (idxOf a * 16)) (idxOf b) % 256 = ((escV a b).toNat : Int) := by
  rw [or_parts a b ha hb, escV, UInt8.toNat_ofNat_of_lt']
  show _ < 256
  omega
theorem ret_t3 {a b c : Value} {x y z : Value} (h1 : a = x) (h2 : b = y) (h3 : c = z) : Ending.returned (.tuple #[a, b, c]) = .returned (.tuple #[x, y, z]) := by rw [h1, h2, h3]

/-- Only the tape of draws has moved. -/
def Drawn (w w' : World) : Prop := ∃ n, w' = w.drewN n
theorem Drawn.below {w w' : World} (h : Drawn w w') : Below w.heap.size w w' := by
  obtain ⟨n, rfl⟩ := h
  exact ⟨rfl, rfl, rfl, Nat.le_refl _, fun _ _ => rfl⟩

set_option maxHeartbeats 1000000 in
theorem readByte_hex (s : ByteArray) (w : World) (h0 : 2 < s.size) (hs : s.size ≤ maxLen) (hp : s[0] = 37) (ha : hexv s[1] < 16) (hb : hexv s[2] < 16) :
    Calls Tryd.prog 65 #[.string s] w fun e w' => e = .returned (.tuple #[.int .u8 (escV s[1] s[2]).toNat, .int .i64 3, .bool (!plainC (escV s[1] s[2]))]) ∧ Drawn w w' := by
  unfold maxLen at hs
  have hp' : plainB s[0].toNat = false := by rw [hp]; decide
  have i1 : (1 : Int) < (s.size : Int) := by omega
  have i2 : (2 : Int) < (s.size : Int) := by omega
  have j1 : 1 < s.size := by omega
  have e1 : ((s[0].toNat : Int) != 37) = false := by rw [hp]; rfl
  have ia : 0 ≤ idxOf s[1] := by unfold idxOf; rw [if_pos ha]; omega
  have ib : 0 ≤ idxOf s[2] := by unfold idxOf; rw [if_pos hb]; omega
  clear hp
  go_enter Tryd.func65, Tryd.ntmps65
  go_wp2_with (go_at_call 51; refine (plain_any _ _).mono ?_; rintro e w2 ⟨rfl, rfl⟩)
  go_quiet ((go_at_call 78; exact Calls.quiet_of_same (hexIndex _ _)))
  go_wp2_with fail
  refine (plain_or _ _ ha hb _).mono ?_
  rintro e w3 ⟨rfl, rfl⟩
  go_wp2_with fail
  go_ret3
  exact ⟨ret_t3 (by rw [← escV_nat _ _ ha hb]; rfl) rfl rfl, ⟨_, rfl⟩⟩

/-! ### cell.number -/
theorem all_take_dig (l : List UInt8) (k : Nat) (c : UInt8) (h : l[k]? = some c) (hc : isDig c = false) : isNum l = false := by
  have : l.all isDig = false := by
    rw [List.all_eq_false]
    exact ⟨c, List.mem_of_getElem? h, by simp [hc]⟩
  simp [isNum, this]
theorem get_some (s : ByteArray) (k : Nat) (h : k < s.size) : s.data.toList[k]? = some s[k] := by
  rw [List.getElem?_eq_getElem (by simpa using h)]; rfl
theorem num_zero (l : List UInt8) (h1 : 1 < l.length) (h0 : l.head? = some 48) : isNum l = false := by
  have h2 : decide (l.length ≤ 1) = false := by simp; omega
  simp [isNum, h0, h2]

set_option maxHeartbeats 2000000 in
theorem number_any (s : ByteArray) (w : World) (hs : s.size ≤ maxLen) :
    Calls Tryd.prog 68 #[.string s] w fun e w' => e = .returned (.bool (isNum s.data.toList)) ∧ Below w.heap.size w w' := by
  unfold maxLen at hs
  have hl : s.data.toList.length = s.size := Array.length_toList
  go_enter Tryd.func68, Tryd.ntmps68
  go_wp2_with fail
  go_loopw [] (fun wr => ∃ k : Nat, k ≤ s.size ∧ wr.heap[w.heap.size]? = some (.stringIter s k) ∧ Below w.heap.size w wr ∧ Hid ((s.data.toList.take k).all isDig = true) ∧ Hid (k ≤ 1 ∨ s.data.toList.head? ≠ some 48)) (fun wr => s.size - wr.iterPos w.heap.size)
  case atStart =>
    refine ⟨0, Nat.zero_le _, World.iter_heap w s 0, b0 _ _, rfl, Or.inl (by omega)⟩
  case round =>
    obtain ⟨k, hk, hit, hbw, hA, hZ⟩ := hrel
    have hsz : w.heap.size < wr.heap.size := (Array.getElem?_eq_some_iff.1 hit).1
    by_cases hp : k < s.size
    · have hg := get_some s k hp
      by_cases hd : isDig s[k] = true
      · have hd' : 48 ≤ s[k].toNat ∧ s[k].toNat ≤ 57 := by simpa [isDig] using hd
        have hnx : ∀ ty, (Instr.next (.pointer (some ⟨w.heap.size, 0, none⟩)) true ty).run Tryd.prog wr = _ := fun ty => Lib.run_next_ascii_at wr w.heap.size s k ty hit hp (by omega)
        have hA2 : Hid ((s.data.toList.take (k + 1)).all isDig = true) := by
          show _ = _
          rw [take_snoc s k hp, List.all_append, hA.out]
          simp [hd]
        have hbw2 := Lib.below_iterAt hbw (k := w.heap.size) (Nat.le_refl _) s (k + 1)
        have hit2 := Lib.iterAt_heap wr w.heap.size s k (k + 1) hit
        have j1 : ¬ (s[k].toNat : Int) < 48 := by omega
        have j2 : ¬ 57 < (s[k].toNat : Int) := by omega
        have j3 : (0 : Int) < (s.size : Int) := by omega
        have j4 : 0 < s.size := by omega
        have hk0 := get_some s 0 j4
        have hh : s.data.toList.head? = some s[0] := by rw [List.head?_eq_getElem?]; exact hk0
        clear hd hg hA hk0
        by_cases k1 : k = 1
        · subst k1
          by_cases z : s[0] = 48
          · have z1 : ((s[0].toNat : Int) == 48) = true := by rw [z]; rfl
            have R : Hid (isNum s.data.toList = false) := num_zero _ (by omega) (by rw [hh, z])
            clear z hh
            go_wp2_with fail
            go_ret
            exact ⟨ret_bool R.out.symm, hbw2⟩
          · have z1 : ((s[0].toNat : Int) == 48) = false := by
              have : s[0].toNat ≠ 48 := fun e => z (UInt8.toNat_inj.1 e)
              simp
              omega
            have Z2 : Hid (1 + 1 ≤ 1 ∨ s.data.toList.head? ≠ some 48) := Or.inr (by rw [hh]; simpa using z)
            clear z hh
            go_wp2_with fail
            go_roundw
            case rel => exact ⟨1 + 1, by omega, hit2, hbw2, hA2, Z2⟩
            case measure =>
              simp only [World.iterPos, hit2, hit]
              omega
        · have z1 : ((k : Int) == 1) = false := by simp; omega
          have Z2 : Hid (k + 1 ≤ 1 ∨ s.data.toList.head? ≠ some 48) := by
            rcases hZ.out with h | h
            · exact Or.inl (by omega)
            · exact Or.inr h
          clear k1 hh
          go_wp2_with fail
          go_roundw
          case rel => exact ⟨k + 1, by omega, hit2, hbw2, hA2, Z2⟩
          case measure =>
            simp only [World.iterPos, hit2, hit]
            omega
      · have hd' : ¬ (48 ≤ s[k].toNat ∧ s[k].toNat ≤ 57) := by simpa [isDig] using hd
        have R : Hid (isNum s.data.toList = false) := all_take_dig _ _ _ hg (by simpa using hd)
        clear hd hg
        by_cases h128 : s[k].toNat < 128
        · have hnx : ∀ ty, (Instr.next (.pointer (some ⟨w.heap.size, 0, none⟩)) true ty).run Tryd.prog wr = _ := fun ty => Lib.run_next_ascii_at wr w.heap.size s k ty hit hp (by omega)
          have hbw2 := Lib.below_iterAt hbw (k := w.heap.size) (Nat.le_refl _) s (k + 1)
          by_cases j1 : (s[k].toNat : Int) < 48
          · clear hd'
            go_wp2_with fail
            go_ret
            exact ⟨ret_bool R.out.symm, hbw2⟩
          · have j2 : (57 : Int) < (s[k].toNat : Int) := by omega
            clear hd'
            go_wp2_with fail
            go_ret
            exact ⟨ret_bool R.out.symm, hbw2⟩
        · have hnx : ∀ ty, (Instr.next (.pointer (some ⟨w.heap.size, 0, none⟩)) true ty).run Tryd.prog wr = _ := fun ty => Lib.run_next_any_at wr w.heap.size s k ty hit hp
          have hhi := (decode_high s k hp (by omega)).1
          have hbw2 := Lib.below_iterAt hbw (k := w.heap.size) (Nat.le_refl _) s (k + (Utf8.decode s k).2)
          have j1 : ¬ ((Utf8.decode s k).1 : Int) < 48 := by omega
          have j2 : (57 : Int) < ((Utf8.decode s k).1 : Int) := by omega
          clear hd' h128
          go_wp2_with fail
          go_ret
          exact ⟨ret_bool R.out.symm, hbw2⟩
    · have hnx : ∀ ty, (Instr.next (.pointer (some ⟨w.heap.size, 0, none⟩)) true ty).run Tryd.prog wr = _ := fun ty => Lib.run_next_end_at wr w.heap.size s k ty hit hp
      have ht : s.data.toList.take k = s.data.toList := List.take_of_length_le (by omega)
      have R : Hid (isNum s.data.toList = !s.data.toList.isEmpty) := by
        have hA3 := hA.out
        rw [ht] at hA3
        show _ = _
        unfold isNum
        rw [hA3]
        rcases hZ.out with h | h
        · have e1 : decide (s.data.toList.length ≤ 1) = true := by simp only [decide_eq_true_eq]; omega
          rw [e1]
          simp
        · have e1 : (s.data.toList.head? != some 48) = true := by simpa using h
          rw [e1]
          simp
      clear ht
      go_wp2_with fail
      go_ret
      refine ⟨ret_bool ?_, hbw⟩
      rw [R.out, ByteArray.toList_eq]
end Go.Proofs.YtmilcgikncecnaaDoor
