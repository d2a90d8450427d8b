/-
  WHAT IS PROVED: package pack's own calls that put numbers, ints and texts behind other bytes (own, putNumber, folded, putInt, putText): the document's bytes. Conditions: those typed in each theorem. · plain facts: a number out of its bytes, one more; shifted by a byte and joined with it. No program is spoken of. · the document's taking of numbers, ints, texts and flags from bytes (spinneyref05), for all bytes. Conditions: those typed in each theorem. · package pack's reader: Number, Int, count, Text, Flag, small: what they answer and leave, as the chapter says. Conditions: those typed in each theorem. · package pack's reader: count, Text, Flag, small: what they answer and leave, as the chapter says. Conditions: those typed in each theorem. · the document's bytes of good writes, of lists of them (spinneyref05.Writes). Conditions: those typed in each theorem. · a slice of bytes cut off at its front, at its end, at both, as one word (own work); over any program that bears the types named. · the document's taking of ints, texts and flags from bytes (spinneyref05), for all bytes. Conditions: those typed in each theorem. · the document's taking of values from bytes (spinneyref05.TakeValue), for all bytes. Conditions: those typed in the theorem.
-/
import Derived.Test.YtpjleeeligahaaaGreatDoorGQ2
import Derived.Test.YtpjleeeligahaaaGreatDoorGQ4
import Derived.Test.YtpjleeeligahaaaGreatDoorShelf
import Derived.Laws.BitsAllLaws
import Derived.Test.YtpjleeeligahaaaGreatDoorGQ3
import Derived.Test.YtpjleeeligahaaaGreatDoorGQ0
import Derived.Test.YtpjleeeligahaaaGreatDoorGQ1
namespace Go.Proofs.YtpjleeeligahaaaGreatDoor
open Go.RowKit

set_option maxRecDepth 100000 in
/-- A slice that is handed in, without its spare room. -/
theorem own_any (A : Option Addr) (n c : Nat) (w : World) (hc : n ≤ c) :
    Calls Tryz.prog 64 #[.slice A n c] w fun e w' => e = .returned (.slice A n n) ∧ w' = w := by
  go_enter Tryz.func64, Tryz.ntmps64
  go_wp2_with fail
  go_ret
  exact ⟨rfl, rfl⟩

set_option maxRecDepth 100000 in
set_option maxHeartbeats 2000000 in
theorem putNumber_any (base : Nat) (A : Option Addr) (n c : Nat) (l : List UInt8) (x : Nat) (w : World) (hp : PreB base w A n c l) (hb : base ≤ w.heap.size) (hm : n ≤ 100000000000) (hx : x < 18446744073709551616) :
    Calls Tryz.prog 113 #[.slice A n c, .int .u64 x] w fun e w' => PutO base w (l ++ numB x) e w' := by
  obtain ⟨i0, hi0, hz0, hz1, hz2⟩ := info_parts byt_info
  have h8 := beB_eight hx
  have hbits := bits_bytes x hx
  have hbl : Lib.bitLen x ≤ 64 := Lib.bitLen_le x 64 (Nat.le_refl _) hx
  have HX := Lib.hid hx
  go_enter Tryz.func113, Tryz.ntmps113
  go_wp2_with fail
  refine (Tryz.bits_Len64 x w (by omega) (by omega)).mono ?_
  rintro e w1 ⟨rfl, rfl⟩
  have hK : ((Lib.bitLen x : Int) + 7) / 8 = ((beB x).length : Int) := by omega
  have HB := Lib.hid (show (l ++ [UInt8.ofNat (beB x).length]) ++ beB x = l ++ numB x by unfold numB; simp)
  generalize hk : (beB x).length = k at h8 hbits hK HB
  have HK := Lib.hid hk
  have hz : (k : Int) = ((UInt8.ofNat k).toNat : Int) := by rw [UInt8.toNat_ofNat']; omega
  have hp2 := hp.keep (b0 w1 (.cells #[.int .u8 (k : Int)] 5))
  have hb2 := (Below.refl base w1).alloc hb (.cells #[.int .u8 (k : Int)] 5)
  have hr2 := (litB w1 (base := base) (k : Int) (UInt8.ofNat k) hz hb).rd
  have hbase2 := hb2.size
  have hl := hp.len
  clear hk hbits hz
  go_wp2_with (at_builtin; refine wpList_apP (base := base) (n := n) (m := 1) (l := l) (l2 := [UInt8.ofNat k]) (by rfl) _ _ (by rfl) Tryz.underlying23 Tryz.underlying23 hi0 hz0 hz1 hz2 (by rfl) (by rfl) hp2 hr2 rfl (by omega) (n + 1) rfl (by omega) (Nat.le_trans hb hbase2) ?_; intro A5 c5 w5 hO5 hb5 ho5)
  have hB5 := hb2.trans hb5
  have hT5 := (Oth.below (b0 w1 (.cells #[.int .u8 (k : Int)] 5))).trans ho5
  go_loopw [0, 6] (fun b i wr => ∃ (j : Nat) (A3 : Option Addr) (n3 c3 : Nat), j ≤ k ∧ b = .slice A3 n3 c3 ∧ i = .int .i64 ((k : Int) - 1 - (j : Int)) ∧ OwnB base wr A3 n3 c3 (l ++ [UInt8.ofNat k] ++ (beB x).take j) ∧ Below base w1 wr ∧ Oth w1 wr) (fun _ i _ => (intOf i + 1).toNat)
  case atStart => exact ⟨0, A5, n + 1, c5, Nat.zero_le _, rfl, by go_num, by simpa using hO5, hB5, hT5⟩
  case round =>
    clear hO5 hb5 hp2 hb2 hr2 hbase2 hp
    obtain ⟨j, A3, n3, c3, hj, rfl, rfl, hO, hB, hT⟩ := hrel
    by_cases hlt : j < k
    · have hl2 := hO.len
      have i1 : (0 : Int) ≤ (k : Int) - 1 - (j : Int) := by omega
      have i2 : (k : Int) - 1 - (j : Int) < 8 := by omega
      have i3 : (j : Int) ≤ (k : Int) - 1 := by omega
      have hq := shift_byte x (k - 1 - j)
      have hg : (beB x)[j]? = some (UInt8.ofNat (x / 256 ^ (k - 1 - j) % 256)) := by
        have := beB_get x j (by have := HK.out; omega)
        rw [HK.out] at this
        exact this
      have HE := Lib.hid (show l ++ [UInt8.ofNat k] ++ (beB x).take j ++ [UInt8.ofNat (x / 256 ^ (k - 1 - j) % 256)] = l ++ [UInt8.ofNat k] ++ (beB x).take (j + 1) by rw [List.take_add_one, hg]; simp)
      have hown := litB wr (base := base) _ _ hq (Nat.le_trans hb hB.size)
      have hO2 := hO.keep (b0 wr (.cells #[.int .u8 ((x : Int) / 2 ^ (8 * (k - 1 - j)) % 256)] 5))
      have hB2 := hB.alloc (Nat.le_trans hb hB.size) (.cells #[.int .u8 ((x : Int) / 2 ^ (8 * (k - 1 - j)) % 256)] 5)
      have hT2 := hT.trans (Oth.below (b0 wr (.cells #[.int .u8 ((x : Int) / 2 ^ (8 * (k - 1 - j)) % 256)] 5)))
      have hn3 : n3 ≤ 100000000000 + 10 := by rw [← hl2]; simp; omega
      have HQ := Lib.hid hq
      clear hq hg hO hl2
      go_wp2_with (at_builtin; refine wpList_apB (base := base) (n := n3) (m := 1) (l := l ++ [UInt8.ofNat k] ++ (beB x).take j) (l2 := [UInt8.ofNat (x / 256 ^ (k - 1 - j) % 256)]) (by rfl) _ _ (by rfl) Tryz.underlying23 Tryz.underlying23 hi0 hz0 hz1 hz2 (by rfl) (by rfl) hO2 hown.rd rfl (n3 + 1) rfl (by omega) (Nat.le_trans hb hB2.size) ?_; intro A6 c6 w6 hO6 hb6 hg6)
      rw [HE.out] at hO6
      have hT6 := hT2.trans (Oth.own hO2 hg6)
      go_roundw
      case rel => exact ⟨j + 1, A6, n3 + 1, c6, by omega, rfl, by go_num, hO6, hB2.trans hb6, hT6⟩
      case measure => simp [intOf]; omega
    · have i1 : ¬ (0 : Int) ≤ (k : Int) - 1 - (j : Int) := by omega
      have e : (beB x).take j = beB x := List.take_of_length_le (by have := HK.out; omega)
      rw [e, HB.out] at hO
      go_wp2_with fail
      go_ret
      exact ⟨⟨A3, n3, c3, rfl, hO⟩, hB, hT⟩

theorem not_any (n : Int) (h0 : -9223372036854775808 ≤ n) (h1 : n ≤ 9223372036854775807) : bits .xor .i64 (-1) n = -1 - n := by
  show IntKind.i64.wrap ((BitVec.ofInt 64 (-1) ^^^ BitVec.ofInt 64 n).toNat : Int) = _
  have e : BitVec.ofInt 64 (-1) = BitVec.allOnes 64 := by decide
  rw [e, BitVec.allOnes_xor, BitVec.toNat_not, BitVec.toNat_ofInt]
  simp [IntKind.wrap, IntKind.bits, IntKind.signed]
  omega
theorem ret_u64 {a b : Int} (h : a = b) : Ending.returned (.int .u64 a) = .returned (.int .u64 b) := by rw [h]
set_option maxRecDepth 100000 in
theorem folded_any (n : Int) (w : World) (h0 : -9223372036854775808 ≤ n) (h1 : n ≤ 9223372036854775807) :
    Calls Tryz.prog 167 #[.int .i64 n] w fun e w' => e = .returned (.int .u64 ((zig n : Nat) : Int)) ∧ w' = w := by
  have H0 := Lib.hid h0
  have H1 := Lib.hid h1
  clear h0 h1
  by_cases hn : n < 0
  · go_enter Tryz.func167, Tryz.ntmps167
    go_wp2_with fail
    go_ret
    refine ⟨ret_u64 ?_, rfl⟩
    have h0 := H0.out
    have h1 := H1.out
    unfold zig
    rw [if_pos hn, not_any n h0 h1]
    simp only [IntKind.wrap_u64]
    omega
  · go_enter Tryz.func167, Tryz.ntmps167
    go_wp2_with fail
    go_ret
    refine ⟨ret_u64 ?_, rfl⟩
    have h0 := H0.out
    have h1 := H1.out
    unfold zig
    rw [if_neg (by omega)]
    simp only [IntKind.wrap_u64]
    omega

set_option maxRecDepth 100000 in
theorem putInt_any (base : Nat) (A : Option Addr) (n c : Nat) (l : List UInt8) (x : Int) (w : World) (hp : PreB base w A n c l) (hb : base ≤ w.heap.size) (hm : n ≤ 100000000000) (h0 : -9223372036854775808 ≤ x) (h1 : x ≤ 9223372036854775807) :
    Calls Tryz.prog 153 #[.slice A n c, .int .i64 x] w fun e w' => PutO base w (l ++ numB (zig x)) e w' := by
  have hf := folded_any x w h0 h1
  have HZ := Lib.hid (zig_lt h0 h1)
  clear h0 h1
  go_enter Tryz.func153, Tryz.ntmps153
  go_wp2_with fail
  refine hf.mono ?_
  rintro e w1 ⟨rfl, rfl⟩
  go_wp2_with fail
  refine (putNumber_any base A n c l (zig x) w1 hp hb hm HZ.out).mono ?_
  rintro e w2 ⟨⟨A2, n2, c2, rfl, hO⟩, hb2, ht2⟩
  go_wp2_with fail
  go_ret
  exact ⟨⟨A2, n2, c2, rfl, hO⟩, hb2, ht2⟩

set_option maxRecDepth 100000 in
theorem putText_any (base : Nat) (A : Option Addr) (n c : Nat) (l : List UInt8) (s : ByteArray) (w : World) (hp : PreB base w A n c l) (hb : base ≤ w.heap.size) (hm : n ≤ 100000000000) (hs : s.size ≤ 100000000000) :
    Calls Tryz.prog 108 #[.slice A n c, .string s] w fun e w' => PutO base w (l ++ textB s.data.toList) e w' := by
  obtain ⟨i0, hi0, hz0, hz1, hz2⟩ := info_parts byt_info
  have HL := Lib.hid (show s.data.toList.length = s.size from Array.length_toList)
  have s0 : (0 : Int) ≤ (s.size : Int) := by omega
  have s1 : (s.size : Int) ≤ 100000000000 := by omega
  have hl := hp.len
  go_enter Tryz.func108, Tryz.ntmps108
  go_wp2_with fail
  refine (putNumber_any base A n c l s.size w hp hb hm (by omega)).mono ?_
  rintro e w2 ⟨⟨A2, n2, c2, rfl, hO⟩, hb2, ht2⟩
  have hn2 : n2 ≤ 100000000000 + 9 := by
    have h1 := hO.len
    have h2 := numB_small (n := s.size) (by omega)
    rw [List.length_append] at h1
    omega
  go_wp2_with (at_builtin; refine wpList_apT (base := base) (n := n2) (l := l ++ numB s.size) (by rfl) _ _ (by rfl) Tryz.underlying23 Tryz.underlying9 hi0 hz0 hz1 hz2 s (by rfl) (by rfl) hO (n2 + s.size) rfl (by omega) (Nat.le_trans hb hb2.size) ?_; intro A5 c5 w5 hO5 hb5 hg5)
  go_ret
  refine ⟨⟨A5, n2 + s.size, c5, rfl, ?_⟩, hb2.trans hb5, ht2.trans (Oth.own hO hg5)⟩
  unfold textB
  rw [HL.out, ← List.append_assoc]
  exact hO5
end Go.Proofs.YtpjleeeligahaaaGreatDoor

namespace Go.Proofs.YtpjleeeligahaaaGreatDoor
open Go.RowKit

theorem beV_take {t : List UInt8} {j : Nat} {x : UInt8} (h : t[j]? = some x) : beV (t.take (j + 1)) = beV (t.take j) * 256 + x.toNat := by
  have hj := (List.getElem?_eq_some_iff.1 h).1
  rw [List.take_succ_eq_append_getElem hj, beV_snoc]
  rw [List.getElem?_eq_getElem hj] at h
  injection h with h
  rw [h]
set_option maxRecDepth 100000 in
theorem beV_take_lt (t : List UInt8) (j : Nat) (h : j ≤ 8) : beV (t.take j) < 18446744073709551616 := by
  have h1 := beV_lt (t.take j)
  have h2 : (t.take j).length ≤ 8 := by rw [List.length_take]; omega
  have h3 : 256 ^ (t.take j).length ≤ 256 ^ 8 := Nat.pow_le_pow_right (by omega) h2
  rw [pow_eight] at h3
  omega
set_option maxRecDepth 100000 in
theorem or_byte (a c : Nat) (ha : a * 256 + c < 18446744073709551616) (hc : c < 256) : bits .or .u64 (IntKind.u64.wrap ((a : Int) * 256)) (IntKind.u64.wrap (c : Int)) = ((a * 256 + c : Nat) : Int) := by
  have e : IntKind.u64.wrap ((a : Int) * 256) = ((a * 256 : Nat) : Int) := by
    rw [IntKind.wrap_u64]
    omega
  have e2 : IntKind.u64.wrap (c : Int) = (c : Int) := by
    rw [IntKind.wrap_u64]
    omega
  rw [e, e2, u64_or_nat _ _ (by omega) (by omega)]
  have h := Nat.shiftLeft_add_eq_or_of_lt (i := 8) (b := c) hc a
  simp only [Nat.shiftLeft_eq, Nat.reducePow] at h
  rw [h]
end Go.Proofs.YtpjleeeligahaaaGreatDoor

namespace Go.Proofs.YtpjleeeligahaaaGreatDoor
open Go.RowKit

theorem wrap_be {v n : Nat} (h : v * 256 + n < 18446744073709551616) : IntKind.u64.wrap (IntKind.u64.wrap ((v : Int) * 256) + IntKind.u64.wrap (n : Int)) = ((v * 256 + n : Nat) : Int) := by
  simp only [IntKind.wrap_u64]
  omega
theorem RdB.cells {B : Nat} {W : World} {ad : Addr} {l : List UInt8} (h : RdB B W (some ad) l) {k : Nat} {x : UInt8} (hx : l[k]? = some x) : W.cell? (ad.add k) = some (.int .u8 (x.toNat : Int)) := by
  obtain ⟨a2, e, _, hc⟩ := h k x hx
  injection e with e
  subst e
  exact hc
theorem add_one_at (a : Addr) : a.add 1 = ⟨a.block, a.off + 1, none⟩ := rfl
/-- The pair that TakeNumber answers. -/
def TakeP (r : Nat × Nat) (w : World) (e : Ending) (w' : World) : Prop := e = .returned (.tuple #[.int .u64 (r.1 : Nat), .int .i64 (r.2 : Nat)]) ∧ Drn w w'

end Go.Proofs.YtpjleeeligahaaaGreatDoor

namespace Go.Proofs.YtpjleeeligahaaaGreatDoor
open Go.RowKit

set_option maxRecDepth 100000 in
theorem sound64_any (S : Addr) (g : Nat) (st : Rest) (x : Nat) (w : World) (hR : RdrP S w g st) :
    Calls Tryz.prog 69 #[.pointer (some ⟨g, 0, none⟩), .int .u64 x] w fun e w' => e = .returned (.int .u64 ((soundM 0 st x : Nat) : Int)) ∧ w' = w := by
  cases st with
  | none =>
    obtain ⟨e1, he1, hb⟩ := hR
    obtain ⟨t1, v1, rfl⟩ := errP_nil he1
    have c1 := hb.cell 1
    go_enter Tryz.func69, Tryz.ntmps69
    go_wp2_with fail
    go_ret
    exact ⟨rfl, rfl⟩
  | some b =>
    obtain ⟨hl, s, hs, hb⟩ := hR
    have c1 := hb.cell 1
    go_enter Tryz.func69, Tryz.ntmps69
    go_wp2_with fail
    go_ret
    exact ⟨rfl, rfl⟩

theorem ba_get (s : ByteArray) (k : Nat) (h : k < s.size) : s.data.toList[k]? = some s[k] := by
  rw [List.getElem?_eq_getElem (by simpa using h)]
  rfl
theorem byte_ne (c : UInt8) : ((c.toNat : Int) != 0) = (c != 0) := by
  rw [Bool.eq_iff_iff]
  simp only [bne_iff_ne, ne_eq]
  constructor
  · intro h e
    subst e
    exact h rfl
  · intro h e
    exact h (UInt8.toNat_inj.1 (by simpa using e))
set_option maxRecDepth 100000 in
theorem grown_chain {a b c : World} {g : Nat} (h : a.grownBy b (some g)) (k : b.grownBy c (some g)) : a.grownBy c (some g) := h.trans k

set_option maxRecDepth 100000 in
set_option maxHeartbeats 400000 in
theorem rNumber_any (S : Addr) (g : Nat) (st : Rest) (most : Nat) (w : World) (hL : LaidS S w) (hR : RdrP S w g st) (hmost : most < 18446744073709551616) :
    Calls Tryz.prog 32 #[.pointer (some ⟨g, 0, none⟩), .int .u64 most] w fun e w' => e = .returned (.int .u64 ((numOf st most).1 : Nat)) ∧ RdrP S w' g (numOf st most).2 ∧ w.grownBy w' (some g) := by
  have hnum : numOf st most = (soundM 0 (mustM (decide (beV (digM st).1 ≤ most)) (mustM (headOk (digM st).1) (digM st).2)) (beV (digM st).1), mustM (decide (beV (digM st).1 ≤ most)) (mustM (headOk (digM st).1) (digM st).2)) := (number_is st most).symm
  rw [hnum]
  clear hnum
  have hlen := digM_len st
  have hlt := digM_lt st
  have hD : digM st = takeM (mustM (decide ((nextM st).1.toNat ≤ 8)) (nextM st).2) (nextM st).1.toNat := rfl
  have hN := next_any S g st w hL hR
  have HL := Lib.hid (fun W (hg : w.grownBy W (some g)) => hL.grown hR hg)
  generalize digM st = D at hlen hlt hD ⊢
  generalize nextM st = p at hD hN
  obtain ⟨c0, st1⟩ := p
  obtain ⟨d, st3⟩ := D
  dsimp only at hlen hlt hD hN ⊢
  have hc0 := c0.toNat_lt
  have HM := Lib.hid hmost
  have HD := Lib.hid hD
  clear hD hmost hL hR
  go_enter Tryz.func32, Tryz.ntmps32
  go_wp2_with fail
  refine hN.mono ?_
  rintro e w1 ⟨rfl, hR1, hg1⟩
  have hd : decide ((c0.toNat : Int) ≤ 8) = decide (c0.toNat ≤ 8) := decide_eq_decide.2 (by omega)
  go_wp2_with fail
  refine (must_any S g st1 _ _ w1 hR1).mono ?_
  rintro e w2 ⟨rfl, hR2, hg2⟩
  have hG2 := hg1.trans hg2
  have HT := Lib.hid (take_any S g _ c0.toNat w2 (HL.out w2 hG2) hR2 (by omega))
  clear hd hN hg1 hg2 hR1 hR2
  generalize (mustM (decide (c0.toNat ≤ 8)) st1) = st2 at HT HD
  go_wp2_with fail
  refine HT.out.mono ?_
  rintro e w3 ⟨⟨s, rfl, hs⟩, hR3, hg3⟩
  rw [← HD.out] at hs hR3
  dsimp only at hs hR3
  have hG3 := hG2.trans hg3
  clear hG2 hg3 HT HD hc0
  have hsz : s.size = d.length := by rw [← hs]; exact Array.length_toList.symm
  have hstep : ∀ K : Act → World → Prop, True := fun _ => trivial
  clear hstep
  have hcase : (d.isEmpty = true ∧ s.toList.isEmpty = true ∧ headOk d = true) ∨ (∃ h : 0 < s.size, s.toList.isEmpty = false ∧ (((s[0]'h).toNat : Int) != 0) = headOk d) := by
    cases d with
    | nil => exact .inl ⟨rfl, by rw [ByteArray.toList_eq, hs]; rfl, rfl⟩
    | cons c r =>
      have h : 0 < s.size := by rw [hsz]; simp
      refine .inr ⟨h, by rw [ByteArray.toList_eq, hs]; rfl, ?_⟩
      have hg := ba_get s 0 h
      rw [hs] at hg
      have hc : c = s[0] := by injection hg
      rw [← hc]
      exact byte_ne c
  have HS := Lib.hid hs
  have HZ := Lib.hid hsz
  have hs64 : (s.size : Int) ≤ 8 := by omega
  clear hs hsz
  rcases hcase with ⟨-, hE, hO⟩ | ⟨h0, hE, hO⟩
  all_goals
    go_wp2_with fail
    refine (must_any S g _ _ _ w3 hR3).mono ?_
    rintro e w4 ⟨rfl, hR4, hg4⟩
    have hG4 := hG3.trans hg4
    clear hG3 hg4 hR3
    go_wp2_with fail
    go_loopw [7, 30] (fun t u wr => ∃ j : Nat, j ≤ s.size ∧ t = .int .u64 (beV (d.take j) : Nat) ∧ u = .int .i64 j ∧ wr = w4) (fun _ u _ => s.size - (intOf u).toNat)
    case atStart => exact ⟨0, Nat.zero_le _, by simp [beV_nil], rfl, rfl⟩
    case round =>
      obtain ⟨j, hj, rfl, rfl, rfl⟩ := hrel
      by_cases hlt2 : j < s.size
      · have i1 : (0 : Int) ≤ (j : Int) := by omega
        have i2 : (j : Int) < (s.size : Int) := by omega
        have hg : d[j]? = some s[j] := by rw [← HS.out]; exact ba_get s j hlt2
        have hb := beV_take hg
        have hbl := beV_take_lt d (j + 1) (by omega)
        have HV := Lib.hid (or_byte (beV (d.take j)) s[j].toNat (by rw [← hb]; exact hbl) s[j].toNat_lt)
        rw [← hb] at HV
        clear hg hb hbl
        go_wp2_with fail
        exact ⟨⟨j + 1, by omega, by rw [HV.out], by go_num, trivial⟩, by simp [intOf]; omega⟩
      · have i2 : ¬ (j : Int) < (s.size : Int) := by omega
        have e : d.take j = d := List.take_of_length_le (by have := HZ.out; omega)
        rw [e]
        have hm : decide ((beV d : Int) ≤ (most : Int)) = decide (beV d ≤ most) := decide_eq_decide.2 (by omega)
        go_wp2_with fail
        refine (must_any S g _ _ _ _ hR4).mono ?_
        rintro e w5 ⟨rfl, hR5, hg5⟩
        go_wp2_with fail
        refine (sound64_any S g _ _ _ hR5).mono ?_
        rintro e w6 ⟨rfl, rfl⟩
        go_wp2_with fail
        go_ret
        first
          | exact ⟨rfl, hR5, hG4.trans hg5⟩
          | (rw [hO]; exact ⟨rfl, hR5, hG4.trans hg5⟩)

theorem numOf_lt (st : Rest) (most : Nat) : (numOf st most).1 ≤ most ∧ (numOf st most).1 < 18446744073709551616 := by
  cases st with
  | none => exact ⟨Nat.zero_le _, Nat.lt_of_lt_of_le Nat.zero_lt_one (by omega)⟩
  | some b =>
    unfold numOf
    dsimp only
    by_cases h : (takeNum b most).2 = 0
    · rw [if_pos h]
      exact ⟨Nat.zero_le _, Nat.lt_of_lt_of_le Nat.zero_lt_one (by omega)⟩
    · rw [if_neg h]
      have := num_take (show takeNum b most = ((takeNum b most).1, (takeNum b most).2) from rfl) h
      exact ⟨this.1, this.2.1⟩

set_option maxRecDepth 100000 in
/-- The int that stands as a number. -/
theorem unfolded_any (u : Nat) (w : World) (hu : u < 18446744073709551616) :
    Calls Tryz.prog 155 #[.int .u64 u] w fun e w' => e = .returned (.int .i64 (unzig u)) ∧ w' = w := by
  have hn := not_any ((u : Int) / 2) (by omega) (by omega)
  have HN := Lib.hid hn
  by_cases h : u % 2 = 1
  · have g0 : (u : Int) % 2 = 1 := by omega
    have hz : unzig u = -1 - ((u / 2 : Nat) : Int) := if_pos h
    rw [hz]
    clear hn hz
    go_enter Tryz.func155, Tryz.ntmps155
    go_wp2_with fail
    go_ret
    refine ⟨ret_i64 ?_, rfl⟩
    rw [HN.out]
  · have g0 : (u : Int) % 2 = 0 := by omega
    have hz : unzig u = ((u / 2 : Nat) : Int) := if_neg h
    rw [hz]
    clear hn hz
    go_enter Tryz.func155, Tryz.ntmps155
    go_wp2_with fail
    go_ret
    refine ⟨ret_i64 ?_, rfl⟩
    omega

set_option maxRecDepth 100000 in
theorem rInt_any (S : Addr) (g : Nat) (st : Rest) (w : World) (hL : LaidS S w) (hR : RdrP S w g st) :
    Calls Tryz.prog 116 #[.pointer (some ⟨g, 0, none⟩)] w fun e w' => e = .returned (.int .i64 (intOfR st).1) ∧ RdrP S w' g (intOfR st).2 ∧ w.grownBy w' (some g) := by
  have e : intOfR st = (unzig (numOf st 18446744073709551615).1, (numOf st 18446744073709551615).2) := by
    cases st with
    | none => rfl
    | some b =>
      unfold intOfR numOf takeIntB
      dsimp only
      by_cases h : (takeNum b 18446744073709551615).2 = 0
      · rw [if_pos h, if_pos h]
        rfl
      · rw [if_neg h, if_neg h]
  rw [e]
  have hN := rNumber_any S g st 18446744073709551615 w hL hR (by omega)
  have hlt := (numOf_lt st 18446744073709551615).2
  generalize numOf st 18446744073709551615 = p at hN hlt
  have HU := Lib.hid (fun W => unfolded_any p.1 W hlt)
  clear hlt e
  go_enter Tryz.func116, Tryz.ntmps116
  go_wp2_with fail
  refine hN.mono ?_
  rintro e w1 ⟨rfl, hR1, hg1⟩
  go_wp2_with fail
  refine (HU.out w1).mono ?_
  rintro e w2 ⟨rfl, rfl⟩
  go_wp2_with fail
  go_ret
  exact ⟨rfl, hR1, hg1⟩
end Go.Proofs.YtpjleeeligahaaaGreatDoor

namespace Go.Proofs.YtpjleeeligahaaaGreatDoor
open Go.RowKit

theorem text_is (st : Rest) (most : Nat) : takeM (numOf st most).2 (numOf st most).1 = textOf st most := by
  cases st with
  | none => rfl
  | some b =>
    unfold numOf textOf takeTextB
    dsimp only
    by_cases h : (takeNum b most).2 = 0
    · simp [h, takeM]
    · rw [if_neg h]
      have hk := num_take (show takeNum b most = ((takeNum b most).1, (takeNum b most).2) from rfl) h
      by_cases hl : (takeNum b most).1 ≤ b.length - (takeNum b most).2
      · have hl' : (takeNum b most).1 ≤ (b.drop (takeNum b most).2).length := by rw [List.length_drop]; exact hl
        have hn : ¬ b.length - (takeNum b most).2 < (takeNum b most).1 := by omega
        have h0 : ¬ (takeNum b most).2 + (takeNum b most).1 = 0 := by omega
        simp [takeM, h, hl, hn, List.drop_drop]
      · have hn : b.length - (takeNum b most).2 < (takeNum b most).1 := by omega
        simp [takeM, h, hl, hn]
theorem byte_one (c : UInt8) : ((c.toNat : Int) == 1) = (c == 1) := by
  rw [Bool.eq_iff_iff]
  simp only [beq_iff_eq]
  constructor
  · intro h
    exact UInt8.toNat_inj.1 (by show c.toNat = 1; omega)
  · rintro rfl
    rfl
theorem flag_is (st : Rest) : ((((nextM st).1.toNat : Int) == 1), mustM (decide ((nextM st).1.toNat ≤ 1)) (nextM st).2) = flagOf st := by
  cases st with
  | none => rfl
  | some b =>
    cases b with
    | nil => rfl
    | cons c t =>
      show (((c.toNat : Int) == 1), mustM (decide (c.toNat ≤ 1)) (some t)) = _
      rw [byte_one]
      unfold flagOf takeFlagB
      dsimp only
      by_cases h : 1 < c.toNat
      · have h1 : ¬ c.toNat ≤ 1 := by omega
        have h2 : (c == 1) = false := by
          rw [beq_eq_false_iff_ne]
          rintro rfl
          exact absurd h (by decide)
        simp [mustM, h1, h, h2]
      · have h1 : c.toNat ≤ 1 := by omega
        simp [mustM, h1, h]
theorem rclone_any (s : ByteArray) (w : World) (hs : s.size ≤ 281474976710656) :
    Calls Tryz.prog 82 #[.string s] w fun e w' => e = .returned (.string s) ∧ Below w.heap.size w w' := by
  have h := Tryz.stringslite_Clone s w hs
  go_enter Tryz.func82, Tryz.ntmps82
  go_wp2_with fail
  refine h.mono ?_
  rintro e w1 ⟨rfl, hb⟩
  go_wp2_with fail
  go_ret
  exact ⟨rfl, hb⟩

set_option maxRecDepth 100000 in
/-- How many, at most most. -/
theorem count_any (S : Addr) (g : Nat) (st : Rest) (most : Nat) (w : World) (hL : LaidS S w) (hR : RdrP S w g st) (hm : most ≤ 1000000) :
    Calls Tryz.prog 115 #[.pointer (some ⟨g, 0, none⟩), .int .i64 most] w fun e w' => e = .returned (.int .i64 ((numOf st most).1 : Nat)) ∧ RdrP S w' g (numOf st most).2 ∧ w.grownBy w' (some g) := by
  have HL := Lib.hid (fun W (hg : w.grownBy W (some g)) => hL.grown hR hg)
  have hn := (numOf_lt st most).1
  have i0 : (0 : Int) ≤ (most : Int) := by omega
  have hmx : max (most : Int) 0 = (most : Int) := by omega
  have hw1 : IntKind.u64.wrap (most : Int) = (most : Int) := by
    rw [IntKind.wrap_u64]
    omega
  have hw2 : IntKind.i64.wrap ((numOf st most).1 : Int) = ((numOf st most).1 : Int) := by
    rw [IntKind.wrap_i64]
    omega
  go_enter Tryz.func115, Tryz.ntmps115
  go_wp2_with fail
  refine (must_any S g st _ _ w hR).mono ?_
  rintro e w1 ⟨rfl, hR1, hg1⟩
  have hR1' : RdrP S w1 g st := hR1
  go_wp2_with fail
  refine (rNumber_any S g st most w1 (HL.out w1 hg1) hR1' (by omega)).mono ?_
  rintro e w2 ⟨rfl, hR2, hg2⟩
  go_wp2_with fail
  go_ret
  exact ⟨rfl, hR2, hg1.trans hg2⟩

theorem textOf_len (S : Addr) (w : World) (g : Nat) (st : Rest) (most : Nat) (hR : RdrP S w g st) : (textOf st most).1.length ≤ 1000000 := by
  rw [← text_is]
  cases st with
  | none => exact Nat.zero_le _
  | some b =>
    obtain ⟨hl, _⟩ := hR
    have : ∀ (st1 : Rest) (n : Nat), (st1 = none ∨ ∃ k, st1 = some (b.drop k)) → (takeM st1 n).1.length ≤ b.length := by
      rintro st1 n (rfl | ⟨k, rfl⟩)
      · exact Nat.zero_le _
      · unfold takeM
        dsimp only
        by_cases h : n ≤ (b.drop k).length
        · rw [if_pos h, List.length_take, List.length_drop]
          omega
        · rw [if_neg h]
          exact Nat.zero_le _
    refine Nat.le_trans (this _ _ ?_) hl
    unfold numOf
    dsimp only
    by_cases h : (takeNum b most).2 = 0
    · rw [if_pos h]
      exact .inl rfl
    · rw [if_neg h]
      exact .inr ⟨_, rfl⟩

set_option maxRecDepth 100000 in
theorem rText_any (S : Addr) (g : Nat) (st : Rest) (most : Nat) (w : World) (hL : LaidS S w) (hR : RdrP S w g st) (hm : most ≤ 1000000) :
    Calls Tryz.prog 71 #[.pointer (some ⟨g, 0, none⟩), .int .i64 most] w fun e w' => (∃ s : ByteArray, e = .returned (.string s) ∧ s.data.toList = (textOf st most).1) ∧ RdrP S w' g (textOf st most).2 ∧ w.grownBy w' (some g) := by
  have HL := Lib.hid (fun W (hg : w.grownBy W (some g)) => hL.grown hR hg)
  have hsz := textOf_len S w g st most hR
  have hC := count_any S g st most w hL hR hm
  have hn := (numOf_lt st most).1
  rw [← text_is] at hsz ⊢
  generalize numOf st most = p at hC hn hsz ⊢
  clear hL hR
  go_enter Tryz.func71, Tryz.ntmps71
  go_wp2_with fail
  refine hC.mono ?_
  rintro e w1 ⟨rfl, hR1, hg1⟩
  go_wp2_with fail
  refine (take_any S g p.2 p.1 w1 (HL.out w1 hg1) hR1 (by omega)).mono ?_
  rintro e w2 ⟨⟨s, rfl, hs⟩, hR2, hg2⟩
  have hs2 : s.size ≤ 281474976710656 := by
    have : s.size = s.data.toList.length := Array.length_toList.symm
    rw [this, hs]
    omega
  go_wp2_with fail
  refine (rclone_any s w2 hs2).mono ?_
  rintro e w3 ⟨rfl, hb3⟩
  go_wp2_with fail
  go_ret
  exact ⟨⟨s, rfl, hs⟩, hR2.below hb3, (hg1.trans hg2).trans (grown_below hb3 _)⟩

set_option maxRecDepth 100000 in
theorem rFlag_any (S : Addr) (g : Nat) (st : Rest) (w : World) (hL : LaidS S w) (hR : RdrP S w g st) :
    Calls Tryz.prog 102 #[.pointer (some ⟨g, 0, none⟩)] w fun e w' => e = .returned (.bool (flagOf st).1) ∧ RdrP S w' g (flagOf st).2 ∧ w.grownBy w' (some g) := by
  have hN := next_any S g st w hL hR
  rw [← flag_is]
  generalize nextM st = p at hN ⊢
  obtain ⟨c0, st1⟩ := p
  dsimp only at hN ⊢
  clear hL hR
  have hd : decide ((c0.toNat : Int) ≤ 1) = decide (c0.toNat ≤ 1) := decide_eq_decide.2 (by omega)
  go_enter Tryz.func102, Tryz.ntmps102
  go_wp2_with fail
  refine hN.mono ?_
  rintro e w1 ⟨rfl, hR1, hg1⟩
  go_wp2_with fail
  refine (must_any S g st1 _ _ w1 hR1).mono ?_
  rintro e w2 ⟨rfl, hR2, hg2⟩
  go_wp2_with fail
  go_ret
  exact ⟨rfl, hR2, hg1.trans hg2⟩

set_option maxRecDepth 100000 in
theorem small_any (S : Addr) (g : Nat) (st : Rest) (w : World) (hL : LaidS S w) (hR : RdrP S w g st) :
    Calls Tryz.prog 70 #[.pointer (some ⟨g, 0, none⟩)] w fun e w' => e = .returned (.int .i64 ((numOf st 9223372036854775807).1 : Nat)) ∧ RdrP S w' g (numOf st 9223372036854775807).2 ∧ w.grownBy w' (some g) := by
  have hN := rNumber_any S g st 9223372036854775807 w hL hR (by omega)
  have hn := (numOf_lt st 9223372036854775807).1
  have hw2 : IntKind.i64.wrap ((numOf st 9223372036854775807).1 : Int) = ((numOf st 9223372036854775807).1 : Int) := by
    rw [IntKind.wrap_i64]
    omega
  generalize numOf st 9223372036854775807 = p at hN hn hw2 ⊢
  have hn2 : (p.1 : Int) ≤ 9223372036854775807 := by omega
  clear hn
  go_enter Tryz.func70, Tryz.ntmps70
  go_wp2_with fail
  refine hN.mono ?_
  rintro e w1 ⟨rfl, hR1, hg1⟩
  go_wp2_with fail
  go_ret
  exact ⟨rfl, hR1, hg1⟩
end Go.Proofs.YtpjleeeligahaaaGreatDoor

namespace Go.Proofs.YtpjleeeligahaaaGreatDoor
open Go.RowKit
attribute [local go_sem ↓] Go.wp_at_zero Go.wp_at_succ

/-- A write's bytes; a list's. -/
def wB (x : Wr) : List UInt8 := wrB x.dev.toNat x.seq.toNat x.K.toNat x.ky.data.toList x.ka x.na x.sa.data.toList x.kb x.nb x.sb.data.toList
def wsB (l : List Wr) : List UInt8 := numB l.length ++ l.flatMap wB
theorem goodB_in {k n : Int} {s : ByteArray} (h : goodB k n s = true) : (k = 0 ∨ k = 1 ∨ k = 2) ∧ s.size ≤ 40 := by
  unfold goodB at h
  rw [decide_eq_true_eq] at h
  omega
theorem good_in {x : Wr} (h : x.good = true) : (1 ≤ x.dev ∧ x.dev ≤ 11) ∧ (1 ≤ x.seq ∧ x.seq ≤ 40) ∧ (1 ≤ x.K ∧ x.K ≤ 4) ∧ x.ky.size ≤ 20 ∧ ((x.ka = 0 ∨ x.ka = 1 ∨ x.ka = 2) ∧ x.sa.size ≤ 40) ∧ ((x.kb = 0 ∨ x.kb = 1 ∨ x.kb = 2) ∧ x.sb.size ≤ 40) := by
  unfold Wr.good wrGoodB idB opB at h
  simp only [Bool.and_eq_true, decide_eq_true_eq] at h
  obtain ⟨h1, ⟨⟨h2, h3⟩, h4⟩, h5⟩ := h
  have h6 := (keyB_all h2).2.2
  have h7 : x.ky.data.toList.length = x.ky.size := Array.length_toList
  refine ⟨by omega, by omega, by omega, by omega, goodB_in h3, goodB_in h4⟩
theorem wB_small {x : Wr} (h : x.good = true) (hf : x.fits) : (wB x).length ≤ 5000000 := by
  obtain ⟨h1, h2, h3, h4, h5, h6⟩ := good_in h
  obtain ⟨_, _, _, f1, f2⟩ := hf
  unfold wB wrB
  simp only [List.length_append]
  have a1 := numB_small (n := x.dev.toNat) (by omega)
  have a2 := numB_small (n := x.seq.toNat) (by omega)
  have a3 := numB_small (n := x.K.toNat) (by omega)
  have a4 := textB_small (s := x.ky) (by omega)
  have a5 := valB_small (s := x.sa) h5.1 f1.1 f1.2 (by omega)
  have a6 := valB_small (s := x.sb) h6.1 f2.1 f2.2 (by omega)
  omega
theorem refPWr_any (x : Wr) (h : x.good = true) (hf : x.fits) (w : World) :
    Calls Tryz.prog 37 #[.agg x.cells] w fun e w' => (∃ (A : Option Addr) (m c : Nat), e = .returned (.slice A m c) ∧ OwnB w.heap.size w' A m c (wB x) ∧ m ≤ 5000000) ∧ Below w.heap.size w w' := by
  obtain ⟨h1, h2, h3, h4, h5, h6⟩ := good_in h
  obtain ⟨_, _, _, f1, f2⟩ := hf
  have hs := wB_small h ⟨by unfold maxLen; omega, by unfold maxLen; omega, by unfold maxLen; omega, f1, f2⟩
  have k := refPWrite_any x.dev.toNat x.seq.toNat x.K.toNat x.ky x.ka x.na x.sa x.kb x.nb x.sb w (by omega) (by omega) (by omega) (by omega) h5.1 f1.1 f1.2 (by omega) h6.1 f2.1 f2.2 (by omega)
  rw [show wrC x.dev.toNat x.seq.toNat x.K.toNat x.ky x.ka x.na x.sa x.kb x.nb x.sb = x.cells by
    show (#[_, _, _, _, _, _, _, _, _, _] : Array Value) = #[_, _, _, _, _, _, _, _, _, _]
    rw [Int.toNat_of_nonneg (by omega), Int.toNat_of_nonneg (by omega), Int.toNat_of_nonneg (by omega)]] at k
  exact k.mono fun _ _ ⟨⟨A, m, c, he, hO⟩, hb⟩ => ⟨⟨A, m, c, he, hO, by have := hO.len; unfold wB at hs; omega⟩, hb⟩

end Go.Proofs.YtpjleeeligahaaaGreatDoor

namespace Go.Proofs.YtpjleeeligahaaaGreatDoor
open Go.RowKit

/-- A slice cut off at its front: its address, in one word. -/
def cutA (A : Option Addr) (c p : Nat) : Option Addr := if c = p then A else A.map (·.add p)
theorem run_cut (W : World) (A : Option Addr) (n c p : Nat) (h : p ≤ n) :
    (Instr.sliceAt 23 (.slice A n c) (some (.int .i64 (p : Int))) none none).run Tryz.prog W = .ok (.slice (cutA A c p) (n - p) (c - p)) W := by
  have h1 : (p : Int) ≤ (n : Int) := by omega
  unfold cutA
  go_simp
theorem run_cutI (W : World) (A : Option Addr) (n c p : Nat) (z : Int) (hz : z = (p : Int)) (h : p ≤ n) :
    (Instr.sliceAt 23 (.slice A n c) (some (.int .i64 z)) none none).run Tryz.prog W = .ok (.slice (cutA A c p) (n - p) (c - p)) W := by
  rw [hz]
  exact run_cut W A n c p h
theorem RdB.cut {B : Nat} {W : World} {A : Option Addr} {l : List UInt8} (h : RdB B W A l) {p c : Nat} (hc : l.length ≤ c) : RdB B W (cutA A c p) (l.drop p) := h.drop hc
/-- .. at both ends. -/
theorem run_cut2 (W : World) (A : Option Addr) (n c p q : Nat) (y z : Int) (hy : y = (p : Int)) (hz : z = (q : Int)) (h : p ≤ q) (hq : q ≤ n) (hc : n ≤ c) :
    (Instr.sliceAt 23 (.slice A n c) (some (.int .i64 y)) (some (.int .i64 z)) none).run Tryz.prog W = .ok (.slice (cutA A c p) (q - p) (c - p)) W := by
  have h1 : (p : Int) ≤ (q : Int) := by omega
  have h2 : (q : Int) ≤ (c : Int) := by omega
  rw [hy, hz]
  unfold cutA
  go_simp
/-- .. at its end. -/
theorem run_cut0 (W : World) (A : Option Addr) (n c q : Nat) (z : Int) (hz : z = (q : Int)) (hq : q ≤ n) (hc : n ≤ c) :
    (Instr.sliceAt 23 (.slice A n c) none (some (.int .i64 z)) none).run Tryz.prog W = .ok (.slice A q c) W := by
  have h2 : (q : Int) ≤ (c : Int) := by omega
  rw [hz]
  go_simp
theorem RdB.sub {B : Nat} {W : World} {A : Option Addr} {l : List UInt8} (h : RdB B W A l) {p c : Nat} (hc : l.length ≤ c) (m : Nat) : RdB B W (cutA A c p) ((l.drop p).take m) := (h.cut hc).take m
end Go.Proofs.YtpjleeeligahaaaGreatDoor

namespace Go.Proofs.YtpjleeeligahaaaGreatDoor
open Go.RowKit

theorem takeNum_lt (l : List UInt8) (most : Nat) : (takeNum l most).1 < 18446744073709551616 ∧ (takeNum l most).1 ≤ most ∧ (takeNum l most).2 ≤ 9 ∧ (takeNum l most).2 ≤ l.length := by
  generalize hp : takeNum l most = p
  obtain ⟨v, k⟩ := p
  by_cases h : k = 0
  · have h1 : v = 0 := by
      subst h
      cases l with
      | nil => unfold takeNum at hp; injection hp with e1 _; exact e1.symm
      | cons c t =>
        rw [takeNum_cons] at hp
        split at hp
        · injection hp with e1 _; exact e1.symm
        · split at hp
          · injection hp with e1 _; exact e1.symm
          · injection hp with _ e2; omega
    simp only
    omega
  · obtain ⟨a1, a2, a3, a4, a5, a6⟩ := num_take hp h
    have h2 := congrArg List.length a4
    rw [List.length_append, List.length_drop, ← a3] at h2
    simp only
    omega

theorem unz_odd {v : Nat} (hp : v % 2 = 1) (h : v < 18446744073709551616) : wrap64 (-1 - wrap64 (IntKind.u64.wrap ((v : Int) / 2))) = unzig v := by
  unfold unzig wrap64
  rw [if_pos hp]
  simp only [IntKind.wrap_u64]
  omega
theorem unz_even {v : Nat} (hp : ¬ v % 2 = 1) (h : v < 18446744073709551616) : wrap64 (IntKind.u64.wrap ((v : Int) / 2)) = unzig v := by
  unfold unzig wrap64
  rw [if_neg hp]
  simp only [IntKind.wrap_u64]
  omega

end Go.Proofs.YtpjleeeligahaaaGreatDoor

namespace Go.Proofs.YtpjleeeligahaaaGreatDoor
open Go.RowKit

/-- A value, taken: kind, number, text; how many bytes. -/
def takeValC (v k : Nat) (b : List UInt8) : (Int × Int × List UInt8) × Nat :=
  if k = 0 ∨ v = 0 then ((0, 0, []), k)
  else if v = 1 then (if (takeIntB (b.drop k)).2 = 0 then ((0, 0, []), 0) else ((1, (takeIntB (b.drop k)).1, []), k + (takeIntB (b.drop k)).2))
  else (if (takeTextB (b.drop k) 40).2 = 0 then ((0, 0, []), 0) else ((2, 0, (takeTextB (b.drop k) 40).1), k + (takeTextB (b.drop k) 40).2))
def takeValB (b : List UInt8) : (Int × Int × List UInt8) × Nat := takeValC (takeNum b 2).1 (takeNum b 2).2 b
/-- What TakeValue answers. -/
def TakeVP (r : (Int × Int × List UInt8) × Nat) (w : World) (e : Ending) (w' : World) : Prop :=
  (∃ s : ByteArray, e = .returned (.tuple #[.agg #[.int .i64 r.1.1, .int .i64 r.1.2.1, .string s], .int .i64 (r.2 : Nat)]) ∧ s.data.toList = r.1.2.2) ∧ Below w.heap.size w w'

theorem takeText_le (l : List UInt8) (most : Nat) : (takeTextB l most).2 ≤ l.length := by
  unfold takeTextB
  have h := takeNum_lt l most
  split
  · simp
  · rename_i h1
    have h2 : ¬ l.length - (takeNum l most).2 < (takeNum l most).1 := fun e => h1 (Or.inr e)
    simp only
    omega
theorem takeInt_le (l : List UInt8) : (takeIntB l).2 ≤ l.length := (takeNum_lt l 18446744073709551615).2.2.2
theorem takeInt_nil : takeIntB [] = (0, 0) := rfl
theorem takeText_nil (most : Nat) : takeTextB [] most = ([], 0) := rfl
/-- A slice cut off at its front, in the model's two forms. -/
theorem cut_cases {B : Nat} {w : World} {A : Option Addr} {n c k : Nat} {l : List UInt8} (hr : RdB B w A l) (hn : l.length = n) (hk : k ≤ n) (hc : n ≤ c) :
    (c = k ∧ n = k ∧ l.drop k = []) ∨ (c ≠ k ∧ RdB B w (A.map (·.add k)) (l.drop k) ∧ (l.drop k).length = n - k) := by
  by_cases h : c = k
  · exact Or.inl ⟨h, by omega, List.drop_eq_nil_of_le (by omega)⟩
  · have h1 := hr.drop (m := k) (c := c) (by omega)
    rw [if_neg h] at h1
    exact Or.inr ⟨h, h1, by rw [List.length_drop, hn]⟩
theorem below3b {w W : World} {b : Nat} (h : Below w.heap.size w W) (hb : w.heap.size ≤ b) (v0 v1 v2 : Value) : Below w.heap.size w (((W.setCell ⟨b, 0, none⟩ v0).setCell ⟨b, 1, none⟩ v1).setCell ⟨b, 2, none⟩ v2) :=
  ((h.setCell (p := ⟨b, 0, none⟩) hb v0).setCell (p := ⟨b, 1, none⟩) hb v1).setCell (p := ⟨b, 2, none⟩) hb v2
theorem dr_below {w a b : World} (h : Below w.heap.size w a) (k : Drn a b) : Below w.heap.size w b := bt h (k.below _)

end Go.Proofs.YtpjleeeligahaaaGreatDoor
