/-
  WHAT IS PROVED: package wide's Put: behind bytes a number's lowest bytes, the highest first. Conditions: those typed in each theorem.
-/
import Derived.Test.YtokkmofcijfmiabGQ4
import Derived.Test.YtokkmofcijfmiabGQ2
namespace Go.Proofs.Ytokkmofcijfmiab
open Go.RowKit

/-- A number's lowest bytes, so many, the highest first. -/
def wdB (k x : Nat) : List UInt8 := (List.range k).map fun i => UInt8.ofNat (x / 256 ^ (k - 1 - i) % 256)
theorem wdB_len (k x : Nat) : (wdB k x).length = k := by simp [wdB]
theorem wdB_get (k x j : Nat) (h : j < k) : (wdB k x)[j]? = some (UInt8.ofNat (x / 256 ^ (k - 1 - j) % 256)) := by simp [wdB, h]
theorem wdB_next (k x j : Nat) (h : j < k) : (wdB k x).take (j + 1) = (wdB k x).take j ++ [UInt8.ofNat (x / 256 ^ (k - 1 - j) % 256)] := by rw [List.take_add_one, wdB_get k x j h]; rfl
set_option maxRecDepth 100000 in
set_option maxHeartbeats 2000000 in
theorem widePut_any (base : Nat) (A : Option Addr) (n c : Nat) (l : List UInt8) (x k : Nat) (w : World) (hp : PreB base w A n c l) (hb : base ≤ w.heap.size) (hm : n ≤ 100000000000) (hx : x < 18446744073709551616) (h1 : 0 < k) (hk : k ≤ 8) :
    Calls Try.prog 53 #[.slice A n c, .int .u64 x, .int .i64 (k : Int)] w fun e w' => PutO base w (l ++ wdB k x) e w' := by
  obtain ⟨i0, hi0, hz0, hz1, hz2⟩ := info_parts byt_info
  have HX := Lib.hid hx
  have hl := hp.len
  clear hx
  go_enter Try.func53, Try.ntmps53
  go_wp2_with fail
  go_loopw [0, 7] (fun b i wr => ∃ (j : Nat) (A3 : Option Addr) (n3 c3 : Nat), j ≤ k ∧ b = .slice A3 n3 c3 ∧ i = .int .i64 ((k : Int) - 1 - (j : Int)) ∧ n3 = n + j ∧ PreB base wr A3 n3 c3 (l ++ (wdB k x).take j) ∧ (0 < j → OwnB base wr A3 n3 c3 (l ++ (wdB k x).take j)) ∧ Below base w wr ∧ Oth w wr) (fun _ i _ => (intOf i + 1).toNat)
  case atStart => exact ⟨0, A, n, c, Nat.zero_le _, rfl, by go_num, rfl, by simpa using hp, fun h => absurd h (by omega), Below.refl _ _, Oth.refl _⟩
  case round =>
    clear hp hl
    obtain ⟨j, A3, n3, c3, hj, rfl, rfl, hn3, hP, hO, hB, hT⟩ := hrel
    by_cases hlt : j < k
    · clear hO
      have hl2 := hP.len
      have i1 : (0 : Int) ≤ (k : Int) - 1 - (j : Int) := by omega
      have i2 : (k : Int) - 1 - (j : Int) < 8 := by omega
      have i3 : (j : Int) ≤ (k : Int) - 1 := by omega
      have hq := shift_byte x (k - 1 - j)
      have HE := Lib.hid (show l ++ (wdB k x).take j ++ [UInt8.ofNat (x / 256 ^ (k - 1 - j) % 256)] = l ++ (wdB k x).take (j + 1) by rw [wdB_next k x j hlt, List.append_assoc])
      have hown := litB wr (base := base) _ _ hq (Nat.le_trans hb hB.size)
      have hP2 := hP.keep (b0 wr (.cells #[.int .u8 ((x : Int) / 2 ^ (8 * (k - 1 - j)) % 256)] 5))
      have hB2 := hB.alloc (Nat.le_trans hb hB.size) (.cells #[.int .u8 ((x : Int) / 2 ^ (8 * (k - 1 - j)) % 256)] 5)
      have hT2 := hT.trans (Oth.below (b0 wr (.cells #[.int .u8 ((x : Int) / 2 ^ (8 * (k - 1 - j)) % 256)] 5)))
      have hn4 : n3 ≤ 100000000000 + 10 := by omega
      have HQ := Lib.hid hq
      have HN := Lib.hid hn3
      clear hq hP hl2 hn3
      go_wp2_with (at_builtin; refine wpList_apP (base := base) (n := n3) (m := 1) (l := l ++ (wdB k x).take j) (l2 := [UInt8.ofNat (x / 256 ^ (k - 1 - j) % 256)]) (by rfl) _ _ (by rfl) Try.underlying58 Try.underlying58 hi0 hz0 hz1 hz2 (by rfl) (by rfl) hP2 hown.rd rfl (by omega) (n3 + 1) rfl (by omega) (Nat.le_trans hb hB2.size) ?_; intro A6 c6 w6 hO6 hb6 ho6)
      rw [HE.out] at hO6
      have hT6 := hT2.trans ho6
      have hn7 : n3 + 1 = n + (j + 1) := by have := HN.out; omega
      go_roundw
      case rel => exact ⟨j + 1, A6, n3 + 1, c6, by omega, rfl, by go_num, hn7, .inl hO6, fun _ => hO6, hB2.trans hb6, hT6⟩
      case measure => simp [intOf]; omega
    · have i1 : ¬ (0 : Int) ≤ (k : Int) - 1 - (j : Int) := by omega
      have e : (wdB k x).take j = wdB k x := List.take_of_length_le (by rw [wdB_len]; omega)
      have hO2 := hO (by omega)
      clear hO hP
      rw [e, hn3] at hO2
      go_wp2_with fail
      go_ret
      exact ⟨⟨A3, n + j, c3, rfl, hO2⟩, hB, hT⟩
end Go.Proofs.Ytokkmofcijfmiab
