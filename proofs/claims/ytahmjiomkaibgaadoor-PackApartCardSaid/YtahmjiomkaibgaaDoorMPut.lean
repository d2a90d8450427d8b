/-
  WHAT IS PROVED: words for bytes that are put behind others (own work): a slice with no spare room, or a row that the call owns; append of bytes onto such. Over any program that bears the types named. · package pack's own calls that put numbers, ints and texts behind other bytes (own, putNumber, folded, putInt, putText): the document's bytes. Conditions: those typed in each theorem. · package pack's own calls that put values and writes behind other bytes (putValue, putWrite): the document's bytes. Conditions: those typed in each theorem.
-/
import Derived.Test.YtahmjiomkaibgaaDoorMWords
import Derived.Test.YtahmjiomkaibgaaDoorMMath
import Derived.Test.YtahmjiomkaibgaaDoorMRef
import Derived.Test.YtahmjiomkaibgaaDoorShelf
import Derived.Test.YtahmjiomkaibgaaDoorMWrs
namespace Go.Proofs.YtahmjiomkaibgaaDoor
open Go.RowKit

/-- Bytes onto which more may be put: a row of the call's own, or a slice with no spare room. -/
def PreB (base : Nat) (W : World) (A : Option Addr) (n c : Nat) (l : List UInt8) : Prop := OwnB base W A n c l ∨ (RdB W.heap.size W A l ∧ l.length = n ∧ c = n ∧ n ≤ 1000000)
theorem PreB.len {base : Nat} {W : World} {A : Option Addr} {n c : Nat} {l : List UInt8} (h : PreB base W A n c l) : l.length = n := by
  rcases h with h | h
  · exact h.len
  · exact h.2.1
theorem PreB.keep {base : Nat} {W W' : World} {A : Option Addr} {n c : Nat} {l : List UInt8} (h : PreB base W A n c l) (hb : Below W.heap.size W W') : PreB base W' A n c l := by
  rcases h with h | h
  · exact .inl (h.keep hb)
  · exact .inr ⟨(h.1.keep hb (Nat.le_refl _)).more hb.size, h.2⟩
/-- All blocks that aren't bytes stay. -/
def Oth (w w' : World) : Prop := ∀ (g : Nat) (cs : Array Value) (t : TypeId), t ≠ 5 → w.heap[g]? = some (.cells cs t) → w'.heap[g]? = some (.cells cs t)
theorem Oth.refl (w : World) : Oth w w := fun _ _ _ _ h => h
theorem Oth.trans {w w1 w2 : World} (h : Oth w w1) (k : Oth w1 w2) : Oth w w2 := fun g cs t ht hg => k g cs t ht (h g cs t ht hg)
theorem Oth.below {w w' : World} (h : Below w.heap.size w w') : Oth w w' := fun g _ _ _ hg => (h.block g (Array.getElem?_eq_some_iff.1 hg).1).trans hg
theorem Oth.own {base : Nat} {w w' : World} {A : Option Addr} {n c : Nat} {l : List UInt8} (h : OwnB base w A n c l) (hg : w.grownBy w' (A.map (·.block))) : Oth w w' := by
  intro g cs t ht hcs
  have hlt := (Array.getElem?_eq_some_iff.1 hcs).1
  refine (hg.block g hlt ?_).trans hcs
  intro hrow
  rcases h.2 with ⟨hv, _⟩ | ⟨b, cap, cur, hv, _, hb, _⟩
  · injection hv with hv
    subst hv
    cases hrow
  · injection hv with hv
    subst hv
    injection hrow with hrow
    have e : g = b := hrow
    subst e
    rw [hb] at hcs
    injection hcs with hcs
    injection hcs with _ hcs _
    exact ht hcs.symm
/-- What such a call answers. -/
def PutO (base : Nat) (w : World) (L : List UInt8) (e : Ending) (w' : World) : Prop :=
  (∃ (A : Option Addr) (n c : Nat), e = .returned (.slice A n c) ∧ OwnB base w' A n c L) ∧ Below base w w' ∧ Oth w w'

theorem rd_cells {B : Nat} {w : World} {ad : Addr} {l : List UInt8} (hr : RdB B w (some ad) l) : ∀ j u, (bytV l)[j]? = some u → w.cell? (ad.add j) = some u := by
  intro j u hu
  rw [List.getElem?_map] at hu
  cases hx : l[j]? with
  | none => rw [hx] at hu; cases hu
  | some x =>
    rw [hx] at hu
    injection hu with hu
    subst hu
    obtain ⟨a2, he, _, hcell⟩ := hr j x hx
    injection he with he
    subst he
    exact hcell
/-- Append of what reads as bytes, some at least, onto such. -/
theorem run_apP {P : Program} (w : World) {t t' e' ty : TypeId} {i : TypeInfo} (ht : P.underlying t = some (.slice 5)) (ht' : P.underlying t' = some (.slice e')) (hi : P.info? 5 = some i) (hz : i.zero = some (.int .u8 0)) (hs : i.size = 1) (hy : i.bytes = 1)
    {base B : Nat} {A A2 : Option Addr} {n c m d : Nat} {l l2 : List UInt8} (hown : PreB base w A n c l) (hr : RdB B w A2 l2) (hm : l2.length = m) (hm0 : 0 < m) (hsz : n + m ≤ 1099511627776) (hbase : base ≤ w.heap.size) :
    ∃ A' c' w', (Builtin.append_ #[t, t'] ty #[.slice A n c, .slice A2 m d]).run P w = .ok (.slice A' (n + m) c') w' ∧ OwnB base w' A' (n + m) c' (l ++ l2) ∧ Below base w w' ∧ Oth w w' := by
  rcases hown with hown | ⟨hrd, hl, hc, hn⟩
  · obtain ⟨A', c', w', h1, h2, h3, h4⟩ := run_apB (P := P) (ty := ty) (d := d) w ht ht' hi hz hs hy hown hr hm hsz hbase
    exact ⟨A', c', w', h1, h2, h3, Oth.own hown h4⟩
  · subst hm
    subst hc
    subst hl
    cases A2 with
    | none =>
      cases l2 with
      | nil => exact absurd hm0 (by simp)
      | cons x r =>
        obtain ⟨ad, he, _⟩ := hr 0 x rfl
        cases he
    | some a2 =>
      cases A with
      | none =>
        have h0 : l = [] := by
          cases l with
          | nil => rfl
          | cons x r =>
            obtain ⟨ad, he, _⟩ := hrd 0 x rfl
            cases he
        subst h0
        obtain ⟨A', c', w', h1, h2, h3, h4⟩ := run_apB (P := P) (ty := ty) (d := d) w ht ht' hi hz hs hy (OwnB.nil base w) hr rfl hsz hbase
        exact ⟨A', c', w', h1, h2, h3, Oth.own (OwnB.nil base w) h4⟩
      | some ad =>
        have hrun := run_append_grow (P := P) w t ty 5 i (.int .u8 0) ht hi hz ad l.length l.length (bytV l) (by rw [hs]; simp) (rd_cells hrd) a2 l2.length d (bytV l2) (by rw [hs]; simp) (rd_cells hr) (by omega) (by omega) (growslice_fits (by omega) (by rw [hy]; omega))
        refine ⟨_, _, _, by rw [run_append_tt w ht ht']; exact hrun, ?_, ?_, Oth.below ((Below.refl _ w).drew.alloc (Nat.le_refl _) _)⟩
        · have hge := grownCap_ge w (l.length + l2.length) l.length 5
          have hcm : grownCap w (l.length + l2.length) l.length 5 ≤ maxLen := grownCap_le_maxLen w (l.length + l2.length) l.length 5 (by unfold maxLen; omega)
          have hzs : (Value.int IntKind.u8 0).cells.size = 1 := rfl
          unfold OwnB
          rw [show bytV (l ++ l2) = bytV l ++ bytV l2 from List.map_append]
          refine ⟨by simp, .inr ⟨w.heap.size, _, _, rfl, hbase, heap_alloc_new w.drew _, hge, hcm, ?_, ?_⟩⟩
          · simp only [Array.size_append, List.size_toArray, size_zeroCells, hzs, List.length_map]
            omega
          · simp only [Array.toList_append, List.append_assoc]
            rw [← List.append_assoc, show (l.length + l2.length) * 1 = (bytV l ++ bytV l2).length by simp]
            exact List.take_left
        · exact ((Below.refl base w).drew).alloc hbase _
section
variable {P : Program} {w : World} {t t' e' : TypeId} {i : TypeInfo} {base B : Nat} {A A2 : Option Addr} {n c m d : Nat} {l l2 : List UInt8} {o : Oper} {a : Act} {Q : Exit → Act → World → Prop} {ops : Array Oper}
theorem wp_apP {K : Act → World → Prop} (s x : Operand) (ho : o.op = .call { callee := .builtin .append, args := #[s, x], argTypes := #[t, t'] })
    (ht : P.underlying t = some (.slice 5)) (ht' : P.underlying t' = some (.slice e')) (hi : P.info? 5 = some i) (hz : i.zero = some (.int .u8 0)) (hs : i.size = 1) (hy : i.bytes = 1)
    (h1 : a.eval s = .slice A n c) (h2 : a.eval x = .slice A2 m d) (hown : PreB base w A n c l) (hr : RdB B w A2 l2) (hm : l2.length = m) (hm0 : 0 < m) (N : Nat) (hN : n + m = N) (hsz : n + m ≤ 1099511627776) (hbase : base ≤ w.heap.size)
    (h : ∀ A' c' w', OwnB base w' A' N c' (l ++ l2) → Below base w w' → Oth w w' → K (a.put o.dst (.slice A' N c')) w') : o.wp P a w K Q := by
  subst hN
  obtain ⟨A', c', w', hrun, k1, k2, k3⟩ := run_apP (P := P) (ty := o.type) (d := d) w ht ht' hi hz hs hy hown hr hm hm0 hsz hbase
  unfold Oper.wp execOp
  simp only [ho, resolve, invoke, builtin, Sem.run_bind, Sem.run_pure, Result.andThen_ok, List.map_toArray, List.map_cons, List.map_nil, h1, h2, hrun]
  exact h A' c' w' k1 k2 k3
/-- .. in a plain region. -/
theorem wpList_apP {rest : List Oper} (hgd : o.guard = none) (s x : Operand) (ho : o.op = .call { callee := .builtin .append, args := #[s, x], argTypes := #[t, t'] })
    (ht : P.underlying t = some (.slice 5)) (ht' : P.underlying t' = some (.slice e')) (hi : P.info? 5 = some i) (hz : i.zero = some (.int .u8 0)) (hs : i.size = 1) (hy : i.bytes = 1)
    (h1 : a.eval s = .slice A n c) (h2 : a.eval x = .slice A2 m d) (hown : PreB base w A n c l) (hr : RdB B w A2 l2) (hm : l2.length = m) (hm0 : 0 < m) (N : Nat) (hN : n + m = N) (hsz : n + m ≤ 1099511627776) (hbase : base ≤ w.heap.size)
    (h : ∀ A' c' w', OwnB base w' A' N c' (l ++ l2) → Below base w w' → Oth w w' → wpList P ops Q rest (a.put o.dst (.slice A' N c')) w') : wpList P ops Q (o :: rest) a w :=
  wpList_plain hgd fun _ hK => wp_apP s x ho ht ht' hi hz hs hy h1 h2 hown hr hm hm0 N hN hsz hbase fun A' c' w' k1 k2 k3 => hK _ _ (h A' c' w' k1 k2 k3)
end
/-- A slice without its spare room. -/
theorem run_cap (W : World) (A : Option Addr) (n c : Nat) (y z : Int) (hy : y = (n : Int)) (hz : z = (n : Int)) (hc : n ≤ c) :
    (Instr.sliceAt 22 (.slice A n c) none (some (.int .i64 y)) (some (.int .i64 z))).run Tryd.prog W = .ok (.slice A n n) W := by
  have h2 : (n : Int) ≤ (c : Int) := by omega
  rw [hy, hz]
  go_simp
end Go.Proofs.YtahmjiomkaibgaaDoor

namespace Go.Proofs.YtahmjiomkaibgaaDoor
open Go.RowKit

set_option maxRecDepth 100000 in
/-- A slice that is handed in, without its spare room. -/
theorem own_any (A : Option Addr) (n c : Nat) (w : World) (hc : n ≤ c) :
    Calls Tryd.prog 45 #[.slice A n c] w fun e w' => e = .returned (.slice A n n) ∧ w' = w := by
  go_enter Tryd.func45, Tryd.ntmps45
  go_wp2_with fail
  go_ret
  exact ⟨rfl, rfl⟩

theorem shift_byte (x i : Nat) : (x : Int) / 2 ^ (8 * i) % 256 = ((UInt8.ofNat (x / 256 ^ i % 256)).toNat : Int) := by
  rw [toNat_mod, ← pow_shift, Int.natCast_emod, Int.natCast_ediv, Int.natCast_pow]
  rfl

set_option maxRecDepth 100000 in
set_option maxHeartbeats 2000000 in
theorem putNumber_any (base : Nat) (A : Option Addr) (n c : Nat) (l : List UInt8) (x : Nat) (w : World) (hp : PreB base w A n c l) (hb : base ≤ w.heap.size) (hm : n ≤ 100000000000) (hx : x < 18446744073709551616) :
    Calls Tryd.prog 44 #[.slice A n c, .int .u64 x] w fun e w' => PutO base w (l ++ numB x) e w' := by
  obtain ⟨i0, hi0, hz0, hz1, hz2⟩ := info_parts byt_info
  have h8 := beB_eight hx
  have hbits := bits_bytes x hx
  have hbl : Lib.bitLen x ≤ 64 := Lib.bitLen_le x 64 (Nat.le_refl _) hx
  have HX := Lib.hid hx
  go_enter Tryd.func44, Tryd.ntmps44
  go_wp2_with fail
  refine (Tryd.bits_Len64 x w (by omega) (by omega)).mono ?_
  rintro e w1 ⟨rfl, rfl⟩
  have hK : ((Lib.bitLen x : Int) + 7) / 8 = ((beB x).length : Int) := by omega
  have HB := Lib.hid (show (l ++ [UInt8.ofNat (beB x).length]) ++ beB x = l ++ numB x by unfold numB; simp)
  generalize hk : (beB x).length = k at h8 hbits hK HB
  have HK := Lib.hid hk
  have hz : (k : Int) = ((UInt8.ofNat k).toNat : Int) := by rw [UInt8.toNat_ofNat']; omega
  have hp2 := hp.keep (b0 w1 (.cells #[.int .u8 (k : Int)] 5))
  have hb2 := (Below.refl base w1).alloc hb (.cells #[.int .u8 (k : Int)] 5)
  have hr2 := (litB w1 (base := base) (k : Int) (UInt8.ofNat k) hz hb).rd
  have hbase2 := hb2.size
  have hl := hp.len
  clear hk hbits hz
  go_wp2_with (at_builtin; refine wpList_apP (base := base) (n := n) (m := 1) (l := l) (l2 := [UInt8.ofNat k]) (by rfl) _ _ (by rfl) Tryd.underlying22 Tryd.underlying22 hi0 hz0 hz1 hz2 (by rfl) (by rfl) hp2 hr2 rfl (by omega) (n + 1) rfl (by omega) (Nat.le_trans hb hbase2) ?_; intro A5 c5 w5 hO5 hb5 ho5)
  have hB5 := hb2.trans hb5
  have hT5 := (Oth.below (b0 w1 (.cells #[.int .u8 (k : Int)] 5))).trans ho5
  go_loopw [0, 6] (fun b i wr => ∃ (j : Nat) (A3 : Option Addr) (n3 c3 : Nat), j ≤ k ∧ b = .slice A3 n3 c3 ∧ i = .int .i64 ((k : Int) - 1 - (j : Int)) ∧ OwnB base wr A3 n3 c3 (l ++ [UInt8.ofNat k] ++ (beB x).take j) ∧ Below base w1 wr ∧ Oth w1 wr) (fun _ i _ => (intOf i + 1).toNat)
  case atStart => exact ⟨0, A5, n + 1, c5, Nat.zero_le _, rfl, by go_num, by simpa using hO5, hB5, hT5⟩
  case round =>
    clear hO5 hb5 hp2 hb2 hr2 hbase2 hp
    obtain ⟨j, A3, n3, c3, hj, rfl, rfl, hO, hB, hT⟩ := hrel
    by_cases hlt : j < k
    · have hl2 := hO.len
      have i1 : (0 : Int) ≤ (k : Int) - 1 - (j : Int) := by omega
      have i2 : (k : Int) - 1 - (j : Int) < 8 := by omega
      have i3 : (j : Int) ≤ (k : Int) - 1 := by omega
      have hq := shift_byte x (k - 1 - j)
      have hg : (beB x)[j]? = some (UInt8.ofNat (x / 256 ^ (k - 1 - j) % 256)) := by
        have := beB_get x j (by have := HK.out; omega)
        rw [HK.out] at this
        exact this
      have HE := Lib.hid (show l ++ [UInt8.ofNat k] ++ (beB x).take j ++ [UInt8.ofNat (x / 256 ^ (k - 1 - j) % 256)] = l ++ [UInt8.ofNat k] ++ (beB x).take (j + 1) by rw [List.take_add_one, hg]; simp)
      have hown := litB wr (base := base) _ _ hq (Nat.le_trans hb hB.size)
      have hO2 := hO.keep (b0 wr (.cells #[.int .u8 ((x : Int) / 2 ^ (8 * (k - 1 - j)) % 256)] 5))
      have hB2 := hB.alloc (Nat.le_trans hb hB.size) (.cells #[.int .u8 ((x : Int) / 2 ^ (8 * (k - 1 - j)) % 256)] 5)
      have hT2 := hT.trans (Oth.below (b0 wr (.cells #[.int .u8 ((x : Int) / 2 ^ (8 * (k - 1 - j)) % 256)] 5)))
      have hn3 : n3 ≤ 100000000000 + 10 := by rw [← hl2]; simp; omega
      have HQ := Lib.hid hq
      clear hq hg hO hl2
      go_wp2_with (at_builtin; refine wpList_apB (base := base) (n := n3) (m := 1) (l := l ++ [UInt8.ofNat k] ++ (beB x).take j) (l2 := [UInt8.ofNat (x / 256 ^ (k - 1 - j) % 256)]) (by rfl) _ _ (by rfl) Tryd.underlying22 Tryd.underlying22 hi0 hz0 hz1 hz2 (by rfl) (by rfl) hO2 hown.rd rfl (n3 + 1) rfl (by omega) (Nat.le_trans hb hB2.size) ?_; intro A6 c6 w6 hO6 hb6 hg6)
      rw [HE.out] at hO6
      have hT6 := hT2.trans (Oth.own hO2 hg6)
      go_roundw
      case rel => exact ⟨j + 1, A6, n3 + 1, c6, by omega, rfl, by go_num, hO6, hB2.trans hb6, hT6⟩
      case measure => simp [intOf]; omega
    · have i1 : ¬ (0 : Int) ≤ (k : Int) - 1 - (j : Int) := by omega
      have e : (beB x).take j = beB x := List.take_of_length_le (by have := HK.out; omega)
      rw [e, HB.out] at hO
      go_wp2_with fail
      go_ret
      exact ⟨⟨A3, n3, c3, rfl, hO⟩, hB, hT⟩

theorem not_any (n : Int) (h0 : -9223372036854775808 ≤ n) (h1 : n ≤ 9223372036854775807) : bits .xor .i64 (-1) n = -1 - n := by
  show IntKind.i64.wrap ((BitVec.ofInt 64 (-1) ^^^ BitVec.ofInt 64 n).toNat : Int) = _
  have e : BitVec.ofInt 64 (-1) = BitVec.allOnes 64 := by decide
  rw [e, BitVec.allOnes_xor, BitVec.toNat_not, BitVec.toNat_ofInt]
  simp [IntKind.wrap, IntKind.bits, IntKind.signed]
  omega
theorem ret_u64 {a b : Int} (h : a = b) : Ending.returned (.int .u64 a) = .returned (.int .u64 b) := by rw [h]
set_option maxRecDepth 100000 in
theorem folded_any (n : Int) (w : World) (h0 : -9223372036854775808 ≤ n) (h1 : n ≤ 9223372036854775807) :
    Calls Tryd.prog 69 #[.int .i64 n] w fun e w' => e = .returned (.int .u64 ((zig n : Nat) : Int)) ∧ w' = w := by
  have H0 := Lib.hid h0
  have H1 := Lib.hid h1
  clear h0 h1
  by_cases hn : n < 0
  · go_enter Tryd.func69, Tryd.ntmps69
    go_wp2_with fail
    go_ret
    refine ⟨ret_u64 ?_, rfl⟩
    have h0 := H0.out
    have h1 := H1.out
    unfold zig
    rw [if_pos hn, not_any n h0 h1]
    simp only [IntKind.wrap_u64]
    omega
  · go_enter Tryd.func69, Tryd.ntmps69
    go_wp2_with fail
    go_ret
    refine ⟨ret_u64 ?_, rfl⟩
    have h0 := H0.out
    have h1 := H1.out
    unfold zig
    rw [if_neg (by omega)]
    simp only [IntKind.wrap_u64]
    omega

set_option maxRecDepth 100000 in
theorem putInt_any (base : Nat) (A : Option Addr) (n c : Nat) (l : List UInt8) (x : Int) (w : World) (hp : PreB base w A n c l) (hb : base ≤ w.heap.size) (hm : n ≤ 100000000000) (h0 : -9223372036854775808 ≤ x) (h1 : x ≤ 9223372036854775807) :
    Calls Tryd.prog 46 #[.slice A n c, .int .i64 x] w fun e w' => PutO base w (l ++ numB (zig x)) e w' := by
  have hf := folded_any x w h0 h1
  have HZ := Lib.hid (zig_lt h0 h1)
  clear h0 h1
  go_enter Tryd.func46, Tryd.ntmps46
  go_wp2_with fail
  refine hf.mono ?_
  rintro e w1 ⟨rfl, rfl⟩
  go_wp2_with fail
  refine (putNumber_any base A n c l (zig x) w1 hp hb hm HZ.out).mono ?_
  rintro e w2 ⟨⟨A2, n2, c2, rfl, hO⟩, hb2, ht2⟩
  go_wp2_with fail
  go_ret
  exact ⟨⟨A2, n2, c2, rfl, hO⟩, hb2, ht2⟩

set_option maxRecDepth 100000 in
theorem putText_any (base : Nat) (A : Option Addr) (n c : Nat) (l : List UInt8) (s : ByteArray) (w : World) (hp : PreB base w A n c l) (hb : base ≤ w.heap.size) (hm : n ≤ 100000000000) (hs : s.size ≤ 100000000000) :
    Calls Tryd.prog 47 #[.slice A n c, .string s] w fun e w' => PutO base w (l ++ textB s.data.toList) e w' := by
  obtain ⟨i0, hi0, hz0, hz1, hz2⟩ := info_parts byt_info
  have HL := Lib.hid (show s.data.toList.length = s.size from Array.length_toList)
  have s0 : (0 : Int) ≤ (s.size : Int) := by omega
  have s1 : (s.size : Int) ≤ 100000000000 := by omega
  have hl := hp.len
  go_enter Tryd.func47, Tryd.ntmps47
  go_wp2_with fail
  refine (putNumber_any base A n c l s.size w hp hb hm (by omega)).mono ?_
  rintro e w2 ⟨⟨A2, n2, c2, rfl, hO⟩, hb2, ht2⟩
  have hn2 : n2 ≤ 100000000000 + 9 := by
    have h1 := hO.len
    have h2 := numB_small (n := s.size) (by omega)
    rw [List.length_append] at h1
    omega
  go_wp2_with (at_builtin; refine wpList_apT (base := base) (n := n2) (l := l ++ numB s.size) (by rfl) _ _ (by rfl) Tryd.underlying22 Tryd.underlying9 hi0 hz0 hz1 hz2 s (by rfl) (by rfl) hO (n2 + s.size) rfl (by omega) (Nat.le_trans hb hb2.size) ?_; intro A5 c5 w5 hO5 hb5 hg5)
  go_ret
  refine ⟨⟨A5, n2 + s.size, c5, rfl, ?_⟩, hb2.trans hb5, ht2.trans (Oth.own hO hg5)⟩
  unfold textB
  rw [HL.out, ← List.append_assoc]
  exact hO5
end Go.Proofs.YtahmjiomkaibgaaDoor

namespace Go.Proofs.YtahmjiomkaibgaaDoor
open Go.RowKit

theorem put_len {base n : Nat} {W : World} {A : Option Addr} {n2 c2 : Nat} {l m : List UInt8} (hO : OwnB base W A n2 c2 (l ++ m)) (hl : l.length = n) {q : Nat} (hm : m.length ≤ q) : n2 ≤ n + q := by
  have h1 := hO.len
  rw [List.length_append] at h1
  omega
theorem Oth.blk {w w' : World} (h : Oth w w') {b : Nat} {cs : Array Value} {t : TypeId} (ht : t ≠ 5) (hb : Blk w b cs t) : Blk w' b cs t := h b cs t ht hb

set_option maxRecDepth 100000 in
set_option maxHeartbeats 2000000 in
theorem putValue_any (base : Nat) (A : Option Addr) (n c : Nat) (l : List UInt8) (k x : Int) (s : ByteArray) (w : World) (hp : PreB base w A n c l) (hb : base ≤ w.heap.size) (hm : n ≤ 90000000000)
    (hk : k = 0 ∨ k = 1 ∨ k = 2) (h0 : -9223372036854775808 ≤ x) (h1 : x ≤ 9223372036854775807) (hs : s.size ≤ 1000000) :
    Calls Tryd.prog 67 #[.slice A n c, .agg #[.int .i64 k, .int .i64 x, .string s]] w fun e w' => PutO base w (l ++ valB k x s.data.toList) e w' := by
  have H0 := Lib.hid h0
  have H1 := Lib.hid h1
  have hl := hp.len
  clear h0 h1
  rcases hk with rfl | rfl | rfl
  all_goals
    go_enter Tryd.func67, Tryd.ntmps67
    go_wp2_with fail
  · have hC := blk_new w #[.int .i64 0, .int .i64 x, .string s] 44
    have hB := (Below.refl base w).alloc hb (.cells #[.int .i64 0, .int .i64 x, .string s] 44)
    have hp2 := hp.keep (b0 w (.cells #[.int .i64 0, .int .i64 x, .string s] 44))
    have hT := Oth.below (b0 w (.cells #[.int .i64 0, .int .i64 x, .string s] 44))
    clear hp
    generalize w.alloc (.cells #[.int .i64 0, .int .i64 x, .string s] 44) = W at hC hB hp2 hT ⊢
    have hbW := Nat.le_trans hb hB.size
    refine (putNumber_any base A n c l 0 W hp2 hbW (by omega) (by omega)).mono ?_
    rintro e w1 ⟨⟨A2, n2, d2, rfl, hO⟩, hb2, ht2⟩
    obtain ⟨q0, q1, q2, q3⟩ := (ht2.blk (by decide) hC).c3
    go_wp2_with fail
    go_ret
    exact ⟨⟨A2, n2, d2, rfl, by rw [valB_0]; exact hO⟩, hB.trans hb2, hT.trans ht2⟩
  · have hC := blk_new w #[.int .i64 1, .int .i64 x, .string s] 44
    have hB := (Below.refl base w).alloc hb (.cells #[.int .i64 1, .int .i64 x, .string s] 44)
    have hp2 := hp.keep (b0 w (.cells #[.int .i64 1, .int .i64 x, .string s] 44))
    have hT := Oth.below (b0 w (.cells #[.int .i64 1, .int .i64 x, .string s] 44))
    clear hp
    generalize w.alloc (.cells #[.int .i64 1, .int .i64 x, .string s] 44) = W at hC hB hp2 hT ⊢
    have hbW := Nat.le_trans hb hB.size
    refine (putNumber_any base A n c l 1 W hp2 hbW (by omega) (by omega)).mono ?_
    rintro e w1 ⟨⟨A2, n2, d2, rfl, hO⟩, hb2, ht2⟩
    have hC1 := ht2.blk (by decide) hC
    have hn2 := put_len hO hl (numB_small (n := 1) (by omega))
    obtain ⟨q0, q1, q2, q3⟩ := hC1.c3
    go_wp2_with fail
    refine (putInt_any base A2 n2 d2 _ x w1 (.inl hO) (Nat.le_trans hbW hb2.size) (by omega) H0.out H1.out).mono ?_
    rintro e w2 ⟨⟨A3, n3, d3, rfl, hO3⟩, hb3, ht3⟩
    clear q0 q1 q2 q3
    obtain ⟨q0, q1, q2, q3⟩ := (ht3.blk (by decide) hC1).c3
    go_wp2_with fail
    go_ret
    exact ⟨⟨A3, n3, d3, rfl, by rw [valB_1, ← List.append_assoc]; exact hO3⟩, hB.trans (hb2.trans hb3), hT.trans (ht2.trans ht3)⟩
  · have hC := blk_new w #[.int .i64 2, .int .i64 x, .string s] 44
    have hB := (Below.refl base w).alloc hb (.cells #[.int .i64 2, .int .i64 x, .string s] 44)
    have hp2 := hp.keep (b0 w (.cells #[.int .i64 2, .int .i64 x, .string s] 44))
    have hT := Oth.below (b0 w (.cells #[.int .i64 2, .int .i64 x, .string s] 44))
    clear hp
    generalize w.alloc (.cells #[.int .i64 2, .int .i64 x, .string s] 44) = W at hC hB hp2 hT ⊢
    have hbW := Nat.le_trans hb hB.size
    refine (putNumber_any base A n c l 2 W hp2 hbW (by omega) (by omega)).mono ?_
    rintro e w1 ⟨⟨A2, n2, d2, rfl, hO⟩, hb2, ht2⟩
    have hC1 := ht2.blk (by decide) hC
    have hn2 := put_len hO hl (numB_small (n := 2) (by omega))
    obtain ⟨q0, q1, q2, q3⟩ := hC1.c3
    go_wp2_with fail
    refine (putText_any base A2 n2 d2 _ s w1 (.inl hO) (Nat.le_trans hbW hb2.size) (by omega) (by omega)).mono ?_
    rintro e w2 ⟨⟨A3, n3, d3, rfl, hO3⟩, hb3, ht3⟩
    clear q0 q1 q2 q3
    obtain ⟨q0, q1, q2, q3⟩ := (ht3.blk (by decide) hC1).c3
    go_wp2_with fail
    go_ret
    exact ⟨⟨A3, n3, d3, rfl, by rw [valB_2, ← List.append_assoc]; exact hO3⟩, hB.trans (hb2.trans hb3), hT.trans (ht2.trans ht3)⟩

theorem valB_short {k n : Int} {s : ByteArray} (hk : k = 0 ∨ k = 1 ∨ k = 2) (h0 : -9223372036854775808 ≤ n) (h1 : n ≤ 9223372036854775807) (hs : s.size ≤ 1000) : (valB k n s.data.toList).length ≤ 2000000 :=
  Nat.le_trans (valB_small hk h0 h1 (by omega)) (by omega)

set_option maxRecDepth 100000 in
set_option maxHeartbeats 4000000 in
theorem putWrite_any (base : Nat) (A : Option Addr) (n c : Nat) (l : List UInt8) (x : Wr) (w : World) (hp : PreB base w A n c l) (hb : base ≤ w.heap.size) (hm : n ≤ 80000000000) (hg : x.good = true) (hf : x.fits) :
    Calls Tryd.prog 49 #[.slice A n c, .agg x.cells] w fun e w' => PutO base w (l ++ wB x) e w' := by
  obtain ⟨dev, seq, K, ky, ka, na, sa, kb, nb, sb⟩ := x
  obtain ⟨⟨d0, d1⟩, ⟨s0, s1⟩, ⟨k0, k1⟩, hky, ⟨hka, hsa⟩, ⟨hkb, hsb⟩⟩ := good_in hg
  obtain ⟨-, -, -, ⟨fa0, fa1⟩, fb0, fb1⟩ := hf
  dsimp only at d0 d1 s0 s1 k0 k1 hky hka hsa hkb hsb fa0 fa1 fb0 fb1
  have hl := hp.len
  have HA := Lib.hid (And.intro hka (And.intro fa0 fa1))
  have HB := Lib.hid (And.intro hkb (And.intro fb0 fb1))
  clear hka hkb fa0 fa1 fb0 fb1 hg
  have e1 : (dev : Int) = ((dev.toNat : Nat) : Int) := by omega
  have e2 : (seq : Int) = ((seq.toNat : Nat) : Int) := by omega
  have e3 : (K : Int) = ((K.toNat : Nat) : Int) := by omega
  have hE : Hid (l ++ numB dev.toNat ++ numB seq.toNat ++ numB K.toNat ++ textB ky.data.toList ++ valB ka na sa.data.toList ++ valB kb nb sb.data.toList = l ++ wB ⟨dev, seq, K, ky, ka, na, sa, kb, nb, sb⟩) := by
    show _ = _
    unfold wB wrB
    simp only [List.append_assoc]
  generalize hd' : dev.toNat = dv at e1 hE
  generalize hs' : seq.toNat = sq at e2 hE
  generalize hk' : K.toNat = Kn at e3 hE
  clear hd' hs' hk'
  subst e1 e2 e3
  have wd : IntKind.u64.wrap (dv : Int) = (dv : Int) := wrap_size (by omega)
  have wq : IntKind.u64.wrap (sq : Int) = (sq : Int) := wrap_size (by omega)
  have wk : IntKind.u64.wrap (Kn : Int) = (Kn : Int) := wrap_size (by omega)
  go_enter Tryd.func49, Tryd.ntmps49
  go_wp2_with fail
  have hC := blk_new w (wrI dv sq Kn ky ka na sa kb nb sb) 48
  have hB := (Below.refl base w).alloc hb (.cells (wrI dv sq Kn ky ka na sa kb nb sb) 48)
  have hp2 := hp.keep (b0 w (.cells (wrI dv sq Kn ky ka na sa kb nb sb) 48))
  have hT := Oth.below (b0 w (.cells (wrI dv sq Kn ky ka na sa kb nb sb) 48))
  clear hp
  generalize w.alloc (.cells (wrI dv sq Kn ky ka na sa kb nb sb) 48) = W at hC hB hp2 hT ⊢
  have hbW := Nat.le_trans hb hB.size
  generalize w.heap.size = b at hC ⊢
  refine (putNumber_any base A n c l dv W hp2 hbW (by omega) (by omega)).mono ?_
  rintro e w1 ⟨⟨A1, n1, c1, rfl, hO1⟩, hb1, ht1⟩
  have hC1 := ht1.blk (by decide) hC
  have hn1 := put_len hO1 hl (numB_small (n := dv) (by omega))
  have hB1 := hB.trans hb1
  have hT1 := hT.trans ht1
  have hz1 := Nat.le_trans hb hB1.size
  clear hC hp2 hb1 ht1 hB hT hbW hb
  obtain ⟨t0, t1, t2, t3, t4, t5, t6, t7, t8, t9, tl⟩ := blk_c10 hC1
  go_wp2_with fail
  refine (putNumber_any base A1 n1 c1 _ sq w1 (.inl hO1) hz1 (by omega) (by omega)).mono ?_
  rintro e w2 ⟨⟨A2, n2, c2, rfl, hO2⟩, hb2, ht2⟩
  have hC2 := ht2.blk (by decide) hC1
  have hn2 := put_len hO2 hO1.len (numB_small (n := sq) (by omega))
  have hB2 := hB1.trans hb2
  have hT2 := hT1.trans ht2
  have hz2 := Nat.le_trans hz1 hb2.size
  clear t0 t1 t2 t3 t4 t5 t6 t7 t8 t9 tl hC1 hO1 hb2 ht2 hB1 hT1 hz1
  obtain ⟨t0, t1, t2, t3, t4, t5, t6, t7, t8, t9, tl⟩ := blk_c10 hC2
  go_wp2_with fail
  refine (putNumber_any base A2 n2 c2 _ Kn w2 (.inl hO2) hz2 (by omega) (by omega)).mono ?_
  rintro e w3 ⟨⟨A3, n3, c3, rfl, hO3⟩, hb3, ht3⟩
  have hC3 := ht3.blk (by decide) hC2
  have hn3 := put_len hO3 hO2.len (numB_small (n := Kn) (by omega))
  have hB3 := hB2.trans hb3
  have hT3 := hT2.trans ht3
  have hz3 := Nat.le_trans hz2 hb3.size
  clear t0 t1 t2 t3 t4 t5 t6 t7 t8 t9 tl hC2 hO2 hb3 ht3 hB2 hT2 hz2
  obtain ⟨t0, t1, t2, t3, t4, t5, t6, t7, t8, t9, tl⟩ := blk_c10 hC3
  go_wp2_with fail
  refine (putText_any base A3 n3 c3 _ ky w3 (.inl hO3) hz3 (by omega) (by omega)).mono ?_
  rintro e w4 ⟨⟨A4, n4, c4, rfl, hO4⟩, hb4, ht4⟩
  have hC4 := ht4.blk (by decide) hC3
  have hn4 := put_len hO4 hO3.len (textB_small (s := ky) (by omega))
  have hB4 := hB3.trans hb4
  have hT4 := hT3.trans ht4
  have hz4 := Nat.le_trans hz3 hb4.size
  clear t0 t1 t2 t3 t4 t5 t6 t7 t8 t9 tl hC3 hO3 hb4 ht4 hB3 hT3 hz3
  obtain ⟨t0, t1, t2, t3, t4, t5, t6, t7, t8, t9, tl⟩ := blk_c10 hC4
  go_wp2_with fail
  refine (putValue_any base A4 n4 c4 _ ka na sa w4 (.inl hO4) hz4 (by omega) HA.out.1 HA.out.2.1 HA.out.2.2 (by omega)).mono ?_
  rintro e w5 ⟨⟨A5, n5, c5, rfl, hO5⟩, hb5, ht5⟩
  have hC5 := ht5.blk (by decide) hC4
  have hn5 := put_len hO5 hO4.len (valB_short HA.out.1 HA.out.2.1 HA.out.2.2 (show sa.size ≤ 1000 by omega))
  have hB5 := hB4.trans hb5
  have hT5 := hT4.trans ht5
  have hz5 := Nat.le_trans hz4 hb5.size
  clear t0 t1 t2 t3 t4 t5 t6 t7 t8 t9 tl hC4 hO4 hb5 ht5 hB4 hT4 hz4
  obtain ⟨t0, t1, t2, t3, t4, t5, t6, t7, t8, t9, tl⟩ := blk_c10 hC5
  go_wp2_with fail
  refine (putValue_any base A5 n5 c5 _ kb nb sb w5 (.inl hO5) hz5 (by omega) HB.out.1 HB.out.2.1 HB.out.2.2 (by omega)).mono ?_
  rintro e w6 ⟨⟨A6, n6, c6, rfl, hO6⟩, hb6, ht6⟩
  clear t0 t1 t2 t3 t4 t5 t6 t7 t8 t9 tl
  obtain ⟨t0, t1, t2, t3, t4, t5, t6, t7, t8, t9, tl⟩ := blk_c10 (ht6.blk (by decide) hC5)
  go_wp2_with fail
  go_ret
  exact ⟨⟨A6, n6, c6, rfl, by rw [← hE.out]; exact hO6⟩, hB5.trans hb6, hT5.trans ht6⟩
end Go.Proofs.YtahmjiomkaibgaaDoor
