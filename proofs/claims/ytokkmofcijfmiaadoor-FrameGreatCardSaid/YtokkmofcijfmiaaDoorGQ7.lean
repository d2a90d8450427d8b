/-
  WHAT IS PROVED: plain facts: what a frame is of, out of the sum of what stands ahead of its last four bytes and of these. No program is spoken of. · plain facts: a number out of its bytes, one more; shifted by a byte and joined with it. No program is spoken of. · package wide's Take: the number that bytes are, of eight at most. Conditions: those typed in the theorem. · package frame's length: what they answer, as the chapter says. Conditions: those typed in each theorem. · bytes.Clone of Go's own text, where package frame calls it; package frame's unseal: what it answers, as the chapter says. Conditions: those typed in each theorem. · plain facts: a frame is opened again; one of which one byte is another isn't; nor one with a byte more or fewer. · package frame's Open and Seal: what they answer, as the chapter says. Conditions: those typed in each theorem.
-/
import Derived.Test.YtokkmofcijfmiaaDoorGQ2
import GoSem.Claim
import Derived.Test.YtokkmofcijfmiaaDoorGQ4
import Derived.Laws.BitsAllLaws
import Derived.Test.YtokkmofcijfmiaaDoorGQ0
import Derived.Test.YtokkmofcijfmiaaDoorGQ3
import Derived.BigQuiet
import Derived.Deep.QuietTactic
namespace Go.Proofs.YtokkmofcijfmiaaDoor

/-- Four bytes as a number, the highest first. -/
def numF (b : List UInt8) (p : Nat) : Nat := 16777216 * (byteAt b p).toNat + 65536 * (byteAt b (p + 1)).toNat + 256 * (byteAt b (p + 2)).toNat + (byteAt b (p + 3)).toNat
theorem four_is {x : List UInt8} (h : x.length = 4) {c : Nat} (hc : c < 4294967296) : fourB c = x ↔ c = numF x 0 := by
  match x, h with
  | [a, b, d, e], _ =>
    have ha := a.toNat_lt
    have hb := b.toNat_lt
    have hd := d.toNat_lt
    have he := e.toNat_lt
    show fourB c = [a, b, d, e] ↔ c = 16777216 * a.toNat + 65536 * b.toNat + 256 * d.toNat + e.toNat
    unfold fourB
    constructor
    · intro h
      simp only [List.cons.injEq, and_true] at h
      obtain ⟨rfl, rfl, rfl, rfl⟩ := h
      rw [UInt8.toNat_ofNat', UInt8.toNat_ofNat', UInt8.toNat_ofNat', UInt8.toNat_ofNat']
      omega
    · intro h
      simp only [List.cons.injEq, and_true]
      refine ⟨UInt8.toNat_inj.1 ?_, UInt8.toNat_inj.1 ?_, UInt8.toNat_inj.1 ?_, UInt8.toNat_inj.1 ?_⟩
      all_goals
        rw [UInt8.toNat_ofNat']
        omega
theorem body_is {b : List UInt8} (h9 : 9 ≤ b.length) (h0 : byteAt b 0 = 229) (hl : lenF b + 9 ≤ b.length) : bodyL (byteAt b 1) ((b.drop 5).take (lenF b)) = b.take (lenF b + 5) := by
  match b, h9 with
  | x0 :: x1 :: x2 :: x3 :: x4 :: r, _ =>
    have hx0 : x0 = 229 := h0
    have h2 := x2.toNat_lt
    have h3 := x3.toNat_lt
    have h4 := x4.toNat_lt
    have hN : lenF (x0 :: x1 :: x2 :: x3 :: x4 :: r) = 65536 * x2.toNat + 256 * x3.toNat + x4.toNat := rfl
    rw [hN] at hl ⊢
    have hlen : (r.take (65536 * x2.toNat + 256 * x3.toNat + x4.toNat)).length = 65536 * x2.toNat + 256 * x3.toNat + x4.toNat := by
      rw [List.length_take]
      simp only [List.length_cons] at hl
      omega
    show bodyL x1 (r.take _) = x0 :: x1 :: x2 :: x3 :: x4 :: r.take _
    unfold bodyL
    rw [hlen, hx0]
    have e2 : UInt8.ofNat ((65536 * x2.toNat + 256 * x3.toNat + x4.toNat) / 65536) = x2 := UInt8.toNat_inj.1 (by rw [UInt8.toNat_ofNat']; omega)
    have e3 : UInt8.ofNat ((65536 * x2.toNat + 256 * x3.toNat + x4.toNat) / 256 % 256) = x3 := UInt8.toNat_inj.1 (by rw [UInt8.toNat_ofNat']; omega)
    have e4 : UInt8.ofNat ((65536 * x2.toNat + 256 * x3.toNat + x4.toNat) % 256) = x4 := UInt8.toNat_inj.1 (by rw [UInt8.toNat_ofNat']; omega)
    rw [e2, e3, e4]
    rfl
/-- What stands in bytes as long as a frame: the kind, the inside, what is wrong. -/
def unsF (y : List UInt8) : UInt8 × List UInt8 × Nat :=
  if crcL (y.take (y.length - 4)) = numF (y.drop (y.length - 4)) 0 then (byteAt y 1, (y.take (y.length - 4)).drop 5, 0) else (0, [], 4)
theorem numF_take {x : List UInt8} : numF (x.take 4) 0 = numF x 0 := by
  have g : ∀ i, i < 4 → byteAt (x.take 4) i = byteAt x i := fun i hi => by
    unfold byteAt
    rw [List.getD_eq_getElem?_getD, List.getD_eq_getElem?_getD, List.getElem?_take, if_pos hi]
  unfold numF
  rw [g 0 (by omega), g 1 (by omega), g 2 (by omega), g 3 (by omega)]
/-- .. is what is taken. -/
theorem uns_take {b : List UInt8} (h9 : 9 ≤ b.length) (h0 : byteAt b 0 = 229) (hm : lenF b ≤ 100000) (hl : lenF b + 9 ≤ b.length) : takeF b = ((unsF (b.take (lenF b + 9))).1, (unsF (b.take (lenF b + 9))).2.1, lenF b + 9, (unsF (b.take (lenF b + 9))).2.2) := by
  have hbody := body_is h9 h0 hl
  have hN : (b.take (lenF b + 9)).length = lenF b + 9 := by rw [List.length_take]; omega
  have h1 : byteAt (b.take (lenF b + 9)) 1 = byteAt b 1 := by
    unfold byteAt
    rw [List.getD_eq_getElem?_getD, List.getD_eq_getElem?_getD, List.getElem?_take, if_pos (by omega)]
  have h5 : (b.take (lenF b + 9)).take (lenF b + 5) = b.take (lenF b + 5) := by rw [List.take_take, Nat.min_eq_left (by omega)]
  have h4 : (b.take (lenF b + 9)).drop (lenF b + 5) = (b.drop (lenF b + 5)).take 4 := by rw [List.drop_take, show lenF b + 9 - (lenF b + 5) = 4 by omega]
  have hin : (b.take (lenF b + 5)).drop 5 = (b.drop 5).take (lenF b) := by rw [List.drop_take, Nat.add_sub_cancel]
  have hall : b.take (lenF b + 9) = b.take (lenF b + 5) ++ (b.drop (lenF b + 5)).take 4 := by
    rw [← h4, ← h5, List.take_append_drop]
  have hx4 : ((b.drop (lenF b + 5)).take 4).length = 4 := by rw [List.length_take, List.length_drop]; omega
  have hiff : sealL (byteAt b 1) ((b.drop 5).take (lenF b)) = b.take (lenF b + 9) ↔ crcL (b.take (lenF b + 5)) = numF (b.drop (lenF b + 5)) 0 := by
    unfold sealL
    rw [hbody, hall, List.append_cancel_left_eq, four_is hx4 (crcL_lt _), numF_take]
  unfold takeF unsF
  rw [if_neg (by rw [h0]; simp; omega), if_neg (by omega), hN, show lenF b + 9 - 4 = lenF b + 5 by omega, h5, h4, numF_take, h1, hin]
  by_cases h : crcL (b.take (lenF b + 5)) = numF (b.drop (lenF b + 5)) 0
  · rw [if_pos h, if_neg (fun k => k (hiff.2 h))]
  · rw [if_neg h, if_pos (fun k => h (hiff.1 k))]
end Go.Proofs.YtokkmofcijfmiaaDoor

namespace Go.Proofs.YtokkmofcijfmiaaDoor
open Go.RowKit

theorem beV_take {t : List UInt8} {j : Nat} {x : UInt8} (h : t[j]? = some x) : beV (t.take (j + 1)) = beV (t.take j) * 256 + x.toNat := by
  have hj := (List.getElem?_eq_some_iff.1 h).1
  rw [List.take_succ_eq_append_getElem hj, beV_snoc]
  rw [List.getElem?_eq_getElem hj] at h
  injection h with h
  rw [h]
set_option maxRecDepth 100000 in
theorem beV_take_lt (t : List UInt8) (j : Nat) (h : j ≤ 8) : beV (t.take j) < 18446744073709551616 := by
  have h1 := beV_lt (t.take j)
  have h2 : (t.take j).length ≤ 8 := by rw [List.length_take]; omega
  have h3 : 256 ^ (t.take j).length ≤ 256 ^ 8 := Nat.pow_le_pow_right (by omega) h2
  rw [pow_eight] at h3
  omega
set_option maxRecDepth 100000 in
theorem or_byte (a c : Nat) (ha : a * 256 + c < 18446744073709551616) (hc : c < 256) : bits .or .u64 (IntKind.u64.wrap ((a : Int) * 256)) (IntKind.u64.wrap (c : Int)) = ((a * 256 + c : Nat) : Int) := by
  have e : IntKind.u64.wrap ((a : Int) * 256) = ((a * 256 : Nat) : Int) := by
    rw [IntKind.wrap_u64]
    omega
  have e2 : IntKind.u64.wrap (c : Int) = (c : Int) := by
    rw [IntKind.wrap_u64]
    omega
  rw [e, e2, u64_or_nat _ _ (by omega) (by omega)]
  have h := Nat.shiftLeft_add_eq_or_of_lt (i := 8) (b := c) hc a
  simp only [Nat.shiftLeft_eq, Nat.reducePow] at h
  rw [h]
end Go.Proofs.YtokkmofcijfmiaaDoor

namespace Go.Proofs.YtokkmofcijfmiaaDoor
open Go.RowKit

set_option maxRecDepth 100000 in
set_option maxHeartbeats 2000000 in
theorem wideTake_any {B : Nat} (A : Option Addr) (n c : Nat) (l : List UInt8) (w : World) (hn : l.length = n) (hr : RdB B w A l) (hm : n ≤ 8) :
    Calls Tryd.prog 56 #[.slice A n c] w fun e w' => e = .returned (.int .u64 (beV l : Nat)) ∧ w = w' := by
  have HN := Lib.hid hn
  clear hn
  go_enter Tryd.func56, Tryd.ntmps56
  go_wp2_with fail
  go_loopw [3, 8] (fun x i wr => ∃ k : Nat, k ≤ n ∧ x = .int .u64 (beV (l.take k) : Nat) ∧ i = .int .i64 k ∧ w = wr) (fun _ i _ => n - (intOf i).toNat)
  case atStart => exact ⟨0, Nat.zero_le _, by simp [beV_nil], rfl, rfl⟩
  case round =>
    obtain ⟨k, hk, rfl, rfl, rfl⟩ := hrel
    by_cases hlt : k < n
    · have hlk : k < l.length := by have := HN.out; omega
      obtain ⟨ad, rfl, _, hc⟩ := hr.at_ hlk
      have i1 : (0 : Int) ≤ (k : Int) := by omega
      have i2 : (k : Int) < (n : Int) := by omega
      have hg : l[k]? = some l[k] := List.getElem?_eq_getElem hlk
      generalize l[k] = x at hc hg
      have hb := beV_take hg
      have hbl := beV_take_lt l (k + 1) (by omega)
      have HV := Lib.hid (or_byte (beV (l.take k)) x.toNat (by rw [← hb]; exact hbl) x.toNat_lt)
      rw [← hb] at HV
      clear hg hb hbl
      go_wp2_with fail
      go_roundw
      case rel => exact ⟨k + 1, by omega, by rw [HV.out], by go_num, trivial⟩
      case measure => simp [intOf]; omega
    · have i2 : ¬ (k : Int) < (n : Int) := by omega
      have e : l.take k = l := List.take_of_length_le (by have := HN.out; omega)
      rw [e]
      go_wp2_with fail
      go_ret
      exact ⟨rfl, by first | rfl | trivial⟩
end Go.Proofs.YtokkmofcijfmiaaDoor

namespace Go.Proofs.YtokkmofcijfmiaaDoor
open Go.RowKit

/-- Three bytes as a number; four of them. -/
theorem be_three {b : List UInt8} (h : 5 ≤ b.length) : beV ((b.take 5).drop 2) = lenF b := by
  match b, h with
  | x0 :: x1 :: x2 :: x3 :: x4 :: r, _ =>
    show ((0 * 256 + x2.toNat) * 256 + x3.toNat) * 256 + x4.toNat = 65536 * x2.toNat + 256 * x3.toNat + x4.toNat
    omega
theorem be_four {b : List UInt8} (h : b.length = 4) : beV b = numF b 0 := by
  match b, h with
  | [x0, x1, x2, x3], _ =>
    show (((0 * 256 + x0.toNat) * 256 + x1.toNat) * 256 + x2.toNat) * 256 + x3.toNat = 16777216 * x0.toNat + 65536 * x1.toNat + 256 * x2.toNat + x3.toNat
    omega

/-- How long the frame is that b begins with; 0: there is none so long. -/
theorem size_none {b : List UInt8} (h : b.length < 9 ∨ byteAt b 0 ≠ 229 ∨ 100000 < lenF b ∨ b.length < lenF b + 9) : (takeF b).2.2.1 = 0 ∧ (takeF b).2.2.2 = 2 := by
  unfold takeF
  by_cases h1 : b.length < 9 ∨ byteAt b 0 ≠ 229
  · rw [if_pos h1]
    exact ⟨rfl, rfl⟩
  · rw [if_neg h1]
    have h2 : 100000 < lenF b ∨ b.length < lenF b + 9 := by
      rcases h with h | h | h | h
      · exact absurd (.inl h) h1
      · exact absurd (.inr h) h1
      · exact .inl h
      · exact .inr h
    rw [if_pos h2]
    exact ⟨rfl, rfl⟩
theorem size_some {b : List UInt8} (h1 : 9 ≤ b.length) (h2 : byteAt b 0 = 229) (h3 : lenF b ≤ 100000) (h4 : lenF b + 9 ≤ b.length) : (takeF b).2.2.1 = lenF b + 9 := by
  unfold takeF
  rw [if_neg (by rw [h2]; simp; omega), if_neg (by omega)]
  split <;> rfl
/-- What length answers. -/
def LenP (s code : Nat) (w : World) (e : Ending) (w' : World) : Prop :=
  (∃ v : Value, e = .returned (.tuple #[.int .i64 (s : Nat), v]) ∧ ((s ≠ 0 ∧ v = .nilIface) ∨ (s = 0 ∧ code = 2 ∧ (v = .iface 92 (.int .i64 2) ∨ ∃ l : Int, v = .iface 76 (.agg #[.int .i64 l, .int .i64 2]))))) ∧ Below w.heap.size w w'

set_option maxRecDepth 100000 in
set_option maxHeartbeats 4000000 in
theorem length_any {B : Nat} (A : Option Addr) (n c : Nat) (b : List UInt8) (w : World) (hn : b.length = n) (hc : n ≤ c) (hr : RdB B w A b) (hm : n ≤ 1000000000) :
    Calls Tryd.prog 39 #[.slice A n c] w fun e w' => LenP (takeF b).2.2.1 (takeF b).2.2.2 w e w' := by
  have HN := Lib.hid hn
  have gm : (n : Int) ≤ 1000000000 := by omega
  by_cases h5 : n < 5
  · have g5 : (n : Int) < 5 := by omega
    have R := Lib.hid (size_none (b := b) (.inl (by omega)))
    clear hn
    go_enter Tryd.func39, Tryd.ntmps39
    go_wp2_with fail
    go_ret2
    rw [R.out.1, R.out.2]
    exact ⟨⟨_, rfl, .inr ⟨rfl, rfl, .inr ⟨_, rfl⟩⟩⟩, Below.refl _ _⟩
  · have g5 : ¬ (n : Int) < 5 := by omega
    have g0 : (0 : Int) < (n : Int) := by omega
    have g1 : (2 : Int) < (n : Int) := by omega
    have g2 : (3 : Int) < (n : Int) := by omega
    have g3 : (4 : Int) < (n : Int) := by omega
    obtain ⟨ad, rfl, _, c0, _, c2, c3, c4⟩ := five hr (by omega)
    by_cases h0 : byteAt b 0 = 229
    · have e0 : (((byteAt b 0).toNat : Int) != 229) = false := by rw [h0]; rfl
      have e0' : (((byteAt b 0).toNat : Int) == 229) = true := by rw [h0]; rfl
      have q1 : ∀ W : World, (Instr.sliceAt 34 (.slice (some ad) n c) (some (.int .i64 2)) (some (.int .i64 5)) none).run Tryd.prog W = .ok (.slice (cutA (some ad) c 2) 3 (c - 2)) W := fun W => run_cut2 W (some ad) n c 2 5 2 5 rfl rfl (by omega) (by omega) hc
      have hsub : RdB B w (cutA (some ad) c 2) ((b.take 5).drop 2) := (hr.take 5).cut (p := 2) (c := c) (by rw [List.length_take, hn]; omega)
      have HT := Lib.hid (wideTake_any (cutA (some ad) c 2) 3 (c - 2) ((b.take 5).drop 2) w (by rw [List.length_drop, List.length_take, hn]; omega) hsub (by omega))
      rw [be_three (by omega)] at HT
      have hlt24 : lenF b < 16777216 := by
        have b2' := (byteAt b 2).toNat_lt
        have b3' := (byteAt b 3).toNat_lt
        have b4' := (byteAt b 4).toNat_lt
        show 65536 * (byteAt b 2).toNat + 256 * (byteAt b 3).toNat + (byteAt b 4).toNat < 16777216
        omega
      have H0 := Lib.hid h0
      generalize hLL : lenF b = N at HT hlt24
      have HLL := Lib.hid hLL
      clear hLL h0 hn hr hsub
      by_cases hbig : 100000 < N
      · have k1 : (100000 : Int) < (N : Int) := by omega
        have R := Lib.hid (size_none (b := b) (.inr (.inr (.inl (by rw [HLL.out]; exact hbig)))))
        go_enter Tryd.func39, Tryd.ntmps39
        go_wp2_with fail
        refine HT.out.mono ?_
        rintro e w2 ⟨rfl, rfl⟩
        go_wp2_with fail
        go_ret2
        rw [R.out.1, R.out.2]
        exact ⟨⟨_, rfl, .inr ⟨rfl, rfl, .inr ⟨_, rfl⟩⟩⟩, Below.refl _ _⟩
      · have k1 : ¬ (100000 : Int) < (N : Int) := by omega
        by_cases hlong : n < N + 9
        · have k2 : (n : Int) < (N : Int) + 9 := by omega
          have R := Lib.hid (size_none (b := b) (.inr (.inr (.inr (by rw [HLL.out, HN.out]; exact hlong)))))
          go_enter Tryd.func39, Tryd.ntmps39
          go_wp2_with fail
          refine HT.out.mono ?_
          rintro e w2 ⟨rfl, rfl⟩
          go_wp2_with fail
          go_ret2
          rw [R.out.1, R.out.2]
          exact ⟨⟨_, rfl, .inr ⟨rfl, rfl, .inr ⟨_, rfl⟩⟩⟩, Below.refl _ _⟩
        · have k2 : ¬ (n : Int) < (N : Int) + 9 := by omega
          have R := Lib.hid (size_some (b := b) (by rw [HN.out]; omega) H0.out (by rw [HLL.out]; omega) (by rw [HLL.out, HN.out]; omega))
          go_enter Tryd.func39, Tryd.ntmps39
          go_wp2_with fail
          refine HT.out.mono ?_
          rintro e w2 ⟨rfl, rfl⟩
          go_wp2_with fail
          go_ret2
          rw [R.out, HLL.out]
          exact ⟨⟨_, by go_num, .inl ⟨by omega, rfl⟩⟩, Below.refl _ _⟩
    · have e0 : (((byteAt b 0).toNat : Int) != 229) = true := by
        rw [bne_iff_ne]
        intro e
        exact h0 (UInt8.toNat_inj.1 (by show _ = 229; omega))
      have e0' : (((byteAt b 0).toNat : Int) == 229) = false := by
        rw [beq_eq_false_iff_ne]
        intro e
        exact h0 (UInt8.toNat_inj.1 (by show _ = 229; omega))
      have R := Lib.hid (size_none (b := b) (.inr (.inl h0)))
      clear hn h0
      go_enter Tryd.func39, Tryd.ntmps39
      go_wp2_with fail
      go_ret2
      rw [R.out.1, R.out.2]
      exact ⟨⟨_, rfl, .inr ⟨rfl, rfl, .inl rfl⟩⟩, Below.refl _ _⟩
end Go.Proofs.YtokkmofcijfmiaaDoor

namespace Go.Proofs.YtokkmofcijfmiaaDoor
open Go.RowKit

theorem below_draws {B : Nat} {a w : World} (h : Below B a w) (n : Nat) : Below B a (w.drewN n) := ⟨h.os, h.tape, h.output, h.size, h.block⟩
theorem OwnB.other {base g : Nat} {W : World} {A : Option Addr} {n c : Nat} {l : List UInt8} (h : OwnB base W A n c l) (hg : g < base) (i : Nat) (v : Value) : OwnB base (W.setCell ⟨g, i, none⟩ v) A n c l := by
  refine World.ownsRow.kept h (row := some g) ⟨rfl, rfl, rfl, by simp, fun k _ hr => Below.heap_setCell W ⟨g, i, none⟩ v k (fun e => hr (by rw [e]))⟩ ?_
  cases A with
  | none => simp [Value.ownBlock]
  | some a =>
    have := World.ownsRow.lt h a.block rfl
    right
    intro e
    simp only [Value.ownBlock, Option.some.injEq] at e
    omega
theorem slice_notnil (ad : Addr) (n c : Nat) (w : World) : (binOp .eql 34 (.slice (some ad) n c) (.slice none 0 0)).run Tryd.prog w = .ok (.bool false) w := by
  first
    | kernel_rfl
    | simp [binOp, go_sem]
    | go_simp
set_option maxRecDepth 100000 in
set_option maxHeartbeats 2000000 in
theorem fclone_any {B : Nat} (ad : Addr) (n c : Nat) (l : List UInt8) (w : World) (hn : l.length = n) (hr : RdB B w (some ad) l) (hB : B ≤ w.heap.size) (hm : n ≤ 1000000) :
    Calls Tryd.prog 57 #[.slice (some ad) n c] w fun e w' => (∃ (A' : Option Addr) (c' : Nat), e = .returned (.slice A' n c') ∧ OwnB w.heap.size w' A' n c' l) ∧ Below w.heap.size w w' := by
  obtain ⟨i0, hi0, hz0, hz1, hz2⟩ := info_parts byt_info
  have hlit0 : OwnB w.heap.size (w.alloc (.cells #[] 5)) (some ⟨w.heap.size, 0, none⟩) 0 0 [] := OwnB.lit w #[] [] rfl rfl (Nat.le_refl _) (Nat.zero_le _)
  have hrf := hr.keep (b0 w (.cells #[] 5)) hB
  have HN := Lib.hid hn
  have hnn := slice_notnil ad n c w
  clear hn
  go_enter Tryd.func57, Tryd.ntmps57
  go_wp2_with (at_builtin; refine wpList_apB (base := w.heap.size) (n := 0) (m := n) (l := []) (l2 := l) (by rfl) _ _ (by rfl) Tryd.underlying34 Tryd.underlying34 hi0 hz0 hz1 hz2 (by rfl) (by rfl) hlit0 hrf HN.out n (by omega) (by omega) (by simp) ?_; intro A3 c3 w3 hO3 hb3 hg3; rw [List.nil_append] at hO3; have hB3 := (b0 w (.cells #[] 5)).trans hb3)
  go_ret
  exact ⟨⟨A3, c3, rfl, hO3⟩, hB3⟩

/-- What unseal says is wrong. -/
def ErrU (v : Value) (n : Nat) : Prop := (v = .nilIface ∧ n = 0) ∨ (v = .iface 92 (.int .i64 4) ∧ n = 4)
theorem ErrU.err {v : Value} {n : Nat} (h : ErrU v n) : ErrF v n := by
  rcases h with h | ⟨rfl, rfl⟩
  · exact .inl h
  · exact .inr (.inl rfl)

set_option maxRecDepth 100000 in
set_option maxHeartbeats 4000000 in
theorem unseal_any {B : Nat} (A : Option Addr) (n c : Nat) (y : List UInt8) (w : World) (hL : LaidF w) (hn : y.length = n) (hr : RdB B w A y) (hB : B ≤ w.heap.size) (h9 : 9 ≤ n) (hc : n ≤ c) (hm : n ≤ 1000000) :
    Calls Tryd.prog 40 #[.slice A n c] w fun e w' => (∃ (A' : Option Addr) (c' : Nat) (v : Value), e = .returned (.tuple #[.agg #[.int .u8 ((unsF y).1.toNat : Int), .slice A' (unsF y).2.1.length c'], v]) ∧ OwnB w.heap.size w' A' (unsF y).2.1.length c' (unsF y).2.1 ∧ ErrU v (unsF y).2.2) ∧ Below w.heap.size w w' := by
  have HN := Lib.hid hn
  have gm : (n : Int) ≤ 1000000 := by omega
  obtain ⟨ad, rfl, hbl, _, c1, _, _, _⟩ := five hr (by omega)
  have g1 : (1 : Int) < (n : Int) := by omega
  have q0 : ∀ W : World, (Instr.sliceAt 34 (.slice (some ad) n c) none (some (.int .i64 ((n : Int) - 4))) none).run Tryd.prog W = .ok (.slice (some ad) (n - 4) c) W := fun W => run_cut0 W (some ad) n c (n - 4) _ (by omega) (by omega) hc
  have q1 : ∀ W : World, (Instr.sliceAt 34 (.slice (some ad) n c) (some (.int .i64 ((n : Int) - 4))) none none).run Tryd.prog W = .ok (.slice (cutA (some ad) c (n - 4)) 4 (c - (n - 4))) W := fun W => by
    have h := run_cutI W (some ad) n c (n - 4) ((n : Int) - 4) (by omega) (by omega)
    rwa [show n - (n - 4) = 4 by omega] at h
  have q2 : ∀ W : World, (Instr.sliceAt 34 (.slice (some ad) n c) (some (.int .i64 5)) (some (.int .i64 ((n : Int) - 4))) none).run Tryd.prog W = .ok (.slice (cutA (some ad) c 5) (n - 9) (c - 5)) W := fun W => by
    have h := run_cut2 W (some ad) n c 5 (n - 4) 5 ((n : Int) - 4) rfl (by omega) (by omega) (by omega) hc
    rwa [show n - 4 - 5 = n - 9 by omega] at h
  have hcut : cutA (some ad) c 5 = some (ad.add 5) := by unfold cutA; rw [if_neg (by omega)]; rfl
  rw [hcut] at q2
  have hsub : RdB B w (some (ad.add 5)) ((y.take (n - 4)).drop 5) := by
    have h := (hr.take (n - 4)).cut (p := 5) (c := c) (by rw [List.length_take, HN.out]; omega)
    rwa [hcut] at h
  have hsl : ((y.take (n - 4)).drop 5).length = n - 9 := by rw [List.length_drop, List.length_take, HN.out]; omega
  have FS := Lib.hid (fun W (h : Below w.heap.size w W) => sum_any (some ad) (n - 4) c (y.take (n - 4)) W (hL.keep h) (by rw [List.length_take, HN.out]; omega) ((hr.take (n - 4)).keep h hB) (by omega))
  have FT := Lib.hid (fun W (h : Below w.heap.size w W) => wideTake_any (cutA (some ad) c (n - 4)) 4 (c - (n - 4)) (y.drop (n - 4)) W (by rw [List.length_drop, HN.out]; omega) ((hr.cut (p := n - 4) (c := c) (by rw [HN.out]; exact hc)).keep h hB) (by omega))
  rw [be_four (show (y.drop (n - 4)).length = 4 by rw [List.length_drop, HN.out]; omega)] at FT
  have HU : Hid (unsF y = if crcL (y.take (n - 4)) = numF (y.drop (n - 4)) 0 then (byteAt y 1, (y.take (n - 4)).drop 5, 0) else (0, [], 4)) := by show _ = _; unfold unsF; rw [HN.out]
  have FC := Lib.hid (fun W (h : Below w.heap.size w W) => fclone_any (ad.add 5) (n - 9) (c - 5) _ W hsl (hsub.keep h hB) (Nat.le_trans hB h.size) (by omega))
  generalize unsF y = r at HU ⊢
  have hs1 := crcL_lt (y.take (n - 4))
  generalize crcL (y.take (n - 4)) = s1 at FS HU hs1
  have ew : IntKind.u64.wrap (s1 : Int) = (s1 : Int) := by rw [IntKind.wrap_u64]; omega
  generalize numF (y.drop (n - 4)) 0 = s2 at FT HU
  generalize (y.take (n - 4)).drop 5 = ins at FC HU hsl hsub
  generalize byteAt y 1 = k at c1 HU
  have hB1 := b0 w (.cells #[.int .u8 0, .slice none 0 0] 38)
  have hP := blk_new w #[.int .u8 0, .slice none 0 0] 38
  have c1' : (w.alloc (.cells #[.int .u8 0, .slice none 0 0] 38)).cell? ⟨ad.block, ad.off + 1, none⟩ = some (.int .u8 (k.toNat : Int)) := (hB1.cell (p := ⟨ad.block, ad.off + 1, none⟩) (Nat.lt_of_lt_of_le hbl hB)).trans c1
  have hlt : ad.block < (w.alloc (.cells #[.int .u8 0, .slice none 0 0] 38)).heap.size := Nat.lt_of_lt_of_le (Nat.lt_of_lt_of_le hbl hB) hB1.size
  by_cases hs : s1 = s2
  · have e1 : (IntKind.u64.wrap (s2 : Int) != (s2 : Int)) = false := by rw [hs] at ew; rw [ew]; simp
    have e2 : (IntKind.u64.wrap (s2 : Int) == (s2 : Int)) = true := by rw [hs] at ew; rw [ew]; simp
    have R : Hid (r = (k, ins, 0)) := by show _ = _; rw [HU.out, if_pos hs]
    clear HU hn ew hs1
    go_enter Tryd.func40, Tryd.ntmps40
    go_wp2_with fail
    go_quiet ((first
      | (go_at_call 35; exact Calls.quiet_of_same ((FS.out _ (below_draws hB1 _)).mono fun _ _ h => ⟨h.1, h.2.symm⟩))
      | (go_at_call 56; exact Calls.quiet_of_same ((FT.out _ (below_draws hB1 _)).mono fun _ _ h => ⟨h.1, h.2.symm⟩))))
    go_wp2_with fail
    go_region_with ((go_at_call 57; refine (FC.out _ (below_draws hB1 _)).mono ?_; rintro e w7 ⟨⟨A7, c7, rfl, hO7⟩, hb7⟩; have hP7 := Blk.keep (Blk.drew hP _) hb7; have p0 := hP7.cell 0; have p1 := hP7.cell 1; have f0 := hP7.free 0; have f1 := hP7.free 1; have k1 := (Below.cell hb7 (p := ⟨ad.block, ad.off + 1, none⟩) hlt).trans c1'))
    all_goals
      go_wp2_with fail
      have hP8 := (hP7.set 0 (.int .u8 (k.toNat : Int))).set 1 (.slice A7 (n - 9) c7)
      have p2 : ((w7.setCell ⟨w.heap.size, 0, none⟩ (.int .u8 (k.toNat : Int))).setCell ⟨w.heap.size, 1, none⟩ (.slice A7 (n - 9) c7)).cell? ⟨w.heap.size, 0, none⟩ = some (.int .u8 (k.toNat : Int)) := hP8.cell 0
      have p3 : ((w7.setCell ⟨w.heap.size, 0, none⟩ (.int .u8 (k.toNat : Int))).setCell ⟨w.heap.size, 1, none⟩ (.slice A7 (n - 9) c7)).cell? ⟨w.heap.size, 1, none⟩ = some (.slice A7 (n - 9) c7) := hP8.cell 1
      have hO8 := ((hO7.other (g := w.heap.size) (by simp) 0 (.int .u8 (k.toNat : Int))).other (g := w.heap.size) (by simp) 1 (.slice A7 (n - 9) c7)).less (b2 := w.heap.size) (by simp)
      have hB8 : Below w.heap.size w ((w7.setCell ⟨w.heap.size, 0, none⟩ (.int .u8 (k.toNat : Int))).setCell ⟨w.heap.size, 1, none⟩ (.slice A7 (n - 9) c7)) := ((bt (below_draws hB1 _) hb7).setCell (p := ⟨w.heap.size, 0, none⟩) (Nat.le_refl _) _).setCell (p := ⟨w.heap.size, 1, none⟩) (Nat.le_refl _) _
      refine bodyPost_ret (v := .tuple #[.agg #[.int .u8 (k.toNat : Int), .slice A7 (n - 9) c7], .nilIface]) (by simp [results, Tryd.results40, go_sem, p2, p3]) rfl ?_
      rw [R.out]
      simp only
      rw [hsl]
      exact ⟨⟨A7, c7, _, rfl, hO8, .inl ⟨rfl, rfl⟩⟩, hB8⟩
  · have e1 : (IntKind.u64.wrap (s1 : Int) != (s2 : Int)) = true := by rw [ew, bne_iff_ne]; omega
    have e2 : (IntKind.u64.wrap (s1 : Int) == (s2 : Int)) = false := by rw [ew, beq_eq_false_iff_ne]; omega
    have e3 : ¬ (s1 : Int) = (s2 : Int) := by omega
    have R : Hid (r = (0, [], 4)) := by show _ = _; rw [HU.out, if_neg hs]
    clear HU hn hs FC hsub ew hs1
    go_enter Tryd.func40, Tryd.ntmps40
    go_wp2_with fail
    go_quiet ((first
      | (go_at_call 35; exact Calls.quiet_of_same ((FS.out _ (below_draws hB1 _)).mono fun _ _ h => ⟨h.1, h.2.symm⟩))
      | (go_at_call 56; exact Calls.quiet_of_same ((FT.out _ (below_draws hB1 _)).mono fun _ _ h => ⟨h.1, h.2.symm⟩))))
    rename_i nq _ _
    have hPq := Blk.drew hP nq
    have f0 := hPq.free 0
    have f1 := hPq.free 1
    have p0 := hPq.cell 0
    have p1 := hPq.cell 1
    have hBq := below_draws hB1 nq
    go_wp2_with fail
    have hP8 := (hPq.set 0 (.int .u8 0)).set 1 (.slice none 0 0)
    have hB8 := (hBq.setCell (p := ⟨w.heap.size, 0, none⟩) (Nat.le_refl _) (.int .u8 0)).setCell (p := ⟨w.heap.size, 1, none⟩) (Nat.le_refl _) (.slice none 0 0)
    generalize (((w.alloc (.cells #[.int .u8 0, .slice none 0 0] 38)).drewN nq).setCell ⟨w.heap.size, 0, none⟩ (.int .u8 0)).setCell ⟨w.heap.size, 1, none⟩ (.slice none 0 0) = W8 at hP8 hB8 ⊢
    have p2 : W8.cell? ⟨w.heap.size, 0, none⟩ = some (.int .u8 0) := hP8.cell 0
    have p3 : W8.cell? ⟨w.heap.size, 1, none⟩ = some (.slice none 0 0) := hP8.cell 1
    refine bodyPost_ret (v := .tuple #[.agg #[.int .u8 0, .slice none 0 0], .iface 92 (.int .i64 4)]) (by simp [results, Tryd.results40, go_sem, p2, p3]) rfl ?_
    rw [R.out]
    exact ⟨⟨none, 0, _, rfl, OwnB.nil _ _, .inr ⟨rfl, rfl⟩⟩, hB8⟩
end Go.Proofs.YtokkmofcijfmiaaDoor

namespace Go.Proofs.YtokkmofcijfmiaaDoor
open Go.RowKit

theorem sealL_eq (k : UInt8) (b : List UInt8) : sealL k b = 229 :: k :: UInt8.ofNat (b.length / 65536) :: UInt8.ofNat (b.length / 256 % 256) :: UInt8.ofNat (b.length % 256) :: (b ++ fourB (crcL (bodyL k b))) := by
  unfold sealL bodyL
  simp
theorem lenF_seal (k : UInt8) (b r : List UInt8) (h : b.length ≤ 100000) : lenF (sealL k b ++ r) = b.length := by
  rw [sealL_eq]
  show 65536 * (UInt8.ofNat (b.length / 65536)).toNat + 256 * (UInt8.ofNat (b.length / 256 % 256)).toNat + (UInt8.ofNat (b.length % 256)).toNat = b.length
  rw [UInt8.toNat_ofNat', UInt8.toNat_ofNat', UInt8.toNat_ofNat']
  omega
/-- A frame, whatever stands behind it, is taken. -/
theorem take_seal (k : UInt8) (b r : List UInt8) (h : b.length ≤ 100000) : takeF (sealL k b ++ r) = (k, b, b.length + 9, 0) := by
  have hl := sealL_len k b
  have h0 : byteAt (sealL k b ++ r) 0 = 229 := by rw [sealL_eq]; rfl
  have h1 : byteAt (sealL k b ++ r) 1 = k := by rw [sealL_eq]; rfl
  have hd : ((sealL k b ++ r).drop 5).take b.length = b := by
    rw [sealL_eq]
    show ((b ++ fourB (crcL (bodyL k b))) ++ r).take b.length = b
    rw [List.append_assoc, List.take_left]
  have ht : (sealL k b ++ r).take (b.length + 9) = sealL k b := by
    rw [show b.length + 9 = (sealL k b).length by omega, List.take_left]
  unfold takeF
  rw [if_neg, if_neg, lenF_seal k b r h, if_neg, h1, hd]
  · rw [h1, hd, ht]
    exact fun e => e rfl
  · rw [lenF_seal k b r h, List.length_append, hl]
    omega
  · rw [h0, List.length_append, hl]
    simp
    omega
theorem open_seal (k : UInt8) (b : List UInt8) (h : b.length ≤ 100000) : openF (sealL k b) = (k, b, 0) := by
  have ht := take_seal k b [] h
  rw [List.append_nil] at ht
  unfold openF
  rw [ht, sealL_len]
  simp only
  rw [if_neg (by omega)]
/-- With bytes more. -/
theorem open_more (k : UInt8) (b r : List UInt8) (h : b.length ≤ 100000) (hr : r ≠ []) : openF (sealL k b ++ r) = (0, [], 2) := by
  have h1 : 0 < r.length := List.length_pos_iff.2 hr
  unfold openF
  rw [take_seal k b r h, List.length_append, sealL_len]
  simp only
  rw [if_pos (by omega)]
/-- How long what is taken is. -/
theorem takeF_size {b : List UInt8} (h : (takeF b).2.2.1 ≠ 0) : 9 ≤ b.length ∧ byteAt b 0 = 229 ∧ lenF b ≤ 100000 ∧ lenF b + 9 ≤ b.length ∧ (takeF b).2.2.1 = lenF b + 9 := by
  unfold takeF at h ⊢
  by_cases h1 : b.length < 9 ∨ byteAt b 0 ≠ 229
  · rw [if_pos h1] at h
    exact absurd rfl h
  · rw [if_neg h1] at h ⊢
    by_cases h2 : 100000 < lenF b ∨ b.length < lenF b + 9
    · rw [if_pos h2] at h
      exact absurd rfl h
    · rw [if_neg h2]
      have h3 : byteAt b 0 = 229 := Classical.byContradiction fun e => h1 (Or.inr e)
      refine ⟨by omega, h3, by omega, by omega, ?_⟩
      split <;> rfl
/-- What is opened is a frame. -/
theorem open_is {x : List UInt8} {k : UInt8} {b : List UInt8} (h : openF x = (k, b, 0)) : x = sealL k b ∧ b.length ≤ 100000 := by
  unfold openF at h
  by_cases h1 : (takeF x).2.2.1 ≠ x.length ∨ (takeF x).2.2.1 = 0
  · rw [if_pos h1] at h
    simp at h
  · rw [if_neg h1] at h
    have hne : (takeF x).2.2.1 ≠ 0 := fun e => h1 (Or.inr e)
    have hsz : (takeF x).2.2.1 = x.length := Classical.byContradiction fun e => h1 (Or.inl e)
    obtain ⟨q1, q2, q3, q4, q5⟩ := takeF_size hne
    have hcode : (takeF x).2.2.2 = 0 := congrArg (fun p => p.2.2) h
    have hk : (takeF x).1 = k := congrArg (fun p => p.1) h
    have hb : (takeF x).2.1 = b := congrArg (fun p => p.2.1) h
    unfold takeF at hcode hk hb
    rw [if_neg (by rw [q2]; simp; omega), if_neg (by omega)] at hcode hk hb
    by_cases h3 : sealL (byteAt x 1) ((x.drop 5).take (lenF x)) ≠ x.take (lenF x + 9)
    · rw [if_pos h3] at hcode
      simp at hcode
    · rw [if_neg h3] at hk hb
      simp only at hk hb
      have h4 : sealL (byteAt x 1) ((x.drop 5).take (lenF x)) = x.take (lenF x + 9) := Classical.byContradiction h3
      rw [hk, hb, List.take_of_length_le (by omega)] at h4
      refine ⟨h4.symm, ?_⟩
      rw [← hb, List.length_take]
      omega
end Go.Proofs.YtokkmofcijfmiaaDoor

namespace Go.Proofs.YtokkmofcijfmiaaDoor
open Go.RowKit

/-- What Open comes to. -/
theorem open_size {b : List UInt8} : ((takeF b).2.2.1 = 0 → openF b = (0, [], 2)) ∧ ((takeF b).2.2.1 ≠ 0 → (takeF b).2.2.1 ≠ b.length → (takeF b).2.2.1 < b.length ∧ openF b = (0, [], 2)) ∧
    ((takeF b).2.2.1 = b.length → (takeF b).2.2.1 ≠ 0 → openF b = unsF b ∧ 9 ≤ b.length) := by
  refine ⟨fun h => ?_, fun h k => ?_, fun h k => ?_⟩
  · unfold openF
    rw [if_pos (.inr h)]
  · obtain ⟨_, _, _, q4, q5⟩ := takeF_size h
    refine ⟨by omega, ?_⟩
    unfold openF
    rw [if_pos (.inl k)]
  · obtain ⟨q1, q2, q3, q4, q5⟩ := takeF_size k
    have hu := uns_take q1 q2 q3 q4
    rw [List.take_of_length_le (by omega)] at hu
    refine ⟨?_, q1⟩
    unfold openF
    rw [if_neg (by omega), hu]

set_option maxRecDepth 100000 in
set_option maxHeartbeats 4000000 in
theorem open_any (A : Option Addr) (n c : Nat) (b : List UInt8) (w : World) (hL : LaidF w) (hn : b.length = n) (hc : n ≤ c) (hm : n ≤ 200000) (hr : RdB w.heap.size w A b) :
    Calls Tryd.prog 20 #[.slice A n c] w fun e w' => (∃ (A' : Option Addr) (c' : Nat), e = .returned (.tuple #[.agg #[.int .u8 ((openF b).1.toNat : Int), .slice A' (openF b).2.1.length c'], .int .i64 ((openF b).2.2 : Nat)]) ∧ OwnB w.heap.size w' A' (openF b).2.1.length c' (openF b).2.1) ∧ Below w.heap.size w w' := by
  have hO := @open_size b
  have HN := Lib.hid hn
  have gm : (n : Int) ≤ 200000 := by omega
  have hB1 := b0 w (.cells #[.int .u8 0, .slice none 0 0] 38)
  have hP := blk_new w #[.int .u8 0, .slice none 0 0] 38
  have FL := length_any A n c b (w.alloc (.cells #[.int .u8 0, .slice none 0 0] 38)) hn hc (hr.keep hB1 (Nat.le_refl _)) (by omega)
  have HA := Lib.hid (fun W (h : Below w.heap.size w W) v m (hv : ErrF v m) => fanswer_any v m W (hL.keep h) hv)
  have HU := Lib.hid (fun W (h : Below w.heap.size w W) (h9 : 9 ≤ n) => unseal_any A n c b W (hL.keep h) hn (hr.keep h (Nat.le_refl _)) h.size h9 hc (by omega))
  rw [hn] at hO
  generalize openF b = r at hO ⊢
  generalize unsF b = u at hO HU
  generalize (takeF b).2.2.2 = code at FL
  generalize (takeF b).2.2.1 = s at FL hO
  have HO := Lib.hid hO
  have HFL := Lib.hid FL
  clear hO FL hn
  go_enter Tryd.func20, Tryd.ntmps20
  go_wp2_with fail
  refine HFL.out.mono ?_
  rintro e w1 ⟨⟨v, rfl, hv⟩, hb1⟩
  replace hB1 := bt hB1 hb1
  replace hP := hP.keep hb1
  clear HFL hb1
  rcases hv with ⟨hs0, rfl⟩ | ⟨hs0, rfl, hv⟩
  · by_cases hsn : s = n
    · have e1 : ¬ (s : Int) < (n : Int) := by omega
      have R := Lib.hid (HO.out.2.2 hsn hs0)
      have FU := Lib.hid (HU.out w1 hB1 R.out.2)
      clear HU HO
      go_wp2_with fail
      refine FU.out.mono ?_
      rintro e w2 ⟨⟨A2, c2, v, rfl, hO2, hv⟩, hb2⟩
      have hlt1 := hP.lt
      have hz1 := hB1.size
      replace hB1 := bt hB1 hb2
      replace hP := hP.keep hb2
      have RU : Hid (r = u) := R.out.1
      obtain ⟨k, ins, m⟩ := u
      simp only at hO2 hv ⊢
      generalize hil : ins.length = il at hO2 ⊢
      have HIL := Lib.hid hil
      have hQ := blk_new w2 #[.int .u8 (k.toNat : Int), .slice A2 il c2] 38
      have hO3 := hO2.keep (b0 w2 (.cells #[.int .u8 (k.toNat : Int), .slice A2 il c2] 38))
      have hB3 := ba hB1 (.cells #[.int .u8 (k.toNat : Int), .slice A2 il c2] 38)
      have hP3 := hP.keep (b0 w2 (.cells #[.int .u8 (k.toNat : Int), .slice A2 il c2] 38))
      have hlt3 : w.heap.size < (w2.alloc (.cells #[.int .u8 (k.toNat : Int), .slice A2 il c2] 38)).heap.size := hP3.lt
      clear FU hb2 hil
      go_wp2_with fail
      go_region_with ((go_at_call 36; refine (HA.out _ (below_draws hB3 _) v m hv.err).mono ?_; rintro e w4 ⟨rfl, hb4⟩; have hP4 := Blk.keep (Blk.drew hP3 _) hb4; have hQ4 := Blk.keep (Blk.drew hQ _) hb4; have p0 := hP4.cell 0; have p1 := hP4.cell 1; have f0 := hP4.free 0; have f1 := hP4.free 1; have q0 := hQ4.cell 0; have q1 := hQ4.cell 1; have hO4 := OwnB.keep (OwnB.draws hO3 _) hb4; have hB4 := bt (below_draws hB3 _) hb4))
      all_goals
        go_wp2_with fail
        have hP8 := (hP4.set 0 (.int .u8 (k.toNat : Int))).set 1 (.slice A2 il c2)
        have hO8 := ((hO4.other hlt1 0 (.int .u8 (k.toNat : Int))).other hlt1 1 (.slice A2 il c2)).less hz1
        have hB8 : Below w.heap.size w ((w4.setCell ⟨w.heap.size, 0, none⟩ (.int .u8 (k.toNat : Int))).setCell ⟨w.heap.size, 1, none⟩ (.slice A2 il c2)) := (hB4.setCell (p := ⟨w.heap.size, 0, none⟩) (Nat.le_refl _) _).setCell (p := ⟨w.heap.size, 1, none⟩) (Nat.le_refl _) _
        generalize (w4.setCell ⟨w.heap.size, 0, none⟩ (.int .u8 (k.toNat : Int))).setCell ⟨w.heap.size, 1, none⟩ (.slice A2 il c2) = W8 at hP8 hO8 hB8 ⊢
        have p2 : W8.cell? ⟨w.heap.size, 0, none⟩ = some (.int .u8 (k.toNat : Int)) := hP8.cell 0
        have p3 : W8.cell? ⟨w.heap.size, 1, none⟩ = some (.slice A2 il c2) := hP8.cell 1
        refine bodyPost_ret (v := .tuple #[.agg #[.int .u8 (k.toNat : Int), .slice A2 il c2], .int .i64 (m : Nat)]) (by simp [results, Tryd.results20, go_sem, p2, p3]) rfl ?_
        rw [RU.out]
        simp only
        rw [HIL.out]
        exact ⟨⟨A2, c2, rfl, hO8⟩, hB8⟩
    · have R := Lib.hid (HO.out.2.1 hs0 hsn).2
      have e1 : (s : Int) < (n : Int) := by
        have := (HO.out.2.1 hs0 hsn).1
        omega
      have HV : Hid (ErrF (.iface 76 (.agg #[.int .i64 (n : Nat), .int .i64 2])) 2) := .inr (.inr ⟨_, rfl⟩)
      clear HU HO
      go_wp2_with fail
      refine (HA.out w1 hB1 _ 2 HV.out).mono ?_
      rintro e w4 ⟨rfl, hb4⟩
      have hP4 := hP.keep hb4
      have hB4 := bt hB1 hb4
      have p0 := hP4.cell 0
      have p1 := hP4.cell 1
      have f0 := hP4.free 0
      have f1 := hP4.free 1
      go_wp2_with fail
      have hP8 := (hP4.set 0 (.int .u8 0)).set 1 (.slice none 0 0)
      have hB8 : Below w.heap.size w ((w4.setCell ⟨w.heap.size, 0, none⟩ (.int .u8 0)).setCell ⟨w.heap.size, 1, none⟩ (.slice none 0 0)) := (hB4.setCell (p := ⟨w.heap.size, 0, none⟩) (Nat.le_refl _) _).setCell (p := ⟨w.heap.size, 1, none⟩) (Nat.le_refl _) _
      generalize (w4.setCell ⟨w.heap.size, 0, none⟩ (.int .u8 0)).setCell ⟨w.heap.size, 1, none⟩ (.slice none 0 0) = W8 at hP8 hB8 ⊢
      have p2 : W8.cell? ⟨w.heap.size, 0, none⟩ = some (.int .u8 0) := hP8.cell 0
      have p3 : W8.cell? ⟨w.heap.size, 1, none⟩ = some (.slice none 0 0) := hP8.cell 1
      refine bodyPost_ret (v := .tuple #[.agg #[.int .u8 0, .slice none 0 0], .int .i64 2]) (by simp [results, Tryd.results20, go_sem, p2, p3]) rfl ?_
      rw [R.out]
      exact ⟨⟨none, 0, rfl, OwnB.nil _ _⟩, hB8⟩
  · have R := Lib.hid (HO.out.1 hs0)
    rcases hv with rfl | ⟨l, rfl⟩
    · have HV : Hid (ErrF (.iface 92 (.int .i64 2)) 2) := .inr (.inl rfl)
      clear HU HO
      go_wp2_with fail
      refine (HA.out w1 hB1 _ 2 HV.out).mono ?_
      rintro e w4 ⟨rfl, hb4⟩
      have hP4 := hP.keep hb4
      have hB4 := bt hB1 hb4
      have p0 := hP4.cell 0
      have p1 := hP4.cell 1
      have f0 := hP4.free 0
      have f1 := hP4.free 1
      go_wp2_with fail
      have hP8 := (hP4.set 0 (.int .u8 0)).set 1 (.slice none 0 0)
      have hB8 : Below w.heap.size w ((w4.setCell ⟨w.heap.size, 0, none⟩ (.int .u8 0)).setCell ⟨w.heap.size, 1, none⟩ (.slice none 0 0)) := (hB4.setCell (p := ⟨w.heap.size, 0, none⟩) (Nat.le_refl _) _).setCell (p := ⟨w.heap.size, 1, none⟩) (Nat.le_refl _) _
      generalize (w4.setCell ⟨w.heap.size, 0, none⟩ (.int .u8 0)).setCell ⟨w.heap.size, 1, none⟩ (.slice none 0 0) = W8 at hP8 hB8 ⊢
      have p2 : W8.cell? ⟨w.heap.size, 0, none⟩ = some (.int .u8 0) := hP8.cell 0
      have p3 : W8.cell? ⟨w.heap.size, 1, none⟩ = some (.slice none 0 0) := hP8.cell 1
      refine bodyPost_ret (v := .tuple #[.agg #[.int .u8 0, .slice none 0 0], .int .i64 2]) (by simp [results, Tryd.results20, go_sem, p2, p3]) rfl ?_
      rw [R.out]
      exact ⟨⟨none, 0, rfl, OwnB.nil _ _⟩, hB8⟩
    · have HV : Hid (ErrF (.iface 76 (.agg #[.int .i64 l, .int .i64 2])) 2) := .inr (.inr ⟨l, rfl⟩)
      clear HU HO
      go_wp2_with fail
      refine (HA.out w1 hB1 _ 2 HV.out).mono ?_
      rintro e w4 ⟨rfl, hb4⟩
      have hP4 := hP.keep hb4
      have hB4 := bt hB1 hb4
      have p0 := hP4.cell 0
      have p1 := hP4.cell 1
      have f0 := hP4.free 0
      have f1 := hP4.free 1
      go_wp2_with fail
      have hP8 := (hP4.set 0 (.int .u8 0)).set 1 (.slice none 0 0)
      have hB8 : Below w.heap.size w ((w4.setCell ⟨w.heap.size, 0, none⟩ (.int .u8 0)).setCell ⟨w.heap.size, 1, none⟩ (.slice none 0 0)) := (hB4.setCell (p := ⟨w.heap.size, 0, none⟩) (Nat.le_refl _) _).setCell (p := ⟨w.heap.size, 1, none⟩) (Nat.le_refl _) _
      generalize (w4.setCell ⟨w.heap.size, 0, none⟩ (.int .u8 0)).setCell ⟨w.heap.size, 1, none⟩ (.slice none 0 0) = W8 at hP8 hB8 ⊢
      have p2 : W8.cell? ⟨w.heap.size, 0, none⟩ = some (.int .u8 0) := hP8.cell 0
      have p3 : W8.cell? ⟨w.heap.size, 1, none⟩ = some (.slice none 0 0) := hP8.cell 1
      refine bodyPost_ret (v := .tuple #[.agg #[.int .u8 0, .slice none 0 0], .int .i64 2]) (by simp [results, Tryd.results20, go_sem, p2, p3]) rfl ?_
      rw [R.out]
      exact ⟨⟨none, 0, rfl, OwnB.nil _ _⟩, hB8⟩
end Go.Proofs.YtokkmofcijfmiaaDoor
