/-
  WHAT IS PROVED: package pack's reader, its own small calls (Open, fail, must, take, next, sound): what they answer and leave of what the reader still has. Conditions: those typed in each theorem. · package pack's reader: Number, Int, count, Text, Flag, small: what they answer and leave, as the chapter says. Conditions: those typed in each theorem. · package pack's reader: count, Text, Flag, small: what they answer and leave, as the chapter says. Conditions: those typed in each theorem. · package pack's reader: answer (an error as a number), End: what they answer, as the chapter says. Conditions: those typed in each theorem.
-/
import Derived.Test.YtahmjiomkaibgaaDoorMRef
import Derived.Test.YtahmjiomkaibgaaDoorMMath
import Derived.Test.YtahmjiomkaibgaaDoorMWords
import Derived.WalkKit
import Derived.LaidEql
import Derived.Test.YtahmjiomkaibgaaDoorMPut
import Derived.Test.YtahmjiomkaibgaaDoorMTake
import Derived.Laws.BitsAllLaws
import Derived.Test.YtahmjiomkaibgaaDoorMErrs
namespace Go.Proofs.YtahmjiomkaibgaaDoor
open Go.RowKit

/-- An error that a reader may have: the sentinel, whose text lies at S, or one of the type 'wrong'. -/
def ErrP (S : Addr) (e : Value) : Prop := e = .iface 152 (.pointer (some S)) ∨ ∃ s : ByteArray, e = .iface 101 (.agg #[.string s, .int .i64 2])
/-- A reader's block: what it still has, or an error. -/
def RdrP (S : Addr) (W : World) (g : Nat) (st : Rest) : Prop := match st with
  | some b => b.length ≤ 1000000 ∧ ∃ s : ByteArray, s.data.toList = b ∧ Blk W g #[.string s, .nilIface] 95
  | none => ∃ e, ErrP S e ∧ Blk W g #[.string ⟨#[]⟩, e] 95
theorem blk_grown {W W' : World} {b : Nat} {cs : Array Value} {t : TypeId} {row : Option Nat} (h : Blk W b cs t) (hg : W.grownBy W' row) (hr : row ≠ some b) : Blk W' b cs t :=
  (hg.block b h.lt (fun e => hr e.symm)).trans h
theorem RdrP.lt {S : Addr} {W : World} {g : Nat} {st : Rest} (h : RdrP S W g st) : g < W.heap.size := by
  cases st with
  | none => obtain ⟨e, _, hb⟩ := h; exact hb.lt
  | some b => obtain ⟨_, s, _, hb⟩ := h; exact hb.lt
theorem RdrP.keep {S : Addr} {W W' : World} {g : Nat} {st : Rest} {row : Option Nat} (h : RdrP S W g st) (hg : W.grownBy W' row) (hr : row ≠ some g) : RdrP S W' g st := by
  cases st with
  | none => obtain ⟨e, he, hb⟩ := h; exact ⟨e, he, blk_grown hb hg hr⟩
  | some b => obtain ⟨hl, s, hs, hb⟩ := h; exact ⟨hl, s, hs, blk_grown hb hg hr⟩
theorem grown_below {W W' : World} (h : Below W.heap.size W W') (row : Option Nat) : W.grownBy W' row := ⟨h.os, h.tape, h.output, h.size, fun k hk _ => h.block k hk⟩
theorem below_grown {B : Nat} {W W' : World} {g : Nat} (h : W.grownBy W' (some g)) (hB : B ≤ g) (hz : B ≤ W.heap.size) : Below B W W' := ⟨h.os, h.tape, h.output, h.size, fun k hk => h.block k (by omega) (by intro e; injection e; omega)⟩
theorem RdrP.below {S : Addr} {W W' : World} {g : Nat} {st : Rest} (h : RdrP S W g st) (hb : Below W.heap.size W W') : RdrP S W' g st := h.keep (row := none) (grown_below hb none) (by simp)
theorem RdrP.str {S : Addr} {W : World} {g : Nat} {st : Rest} (h : RdrP S W g st) : ∃ s, W.cell? ⟨g, 0, none⟩ = some (.string s) := by
  cases st with
  | none => obtain ⟨e, _, hb⟩ := h; exact ⟨_, hb.cell 0⟩
  | some b => obtain ⟨_, s, _, hb⟩ := h; exact ⟨_, hb.cell 0⟩
theorem LaidP.grown {S : Addr} {W W' : World} {g : Nat} {st : Rest} (h : LaidP S W) (hR : RdrP S W g st) (hg : W.grownBy W' (some g)) : LaidP S W' := by
  obtain ⟨s, hs⟩ := hR.str
  have hne : ∀ k t v, W.cell? ⟨k, 0, none⟩ = some (.iface t v) → some k ≠ some g := by
    intro k t v hk e
    injection e with e
    subst e
    rw [hs] at hk
    injection hk with hk
    cases hk
  exact ⟨hg.cell h.1 (hne _ _ _ h.1), hg.cell h.2 (hne _ _ _ h.2)⟩
theorem set_grown {W : World} {g i : Nat} {v : Value} : W.grownBy (W.setCell ⟨g, i, none⟩ v) (some g) :=
  ⟨rfl, rfl, rfl, by simp, fun k _ hk => Below.heap_setCell W ⟨g, i, none⟩ v k (fun e => hk (by rw [e]))⟩
theorem no_off (a b : Nat) : (⟨a, b, none⟩ : Addr) = ⟨a, b, none⟩ := rfl

set_option maxRecDepth 100000 in
/-- A reader over bytes. -/
theorem rOpen_any (S : Addr) (A : Option Addr) (n c : Nat) (l : List UInt8) (w : World) (hl : l.length = n) (hn : n ≤ 1000000) (hr : RdB w.heap.size w A l) :
    Calls Tryd.prog 21 #[.slice A n c] w fun e w' => (∃ g : Nat, e = .returned (.pointer (some ⟨g, 0, none⟩)) ∧ RdrP S w' g (some l) ∧ w.heap.size ≤ g) ∧ Below w.heap.size w w' := by
  have hcv := conv_rd w A n c l hl hr
  go_enter Tryd.func21, Tryd.ntmps21
  go_wp2_with fail
  go_ret
  exact ⟨⟨w.heap.size, rfl, ⟨by omega, ⟨l.toArray⟩, rfl, blk_new w _ _⟩, Nat.le_refl _⟩, b0 w _⟩

theorem errP_nil {S : Addr} {e : Value} (h : ErrP S e) : ∃ t v, e = .iface t v := by
  rcases h with rfl | ⟨s, rfl⟩
  · exact ⟨_, _, rfl⟩
  · exact ⟨_, _, rfl⟩

set_option maxRecDepth 100000 in
/-- An error, if there is none yet. -/
theorem fail_any (S : Addr) (g : Nat) (st : Rest) (e0 : Value) (w : World) (hR : RdrP S w g st) (he : ErrP S e0) :
    Calls Tryd.prog 72 #[.pointer (some ⟨g, 0, none⟩), e0] w fun e w' => e = .returned (.tuple #[]) ∧ RdrP S w' g none ∧ w.grownBy w' (some g) := by
  cases st with
  | none =>
    obtain ⟨e1, he1, hb⟩ := hR
    have c0 := hb.cell 0
    have c1 := hb.cell 1
    rcases he1 with rfl | ⟨s, rfl⟩
    all_goals
      go_enter Tryd.func72, Tryd.ntmps72
      go_wp2_with fail
      go_end0
    · exact ⟨rfl, ⟨_, .inl rfl, hb⟩, World.grownBy.refl _ _⟩
    · exact ⟨rfl, ⟨_, .inr ⟨s, rfl⟩, hb⟩, World.grownBy.refl _ _⟩
  | some b =>
    obtain ⟨hl, s, hs, hb⟩ := hR
    have c0 := hb.cell 0
    have c1 := hb.cell 1
    have f0 := hb.free 0
    have f1 := hb.free 1
    obtain ⟨t1, v1, rfl⟩ := errP_nil he
    go_enter Tryd.func72, Tryd.ntmps72
    go_wp2_with fail
    go_end0
    exact ⟨rfl, ⟨_, he, (hb.set 0 _).set 1 _⟩, set_grown.trans set_grown⟩

set_option maxRecDepth 100000 in
/-- An error, if what is asked doesn't hold. -/
theorem must_any (S : Addr) (g : Nat) (st : Rest) (h : Bool) (why : ByteArray) (w : World) (hR : RdrP S w g st) :
    Calls Tryd.prog 52 #[.pointer (some ⟨g, 0, none⟩), .bool h, .string why] w fun e w' => e = .returned (.tuple #[]) ∧ RdrP S w' g (mustM h st) ∧ w.grownBy w' (some g) := by
  cases h with
  | true =>
    go_enter Tryd.func52, Tryd.ntmps52
    go_wp2_with fail
    go_end0
    exact ⟨rfl, hR, World.grownBy.refl _ _⟩
  | false =>
    go_enter Tryd.func52, Tryd.ntmps52
    go_wp2_with fail
    refine (fail_any S g st _ w hR (.inr ⟨why, rfl⟩)).mono ?_
    rintro e w1 ⟨rfl, hR1, hg1⟩
    go_wp2_with fail
    go_end0
    exact ⟨rfl, hR1, hg1⟩

theorem ext_take (s : ByteArray) (n : Nat) : (s.extract 0 n).data.toList = s.data.toList.take n := by
  rw [ByteArray.data_extract, Array.toList_extract]
  simp
theorem ext_drop (s : ByteArray) (n : Nat) : (s.extract n s.size).data.toList = s.data.toList.drop n := by
  have h : s.size = s.data.toList.length := Array.length_toList.symm
  rw [ByteArray.data_extract, Array.toList_extract, List.extract_eq_take_drop, h]
  exact List.take_of_length_le (by rw [List.length_drop]; exact Nat.le_refl _)

set_option maxRecDepth 100000 in
set_option maxHeartbeats 1000000 in
theorem take_any (S : Addr) (g : Nat) (st : Rest) (n : Nat) (w : World) (hL : LaidP S w) (hR : RdrP S w g st) (hn : n ≤ 9223372036854775807) :
    Calls Tryd.prog 60 #[.pointer (some ⟨g, 0, none⟩), .int .i64 n] w fun e w' => (∃ s : ByteArray, e = .returned (.string s) ∧ s.data.toList = (takeM st n).1) ∧ RdrP S w' g (takeM st n).2 ∧ w.grownBy w' (some g) := by
  have hS := hL.2
  cases st with
  | none =>
    have HR := Lib.hid hR
    obtain ⟨e1, he1, hb⟩ := hR
    obtain ⟨t1, v1, rfl⟩ := errP_nil he1
    have c0 := hb.cell 0
    have c1 := hb.cell 1
    by_cases h0 : n = 0
    · subst h0
      go_enter Tryd.func60, Tryd.ntmps60
      go_wp2_with fail
      go_ret
      exact ⟨⟨_, rfl, rfl⟩, HR.out, World.grownBy.refl _ _⟩
    · have hpos : (0 : Int) < (n : Int) := by omega
      go_enter Tryd.func60, Tryd.ntmps60
      go_wp2_with fail
      refine (fail_any S g none _ w HR.out (.inl rfl)).mono ?_
      rintro e w1 ⟨rfl, hR1, hg1⟩
      have HR1 := Lib.hid hR1
      obtain ⟨e2, he2, hb2⟩ := hR1
      obtain ⟨t2, v2, rfl⟩ := errP_nil he2
      have d0 := hb2.cell 0
      have d1 := hb2.cell 1
      go_wp2_with fail
      go_ret
      exact ⟨⟨_, rfl, rfl⟩, HR1.out, hg1⟩
  | some b =>
    have HR := Lib.hid hR
    obtain ⟨hl, s, hs, hb⟩ := hR
    have hsz : s.size = b.length := by rw [← hs]; exact Array.length_toList.symm
    have c0 := hb.cell 0
    have c1 := hb.cell 1
    by_cases hle : n ≤ b.length
    · have h1 : (n : Int) ≤ (s.size : Int) := by omega
      have f0 := hb.free 0
      go_enter Tryd.func60, Tryd.ntmps60
      go_wp2_with fail
      go_ret
      have e1 : takeM (some b) n = (b.take n, some (b.drop n)) := if_pos hle
      rw [e1]
      refine ⟨⟨_, rfl, by rw [ext_take, hs]⟩, ⟨by rw [List.length_drop]; omega, _, ?_, hb.set 0 _⟩, set_grown⟩
      rw [← hsz, ext_drop, hs]
    · have h1 : ¬ (n : Int) ≤ (s.size : Int) := by omega
      have e1 : takeM (some b) n = ([], none) := if_neg hle
      rw [e1]
      go_enter Tryd.func60, Tryd.ntmps60
      go_wp2_with fail
      refine (fail_any S g (some b) _ w HR.out (.inl rfl)).mono ?_
      rintro e w1 ⟨rfl, hR1, hg1⟩
      have HR1 := Lib.hid hR1
      obtain ⟨e2, he2, hb2⟩ := hR1
      obtain ⟨t2, v2, rfl⟩ := errP_nil he2
      have d0 := hb2.cell 0
      have d1 := hb2.cell 1
      go_wp2_with fail
      go_ret
      exact ⟨⟨_, rfl, rfl⟩, HR1.out, hg1⟩

set_option maxRecDepth 100000 in
theorem next_any (S : Addr) (g : Nat) (st : Rest) (w : World) (hL : LaidP S w) (hR : RdrP S w g st) :
    Calls Tryd.prog 59 #[.pointer (some ⟨g, 0, none⟩)] w fun e w' => e = .returned (.int .u8 ((nextM st).1.toNat : Int)) ∧ RdrP S w' g (nextM st).2 ∧ w.grownBy w' (some g) := by
  have hT := take_any S g st 1 w hL hR (by omega)
  have hcase : (∃ c t, st = some (c :: t)) ∨ (takeM st 1 = ([], none) ∧ nextM st = (0, none)) := by
    cases st with
    | none => exact .inr ⟨rfl, rfl⟩
    | some b =>
      cases b with
      | nil => exact .inr ⟨rfl, rfl⟩
      | cons c t => exact .inl ⟨c, t, rfl⟩
  rcases hcase with ⟨c, t, rfl⟩ | ⟨e1, e2⟩
  · have e1 : takeM (some (c :: t)) 1 = ([c], some t) := by simp [takeM]
    rw [e1] at hT
    show Calls _ _ _ _ fun e w' => e = .returned (.int .u8 (c.toNat : Int)) ∧ RdrP S w' g (some t) ∧ w.grownBy w' (some g)
    go_enter Tryd.func59, Tryd.ntmps59
    go_wp2_with fail
    refine hT.mono ?_
    rintro e w1 ⟨⟨s, rfl, hs⟩, hR1, hg1⟩
    have hs' : s.data = #[c] := Array.toList_inj.1 (by rw [hs])
    obtain ⟨d⟩ := s
    simp only at hs'
    subst hs'
    go_wp2_with fail
    go_ret
    exact ⟨rfl, hR1, hg1⟩
  · rw [e1] at hT
    rw [e2]
    go_enter Tryd.func59, Tryd.ntmps59
    go_wp2_with fail
    refine hT.mono ?_
    rintro e w1 ⟨⟨s, rfl, hs⟩, hR1, hg1⟩
    have hs' : s.data = #[] := Array.toList_inj.1 (by rw [hs])
    obtain ⟨d⟩ := s
    simp only at hs'
    subst hs'
    go_wp2_with fail
    go_ret
    exact ⟨rfl, hR1, hg1⟩
end Go.Proofs.YtahmjiomkaibgaaDoor

namespace Go.Proofs.YtahmjiomkaibgaaDoor
open Go.RowKit

set_option maxRecDepth 100000 in
theorem sound64_any (S : Addr) (g : Nat) (st : Rest) (x : Nat) (w : World) (hR : RdrP S w g st) :
    Calls Tryd.prog 61 #[.pointer (some ⟨g, 0, none⟩), .int .u64 x] w fun e w' => e = .returned (.int .u64 ((soundM 0 st x : Nat) : Int)) ∧ w' = w := by
  cases st with
  | none =>
    obtain ⟨e1, he1, hb⟩ := hR
    obtain ⟨t1, v1, rfl⟩ := errP_nil he1
    have c1 := hb.cell 1
    go_enter Tryd.func61, Tryd.ntmps61
    go_wp2_with fail
    go_ret
    exact ⟨rfl, rfl⟩
  | some b =>
    obtain ⟨hl, s, hs, hb⟩ := hR
    have c1 := hb.cell 1
    go_enter Tryd.func61, Tryd.ntmps61
    go_wp2_with fail
    go_ret
    exact ⟨rfl, rfl⟩

theorem ba_get (s : ByteArray) (k : Nat) (h : k < s.size) : s.data.toList[k]? = some s[k] := by
  rw [List.getElem?_eq_getElem (by simpa using h)]
  rfl
theorem byte_ne (c : UInt8) : ((c.toNat : Int) != 0) = (c != 0) := by
  rw [Bool.eq_iff_iff]
  simp only [bne_iff_ne, ne_eq]
  constructor
  · intro h e
    subst e
    exact h rfl
  · intro h e
    exact h (UInt8.toNat_inj.1 (by simpa using e))
set_option maxRecDepth 100000 in
theorem or_byte (a c : Nat) (ha : a * 256 + c < 18446744073709551616) (hc : c < 256) : bits .or .u64 (IntKind.u64.wrap ((a : Int) * 256)) (IntKind.u64.wrap (c : Int)) = ((a * 256 + c : Nat) : Int) := by
  have e : IntKind.u64.wrap ((a : Int) * 256) = ((a * 256 : Nat) : Int) := by
    rw [IntKind.wrap_u64]
    omega
  have e2 : IntKind.u64.wrap (c : Int) = (c : Int) := by
    rw [IntKind.wrap_u64]
    omega
  rw [e, e2, u64_or_nat _ _ (by omega) (by omega)]
  have h := Nat.shiftLeft_add_eq_or_of_lt (i := 8) (b := c) hc a
  simp only [Nat.shiftLeft_eq, Nat.reducePow] at h
  rw [h]
theorem grown_chain {a b c : World} {g : Nat} (h : a.grownBy b (some g)) (k : b.grownBy c (some g)) : a.grownBy c (some g) := h.trans k

set_option maxRecDepth 100000 in
set_option maxHeartbeats 400000 in
theorem rNumber_any (S : Addr) (g : Nat) (st : Rest) (most : Nat) (w : World) (hL : LaidP S w) (hR : RdrP S w g st) (hmost : most < 18446744073709551616) :
    Calls Tryd.prog 35 #[.pointer (some ⟨g, 0, none⟩), .int .u64 most] w fun e w' => e = .returned (.int .u64 ((numOf st most).1 : Nat)) ∧ RdrP S w' g (numOf st most).2 ∧ w.grownBy w' (some g) := by
  have hnum : numOf st most = (soundM 0 (mustM (decide (beV (digM st).1 ≤ most)) (mustM (headOk (digM st).1) (digM st).2)) (beV (digM st).1), mustM (decide (beV (digM st).1 ≤ most)) (mustM (headOk (digM st).1) (digM st).2)) := (number_is st most).symm
  rw [hnum]
  clear hnum
  have hlen := digM_len st
  have hlt := digM_lt st
  have hD : digM st = takeM (mustM (decide ((nextM st).1.toNat ≤ 8)) (nextM st).2) (nextM st).1.toNat := rfl
  have hN := next_any S g st w hL hR
  have HL := Lib.hid (fun W (hg : w.grownBy W (some g)) => hL.grown hR hg)
  generalize digM st = D at hlen hlt hD ⊢
  generalize nextM st = p at hD hN
  obtain ⟨c0, st1⟩ := p
  obtain ⟨d, st3⟩ := D
  dsimp only at hlen hlt hD hN ⊢
  have hc0 := c0.toNat_lt
  have HM := Lib.hid hmost
  have HD := Lib.hid hD
  clear hD hmost hL hR
  go_enter Tryd.func35, Tryd.ntmps35
  go_wp2_with fail
  refine hN.mono ?_
  rintro e w1 ⟨rfl, hR1, hg1⟩
  have hd : decide ((c0.toNat : Int) ≤ 8) = decide (c0.toNat ≤ 8) := decide_eq_decide.2 (by omega)
  go_wp2_with fail
  refine (must_any S g st1 _ _ w1 hR1).mono ?_
  rintro e w2 ⟨rfl, hR2, hg2⟩
  have hG2 := hg1.trans hg2
  have HT := Lib.hid (take_any S g _ c0.toNat w2 (HL.out w2 hG2) hR2 (by omega))
  clear hd hN hg1 hg2 hR1 hR2
  generalize (mustM (decide (c0.toNat ≤ 8)) st1) = st2 at HT HD
  go_wp2_with fail
  refine HT.out.mono ?_
  rintro e w3 ⟨⟨s, rfl, hs⟩, hR3, hg3⟩
  rw [← HD.out] at hs hR3
  dsimp only at hs hR3
  have hG3 := hG2.trans hg3
  clear hG2 hg3 HT HD hc0
  have hsz : s.size = d.length := by rw [← hs]; exact Array.length_toList.symm
  have hstep : ∀ K : Act → World → Prop, True := fun _ => trivial
  clear hstep
  have hcase : (d.isEmpty = true ∧ s.toList.isEmpty = true ∧ headOk d = true) ∨ (∃ h : 0 < s.size, s.toList.isEmpty = false ∧ (((s[0]'h).toNat : Int) != 0) = headOk d) := by
    cases d with
    | nil => exact .inl ⟨rfl, by rw [ByteArray.toList_eq, hs]; rfl, rfl⟩
    | cons c r =>
      have h : 0 < s.size := by rw [hsz]; simp
      refine .inr ⟨h, by rw [ByteArray.toList_eq, hs]; rfl, ?_⟩
      have hg := ba_get s 0 h
      rw [hs] at hg
      have hc : c = s[0] := by injection hg
      rw [← hc]
      exact byte_ne c
  have HS := Lib.hid hs
  have HZ := Lib.hid hsz
  have hs64 : (s.size : Int) ≤ 8 := by omega
  clear hs hsz
  rcases hcase with ⟨-, hE, hO⟩ | ⟨h0, hE, hO⟩
  all_goals
    go_wp2_with fail
    refine (must_any S g _ _ _ w3 hR3).mono ?_
    rintro e w4 ⟨rfl, hR4, hg4⟩
    have hG4 := hG3.trans hg4
    clear hG3 hg4 hR3
    go_wp2_with fail
    go_loopw [7, 30] (fun t u wr => ∃ j : Nat, j ≤ s.size ∧ t = .int .u64 (beV (d.take j) : Nat) ∧ u = .int .i64 j ∧ wr = w4) (fun _ u _ => s.size - (intOf u).toNat)
    case atStart => exact ⟨0, Nat.zero_le _, by simp [beV_nil], rfl, rfl⟩
    case round =>
      obtain ⟨j, hj, rfl, rfl, rfl⟩ := hrel
      by_cases hlt2 : j < s.size
      · have i1 : (0 : Int) ≤ (j : Int) := by omega
        have i2 : (j : Int) < (s.size : Int) := by omega
        have hg : d[j]? = some s[j] := by rw [← HS.out]; exact ba_get s j hlt2
        have hb := beV_take hg
        have hbl := beV_take_lt d (j + 1) (by omega)
        have HV := Lib.hid (or_byte (beV (d.take j)) s[j].toNat (by rw [← hb]; exact hbl) s[j].toNat_lt)
        rw [← hb] at HV
        clear hg hb hbl
        go_wp2_with fail
        exact ⟨⟨j + 1, by omega, by rw [HV.out], by go_num, trivial⟩, by simp [intOf]; omega⟩
      · have i2 : ¬ (j : Int) < (s.size : Int) := by omega
        have e : d.take j = d := List.take_of_length_le (by have := HZ.out; omega)
        rw [e]
        have hm : decide ((beV d : Int) ≤ (most : Int)) = decide (beV d ≤ most) := decide_eq_decide.2 (by omega)
        go_wp2_with fail
        refine (must_any S g _ _ _ _ hR4).mono ?_
        rintro e w5 ⟨rfl, hR5, hg5⟩
        go_wp2_with fail
        refine (sound64_any S g _ _ _ hR5).mono ?_
        rintro e w6 ⟨rfl, rfl⟩
        go_wp2_with fail
        go_ret
        first
          | exact ⟨rfl, hR5, hG4.trans hg5⟩
          | (rw [hO]; exact ⟨rfl, hR5, hG4.trans hg5⟩)

theorem numOf_lt (st : Rest) (most : Nat) : (numOf st most).1 ≤ most ∧ (numOf st most).1 < 18446744073709551616 := by
  cases st with
  | none => exact ⟨Nat.zero_le _, Nat.lt_of_lt_of_le Nat.zero_lt_one (by omega)⟩
  | some b =>
    unfold numOf
    dsimp only
    by_cases h : (takeNum b most).2 = 0
    · rw [if_pos h]
      exact ⟨Nat.zero_le _, Nat.lt_of_lt_of_le Nat.zero_lt_one (by omega)⟩
    · rw [if_neg h]
      have := num_take (show takeNum b most = ((takeNum b most).1, (takeNum b most).2) from rfl) h
      exact ⟨this.1, this.2.1⟩

set_option maxRecDepth 100000 in
/-- The int that stands as a number. -/
theorem unfolded_any (u : Nat) (w : World) (hu : u < 18446744073709551616) :
    Calls Tryd.prog 62 #[.int .u64 u] w fun e w' => e = .returned (.int .i64 (unzig u)) ∧ w' = w := by
  have hn := not_any ((u : Int) / 2) (by omega) (by omega)
  have HN := Lib.hid hn
  by_cases h : u % 2 = 1
  · have g0 : (u : Int) % 2 = 1 := by omega
    have hz : unzig u = -1 - ((u / 2 : Nat) : Int) := if_pos h
    rw [hz]
    clear hn hz
    go_enter Tryd.func62, Tryd.ntmps62
    go_wp2_with fail
    go_ret
    refine ⟨ret_i64 ?_, rfl⟩
    rw [HN.out]
  · have g0 : (u : Int) % 2 = 0 := by omega
    have hz : unzig u = ((u / 2 : Nat) : Int) := if_neg h
    rw [hz]
    clear hn hz
    go_enter Tryd.func62, Tryd.ntmps62
    go_wp2_with fail
    go_ret
    refine ⟨ret_i64 ?_, rfl⟩
    omega

set_option maxRecDepth 100000 in
theorem rInt_any (S : Addr) (g : Nat) (st : Rest) (w : World) (hL : LaidP S w) (hR : RdrP S w g st) :
    Calls Tryd.prog 36 #[.pointer (some ⟨g, 0, none⟩)] w fun e w' => e = .returned (.int .i64 (intOfR st).1) ∧ RdrP S w' g (intOfR st).2 ∧ w.grownBy w' (some g) := by
  have e : intOfR st = (unzig (numOf st 18446744073709551615).1, (numOf st 18446744073709551615).2) := by
    cases st with
    | none => rfl
    | some b =>
      unfold intOfR numOf takeIntB
      dsimp only
      by_cases h : (takeNum b 18446744073709551615).2 = 0
      · rw [if_pos h, if_pos h]
        rfl
      · rw [if_neg h, if_neg h]
  rw [e]
  have hN := rNumber_any S g st 18446744073709551615 w hL hR (by omega)
  have hlt := (numOf_lt st 18446744073709551615).2
  generalize numOf st 18446744073709551615 = p at hN hlt
  have HU := Lib.hid (fun W => unfolded_any p.1 W hlt)
  clear hlt e
  go_enter Tryd.func36, Tryd.ntmps36
  go_wp2_with fail
  refine hN.mono ?_
  rintro e w1 ⟨rfl, hR1, hg1⟩
  go_wp2_with fail
  refine (HU.out w1).mono ?_
  rintro e w2 ⟨rfl, rfl⟩
  go_wp2_with fail
  go_ret
  exact ⟨rfl, hR1, hg1⟩
end Go.Proofs.YtahmjiomkaibgaaDoor

namespace Go.Proofs.YtahmjiomkaibgaaDoor
open Go.RowKit

theorem text_is (st : Rest) (most : Nat) : takeM (numOf st most).2 (numOf st most).1 = textOf st most := by
  cases st with
  | none => rfl
  | some b =>
    unfold numOf textOf takeTextB
    dsimp only
    by_cases h : (takeNum b most).2 = 0
    · simp [h, takeM]
    · rw [if_neg h]
      have hk := num_take (show takeNum b most = ((takeNum b most).1, (takeNum b most).2) from rfl) h
      by_cases hl : (takeNum b most).1 ≤ b.length - (takeNum b most).2
      · have hl' : (takeNum b most).1 ≤ (b.drop (takeNum b most).2).length := by rw [List.length_drop]; exact hl
        have hn : ¬ b.length - (takeNum b most).2 < (takeNum b most).1 := by omega
        have h0 : ¬ (takeNum b most).2 + (takeNum b most).1 = 0 := by omega
        simp [takeM, h, hl, hn, List.drop_drop]
      · have hn : b.length - (takeNum b most).2 < (takeNum b most).1 := by omega
        simp [takeM, h, hl, hn]
theorem byte_one (c : UInt8) : ((c.toNat : Int) == 1) = (c == 1) := by
  rw [Bool.eq_iff_iff]
  simp only [beq_iff_eq]
  constructor
  · intro h
    exact UInt8.toNat_inj.1 (by show c.toNat = 1; omega)
  · rintro rfl
    rfl
theorem flag_is (st : Rest) : ((((nextM st).1.toNat : Int) == 1), mustM (decide ((nextM st).1.toNat ≤ 1)) (nextM st).2) = flagOf st := by
  cases st with
  | none => rfl
  | some b =>
    cases b with
    | nil => rfl
    | cons c t =>
      show (((c.toNat : Int) == 1), mustM (decide (c.toNat ≤ 1)) (some t)) = _
      rw [byte_one]
      unfold flagOf takeFlagB
      dsimp only
      by_cases h : 1 < c.toNat
      · have h1 : ¬ c.toNat ≤ 1 := by omega
        have h2 : (c == 1) = false := by
          rw [beq_eq_false_iff_ne]
          rintro rfl
          exact absurd h (by decide)
        simp [mustM, h1, h, h2]
      · have h1 : c.toNat ≤ 1 := by omega
        simp [mustM, h1, h]
theorem clone_any (s : ByteArray) (w : World) (hs : s.size ≤ 281474976710656) :
    Calls Tryd.prog 63 #[.string s] w fun e w' => e = .returned (.string s) ∧ Below w.heap.size w w' := by
  have h := Tryd.stringslite_Clone s w hs
  go_enter Tryd.func63, Tryd.ntmps63
  go_wp2_with fail
  refine h.mono ?_
  rintro e w1 ⟨rfl, hb⟩
  go_wp2_with fail
  go_ret
  exact ⟨rfl, hb⟩

set_option maxRecDepth 100000 in
/-- How many, at most most. -/
theorem count_any (S : Addr) (g : Nat) (st : Rest) (most : Nat) (w : World) (hL : LaidP S w) (hR : RdrP S w g st) (hm : most ≤ 1000000) :
    Calls Tryd.prog 56 #[.pointer (some ⟨g, 0, none⟩), .int .i64 most] w fun e w' => e = .returned (.int .i64 ((numOf st most).1 : Nat)) ∧ RdrP S w' g (numOf st most).2 ∧ w.grownBy w' (some g) := by
  have HL := Lib.hid (fun W (hg : w.grownBy W (some g)) => hL.grown hR hg)
  have hn := (numOf_lt st most).1
  have i0 : (0 : Int) ≤ (most : Int) := by omega
  have hmx : max (most : Int) 0 = (most : Int) := by omega
  have hw1 : IntKind.u64.wrap (most : Int) = (most : Int) := by
    rw [IntKind.wrap_u64]
    omega
  have hw2 : IntKind.i64.wrap ((numOf st most).1 : Int) = ((numOf st most).1 : Int) := by
    rw [IntKind.wrap_i64]
    omega
  go_enter Tryd.func56, Tryd.ntmps56
  go_wp2_with fail
  refine (must_any S g st _ _ w hR).mono ?_
  rintro e w1 ⟨rfl, hR1, hg1⟩
  have hR1' : RdrP S w1 g st := hR1
  go_wp2_with fail
  refine (rNumber_any S g st most w1 (HL.out w1 hg1) hR1' (by omega)).mono ?_
  rintro e w2 ⟨rfl, hR2, hg2⟩
  go_wp2_with fail
  go_ret
  exact ⟨rfl, hR2, hg1.trans hg2⟩

theorem textOf_len (S : Addr) (w : World) (g : Nat) (st : Rest) (most : Nat) (hR : RdrP S w g st) : (textOf st most).1.length ≤ 1000000 := by
  rw [← text_is]
  cases st with
  | none => exact Nat.zero_le _
  | some b =>
    obtain ⟨hl, _⟩ := hR
    have : ∀ (st1 : Rest) (n : Nat), (st1 = none ∨ ∃ k, st1 = some (b.drop k)) → (takeM st1 n).1.length ≤ b.length := by
      rintro st1 n (rfl | ⟨k, rfl⟩)
      · exact Nat.zero_le _
      · unfold takeM
        dsimp only
        by_cases h : n ≤ (b.drop k).length
        · rw [if_pos h, List.length_take, List.length_drop]
          omega
        · rw [if_neg h]
          exact Nat.zero_le _
    refine Nat.le_trans (this _ _ ?_) hl
    unfold numOf
    dsimp only
    by_cases h : (takeNum b most).2 = 0
    · rw [if_pos h]
      exact .inl rfl
    · rw [if_neg h]
      exact .inr ⟨_, rfl⟩

set_option maxRecDepth 100000 in
theorem rText_any (S : Addr) (g : Nat) (st : Rest) (most : Nat) (w : World) (hL : LaidP S w) (hR : RdrP S w g st) (hm : most ≤ 1000000) :
    Calls Tryd.prog 37 #[.pointer (some ⟨g, 0, none⟩), .int .i64 most] w fun e w' => (∃ s : ByteArray, e = .returned (.string s) ∧ s.data.toList = (textOf st most).1) ∧ RdrP S w' g (textOf st most).2 ∧ w.grownBy w' (some g) := by
  have HL := Lib.hid (fun W (hg : w.grownBy W (some g)) => hL.grown hR hg)
  have hsz := textOf_len S w g st most hR
  have hC := count_any S g st most w hL hR hm
  have hn := (numOf_lt st most).1
  rw [← text_is] at hsz ⊢
  generalize numOf st most = p at hC hn hsz ⊢
  clear hL hR
  go_enter Tryd.func37, Tryd.ntmps37
  go_wp2_with fail
  refine hC.mono ?_
  rintro e w1 ⟨rfl, hR1, hg1⟩
  go_wp2_with fail
  refine (take_any S g p.2 p.1 w1 (HL.out w1 hg1) hR1 (by omega)).mono ?_
  rintro e w2 ⟨⟨s, rfl, hs⟩, hR2, hg2⟩
  have hs2 : s.size ≤ 281474976710656 := by
    have : s.size = s.data.toList.length := Array.length_toList.symm
    rw [this, hs]
    omega
  go_wp2_with fail
  refine (clone_any s w2 hs2).mono ?_
  rintro e w3 ⟨rfl, hb3⟩
  go_wp2_with fail
  go_ret
  exact ⟨⟨s, rfl, hs⟩, hR2.below hb3, (hg1.trans hg2).trans (grown_below hb3 _)⟩

set_option maxRecDepth 100000 in
theorem rFlag_any (S : Addr) (g : Nat) (st : Rest) (w : World) (hL : LaidP S w) (hR : RdrP S w g st) :
    Calls Tryd.prog 38 #[.pointer (some ⟨g, 0, none⟩)] w fun e w' => e = .returned (.bool (flagOf st).1) ∧ RdrP S w' g (flagOf st).2 ∧ w.grownBy w' (some g) := by
  have hN := next_any S g st w hL hR
  rw [← flag_is]
  generalize nextM st = p at hN ⊢
  obtain ⟨c0, st1⟩ := p
  dsimp only at hN ⊢
  clear hL hR
  have hd : decide ((c0.toNat : Int) ≤ 1) = decide (c0.toNat ≤ 1) := decide_eq_decide.2 (by omega)
  go_enter Tryd.func38, Tryd.ntmps38
  go_wp2_with fail
  refine hN.mono ?_
  rintro e w1 ⟨rfl, hR1, hg1⟩
  go_wp2_with fail
  refine (must_any S g st1 _ _ w1 hR1).mono ?_
  rintro e w2 ⟨rfl, hR2, hg2⟩
  go_wp2_with fail
  go_ret
  exact ⟨rfl, hR2, hg1.trans hg2⟩

set_option maxRecDepth 100000 in
theorem small_any (S : Addr) (g : Nat) (st : Rest) (w : World) (hL : LaidP S w) (hR : RdrP S w g st) :
    Calls Tryd.prog 51 #[.pointer (some ⟨g, 0, none⟩)] w fun e w' => e = .returned (.int .i64 ((numOf st 9223372036854775807).1 : Nat)) ∧ RdrP S w' g (numOf st 9223372036854775807).2 ∧ w.grownBy w' (some g) := by
  have hN := rNumber_any S g st 9223372036854775807 w hL hR (by omega)
  have hn := (numOf_lt st 9223372036854775807).1
  have hw2 : IntKind.i64.wrap ((numOf st 9223372036854775807).1 : Int) = ((numOf st 9223372036854775807).1 : Int) := by
    rw [IntKind.wrap_i64]
    omega
  generalize numOf st 9223372036854775807 = p at hN hn hw2 ⊢
  have hn2 : (p.1 : Int) ≤ 9223372036854775807 := by omega
  clear hn
  go_enter Tryd.func51, Tryd.ntmps51
  go_wp2_with fail
  refine hN.mono ?_
  rintro e w1 ⟨rfl, hR1, hg1⟩
  go_wp2_with fail
  go_ret
  exact ⟨rfl, hR1, hg1⟩
end Go.Proofs.YtahmjiomkaibgaaDoor

namespace Go.Proofs.YtahmjiomkaibgaaDoor
open Go.RowKit

set_option maxRecDepth 100000 in
set_option maxHeartbeats 2000000 in
theorem answer_any (S : Addr) (e0 : Value) (w : World) (hL : LaidP S w) (he : ErrP S e0) :
    Calls Tryd.prog 55 #[e0] w fun e w' => e = .returned (.int .i64 2) ∧ Below w.heap.size w w' := by
  have hB := b0 w (.cells #[.string ⟨#[]⟩, .int .i64 0] 101)
  have hK := blk_new w #[.string ⟨#[]⟩, .int .i64 0] 101
  have hL0 := hL.keep hB
  have hS := hL0.2
  have hle := Nat.le_refl w.heap.size
  rcases he with rfl | ⟨s, rfl⟩
  · go_enter Tryd.func55, Tryd.ntmps55
    go_wp2_with fail
    generalize w.alloc (.cells #[.string ⟨#[]⟩, .int .i64 0] 101) = W at hB hK hL0 hS ⊢
    refine (is_same S W).mono ?_
    rintro e w1 ⟨rfl, rfl⟩
    go_wp2_with fail
    go_ret
    exact ⟨rfl, hB⟩
  · go_enter Tryd.func55, Tryd.ntmps55
    go_wp2_with fail
    generalize w.alloc (.cells #[.string ⟨#[]⟩, .int .i64 0] 101) = W at hB hK hL0 hS ⊢
    generalize hb : w.heap.size = b at hK ⊢
    refine (is_wrong _ S W).mono ?_
    rintro e w1 ⟨rfl, rfl⟩
    go_wp2_with fail
    refine (as_hit b s 2 _ _ w1 hL0.1 hK).mono ?_
    rintro e w2 ⟨rfl, hK2, hb2⟩
    have c1 := hK2.cell 1
    go_wp2_with fail
    go_ret
    exact ⟨rfl, hB.trans (by rw [hb]; exact hb2)⟩
set_option maxRecDepth 100000 in
theorem answer_nil (S : Addr) (w : World) (hL : LaidP S w) :
    Calls Tryd.prog 55 #[.nilIface] w fun e w' => e = .returned (.int .i64 0) ∧ Below w.heap.size w w' := by
  have hB := b0 w (.cells #[.string ⟨#[]⟩, .int .i64 0] 101)
  have hL0 := hL.keep hB
  have hS := hL0.2
  go_enter Tryd.func55, Tryd.ntmps55
  go_wp2_with fail
  generalize w.alloc (.cells #[.string ⟨#[]⟩, .int .i64 0] 101) = W at hB hL0 hS ⊢
  refine (is_nil S W).mono ?_
  rintro e w1 ⟨rfl, rfl⟩
  go_wp2_with fail
  refine (as_nil _ w1).mono ?_
  rintro e w2 ⟨rfl, rfl⟩
  go_wp2_with fail
  go_ret
  exact ⟨rfl, hB⟩

set_option maxRecDepth 100000 in
set_option maxHeartbeats 1000000 in
theorem rEnd_any (S : Addr) (g : Nat) (st : Rest) (w : World) (hL : LaidP S w) (hR : RdrP S w g st) :
    Calls Tryd.prog 25 #[.pointer (some ⟨g, 0, none⟩)] w fun e w' => e = .returned (.int .i64 (endOf st)) ∧ RdrP S w' g st ∧ w.grownBy w' (some g) := by
  have HR := Lib.hid hR
  cases st with
  | none =>
    obtain ⟨e1, he1, hb⟩ := hR
    obtain ⟨t1, v1, rfl⟩ := errP_nil he1
    have c0 := hb.cell 0
    have c1 := hb.cell 1
    go_enter Tryd.func25, Tryd.ntmps25
    go_wp2_with fail
    refine (answer_any S _ w hL he1).mono ?_
    rintro e w1 ⟨rfl, hb1⟩
    go_wp2_with fail
    go_ret
    exact ⟨rfl, HR.out.below hb1, grown_below hb1 _⟩
  | some b =>
    obtain ⟨hl, s, hs, hb⟩ := hR
    have c0 := hb.cell 0
    have c1 := hb.cell 1
    cases b with
    | nil =>
      have hE : s.toList.isEmpty = true := by rw [ByteArray.toList_eq, hs]; rfl
      go_enter Tryd.func25, Tryd.ntmps25
      go_wp2_with fail
      refine (answer_nil S w hL).mono ?_
      rintro e w1 ⟨rfl, hb1⟩
      go_wp2_with fail
      go_ret
      exact ⟨rfl, HR.out.below hb1, grown_below hb1 _⟩
    | cons c r =>
      have hE : s.toList.isEmpty = false := by rw [ByteArray.toList_eq, hs]; rfl
      go_enter Tryd.func25, Tryd.ntmps25
      go_wp2_with fail
      refine (answer_any S _ w hL (.inr ⟨_, rfl⟩)).mono ?_
      rintro e w1 ⟨rfl, hb1⟩
      go_wp2_with fail
      go_ret
      exact ⟨rfl, HR.out.below hb1, grown_below hb1 _⟩
end Go.Proofs.YtahmjiomkaibgaaDoor
