/-
  WHAT IS PROVED: slices.Clone and slices.Sort of strings in the words of owned rows; reach.least answers a row of its own of what is left (leastOf). Conditions: those typed in each theorem. · reach.least answers a row of its own of what is left of any list (leastOf). Conditions: those typed in the theorem. · strings.Clone answers the same text. Conditions: those typed in the theorem. · strings.Clone answers the same text; fresh.Texts answers the same texts in a row of its own. Conditions: those typed in each theorem.
-/
import Derived.Test.YtokkmofcijfmiaaDoorGQ0
import Derived.Test.YtokkmofcijfmiaaDoorGQ3
import Derived.Lib.OwnBridge
import Derived.Sort.Grow
import Derived.Test.YtokkmofcijfmiaaDoorBase
import Derived.Test.YtokkmofcijfmiaaDoorShelf
import Derived.Laws.MakeOwn
namespace Go.Proofs.YtokkmofcijfmiaaDoor
open Go.RowKit

/-- A row of strings of the call's own that a call answered. -/
def AnsO (base : Nat) (R : List (List UInt8)) (e : Ending) (w' : World) : Prop :=
  ∃ (A : Option Addr) (c : Nat) (r : List ByteArray), e = .returned (.slice A R.length c) ∧ OwnS base w' A R.length c r ∧ dL r = R
theorem rd_nil_len {B : Nat} {W : World} {l : List ByteArray} (h : RdS B W none l) : l = [] := by
  cases l with
  | nil => rfl
  | cons x r =>
    obtain ⟨ad, he, _⟩ := h 0 x rfl
    cases he

set_option maxHeartbeats 1000000 in
theorem clone_any (A : Option Addr) (n c : Nat) (l : List ByteArray) (w : World) (hn : l.length = n) (hr : RdS w.heap.size w A l) (hm : n ≤ 1099511627776) :
    Calls Tryd.prog 61 #[.slice A n c] w fun e w' => (∃ (A' : Option Addr) (c' : Nat), e = .returned (.slice A' n c') ∧ OwnS w.heap.size w' A' n c' l) ∧ Below w.heap.size w w' := by
  obtain ⟨i0, hi0, hz0, hz1, hz2⟩ := info_parts str_info
  have q : ∀ (w : World) (a : Option Addr) (n c n' c' : Nat), (binOp .eql 22 (.slice a n c) (.slice none n' c')).run Tryd.prog w = .ok (.bool a.isNone) w := fun w a n c n' c' => Lib.run_eql_slice_nil w _ _ a n c n' c' Tryd.underlying22
  cases A with
  | none =>
    have h0 := rd_nil_len hr
    subst h0
    subst hn
    go_enter Tryd.func61, Tryd.ntmps61
    go_wp2_with fail
    go_ret
    exact ⟨⟨none, 0, rfl, OwnS.nil _ _⟩, Below.refl _ _⟩
  | some ad =>
    have HN := Lib.hid hn
    clear hn
    have hown : OwnS w.heap.size (w.alloc (.cells #[] 9)) (some ⟨w.heap.size, 0, none⟩) 0 0 [] := OwnS.lit w #[] [] rfl rfl (Nat.le_refl _) (Nat.zero_le _)
    have hr2 := hr.keep (b0 w (.cells #[] 9)) (Nat.le_refl _)
    go_enter Tryd.func61, Tryd.ntmps61
    go_wp2_with (at_builtin; refine wpList_apS (l := []) (l2 := l) (B := w.heap.size) rfl _ _ rfl Tryd.underlying22 Tryd.underlying22 hi0 hz0 hz1 hz2 rfl rfl hown hr2 HN.out n (Nat.zero_add n) (by omega) ?b ?_)
    case b => simp
    intro A' c' w' k1 k2 k3
    go_wp2_with fail
    go_ret
    exact ⟨⟨A', c', rfl, k1⟩, (b0 _ _).trans k2⟩

theorem below_grows (w : World) (os : Array Obj) : Below w.heap.size w (Sort.grow w os) :=
  ⟨rfl, rfl, rfl, by show w.heap.size ≤ (w.heap ++ os).size; rw [Array.size_append]; omega, fun _ hj => Sort.heap_grow_old w os hj⟩
/-- Their texts. -/
def baL (s : List (List UInt8)) : List ByteArray := s.map fun b => ⟨b.toArray⟩
theorem dL_baL (s : List (List UInt8)) : dL (baL s) = s := by
  unfold baL
  rw [dL, List.map_map]
  conv => rhs; rw [← List.map_id s]
  apply List.map_congr_left
  intro x _
  simp
theorem strV_enc (s : List (List UInt8)) : s.map encStr = strV (baL s) := by
  unfold baL
  rw [strV, List.map_map]
  rfl
theorem strV_dL (l : List ByteArray) : strV l = (dL l).map encStr := (Lib.map_encStr l).symm

theorem sort_any {base : Nat} (A : Option Addr) (n c : Nat) (l : List ByteArray) (w : World) (h : OwnS base w A n c l) (hm : n ≤ 1099511627776) (hb : base ≤ w.heap.size) :
    Calls Tryd.prog 62 #[.slice A n c] w fun e w' => e = .returned (.tuple #[]) ∧ OwnS base w' A n c (baL (sortL (dL l))) ∧ Below base w w' := by
  have hl := h.len
  by_cases h0 : n = 0
  · subst h0
    have e0 : l = [] := List.length_eq_zero_iff.1 hl
    subst e0
    refine (Tryd.slices_Sort_string_none A c w).mono ?_
    rintro e w' ⟨rfl, rfl⟩
    refine ⟨rfl, ?_, Below.refl _ _⟩
    have e1 : baL (sortL (dL [])) = [] := by simp [sortL, baL]
    rw [e1]
    exact h
  · have hown : w.ownsRow base 9 1 (.slice A n c) n ((dL l).map encStr) := by rw [← strV_dL]; exact h
    have hne : (Value.slice A n c) ≠ .slice none 0 0 := by
      intro e
      injection e with _ e2 _
      exact h0 e2
    obtain ⟨g, cap, hv, hbg, hg, hnc, hcm, hlen, hH⟩ := Lib.holds_of_ownsRow hown hne
    injection hv with hv1 _ hv3
    subst hv1
    subst hv3
    have hs : (dL l).length < 4611686018427387904 := by rw [hlen]; omega
    have hcall := Tryd.slices_Sort_string g 0 c (dL l) w hH hg hs
    rw [hlen] at hcall
    refine hcall.mono ?_
    rintro e w' ⟨rfl, k, os, rfl⟩
    have hput := Lib.ownsRow_putRow (q := k) (k := n) (ys := sortL (dL l)) hown (by rw [sortL_len]; exact hlen) (Nat.le_refl _)
    rw [List.take_of_length_le (by rw [sortL_len]; omega), strV_enc] at hput
    have hbel := Lib.below_putRow (enc := encStr) (B := base) (w0 := w) (w := w) (g := g) (q := k) (d := (sortL (dL l)).toArray) (Below.refl _ _) hbg
    have hgrow := below_grows (Sort.putRow encStr (Sort.ahead w k) g 0 (sortL (dL l)).toArray) os
    have hput2 : OwnS base (Sort.putRow encStr (Sort.ahead w k) g 0 (sortL (dL l)).toArray) (some ⟨g, 0, none⟩) n c (baL (sortL (dL l))) := hput
    exact ⟨rfl, hput2.keep hgrow, hbel.trans (hgrow.mono (Nat.le_trans hb hbel.size))⟩
theorem baL_len (s : List (List UInt8)) : (baL s).length = s.length := by simp [baL]
theorem baL_get {s : List (List UInt8)} {k : Nat} (h : k < s.length) : (baL s)[k]? = some ⟨s[k].toArray⟩ := by simp [baL, h]
end Go.Proofs.YtokkmofcijfmiaaDoor

namespace Go.Proofs.YtokkmofcijfmiaaDoor
open Go.RowKit

theorem least_take {S : List (List UInt8)} {k : Nat} {x : List UInt8} (h : S[k]? = some x) : leastL (S.take (k + 1)) = leastStep (leastL (S.take k)) x := by
  obtain ⟨hk, rfl⟩ := List.getElem?_eq_some_iff.1 h
  rw [List.take_succ_eq_append_getElem hk, leastL_snoc]
theorem least_first {S : List (List UInt8)} {k : Nat} {x : List UInt8} {L : List ByteArray} (hL : dL L = leastL (S.take k)) (h : S[k]? = some x) (y : ByteArray) (hy : y.data.toList = x) (h0 : L = []) : dL (L ++ [y]) = leastL (S.take (k + 1)) := by
  rw [least_take h, ← hL, h0]
  simp [leastStep, hy]
theorem least_put {S : List (List UInt8)} {k : Nat} {x : List UInt8} {L : List ByteArray} (hL : dL L = leastL (S.take k)) (h : S[k]? = some x) (y : ByteArray) (hy : y.data.toList = x) {q : ByteArray} (hq : L[L.length - 1]? = some q) (hb : begB q.data.toList x = false) : dL (L ++ [y]) = leastL (S.take (k + 1)) := by
  rw [least_take h, ← hL]
  unfold leastStep
  rw [dL_len, dL_at hq, if_pos (Or.inr hb)]
  simp [hy]
theorem least_drop {S : List (List UInt8)} {k : Nat} {x : List UInt8} {L : List ByteArray} (hL : dL L = leastL (S.take k)) (h : S[k]? = some x) {q : ByteArray} (hq : L[L.length - 1]? = some q) (hb : begB q.data.toList x = true) : dL L = leastL (S.take (k + 1)) := by
  rw [least_take h, ← hL]
  unfold leastStep
  have h0 : dL L ≠ [] := by
    intro e
    have e2 : L = [] := List.map_eq_nil_iff.1 e
    rw [e2] at hq
    cases hq
  rw [dL_len, dL_at hq, if_neg (by simp [h0, hb])]
theorem hasPrefix_is (s p : ByteArray) (w : World) (b : Bool) (hb : begB p.data.toList s.data.toList = b) :
    Calls Tryd.prog 63 #[.string s, .string p] w fun e w' => e = .returned (.bool b) ∧ w = w' := by
  subst hb
  exact (Tryd.strings_HasPrefix s p w).mono fun _ _ h => ⟨h.1, h.2.symm⟩

set_option maxRecDepth 100000 in
set_option maxHeartbeats 2000000 in
theorem least_any (A : Option Addr) (n c : Nat) (l : List ByteArray) (w : World) (hn : l.length = n) (hr : RdS w.heap.size w A l) (hm : n ≤ 1000000) :
    Calls Tryd.prog 42 #[.slice A n c] w fun e w' => AnsO w.heap.size (leastOf (dL l)) e w' ∧ Below w.heap.size w w' := by
  obtain ⟨i0, hi0, hz0, hz1, hz2⟩ := info_parts str_info
  have HN := Lib.hid hn
  go_enter Tryd.func42, Tryd.ntmps42
  go_wp2_with fail
  refine (clone_any A n c l w hn hr (by omega)).mono ?_
  rintro e w1 ⟨⟨A1, c1, rfl, hO1⟩, hb1⟩
  clear hn
  go_wp2_with fail
  refine (sort_any A1 n c1 l w1 hO1 (by omega) hb1.size).mono ?_
  rintro e w2 ⟨rfl, hO2, hb2⟩
  have hB2 := hb1.trans hb2
  clear hO1 hb1 hb2 hr
  have HS : Hid ((sortL (dL l)).length = n) := by
    show _ = _
    rw [sortL_len, dL_len, HN.out]
  have HL : Hid (leastOf (dL l) = leastL (sortL (dL l))) := rfl
  generalize sortL (dL l) = S at HS hO2 HL
  have hrS := hO2.rd
  have hs2 := hB2.size
  clear hO2
  go_wp2_with fail
  go_loopw [4, 14] (fun u i wr => ∃ (k m : Nat) (A2 : Option Addr) (c2 : Nat) (L : List ByteArray), k ≤ n ∧ i = .int .i64 k ∧ u = .slice A2 m c2 ∧ OwnS w2.heap.size wr A2 m c2 L ∧ Hid (dL L = leastL (S.take k)) ∧ m ≤ k ∧ Below w2.heap.size w2 wr) (fun _ i _ => n - (intOf i).toNat)
  case atStart => exact ⟨0, 0, none, 0, [], Nat.zero_le _, rfl, rfl, OwnS.nil _ _, rfl, Nat.le_refl _, Below.refl _ _⟩
  case round =>
    obtain ⟨k, m, A2, c2, L, hk, rfl, rfl, hO, hA, hmk, hB⟩ := hrel
    have hL := hO.len
    by_cases hlt : k < n
    · have hkS : k < S.length := by have := HS.out; omega
      obtain ⟨ad, hA1, _, hc⟩ := (hrS.keep hB (Nat.le_refl _)) k _ (baL_get hkS)
      subst hA1
      have HX : Hid (S[k]? = some S[k]) := List.getElem?_eq_getElem hkS
      have i1 : (0 : Int) ≤ (k : Int) := by omega
      have i2 : (k : Int) < (n : Int) := by omega
      generalize S[k] = xb at hc HX
      have HY : Hid ((⟨xb.toArray⟩ : ByteArray).data.toList = xb) := rfl
      generalize (⟨xb.toArray⟩ : ByteArray) = y at hc HY
      clear hkS
      have hB0 := hB.alloc hB.size (.cells #[.string y] 9)
      by_cases h0 : m = 0
      · subst h0
        have HA2 := Lib.hid (least_first hA.out HX.out y HY.out (List.length_eq_zero_iff.1 hL))
        clear hA hL
        have hO3 := hO.keep (b0 wr (.cells #[.string y] 9))
        go_wp2_with (at_builtin; refine wpList_apS (l := L) (l2 := [y]) (B := wr.heap.size + 1) rfl _ _ rfl Tryd.underlying22 Tryd.underlying22 hi0 hz0 hz1 hz2 rfl rfl hO3 (rdOne wr y _ rfl) rfl 1 rfl (by omega) ?b ?_)
        case b => have := hB.size; simp; omega
        intro A' c' w' k1 k2 k3
        have hB3 := hB0.trans k2
        go_wp2_with fail
        go_roundw
        case rel => exact ⟨k + 1, 1, A', c', L ++ [y], by omega, by go_num, rfl, k1, HA2, by omega, hB3⟩
        case measure => simp [intOf]; omega
      · obtain ⟨q, hq⟩ := get_ex (show m - 1 < L.length by omega)
        obtain ⟨ad2, hA2, _, hc2⟩ := hO.rd _ q hq
        subst hA2
        have HQ : Hid (L[L.length - 1]? = some q) := by
          show _ = _
          rw [hL]
          exact hq
        clear hq
        obtain ⟨m1, rfl⟩ : ∃ m1, m = m1 + 1 := ⟨m - 1, by omega⟩
        rw [Nat.add_sub_cancel] at hc2
        have j0 : ((m1 + 1 : Nat) : Int) - 1 = (m1 : Int) := by omega
        have j1 : (0 : Int) ≤ (m1 : Int) := by omega
        have j2 : (m1 : Int) < ((m1 + 1 : Nat) : Int) := by omega
        have j3 : ¬ ((m1 + 1 : Nat) : Int) = 0 := by omega
        cases hb : begB q.data.toList y.data.toList with
        | true =>
          have HB := Lib.hid hb
          have HA2 := Lib.hid (least_drop hA.out HX.out HQ.out (by rw [← HY.out]; exact hb))
          clear hb hA hL
          go_wp2_with (go_at_call 63; refine (hasPrefix_is _ _ _ true HB.out).mono ?_; rintro e w3 ⟨rfl, rfl⟩)
          go_roundw
          case rel => exact ⟨k + 1, m1 + 1, _, c2, L, by omega, by go_num, rfl, hO, HA2, by omega, hB⟩
          case measure => simp [intOf]; omega
        | false =>
          have HB := Lib.hid hb
          have HA2 := Lib.hid (least_put hA.out HX.out y HY.out HQ.out (by rw [← HY.out]; exact hb))
          clear hb hA hL
          have hO3 := hO.keep (b0 wr (.cells #[.string y] 9))
          go_wp2_with first
            | (go_at_call 63; refine (hasPrefix_is _ _ _ false HB.out).mono ?_; rintro e w3 ⟨rfl, rfl⟩)
            | (at_builtin; refine wpList_apS (l := L) (l2 := [y]) (B := wr.heap.size + 1) rfl _ _ rfl Tryd.underlying22 Tryd.underlying22 hi0 hz0 hz1 hz2 rfl rfl hO3 (rdOne wr y _ rfl) rfl (m1 + 1 + 1) rfl (by omega) ?b ?_)
          case b => have := hB.size; simp; omega
          intro A' c' w' k1 k2 k3
          have hB3 := hB0.trans k2
          go_wp2_with fail
          go_roundw
          case rel => exact ⟨k + 1, m1 + 1 + 1, A', c', L ++ [y], by omega, by go_num, rfl, k1, HA2, by omega, hB3⟩
          case measure => simp [intOf]; omega
    · have hq : ¬ (k : Int) < (n : Int) := by omega
      have HA2 : Hid (dL L = leastOf (dL l)) := by
        show _ = _
        rw [HL.out, hA.out, List.take_of_length_le (by have := HS.out; omega)]
      have HM : Hid (m = (leastOf (dL l)).length) := by
        show _ = _
        rw [← HA2.out, dL_len, hL]
      clear hA hL HL
      go_wp2_with fail
      go_ret
      refine ⟨⟨A2, c2, L, by rw [← HM.out]; rfl, by rw [← HM.out]; exact hO.less hs2, HA2.out⟩, hB2.trans (hB.mono hs2)⟩
end Go.Proofs.YtokkmofcijfmiaaDoor

namespace Go.Proofs.YtokkmofcijfmiaaDoor
open Go.RowKit

theorem sclone_any (s : ByteArray) (w : World) (hs : s.size ≤ 1000000) :
    Calls Tryd.prog 51 #[.string s] w fun e w' => e = .returned (.string s) ∧ Below w.heap.size w w' := by
  go_enter Tryd.func51, Tryd.ntmps51
  go_wp2_with fail
  refine (Tryd.stringslite_Clone s w (by omega)).mono ?_
  rintro e w2 ⟨rfl, hb2⟩
  go_wp2_with fail
  go_ret
  exact ⟨rfl, hb2⟩

end Go.Proofs.YtokkmofcijfmiaaDoor

namespace Go.Proofs.YtokkmofcijfmiaaDoor
open Go.RowKit

theorem made_one (v : Value) (n : Nat) : (madeCells #[v] n).toList = List.replicate n v := by
  unfold madeCells
  apply List.ext_getElem
  · simp
  · intro i h1 h2
    simp [Nat.mod_one]
theorem run_makeS (W : World) (n : Nat) (hn : n ≤ 1000000) :
    (Instr.makeSlice 22 (.int .i64 (n : Int)) (.int .i64 (n : Int))).run Tryd.prog W = .ok (.slice (some ⟨W.heap.size, 0, none⟩) n n) (W.alloc (.cells (madeCells #[.string ⟨#[]⟩] n) 9)) := by
  obtain ⟨i0, hi0, hz0, hz1, hz2⟩ := info_parts str_info
  have h := run_make W 22 9 i0 (.string ⟨#[]⟩) Tryd.underlying22 hi0 hz0 .i64 .i64 (n : Int) (n : Int) (by omega) (Int.le_refl _) (by rw [hz2]; omega) (by omega)
  rw [Int.toNat_natCast, hz1, Nat.mul_one] at h
  exact h
theorem ownMade (w : World) (n : Nat) (hn : n ≤ 1000000) : OwnS w.heap.size (w.alloc (.cells (madeCells #[.string ⟨#[]⟩] n) 9)) (some ⟨w.heap.size, 0, none⟩) n n (List.replicate n ⟨#[]⟩) :=
  OwnS.lit w _ _ (by rw [made_one, strV, List.map_replicate]) (by simp) (Nat.le_refl _) (by unfold maxLen; omega)
/-- What stands there behind k rounds. -/
def freshTo (l : List ByteArray) (k : Nat) : List ByteArray := l.take k ++ List.replicate (l.length - k) ⟨#[]⟩
theorem freshTo_zero (l : List ByteArray) : freshTo l 0 = List.replicate l.length ⟨#[]⟩ := by simp [freshTo]
theorem freshTo_all (l : List ByteArray) {k : Nat} (h : k = l.length) : freshTo l k = l := by subst h; simp [freshTo]
theorem freshTo_set {l : List ByteArray} {k : Nat} {x : ByteArray} (h : l[k]? = some x) : (freshTo l k).set k x = freshTo l (k + 1) := by
  obtain ⟨hk, rfl⟩ := List.getElem?_eq_some_iff.1 h
  unfold freshTo
  rw [List.set_append_right _ _ (by rw [List.length_take]; omega), List.length_take, Nat.min_eq_left (by omega), Nat.sub_self]
  obtain ⟨d, hd⟩ : ∃ d, l.length - k = d + 1 := ⟨l.length - k - 1, by omega⟩
  rw [hd, show l.length - (k + 1) = d by omega, List.replicate_succ, List.set_cons_zero, List.take_succ_eq_append_getElem hk, List.append_assoc]
  rfl
theorem OwnS.cellAt {base : Nat} {W : World} {g n c : Nat} {l : List ByteArray} (h : OwnS base W (some ⟨g, 0, none⟩) n c l) {k : Nat} (hk : k < n) : ∃ v, W.cell? ⟨g, k, none⟩ = some v := by
  obtain ⟨ad, he, _, hc⟩ := h.rd.at_ (show k < l.length by rw [h.len]; exact hk)
  injection he with he
  subst he
  have e : (Addr.mk g 0 none).add k = Addr.mk g k none := by unfold Addr.add; split <;> simp_all
  rw [e] at hc
  exact ⟨_, hc⟩

theorem en_eachS : ∀ args w, (callFunc 50 args).run Tryd.prog w = .ok (.enter 50 args) w := enters_of Tryd.func50 (by kernel_rfl) rfl
set_option maxHeartbeats 2000000 in
theorem eachS_any (A : Option Addr) (n c : Nat) (l : List ByteArray) (w : World) (hn : l.length = n) (hr : RdS w.heap.size w A l) (hm : n ≤ 1000000) (hs : ∀ x, x ∈ l → x.size ≤ 1000000) :
    Calls Tryd.prog 50 #[.slice A n c, .func (.func 51) #[] #[]] w fun e w' => (∃ g, e = .returned (.slice (some ⟨g, 0, none⟩) n n) ∧ OwnS w.heap.size w' (some ⟨g, 0, none⟩) n n l) ∧ Below w.heap.size w w' := by
  have hmk : ∀ W : World, (Instr.makeSlice 22 (.int .i64 (n : Int)) (.int .i64 (n : Int))).run Tryd.prog W = .ok (.slice (some ⟨W.heap.size, 0, none⟩) n n) (W.alloc (.cells (madeCells #[.string ⟨#[]⟩] n) 9)) := fun W => run_makeS W n hm
  have HO := Lib.hid (ownMade w n hm)
  have hBa := b0 w (.cells (madeCells #[.string ⟨#[]⟩] n) 9)
  have HN := Lib.hid hn
  have HS := Lib.hid hs
  clear hn hs
  go_enter Tryd.func50, Tryd.ntmps50
  go_wp2_with fail
  generalize w.alloc (.cells (madeCells #[.string ⟨#[]⟩] n) 9) = wa at HO hBa ⊢
  clear hmk
  go_loopw [6, 7, 13] (fun _ _ i wr => ∃ k : Nat, k ≤ n ∧ i = .int .i64 k ∧ OwnS w.heap.size wr (some ⟨w.heap.size, 0, none⟩) n n (freshTo l k) ∧ Below w.heap.size w wr) (fun _ _ i _ => n - (intOf i).toNat)
  case atStart => exact ⟨0, Nat.zero_le _, rfl, by rw [freshTo_zero, HN.out]; exact HO.out, hBa⟩
  case round =>
    obtain ⟨k, hk, rfl, hO, hB⟩ := hrel
    clear HO hBa
    by_cases hlt : k < n
    · obtain ⟨x, hx⟩ := get_ex (show k < l.length by have := HN.out; omega)
      obtain ⟨ad, rfl, _, hc⟩ := (hr.keep hB (Nat.le_refl _)) k x hx
      have i1 : (0 : Int) ≤ (k : Int) := by omega
      have i2 : (k : Int) < (n : Int) := by omega
      have HX := Lib.hid hx
      have hxs := HS.out x (List.mem_of_getElem? hx)
      clear hx
      go_wp2_with fail
      refine (sclone_any _ _ hxs).mono ?_
      rintro e w2 ⟨rfl, hb2⟩
      obtain ⟨v0, hc0⟩ := (hO.keep hb2).cellAt hlt
      have hf0 := (hO.keep hb2).free k
      go_wp2_with fail
      go_roundw
      case rel =>
        refine ⟨k + 1, by omega, by go_num, ?_, (bt hB hb2).setCell (p := ⟨w.heap.size, k, none⟩) (Nat.le_refl _) _⟩
        rw [← freshTo_set HX.out]
        exact (hO.keep hb2).set k x
      case measure => simp [intOf]; omega
    · have hq : ¬ (k : Int) < (n : Int) := by omega
      have hO2 : OwnS w.heap.size wr (some ⟨w.heap.size, 0, none⟩) n n l := by rw [freshTo_all l (k := k) (by have := HN.out; omega)] at hO; exact hO
      clear hO
      go_wp2_with fail
      go_ret
      exact ⟨⟨_, rfl, hO2⟩, hB⟩
theorem freshTexts_any (A : Option Addr) (n c : Nat) (l : List ByteArray) (w : World) (hn : l.length = n) (hr : RdS w.heap.size w A l) (hm : n ≤ 1000000) (hs : ∀ x, x ∈ l → x.size ≤ 1000000) :
    Calls Tryd.prog 29 #[.slice A n c] w fun e w' => (∃ g, e = .returned (.slice (some ⟨g, 0, none⟩) n n) ∧ OwnS w.heap.size w' (some ⟨g, 0, none⟩) n n l) ∧ Below w.heap.size w w' := by
  have c1 := eachS_any A n c l w hn hr hm hs
  go_enter Tryd.func29, Tryd.ntmps29
  go_wp2_with fail
  refine c1.mono ?_
  rintro e w2 ⟨⟨g, rfl, hO⟩, hB⟩
  go_wp2_with fail
  go_ret
  exact ⟨⟨g, rfl, hO⟩, hB⟩
end Go.Proofs.YtokkmofcijfmiaaDoor
