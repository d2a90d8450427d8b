/-
  WHAT IS PROVED: slices.Equal of two slices of strings; reach.Good tells whether a list is a reach (GoodC); reach.Of makes the reach of any prefixes, or tells what is wrong (OfC). Conditions: those typed in each definition. · contract of strings.Builder's copyCheck at this program (a builder that the call itself has made). · contract of strings.Builder's WriteString at this program (a builder that the call itself has made), for every text. Condition: the new length takes at most 2^47 bytes. · reach.Text answers a good reach's text (TextC). Conditions: those typed in the definition.
-/
import Derived.Test.YtokkmofcijfmiaaGQ4
import Derived.Test.YtokkmofcijfmiaaGQ5
import Derived.Test.YtokkmofcijfmiaaRows
import Derived.Lib.Builder
import Derived.Lib.Walk
import Derived.WalkKit
import Derived.Laws.Externs
import Derived.Lib.AppendStr
import Derived.Lib.UnsafeStr
namespace Go.Proofs.Ytokkmofcijfmiaa
open Go.RowKit

set_option maxHeartbeats 1000000 in
theorem equal_any {B C : Nat} (A A2 : Option Addr) (n c m d : Nat) (l l2 : List ByteArray) (w : World) (hn : l.length = n) (hr : RdS B w A l) (hm : n ≤ maxLen) (hn2 : l2.length = m) (hr2 : RdS C w A2 l2) :
    Calls Try.prog 42 #[.slice A n c, .slice A2 m d] w fun e w' => e = .returned (.bool (sameB l l2)) ∧ Drn w w' := by
  unfold maxLen at hm
  have HN := Lib.hid hn
  have HN2 := Lib.hid hn2
  clear hn hn2
  by_cases hnm : n = m
  · subst hnm
    go_enter Try.func42, Try.ntmps42
    go_wp2_with fail
    go_loopw [13] (fun i wr => ∃ k : Nat, k ≤ n ∧ i = .int .i64 k ∧ Hid (∀ j, j < k → atR (dL l) j = atR (dL l2) j) ∧ Drn w wr) (fun i _ => n - (intOf i).toNat)
    case atStart => exact ⟨0, Nat.zero_le _, rfl, fun j hj => by omega, Drn.refl _⟩
    case round =>
      obtain ⟨k, hk, rfl, hA, hD⟩ := hrel
      by_cases hlt : k < n
      · obtain ⟨x, hx⟩ := get_ex (show k < l.length by have := HN.out; omega)
        obtain ⟨y, hy⟩ := get_ex (show k < l2.length by have := HN2.out; omega)
        obtain ⟨ad, rfl, _, hc⟩ := (hr.keep (hD.below B) (Nat.le_refl _)) k x hx
        obtain ⟨ad2, rfl, _, hc2⟩ := (hr2.keep (hD.below C) (Nat.le_refl _)) k y hy
        have i1 : (0 : Int) ≤ (k : Int) := by omega
        have i2 : (k : Int) < (n : Int) := by omega
        have HX := Lib.hid hx
        have HY := Lib.hid hy
        clear hx hy
        by_cases hxy : x.data.toList = y.data.toList
        · have e0 : (x.toList == y.toList) = true := by rw [str_eqB, hxy]; simp
          have HA2 : Hid (∀ j, j < k + 1 → atR (dL l) j = atR (dL l2) j) := fun j hj => by
            by_cases e : j = k
            · subst e
              rw [dL_at HX.out, dL_at HY.out, hxy]
            · exact hA.out j (by omega)
          clear hxy hA
          go_wp2_with fail
          go_quiet (fail)
          go_wp2_with fail
          go_roundw
          case rel => exact ⟨k + 1, by omega, by go_num, HA2, hD.draws _⟩
          case measure => simp [intOf]; omega
        · have e0 : (x.toList == y.toList) = false := by rw [str_eqB]; simpa using hxy
          have R := Lib.hid (same_no HX.out HY.out hxy)
          clear hxy hA
          go_wp2_with fail
          go_quiet (fail)
          go_wp2_with fail
          go_ret
          exact ⟨ret_bool R.out.symm, hD.draws _⟩
      · have hq : ¬ (k : Int) < (n : Int) := by omega
        have R : Hid (sameB l l2 = true) := same_yes (HN.out.trans HN2.out.symm) fun j hj => hA.out j (by have := HN.out; omega)
        clear hA
        go_wp2_with fail
        go_ret
        exact ⟨ret_bool R.out.symm, hD⟩
  · have e0 : ((n : Int) != (m : Int)) = true := by rw [bne_iff_ne]; omega
    have R := Lib.hid (same_len (l := l) (l2 := l2) (by rw [HN.out, HN2.out]; exact hnm))
    clear hnm
    go_enter Try.func42, Try.ntmps42
    go_wp2_with fail
    go_ret
    exact ⟨ret_bool R.out.symm, Drn.refl _⟩

theorem reachGood_any (A : Option Addr) (n c : Nat) (l : List ByteArray) (w : World) (hn : l.length = n) (hr : RdS w.heap.size w A l) (hm1 : n ≤ maxLen) (hs1 : ∀ x, x ∈ l → x.size ≤ maxLen) :
    Calls Try.prog 12 #[.slice A n c] w fun e w' => e = .returned (.bool (goodR (dL l))) ∧ Below w.heap.size w w' := by
  have HG := Lib.hid (goodR_least (dL l))
  by_cases h6 : n ≤ 6
  · have i6 : (n : Int) ≤ 6 := by omega
    cases hp : (dL l).all preB with
    | true =>
      have HP := Lib.hid hp
      have R : Hid (sameB l (baL (leastOf (dL l))) = goodR (dL l)) := by
        show _ = _
        rw [HG.out, hp, dL_len, hn, decide_eq_true h6, Bool.true_and, Bool.true_and]
        unfold sameB
        rw [dL_baL]
      clear hp HG
      go_enter Try.func12, Try.ntmps12
      go_wp2_with fail
      refine (prefixes_is A n c l w true HP.out hn hr hm1 hs1).mono ?_
      rintro e w2 ⟨rfl, hb2⟩
      go_wp2_with fail
      refine (least_any A n c l w2 hn ((hr.keep hb2 (Nat.le_refl _)).more hb2.size) (by omega)).mono ?_
      rintro e w3 ⟨⟨A3, c3, r3, rfl, hO3, hd3⟩, hb3⟩
      have R2 : Hid (sameB l r3 = goodR (dL l)) := by
        rw [← R.out]
        unfold sameB
        rw [dL_baL, hd3]
        exact rfl
      have hl3 : r3.length = (leastOf (dL l)).length := hO3.len
      generalize (leastOf (dL l)).length = m3 at hO3 hl3 ⊢
      clear hd3 R
      go_wp2_with fail
      refine (equal_any A A3 n c m3 c3 l r3 w3 hn ((hr.keep hb2 (Nat.le_refl _)).keep hb3 hb2.size) hm1 hl3 hO3.rd).mono ?_
      rintro e w4 ⟨rfl, hD4⟩
      generalize sameB l r3 = v at R2 ⊢
      go_wp2_with fail
      go_ret
      exact ⟨ret_bool R2.out, (bt hb2 hb3).trans ((hD4.below _))⟩
    | false =>
      have HP := Lib.hid hp
      have R : Hid (goodR (dL l) = false) := by
        show _ = _
        rw [HG.out, hp]
        simp
      clear hp HG
      go_enter Try.func12, Try.ntmps12
      go_wp2_with fail
      refine (prefixes_is A n c l w false HP.out hn hr hm1 hs1).mono ?_
      rintro e w2 ⟨rfl, hb2⟩
      go_wp2_with fail
      go_ret
      exact ⟨ret_bool R.out.symm, hb2⟩
  · have i6 : (6 : Int) < (n : Int) := by omega
    have R : Hid (goodR (dL l) = false) := by
      show _ = _
      rw [HG.out, dL_len, hn, decide_eq_false h6, Bool.false_and]
    clear HG
    go_enter Try.func12, Try.ntmps12
    go_wp2_with fail
    go_ret
    exact ⟨ret_bool R.out.symm, Below.refl _ _⟩

theorem goodC : GoodC := fun A n c l w _ hn hr hm hs => reachGood_any A n c l w hn hr (by unfold maxLen; omega) fun x hx => Nat.le_trans (hs x hx) (by unfold maxLen; omega)

theorem rd_own {base : Nat} {W : World} {A : Option Addr} {n c : Nat} {l : List ByteArray} (h : OwnS base W A n c l) {W' : World} (hb : Below W.heap.size W W') : RdS W'.heap.size W' A l := (h.rd.keep hb (Nat.le_refl _)).more hb.size
/-- Each that is left was there. -/
theorem leastOf_sz {l r : List ByteArray} (h : dL r = leastOf (dL l)) {N : Nat} (hs : ∀ x, x ∈ l → x.size ≤ N) : ∀ x, x ∈ r → x.size ≤ N := by
  intro x hx
  have h1 : x.data.toList ∈ leastOf (dL l) := by rw [← h]; exact List.mem_map_of_mem hx
  have h2 := (((least_made (dL l)).2 _).1 h1).1
  obtain ⟨y, hy, e⟩ := List.mem_map.1 h2
  have e1 : x.data.toList.length = x.size := Array.length_toList
  have e2 : y.data.toList.length = y.size := Array.length_toList
  rw [← e1, ← e, e2]
  exact hs y hy
theorem ofC : OfC := by
  intro A n c l w R _ hn hr hm hs hR
  have hm1 : n ≤ maxLen := by unfold maxLen; omega
  have hs1 : ∀ x, x ∈ l → x.size ≤ maxLen := fun x hx => Nat.le_trans (hs x hx) (by unfold maxLen; omega)
  have HR : Hid (leastOf (dL l) = R) := made_uniq (least_made (dL l)) hR fun _ => Iff.rfl
  clear hR
  cases hp : (dL l).all preB with
  | true =>
    simp only [if_true]
    have HP := Lib.hid hp
    clear hp
    suffices hh : Calls Try.prog 9 #[.slice A n c] w fun e w' => ((R.length ≤ 6 → Ans R 0 e w') ∧ (¬ R.length ≤ 6 → e = .returned (.tuple #[.slice none 0 0, .int .i64 3]))) ∧ Below w.heap.size w w' by
      refine hh.mono fun e w' h => ⟨?_, h.2⟩
      by_cases h6 : R.length ≤ 6
      · rw [if_pos h6]; exact h.1.1 h6
      · rw [if_neg h6]; exact h.1.2 h6
    have HZ : Hid (∀ r : List ByteArray, dL r = R → ∀ x, x ∈ r → x.size ≤ 1000) := fun r hr => leastOf_sz (l := l) (by rw [hr, HR.out]) hs
    have hlen := leastOf_len (dL l)
    rw [HR.out, dL_len, hn] at hlen
    go_enter Try.func9, Try.ntmps9
    go_wp2_with fail
    refine (prefixes_is A n c l w true HP.out hn hr hm1 hs1).mono ?_
    rintro e w2 ⟨rfl, hb2⟩
    go_wp2_with fail
    refine (least_any A n c l w2 hn ((hr.keep hb2 (Nat.le_refl _)).more hb2.size) (by omega)).mono ?_
    rw [HR.out]
    rintro e w3 ⟨⟨A3, c3, r3, rfl, hO3, hd3⟩, hb3⟩
    have HD := Lib.hid hd3
    have hB3 := bt hb2 hb3
    have hsz := HZ.out r3 hd3
    clear hd3 HR
    by_cases h6 : R.length ≤ 6
    · have H6 := Lib.hid h6
      have i6 : (R.length : Int) ≤ 6 := by omega
      generalize hlr : R.length = nR at hO3 hlen h6 i6 ⊢
      have HLR := Lib.hid hlr
      clear hlr
      go_wp2_with fail
      refine (freshTexts_any A3 nR c3 r3 w3 hO3.len hO3.rd (by omega) (fun x hx => Nat.le_trans (hsz x hx) (by omega))).mono ?_
      rintro e w4 ⟨⟨g, rfl, hO4⟩, hb4⟩
      go_wp2_with fail
      go_ret2
      refine ⟨⟨fun _ => ⟨some ⟨g, 0, none⟩, nR, r3, ?_, hO4.rd, HD.out⟩, fun h => absurd H6.out h⟩, bt hB3 hb4⟩
      rw [HLR.out]
      rfl
    · have H6 := Lib.hid h6
      have i6 : (6 : Int) < (R.length : Int) := by omega
      generalize R.length = nR at hO3 hlen h6 i6 ⊢
      go_wp2_with fail
      go_ret2
      exact ⟨⟨fun h => absurd h H6.out, fun _ => rfl⟩, hB3⟩
  | false =>
    simp only [Bool.false_eq_true, if_false]
    have HP := Lib.hid hp
    clear hp
    go_enter Try.func9, Try.ntmps9
    go_wp2_with fail
    refine (prefixes_is A n c l w false HP.out hn hr hm1 hs1).mono ?_
    rintro e w2 ⟨rfl, hb2⟩
    go_wp2_with fail
    go_ret2
    exact ⟨rfl, hb2⟩
end Go.Proofs.Ytokkmofcijfmiaa

namespace Go.Proofs.Ytokkmofcijfmiaa
open Go.RowKit

theorem sizeBuilder : (Try.prog.info? 93).map (·.size) = some 2 := by kernel_rfl
theorem liesBuilder : liesAt Try.prog Try.prog.depth 93 (2 / Try.prog.cellsOf 93) 0 93 1 = true := by kernel_rfl
theorem infoByte : (Try.prog.info? 5).map (fun i => (i.zero, i.size, i.bytes)) = some (some (.int .u8 0), 1, 1) := by kernel_rfl

set_option maxHeartbeats 1000000 in
set_option maxRecDepth 100000 in
theorem copyCheck_used (b : Nat) (w : World) (h0 : w.cell? ⟨b, 0, none⟩ = some (.pointer (some ⟨b, 0, none⟩))) :
    Calls Try.prog 73 #[.pointer (some ⟨b, 0, none⟩)] w fun e w' => e = .returned (.tuple #[]) ∧ w' = w := by
  obtain ⟨j, hj, _⟩ := Option.map_eq_some_iff.1 sizeBuilder
  go_enter Try.func73, Try.ntmps73
  go_wp2
  rw [Lib.run_neq_ptr_same w _ Try.underlying91 hj]
  go_wp2
  go_end0
  exact ⟨rfl, rfl⟩

set_option maxHeartbeats 1000000 in
set_option maxRecDepth 100000 in
theorem copyCheck_fresh (b : Nat) (w : World) (h0 : w.cell? ⟨b, 0, none⟩ = some (.pointer none)) (hsh : w.shape? b = some (93, 2)) (hfz : w.frozen? ⟨b, 0, none⟩ = false) :
    Calls Try.prog 73 #[.pointer (some ⟨b, 0, none⟩)] w fun e w' => e = .returned (.tuple #[]) ∧ w' = w.setCell ⟨b, 0, none⟩ (.pointer (some ⟨b, 0, none⟩)) := by
  obtain ⟨j, hj, hjs⟩ := Option.map_eq_some_iff.1 sizeBuilder
  go_enter Try.func73, Try.ntmps73
  go_wp2
  rw [Lib.run_to_unsafe w ⟨b, 0, none⟩ Try.underlying91 Try.underlying114 hj (by rw [hjs]; decide) hsh (Nat.zero_lt_succ 1)]
  simp only [Result.andThen]
  rw [Oper.upon_value]
  go_wp2
  rw [run_callFunc_extern Try.func80 (by kernel_rfl) (by kernel_rfl) (by kernel_rfl) (e := Extern.AbiNoEscape.same) (by kernel_rfl)]
  rw [Lib.run_noEscape]
  simp only [Result.andThen]
  rw [Oper.upon_value]
  go_wp2
  rw [Lib.run_from_unsafe w ⟨b, 0, none⟩ Try.underlying114 Try.underlying91 hj hsh liesBuilder]
  simp only [Result.andThen]
  rw [Oper.upon_value]
  go_wp2
  go_end0
  exact ⟨rfl, rfl⟩

theorem copyCheck (B b : Nat) (bs : List Value) (w : World) (h : Lib.IsBuilder 93 5 B b bs w) :
    Calls Try.prog 73 #[.pointer (some ⟨b, 0, none⟩)] w fun e w' => e = .returned (.tuple #[]) ∧ (Lib.BuilderAt 93 5 B b (.pointer (some ⟨b, 0, none⟩)) bs w' ∧ Below B w w') := by
  rcases h with h | h
  · refine (copyCheck_fresh b w h.cell0 h.shape h.frozen0).mono ?_
    rintro e w' ⟨rfl, rfl⟩
    exact ⟨rfl, h.used _, (Below.refl B w).setCell (p := ⟨b, 0, none⟩) h.1 _⟩
  · refine (copyCheck_used b w h.cell0).mono ?_
    rintro e w' ⟨rfl, rfl⟩
    exact ⟨rfl, h, Below.refl B _⟩
end Go.Proofs.Ytokkmofcijfmiaa

namespace Go.Proofs.Ytokkmofcijfmiaa
open Go.RowKit

set_option maxHeartbeats 2000000 in
set_option maxRecDepth 100000 in
theorem writeString (B b : Nat) (bs : List Value) (s : ByteArray) (w : World) (h : Lib.IsBuilder 93 5 B b bs w) (hlen : bs.length + s.size ≤ 140737488355328) (hBw : B ≤ w.heap.size) :
    Calls Try.prog 57 #[.pointer (some ⟨b, 0, none⟩), .string s] w fun e w' => e = .returned (.tuple #[.int .i64 s.size, .nilIface]) ∧ (Lib.BuilderAt 93 5 B b (.pointer (some ⟨b, 0, none⟩)) (bs ++ Lib.strCells s) w' ∧ Below B w w') := by
  obtain ⟨i0, hi, hz0, hz1, hz2⟩ := info_parts infoByte
  go_enter Try.func57, Try.ntmps57
  go_wp2_with (go_at_call 73; refine (copyCheck B b bs _ h).mono ?_)
  rintro e w1 ⟨rfl, h1, hb1⟩
  obtain ⟨hB, v, hbk, hown, hne⟩ := h1
  have c0 : w1.cell? ⟨b, 0, none⟩ = some (.pointer (some ⟨b, 0, none⟩)) := by rw [Lib.cell_of_heap hbk]; rfl
  have c1 : w1.cell? ⟨b, 1, none⟩ = some v := by rw [Lib.cell_of_heap hbk]; rfl
  go_wp2_with (at_builtin; refine Lib.wpList_append_own_string _ rfl _ _ 38 9 rfl B 5 i0 Try.underlying38 Try.underlying9 hi hz0 hz1 hz2 _ _ _ rfl hown s rfl ?c3 ?c4 ?c5 ?_)
  case c3 => unfold maxLen; omega
  case c4 => omega
  case c5 => have := hb1.size; omega
  intro v' w2 hown' hgrow _
  have hlt : b < w1.heap.size := by
    rcases Nat.lt_or_ge b w1.heap.size with h' | h'
    · exact h'
    · simp [Array.getElem?_eq_none h'] at hbk
  have hb2 : w2.heap[b]? = some (.cells #[.pointer (some ⟨b, 0, none⟩), v] 93 (0, 0)) := by
    rw [hgrow.block b hlt (fun e => hne e.symm)]
    exact hbk
  have d0 : w2.cell? ⟨b, 0, none⟩ = some (.pointer (some ⟨b, 0, none⟩)) := by rw [Lib.cell_of_heap hb2]; rfl
  have d1 : w2.cell? ⟨b, 1, none⟩ = some v := by rw [Lib.cell_of_heap hb2]; rfl
  have f1 : w2.frozen? ⟨b, 1, none⟩ = false := Lib.frozen_of_heap hb2 1
  obtain ⟨ao, n', cap, rfl⟩ : ∃ ao n' cap, v' = .slice ao n' cap := by
    rcases hown'.2 with ⟨hv, _⟩ | ⟨g, cap, cur, hv, _⟩
    · exact ⟨_, _, _, hv⟩
    · exact ⟨_, _, _, hv⟩
  go_wp2
  go_ret2
  refine ⟨rfl, ?_, ?_⟩
  · exact Lib.BuilderAt.put (T := 93) (e := 5) hB hb2 (bs' := bs ++ Lib.strCells s) (by simpa [Lib.strCells_length] using hown') (by decide)
  · exact (hb1.grown hgrow (by have := hb1.size; omega) (fun k hk => (hown.lt k hk).1)).setCell (p := ⟨b, 1, none⟩) hB _
theorem wbs (B b : Nat) (l t : List UInt8) (s : ByteArray) (ht : s.data.toList = t) (w : World) (h : Lib.IsBuilder 93 5 B b (Lib.byteCells l) w) (hlen : l.length + t.length ≤ 140737488355328) (hBw : B ≤ w.heap.size) :
    Calls Try.prog 57 #[.pointer (some ⟨b, 0, none⟩), .string s] w fun e w' => e = .returned (.tuple #[.int .i64 s.size, .nilIface]) ∧ Lib.IsBuilder 93 5 B b (Lib.byteCells (l ++ t)) w' ∧ Below B w w' := by
  have hsz : t.length = s.size := by rw [← ht]; exact Array.length_toList
  refine (writeString B b _ s w h (by rw [Lib.byteCells_length]; omega) hBw).mono ?_
  rintro e w' ⟨rfl, h1, h2⟩
  refine ⟨rfl, Or.inr ?_, h2⟩
  rw [Lib.byteCells_append, ← ht]
  exact h1
end Go.Proofs.Ytokkmofcijfmiaa

namespace Go.Proofs.Ytokkmofcijfmiaa
open Go.RowKit

/-- A star in the empty one's place. -/
def starL (p : List UInt8) : List UInt8 := if p = [] then [42] else p
/-- The text of the first k. -/
def jt (l : List (List UInt8)) (k : Nat) : List UInt8 := joinC ((l.take k).map starL)
theorem jt_zero (l : List (List UInt8)) : jt l 0 = [] := by simp [jt, joinC]
theorem jt_first {l : List ByteArray} {x : ByteArray} (h : l[0]? = some x) : jt (dL l) (0 + 1) = jt (dL l) 0 ++ starL x.data.toList := by
  unfold jt
  rw [take_succ_get h]
  simp [joinC]
theorem jt_more {l : List ByteArray} {k : Nat} {x : ByteArray} (hk : k ≠ 0) (h : l[k]? = some x) : jt (dL l) (k + 1) = jt (dL l) k ++ [44] ++ starL x.data.toList := by
  have hlt := (List.getElem?_eq_some_iff.1 h).1
  unfold jt
  rw [take_succ_get h, List.map_append]
  show joinC (_ ++ [starL x.data.toList]) = _
  rw [joinC_snoc, if_neg, List.append_assoc]
  · rfl
  · intro e
    rw [List.map_eq_nil_iff] at e
    have h1 : ((dL l).take k).length = k := by rw [List.length_take, dL_len]; omega
    rw [e] at h1
    simp at h1
    omega
theorem jt_all {l : List (List UInt8)} (h : goodR l = true) (h0 : l ≠ []) : jt l l.length = textR l := by
  unfold jt textR
  rw [List.take_length, if_neg h0]
  by_cases he : [] ∈ l
  · rw [goodR_empty h he]
    rfl
  · have e1 : l.map starL = l := by
      conv => rhs; rw [← List.map_id l]
      apply List.map_congr_left
      intro x hx
      unfold starL
      rw [if_neg (fun e : x = [] => he (e ▸ hx))]
      rfl
    have hs := commas_joinC l h0 fun x hx => preB_no44 (goodR_pre h hx)
    rw [e1, if_neg]
    intro e
    rw [e] at hs
    exact he (by rw [← hs]; exact List.mem_cons_self)
theorem star_empty {x : ByteArray} (h : x.data.toList = []) : starL x.data.toList = [42] := by unfold starL; rw [if_pos h]
theorem star_not {x : ByteArray} (h : x.data.toList ≠ []) : starL x.data.toList = x.data.toList := by unfold starL; rw [if_neg h]
theorem star_len (x : ByteArray) (h : x.size ≤ 20) : (starL x.data.toList).length ≤ 20 := by
  have e : x.data.toList.length = x.size := Array.length_toList
  unfold starL
  split
  · simp
  · omega

set_option maxRecDepth 100000 in
set_option maxHeartbeats 2000000 in
theorem textC : TextC := by
  intro A n c l w _ hn hr hg
  have n6 : n ≤ 6 := by rw [← hn]; exact goodR_six hg
  have S1 := Lib.hid (goodR_sizes hg)
  have HN := Lib.hid hn
  by_cases h0 : n = 0
  · subst h0
    have e0 : l = [] := List.length_eq_zero_iff.1 hn
    subst e0
    clear hn hg
    go_enter Try.func35, Try.ntmps35
    go_wp2_with fail
    go_ret
    exact ⟨⟨_, rfl, rfl⟩, Below.refl _ _⟩
  · have HT : Hid (jt (dL l) n = textR (dL l)) := by
      have := jt_all hg (fun e => h0 (by rw [← hn, ← dL_len, e]; rfl))
      rwa [dL_len, hn] at this
    have i0 : ((n : Int) == 0) = false := by rw [beq_eq_false_iff_ne]; omega
    clear hn hg
    have HF := Lib.hid (Lib.fresh_isBuilder 93 5 w)
    go_enter Try.func35, Try.ntmps35
    go_wp2_with fail
    go_loopw [11] (fun i wr => ∃ k : Nat, k ≤ n ∧ i = .int .i64 k ∧ Lib.IsBuilder 93 5 w.heap.size w.heap.size (Lib.byteCells (jt (dL l) k)) wr ∧ Below w.heap.size w wr ∧ Hid ((jt (dL l) k).length ≤ 30 * k)) (fun i _ => n - (intOf i).toNat)
    case atStart => exact ⟨0, Nat.zero_le _, rfl, by rw [jt_zero]; exact HF.out, b0 _ _, by rw [jt_zero]; exact Nat.le_refl _⟩
    case round =>
      obtain ⟨k, hk, rfl, hI, hB, HZ⟩ := hrel
      clear HF
      by_cases hlt : k < n
      · obtain ⟨x, hx⟩ := get_ex (show k < l.length by have := HN.out; omega)
        have hrw := hr.keep hB (Nat.le_refl _)
        obtain ⟨ad, rfl, _, hc⟩ := hrw k x hx
        have i1 : (0 : Int) ≤ (k : Int) := by omega
        have i2 : (k : Int) < (n : Int) := by omega
        have hxz := S1.out x (List.mem_of_getElem? hx)
        have hsl := star_len x hxz
        have hz := HZ.out
        by_cases hk0 : k = 0
        · subst hk0
          have hc0 : wr.cell? ad = some (.string x) := by rw [← hc]; simp [Addr.add]
          have HJ := Lib.hid (jt_first hx)
          by_cases hx0 : x.data.toList = []
          · have e0 : (x.toList == []) = true := by rw [ByteArray.toList_eq, hx0]; rfl
            have e1 : x.toList.isEmpty = true := by rw [ByteArray.toList_eq, hx0]; rfl
            have HS := Lib.hid (star_empty hx0)
            clear hx hx0
            go_wp2_with fail
            refine (wbs w.heap.size w.heap.size (jt (dL l) 0) [42] ⟨#[42]⟩ rfl wr hI (by simp; omega) hB.size).mono ?_
            rintro e w2 ⟨rfl, hI2, hb2⟩
            go_wp2_with fail
            go_roundw
            case rel => exact ⟨0 + 1, by omega, by go_num, by rw [HJ.out, HS.out]; exact hI2, hB.trans hb2, by show _ ≤ _; rw [HJ.out, List.length_append]; omega⟩
            case measure => simp [intOf]; omega
          · have e0 : (x.toList == []) = false := by rw [ByteArray.toList_eq]; simpa using hx0
            have e1 : x.toList.isEmpty = false := by rw [ByteArray.toList_eq]; simpa using hx0
            have HS := Lib.hid (star_not hx0)
            clear hx hx0
            go_wp2_with fail
            refine (wbs w.heap.size w.heap.size (jt (dL l) 0) _ x HS.out.symm wr hI (by omega) hB.size).mono ?_
            rintro e w2 ⟨rfl, hI2, hb2⟩
            go_wp2_with fail
            go_roundw
            case rel => exact ⟨0 + 1, by omega, by go_num, by rw [HJ.out]; exact hI2, hB.trans hb2, by show _ ≤ _; rw [HJ.out, List.length_append]; omega⟩
            case measure => simp [intOf]; omega
        · have i3 : (0 : Int) < (k : Int) := by omega
          have HJ := Lib.hid (jt_more hk0 hx)
          by_cases hx0 : x.data.toList = []
          · have e0 : (x.toList == []) = true := by rw [ByteArray.toList_eq, hx0]; rfl
            have e1 : x.toList.isEmpty = true := by rw [ByteArray.toList_eq, hx0]; rfl
            have HS := Lib.hid (star_empty hx0)
            clear hx hx0
            go_wp2_with fail
            refine (wbs w.heap.size w.heap.size (jt (dL l) k) [44] ⟨#[44]⟩ rfl wr hI (by simp; omega) hB.size).mono ?_
            rintro e w2 ⟨rfl, hI2, hb2⟩
            go_wp2_with fail
            refine (wbs w.heap.size w.heap.size (jt (dL l) k ++ [44]) [42] ⟨#[42]⟩ rfl w2 hI2 (by simp; omega) (hB.trans hb2).size).mono ?_
            rintro e w3 ⟨rfl, hI3, hb3⟩
            go_wp2_with fail
            go_roundw
            case rel => exact ⟨k + 1, by omega, by go_num, by rw [HJ.out, HS.out]; exact hI3, (hB.trans hb2).trans hb3, by show _ ≤ _; rw [HJ.out, List.length_append, List.length_append]; simp only [List.length_singleton]; omega⟩
            case measure => simp [intOf]; omega
          · have e0 : (x.toList == []) = false := by rw [ByteArray.toList_eq]; simpa using hx0
            have e1 : x.toList.isEmpty = false := by rw [ByteArray.toList_eq]; simpa using hx0
            have HS := Lib.hid (star_not hx0)
            clear hx hx0
            go_wp2_with fail
            refine (wbs w.heap.size w.heap.size (jt (dL l) k) [44] ⟨#[44]⟩ rfl wr hI (by simp; omega) hB.size).mono ?_
            rintro e w2 ⟨rfl, hI2, hb2⟩
            go_wp2_with fail
            refine (wbs w.heap.size w.heap.size (jt (dL l) k ++ [44]) _ x HS.out.symm w2 hI2 (by rw [List.length_append]; simp only [List.length_singleton]; omega) (hB.trans hb2).size).mono ?_
            rintro e w3 ⟨rfl, hI3, hb3⟩
            go_wp2_with fail
            go_roundw
            case rel => exact ⟨k + 1, by omega, by go_num, by rw [HJ.out]; exact hI3, (hB.trans hb2).trans hb3, by show _ ≤ _; rw [HJ.out, List.length_append, List.length_append]; simp only [List.length_singleton]; omega⟩
            case measure => simp [intOf]; omega
      · have hq : ¬ (k : Int) < (n : Int) := by omega
        have hkn : k = n := by omega
        subst hkn
        rw [HT.out] at hI
        clear HZ
        go_wp2_with fail
        refine (Try.Builder_String_any w.heap.size w.heap.size (textR (dL l)) wr hI hB.size).mono ?_
        rintro e w3 ⟨rfl, hb3⟩
        go_wp2_with fail
        go_ret
        exact ⟨⟨⟨(textR (dL l)).toArray⟩, rfl, by simp⟩, hB.trans hb3⟩
end Go.Proofs.Ytokkmofcijfmiaa
