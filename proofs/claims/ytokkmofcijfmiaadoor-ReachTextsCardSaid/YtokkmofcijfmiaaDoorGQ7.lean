/-
  WHAT IS PROVED: reach.parse reads a text's pieces (parseL), a star as the empty one, for texts of at most 500 bytes. Conditions: those typed in each theorem. · contract of strings.Builder's copyCheck at this program (a builder that the call itself has made). · contract of strings.Builder's WriteString at this program (a builder that the call itself has made), for every text. Condition: the new length takes at most 2^47 bytes. · reach.Text answers a good reach's text (TextC). Conditions: those typed in the definition. · nothing; as a definition, what the walks of a statement of layer 4 take of reach.Read. It is proved elsewhere, of the code itself.
-/
import Derived.Test.YtokkmofcijfmiaaDoorGQ6
import Derived.Test.YtokkmofcijfmiaaDoorRows
import Derived.Lib.Builder
import Derived.Lib.Walk
import Derived.WalkKit
import Derived.Laws.Externs
import Derived.Lib.AppendStr
import Derived.Lib.UnsafeStr
import Derived.Test.YtokkmofcijfmiaaDoorGQ5
namespace Go.Proofs.YtokkmofcijfmiaaDoor
open Go.RowKit

theorem splitC_any (s : ByteArray) (w : World) (hs : s.size ≤ 500) (hL : LaidR w) :
    Calls Tryd.prog 48 #[.string s, .string ⟨#[44]⟩, .int .i64 7] w fun e w' => (∃ (g n c : Nat) (l : List ByteArray), e = .returned (.slice (some ⟨g, 0, none⟩) n c) ∧ OwnS w.heap.size w' (some ⟨g, 0, none⟩) n c l ∧ dL l = pieceC 6 s.data.toList) ∧ Below w.heap.size w w' := by
  obtain ⟨m, hm⟩ := hL
  refine (Tryd.strings_SplitN s ⟨#[44]⟩ 7 m w (by omega) hm (by decide) (by omega) (by omega)).mono ?_
  rintro e w' ⟨rfl, rfl⟩
  have hl : s.data.toList.length = s.size := Array.length_toList
  have hd : dL (Lib.splitB ⟨#[44]⟩ 0 (min 7 (s.size + 1) - 1) s) = pieceC 6 s.data.toList := by
    show List.map _ _ = _
    rw [Lib.splitB_data, ← pieceC_six, hl]
    exact split_pieceC _ _
  have hle := Lib.splitB_length_le ⟨#[44]⟩ 0 (min 7 (s.size + 1) - 1) s
  refine ⟨⟨w.heap.size, _, _, _, rfl, ?_, hd⟩, b0 _ _⟩
  generalize Lib.splitB ⟨#[44]⟩ 0 (min 7 (s.size + 1) - 1) s = ps at hle
  refine ⟨by simp, .inr ⟨w.heap.size, min 7 (s.size + 1), Lib.cellsOf ps (min 7 (s.size + 1)), rfl, Nat.le_refl _, ?_, by omega, by unfold maxLen; omega, ?_, ?_⟩⟩
  · show (w.heap.push _)[w.heap.size]? = _
    simp
  · rw [Lib.cellsOf_size (by omega), Nat.mul_one]
  · unfold Lib.cellsOf
    simp

/-- What stands there behind k rounds. -/
def unTo (l : List (List UInt8)) (k : Nat) : List (List UInt8) := (l.take k).map unstar ++ l.drop k
theorem unTo_zero (l : List (List UInt8)) : unTo l 0 = l := by simp [unTo]
theorem unTo_all {l : List (List UInt8)} {k : Nat} (h : k = l.length) : unTo l k = l.map unstar := by subst h; simp [unTo]
theorem unTo_get {l : List (List UInt8)} {k : Nat} : (unTo l k)[k]? = l[k]? := by
  unfold unTo
  by_cases hk : k < l.length
  · rw [List.getElem?_append_right (by simp; omega)]
    simp [Nat.min_eq_left (Nat.le_of_lt hk)]
  · rw [List.getElem?_eq_none (by simp; omega), List.getElem?_eq_none (by omega)]
theorem unTo_step {l : List (List UInt8)} {k : Nat} {x : List UInt8} (h : l[k]? = some x) : unTo l (k + 1) = (unTo l k).set k (unstar x) := by
  obtain ⟨hk, rfl⟩ := List.getElem?_eq_some_iff.1 h
  unfold unTo
  rw [List.set_append_right _ _ (by simp; omega), List.take_succ_eq_append_getElem hk, List.map_append, List.append_assoc]
  congr 1
  rw [List.length_map, List.length_take, Nat.min_eq_left (by omega), Nat.sub_self, List.drop_eq_getElem_cons hk, List.set_cons_zero]
  rfl
theorem unTo_keep {l : List (List UInt8)} {k : Nat} {x : List UInt8} (h : l[k]? = some x) (hx : x ≠ [42]) : unTo l (k + 1) = unTo l k := by
  rw [unTo_step h]
  have h1 : (unTo l k)[k]? = some x := unTo_get.trans h
  obtain ⟨hk, e⟩ := List.getElem?_eq_some_iff.1 h1
  unfold unstar
  rw [if_neg hx, ← e, List.set_getElem_self]
theorem dL_set (r : List ByteArray) (k : Nat) (x : ByteArray) : dL (r.set k x) = (dL r).set k x.data.toList := List.map_set

set_option maxRecDepth 100000 in
set_option maxHeartbeats 2000000 in
theorem parse_anyR (s : ByteArray) (w : World) (hs : s.size ≤ 500) (hL : LaidR w) :
    Calls Tryd.prog 27 #[.string s] w fun e w' => AnsO w.heap.size (parseL s.data.toList) e w' ∧ Below w.heap.size w w' := by
  by_cases h1 : s.data.toList = [33]
  · have e1 : (s.toList == [33]) = true := by rw [ByteArray.toList_eq, h1]; rfl
    have H1 : Hid (parseL s.data.toList = []) := by
      show _ = _
      unfold parseL
      rw [if_pos h1]
    clear h1
    go_enter Tryd.func27, Tryd.ntmps27
    go_wp2_with fail
    go_ret
    refine ⟨?_, Below.refl _ _⟩
    rw [H1.out]
    exact ⟨none, 0, [], rfl, OwnS.nil _ _, rfl⟩
  · have e1 : (s.toList == [33]) = false := by rw [ByteArray.toList_eq]; simpa using h1
    have H1 : Hid (parseL s.data.toList = (pieceC 6 s.data.toList).map unstar) := by
      show _ = _
      unfold parseL
      rw [if_neg h1]
    have hpl := (pieceC_len 6 s.data.toList).2
    clear h1
    go_enter Tryd.func27, Tryd.ntmps27
    go_wp2_with fail
    refine (splitC_any s w hs hL).mono ?_
    rintro e w1 ⟨⟨g, n, c, l, rfl, hO, hd⟩, hb1⟩
    have hln : l.length = n := hO.len
    rw [← hd, dL_len, hln] at hpl
    have HD := Lib.hid hd
    have HN := Lib.hid hln
    clear hd hln
    go_wp2_with fail
    go_loopw [12] (fun i wr => ∃ (k : Nat) (L : List ByteArray), k ≤ n ∧ i = .int .i64 k ∧ OwnS w.heap.size wr (some ⟨g, 0, none⟩) n c L ∧ Hid (dL L = unTo (dL l) k) ∧ Below w.heap.size w wr) (fun i _ => n - (intOf i).toNat)
    case atStart => exact ⟨0, l, Nat.zero_le _, rfl, hO, (unTo_zero _).symm, hb1⟩
    case round =>
      obtain ⟨k, L, hk, rfl, hOL, hA, hB⟩ := hrel
      by_cases hlt : k < n
      · obtain ⟨x, hx⟩ := get_ex (show k < l.length by have := HN.out; omega)
        obtain ⟨y, hy⟩ := get_ex (show k < L.length by have := hOL.len; omega)
        have hxy : y.data.toList = x.data.toList := by
          have h2 := dL_get hy
          rw [hA.out, unTo_get, dL_get hx] at h2
          injection h2 with h2
          exact h2.symm
        obtain ⟨ad, he, _, hc⟩ := hOL.rd k y hy
        injection he with he
        subst he
        have ec : (Addr.mk g 0 none).add k = Addr.mk g k none := by unfold Addr.add; split <;> simp_all
        rw [ec] at hc
        have i1 : (0 : Int) ≤ (k : Int) := by omega
        have i2 : (k : Int) < (n : Int) := by omega
        have hf := hOL.free k
        by_cases hx0 : x.data.toList = [42]
        · have e2 : (y.toList == [42]) = true := by rw [ByteArray.toList_eq, hxy, hx0]; rfl
          have HA2 : Hid (dL (L.set k ⟨#[]⟩) = unTo (dL l) (k + 1)) := by
            show _ = _
            rw [unTo_step (dL_get hx), dL_set, hA.out, hx0]
            rfl
          clear hA hx hy hxy hx0
          go_wp2_with fail
          go_roundw
          case rel => exact ⟨k + 1, L.set k ⟨#[]⟩, by omega, by go_num, hOL.set k _, HA2, hB.setCell (p := ⟨g, k, none⟩) ((hOL.blk rfl).1) _⟩
          case measure => simp [intOf]; omega
        · have e2 : (y.toList == [42]) = false := by rw [ByteArray.toList_eq, hxy]; simpa using hx0
          have HA2 : Hid (dL L = unTo (dL l) (k + 1)) := by
            show _ = _
            rw [unTo_keep (dL_get hx) hx0, hA.out]
          clear hA hx hy hxy hx0
          go_wp2_with fail
          go_roundw
          case rel => exact ⟨k + 1, L, by omega, by go_num, hOL, HA2, hB⟩
          case measure => simp [intOf]; omega
      · have hq : ¬ (k : Int) < (n : Int) := by omega
        have HA2 : Hid (dL L = parseL s.data.toList) := by
          show _ = _
          rw [H1.out, hA.out, unTo_all (by rw [dL_len, HN.out]; omega), HD.out]
        have hll : n = (parseL s.data.toList).length := by rw [← HA2.out, dL_len, hOL.len]
        clear hA
        go_wp2_with fail
        go_ret
        refine ⟨⟨some ⟨g, 0, none⟩, c, L, ?_, ?_, HA2.out⟩, hB⟩
        · rw [← hll]
          rfl
        · rw [← hll]; exact hOL
end Go.Proofs.YtokkmofcijfmiaaDoor

namespace Go.Proofs.YtokkmofcijfmiaaDoor
open Go.RowKit

theorem sizeBuilder : (Tryd.prog.info? 63).map (·.size) = some 2 := by kernel_rfl
theorem liesBuilder : liesAt Tryd.prog Tryd.prog.depth 63 (2 / Tryd.prog.cellsOf 63) 0 63 1 = true := by kernel_rfl
theorem infoByte : (Tryd.prog.info? 5).map (fun i => (i.zero, i.size, i.bytes)) = some (some (.int .u8 0), 1, 1) := by kernel_rfl

set_option maxHeartbeats 1000000 in
set_option maxRecDepth 100000 in
theorem copyCheck_used (b : Nat) (w : World) (h0 : w.cell? ⟨b, 0, none⟩ = some (.pointer (some ⟨b, 0, none⟩))) :
    Calls Tryd.prog 52 #[.pointer (some ⟨b, 0, none⟩)] w fun e w' => e = .returned (.tuple #[]) ∧ w' = w := by
  obtain ⟨j, hj, _⟩ := Option.map_eq_some_iff.1 sizeBuilder
  go_enter Tryd.func52, Tryd.ntmps52
  go_wp2
  rw [Lib.run_neq_ptr_same w _ Tryd.underlying61 hj]
  go_wp2
  go_end0
  exact ⟨rfl, rfl⟩

set_option maxHeartbeats 1000000 in
set_option maxRecDepth 100000 in
theorem copyCheck_fresh (b : Nat) (w : World) (h0 : w.cell? ⟨b, 0, none⟩ = some (.pointer none)) (hsh : w.shape? b = some (63, 2)) (hfz : w.frozen? ⟨b, 0, none⟩ = false) :
    Calls Tryd.prog 52 #[.pointer (some ⟨b, 0, none⟩)] w fun e w' => e = .returned (.tuple #[]) ∧ w' = w.setCell ⟨b, 0, none⟩ (.pointer (some ⟨b, 0, none⟩)) := by
  obtain ⟨j, hj, hjs⟩ := Option.map_eq_some_iff.1 sizeBuilder
  go_enter Tryd.func52, Tryd.ntmps52
  go_wp2
  rw [Lib.run_to_unsafe w ⟨b, 0, none⟩ Tryd.underlying61 Tryd.underlying104 hj (by rw [hjs]; decide) hsh (Nat.zero_lt_succ 1)]
  simp only [Result.andThen]
  rw [Oper.upon_value]
  go_wp2
  rw [run_callFunc_extern Tryd.func69 (by kernel_rfl) (by kernel_rfl) (by kernel_rfl) (e := Extern.AbiNoEscape.same) (by kernel_rfl)]
  rw [Lib.run_noEscape]
  simp only [Result.andThen]
  rw [Oper.upon_value]
  go_wp2
  rw [Lib.run_from_unsafe w ⟨b, 0, none⟩ Tryd.underlying104 Tryd.underlying61 hj hsh liesBuilder]
  simp only [Result.andThen]
  rw [Oper.upon_value]
  go_wp2
  go_end0
  exact ⟨rfl, rfl⟩

theorem copyCheck (B b : Nat) (bs : List Value) (w : World) (h : Lib.IsBuilder 63 5 B b bs w) :
    Calls Tryd.prog 52 #[.pointer (some ⟨b, 0, none⟩)] w fun e w' => e = .returned (.tuple #[]) ∧ (Lib.BuilderAt 63 5 B b (.pointer (some ⟨b, 0, none⟩)) bs w' ∧ Below B w w') := by
  rcases h with h | h
  · refine (copyCheck_fresh b w h.cell0 h.shape h.frozen0).mono ?_
    rintro e w' ⟨rfl, rfl⟩
    exact ⟨rfl, h.used _, (Below.refl B w).setCell (p := ⟨b, 0, none⟩) h.1 _⟩
  · refine (copyCheck_used b w h.cell0).mono ?_
    rintro e w' ⟨rfl, rfl⟩
    exact ⟨rfl, h, Below.refl B _⟩
end Go.Proofs.YtokkmofcijfmiaaDoor

namespace Go.Proofs.YtokkmofcijfmiaaDoor
open Go.RowKit

set_option maxHeartbeats 2000000 in
set_option maxRecDepth 100000 in
theorem writeString (B b : Nat) (bs : List Value) (s : ByteArray) (w : World) (h : Lib.IsBuilder 63 5 B b bs w) (hlen : bs.length + s.size ≤ 140737488355328) (hBw : B ≤ w.heap.size) :
    Calls Tryd.prog 30 #[.pointer (some ⟨b, 0, none⟩), .string s] w fun e w' => e = .returned (.tuple #[.int .i64 s.size, .nilIface]) ∧ (Lib.BuilderAt 63 5 B b (.pointer (some ⟨b, 0, none⟩)) (bs ++ Lib.strCells s) w' ∧ Below B w w') := by
  obtain ⟨i0, hi, hz0, hz1, hz2⟩ := info_parts infoByte
  go_enter Tryd.func30, Tryd.ntmps30
  go_wp2_with (go_at_call 52; refine (copyCheck B b bs _ h).mono ?_)
  rintro e w1 ⟨rfl, h1, hb1⟩
  obtain ⟨hB, v, hbk, hown, hne⟩ := h1
  have c0 : w1.cell? ⟨b, 0, none⟩ = some (.pointer (some ⟨b, 0, none⟩)) := by rw [Lib.cell_of_heap hbk]; rfl
  have c1 : w1.cell? ⟨b, 1, none⟩ = some v := by rw [Lib.cell_of_heap hbk]; rfl
  go_wp2_with (at_builtin; refine Lib.wpList_append_own_string _ rfl _ _ 34 9 rfl B 5 i0 Tryd.underlying34 Tryd.underlying9 hi hz0 hz1 hz2 _ _ _ rfl hown s rfl ?c3 ?c4 ?c5 ?_)
  case c3 => unfold maxLen; omega
  case c4 => omega
  case c5 => have := hb1.size; omega
  intro v' w2 hown' hgrow _
  have hlt : b < w1.heap.size := by
    rcases Nat.lt_or_ge b w1.heap.size with h' | h'
    · exact h'
    · simp [Array.getElem?_eq_none h'] at hbk
  have hb2 : w2.heap[b]? = some (.cells #[.pointer (some ⟨b, 0, none⟩), v] 63 (0, 0)) := by
    rw [hgrow.block b hlt (fun e => hne e.symm)]
    exact hbk
  have d0 : w2.cell? ⟨b, 0, none⟩ = some (.pointer (some ⟨b, 0, none⟩)) := by rw [Lib.cell_of_heap hb2]; rfl
  have d1 : w2.cell? ⟨b, 1, none⟩ = some v := by rw [Lib.cell_of_heap hb2]; rfl
  have f1 : w2.frozen? ⟨b, 1, none⟩ = false := Lib.frozen_of_heap hb2 1
  obtain ⟨ao, n', cap, rfl⟩ : ∃ ao n' cap, v' = .slice ao n' cap := by
    rcases hown'.2 with ⟨hv, _⟩ | ⟨g, cap, cur, hv, _⟩
    · exact ⟨_, _, _, hv⟩
    · exact ⟨_, _, _, hv⟩
  go_wp2
  go_ret2
  refine ⟨rfl, ?_, ?_⟩
  · exact Lib.BuilderAt.put (T := 63) (e := 5) hB hb2 (bs' := bs ++ Lib.strCells s) (by simpa [Lib.strCells_length] using hown') (by decide)
  · exact (hb1.grown hgrow (by have := hb1.size; omega) (fun k hk => (hown.lt k hk).1)).setCell (p := ⟨b, 1, none⟩) hB _
theorem wbs (B b : Nat) (l t : List UInt8) (s : ByteArray) (ht : s.data.toList = t) (w : World) (h : Lib.IsBuilder 63 5 B b (Lib.byteCells l) w) (hlen : l.length + t.length ≤ 140737488355328) (hBw : B ≤ w.heap.size) :
    Calls Tryd.prog 30 #[.pointer (some ⟨b, 0, none⟩), .string s] w fun e w' => e = .returned (.tuple #[.int .i64 s.size, .nilIface]) ∧ Lib.IsBuilder 63 5 B b (Lib.byteCells (l ++ t)) w' ∧ Below B w w' := by
  have hsz : t.length = s.size := by rw [← ht]; exact Array.length_toList
  refine (writeString B b _ s w h (by rw [Lib.byteCells_length]; omega) hBw).mono ?_
  rintro e w' ⟨rfl, h1, h2⟩
  refine ⟨rfl, Or.inr ?_, h2⟩
  rw [Lib.byteCells_append, ← ht]
  exact h1
end Go.Proofs.YtokkmofcijfmiaaDoor

namespace Go.Proofs.YtokkmofcijfmiaaDoor
open Go.RowKit

/-- A star in the empty one's place. -/
def starL (p : List UInt8) : List UInt8 := if p = [] then [42] else p
/-- The text of the first k. -/
def jt (l : List (List UInt8)) (k : Nat) : List UInt8 := joinC ((l.take k).map starL)
theorem jt_zero (l : List (List UInt8)) : jt l 0 = [] := by simp [jt, joinC]
theorem jt_first {l : List ByteArray} {x : ByteArray} (h : l[0]? = some x) : jt (dL l) (0 + 1) = jt (dL l) 0 ++ starL x.data.toList := by
  unfold jt
  rw [take_succ_get h]
  simp [joinC]
theorem jt_more {l : List ByteArray} {k : Nat} {x : ByteArray} (hk : k ≠ 0) (h : l[k]? = some x) : jt (dL l) (k + 1) = jt (dL l) k ++ [44] ++ starL x.data.toList := by
  have hlt := (List.getElem?_eq_some_iff.1 h).1
  unfold jt
  rw [take_succ_get h, List.map_append]
  show joinC (_ ++ [starL x.data.toList]) = _
  rw [joinC_snoc, if_neg, List.append_assoc]
  · rfl
  · intro e
    rw [List.map_eq_nil_iff] at e
    have h1 : ((dL l).take k).length = k := by rw [List.length_take, dL_len]; omega
    rw [e] at h1
    simp at h1
    omega
theorem jt_all {l : List (List UInt8)} (h : goodR l = true) (h0 : l ≠ []) : jt l l.length = textR l := by
  unfold jt textR
  rw [List.take_length, if_neg h0]
  by_cases he : [] ∈ l
  · rw [goodR_empty h he]
    rfl
  · have e1 : l.map starL = l := by
      conv => rhs; rw [← List.map_id l]
      apply List.map_congr_left
      intro x hx
      unfold starL
      rw [if_neg (fun e : x = [] => he (e ▸ hx))]
      rfl
    have hs := commas_joinC l h0 fun x hx => preB_no44 (goodR_pre h hx)
    rw [e1, if_neg]
    intro e
    rw [e] at hs
    exact he (by rw [← hs]; exact List.mem_cons_self)
theorem star_empty {x : ByteArray} (h : x.data.toList = []) : starL x.data.toList = [42] := by unfold starL; rw [if_pos h]
theorem star_not {x : ByteArray} (h : x.data.toList ≠ []) : starL x.data.toList = x.data.toList := by unfold starL; rw [if_neg h]
theorem star_len (x : ByteArray) (h : x.size ≤ 20) : (starL x.data.toList).length ≤ 20 := by
  have e : x.data.toList.length = x.size := Array.length_toList
  unfold starL
  split
  · simp
  · omega

set_option maxRecDepth 100000 in
set_option maxHeartbeats 2000000 in
theorem textC : TextC := by
  intro A n c l w _ hn hr hg
  have n6 : n ≤ 6 := by rw [← hn]; exact goodR_six hg
  have S1 := Lib.hid (goodR_sizes hg)
  have HN := Lib.hid hn
  by_cases h0 : n = 0
  · subst h0
    have e0 : l = [] := List.length_eq_zero_iff.1 hn
    subst e0
    clear hn hg
    go_enter Tryd.func14, Tryd.ntmps14
    go_wp2_with fail
    go_ret
    exact ⟨⟨_, rfl, rfl⟩, Below.refl _ _⟩
  · have HT : Hid (jt (dL l) n = textR (dL l)) := by
      have := jt_all hg (fun e => h0 (by rw [← hn, ← dL_len, e]; rfl))
      rwa [dL_len, hn] at this
    have i0 : ((n : Int) == 0) = false := by rw [beq_eq_false_iff_ne]; omega
    clear hn hg
    have HF := Lib.hid (Lib.fresh_isBuilder 63 5 w)
    go_enter Tryd.func14, Tryd.ntmps14
    go_wp2_with fail
    go_loopw [11] (fun i wr => ∃ k : Nat, k ≤ n ∧ i = .int .i64 k ∧ Lib.IsBuilder 63 5 w.heap.size w.heap.size (Lib.byteCells (jt (dL l) k)) wr ∧ Below w.heap.size w wr ∧ Hid ((jt (dL l) k).length ≤ 30 * k)) (fun i _ => n - (intOf i).toNat)
    case atStart => exact ⟨0, Nat.zero_le _, rfl, by rw [jt_zero]; exact HF.out, b0 _ _, by rw [jt_zero]; exact Nat.le_refl _⟩
    case round =>
      obtain ⟨k, hk, rfl, hI, hB, HZ⟩ := hrel
      clear HF
      by_cases hlt : k < n
      · obtain ⟨x, hx⟩ := get_ex (show k < l.length by have := HN.out; omega)
        have hrw := hr.keep hB (Nat.le_refl _)
        obtain ⟨ad, rfl, _, hc⟩ := hrw k x hx
        have i1 : (0 : Int) ≤ (k : Int) := by omega
        have i2 : (k : Int) < (n : Int) := by omega
        have hxz := S1.out x (List.mem_of_getElem? hx)
        have hsl := star_len x hxz
        have hz := HZ.out
        by_cases hk0 : k = 0
        · subst hk0
          have hc0 : wr.cell? ad = some (.string x) := by rw [← hc]; simp [Addr.add]
          have HJ := Lib.hid (jt_first hx)
          by_cases hx0 : x.data.toList = []
          · have e0 : (x.toList == []) = true := by rw [ByteArray.toList_eq, hx0]; rfl
            have e1 : x.toList.isEmpty = true := by rw [ByteArray.toList_eq, hx0]; rfl
            have HS := Lib.hid (star_empty hx0)
            clear hx hx0
            go_wp2_with fail
            refine (wbs w.heap.size w.heap.size (jt (dL l) 0) [42] ⟨#[42]⟩ rfl wr hI (by simp; omega) hB.size).mono ?_
            rintro e w2 ⟨rfl, hI2, hb2⟩
            go_wp2_with fail
            go_roundw
            case rel => exact ⟨0 + 1, by omega, by go_num, by rw [HJ.out, HS.out]; exact hI2, hB.trans hb2, by show _ ≤ _; rw [HJ.out, List.length_append]; omega⟩
            case measure => simp [intOf]; omega
          · have e0 : (x.toList == []) = false := by rw [ByteArray.toList_eq]; simpa using hx0
            have e1 : x.toList.isEmpty = false := by rw [ByteArray.toList_eq]; simpa using hx0
            have HS := Lib.hid (star_not hx0)
            clear hx hx0
            go_wp2_with fail
            refine (wbs w.heap.size w.heap.size (jt (dL l) 0) _ x HS.out.symm wr hI (by omega) hB.size).mono ?_
            rintro e w2 ⟨rfl, hI2, hb2⟩
            go_wp2_with fail
            go_roundw
            case rel => exact ⟨0 + 1, by omega, by go_num, by rw [HJ.out]; exact hI2, hB.trans hb2, by show _ ≤ _; rw [HJ.out, List.length_append]; omega⟩
            case measure => simp [intOf]; omega
        · have i3 : (0 : Int) < (k : Int) := by omega
          have HJ := Lib.hid (jt_more hk0 hx)
          by_cases hx0 : x.data.toList = []
          · have e0 : (x.toList == []) = true := by rw [ByteArray.toList_eq, hx0]; rfl
            have e1 : x.toList.isEmpty = true := by rw [ByteArray.toList_eq, hx0]; rfl
            have HS := Lib.hid (star_empty hx0)
            clear hx hx0
            go_wp2_with fail
            refine (wbs w.heap.size w.heap.size (jt (dL l) k) [44] ⟨#[44]⟩ rfl wr hI (by simp; omega) hB.size).mono ?_
            rintro e w2 ⟨rfl, hI2, hb2⟩
            go_wp2_with fail
            refine (wbs w.heap.size w.heap.size (jt (dL l) k ++ [44]) [42] ⟨#[42]⟩ rfl w2 hI2 (by simp; omega) (hB.trans hb2).size).mono ?_
            rintro e w3 ⟨rfl, hI3, hb3⟩
            go_wp2_with fail
            go_roundw
            case rel => exact ⟨k + 1, by omega, by go_num, by rw [HJ.out, HS.out]; exact hI3, (hB.trans hb2).trans hb3, by show _ ≤ _; rw [HJ.out, List.length_append, List.length_append]; simp only [List.length_singleton]; omega⟩
            case measure => simp [intOf]; omega
          · have e0 : (x.toList == []) = false := by rw [ByteArray.toList_eq]; simpa using hx0
            have e1 : x.toList.isEmpty = false := by rw [ByteArray.toList_eq]; simpa using hx0
            have HS := Lib.hid (star_not hx0)
            clear hx hx0
            go_wp2_with fail
            refine (wbs w.heap.size w.heap.size (jt (dL l) k) [44] ⟨#[44]⟩ rfl wr hI (by simp; omega) hB.size).mono ?_
            rintro e w2 ⟨rfl, hI2, hb2⟩
            go_wp2_with fail
            refine (wbs w.heap.size w.heap.size (jt (dL l) k ++ [44]) _ x HS.out.symm w2 hI2 (by rw [List.length_append]; simp only [List.length_singleton]; omega) (hB.trans hb2).size).mono ?_
            rintro e w3 ⟨rfl, hI3, hb3⟩
            go_wp2_with fail
            go_roundw
            case rel => exact ⟨k + 1, by omega, by go_num, by rw [HJ.out]; exact hI3, (hB.trans hb2).trans hb3, by show _ ≤ _; rw [HJ.out, List.length_append, List.length_append]; simp only [List.length_singleton]; omega⟩
            case measure => simp [intOf]; omega
      · have hq : ¬ (k : Int) < (n : Int) := by omega
        have hkn : k = n := by omega
        subst hkn
        rw [HT.out] at hI
        clear HZ
        go_wp2_with fail
        refine (Tryd.Builder_String_any w.heap.size w.heap.size (textR (dL l)) wr hI hB.size).mono ?_
        rintro e w3 ⟨rfl, hb3⟩
        go_wp2_with fail
        go_ret
        exact ⟨⟨⟨(textR (dL l)).toArray⟩, rfl, by simp⟩, hB.trans hb3⟩
end Go.Proofs.YtokkmofcijfmiaaDoor

namespace Go.Proofs.YtokkmofcijfmiaaDoor
open Go.RowKit

def ReadC : Prop := ∀ (s : ByteArray) (w : World), LaidR w → s.size ≤ 500 →
  Calls Tryd.prog 11 #[.string s] w fun e w' =>
    (match readR s.data.toList with
      | some R => Ans R 0 e w'
      | none => e = .returned (.tuple #[.slice none 0 0, .int .i64 2])) ∧ Below w.heap.size w w'
end Go.Proofs.YtokkmofcijfmiaaDoor
