/-
  WHAT IS PROVED: reach.Read reads a text's reach, or tells that it is none's (ReadC). Conditions: those typed in the definition. · slices.Grow of nil, and slices.Concat of two slices of strings: a row of the call's own with both. Conditions: those typed in each theorem. · reach.within answers those that the other one has; reach.Both makes the reach of what both have (BothC). Conditions: those typed in each theorem.
-/
import Derived.Test.YtokkmofcijfmiaaDoorGQ7
import Derived.Test.YtokkmofcijfmiaaDoorGQ0
import Derived.Lib.AppendZeros
import Derived.Test.YtokkmofcijfmiaaDoorGQ6
namespace Go.Proofs.YtokkmofcijfmiaaDoor
open Go.RowKit

theorem parseL_sz {l : List ByteArray} {s : ByteArray} (h : dL l = parseL s.data.toList) (hs : s.size ≤ 500) : Sz 500 l := by
  intro x hx
  have h1 : x.data.toList ∈ parseL s.data.toList := by rw [← h]; exact List.mem_map_of_mem hx
  have e1 : x.data.toList.length = x.size := Array.length_toList
  have e2 : s.data.toList.length = s.size := Array.length_toList
  unfold parseL at h1
  by_cases h3 : s.data.toList = [33]
  · rw [if_pos h3] at h1
    cases h1
  · rw [if_neg h3] at h1
    obtain ⟨p, hp, e⟩ := List.mem_map.1 h1
    have h4 := pieceC_each 6 _ p hp
    have h5 := unstar_len p
    rw [e] at h5
    omega
theorem parseL_few (s : List UInt8) : (parseL s).length ≤ 7 := by
  unfold parseL
  split
  · exact Nat.zero_le _
  · rw [List.length_map]
    exact (pieceC_len 6 s).2
/-- .. with the answer named. -/
theorem goodC_is (A : Option Addr) (n c : Nat) (l : List ByteArray) (w : World) (b : Bool) (hb : goodR (dL l) = b) (hL : LaidR w) (hn : l.length = n) (hr : RdS w.heap.size w A l) (hm : n ≤ 1000) (hs : Sz 1000 l) :
    Calls Tryd.prog 28 #[.slice A n c] w fun e w' => e = .returned (.bool b) ∧ Below w.heap.size w w' := by
  subst hb
  exact goodC A n c l w hL hn hr hm hs

set_option maxRecDepth 100000 in
set_option maxHeartbeats 2000000 in
theorem readC : ReadC := by
  intro s w hL hs
  have HP := Lib.hid (readR_parse s.data.toList)
  have hfew := parseL_few s.data.toList
  have HS : Hid (∀ l : List ByteArray, dL l = parseL s.data.toList → Sz 500 l) := fun l h => parseL_sz h hs
  have HPA := Lib.hid (parse_anyR s w hs hL)
  have HL := Lib.hid hL
  clear hL
  generalize parseL s.data.toList = M at HP hfew HS HPA
  by_cases hg : goodR M = true
  · by_cases ht : textR M = s.data.toList
    · have HR : Hid (readR s.data.toList = some M) := by
        show _ = _
        rw [HP.out, if_pos ⟨hg, ht⟩]
      have HG := Lib.hid hg
      have HT := Lib.hid ht
      clear hg ht HP
      rw [HR.out]
      show Calls _ _ _ _ fun e w' => Ans M 0 e w' ∧ Below w.heap.size w w'
      go_enter Tryd.func11, Tryd.ntmps11
      go_wp2_with fail
      refine HPA.out.mono ?_
      rintro e w1 ⟨⟨A1, c1, r1, rfl, hO1, hd1⟩, hb1⟩
      have HD := Lib.hid hd1
      have HZ := Lib.hid (HS.out r1 hd1)
      clear hd1 HPA
      have hn1 := hO1.len
      generalize M.length = n1 at *
      have hr1 := hO1.rd
      go_wp2_with fail
      refine (goodC_is A1 n1 c1 r1 w1 true (by rw [HD.out]; exact HG.out) (HL.out.keep hb1) hn1 hr1 (by omega) (fun x hx => Nat.le_trans (HZ.out x hx) (by omega))).mono ?_
      rintro e w2 ⟨rfl, hb2⟩
      have hB2 := bt hb1 hb2
      have hr2 := (hr1.keep hb2 (Nat.le_refl _)).more hb2.size
      go_wp2_with fail
      refine (textC A1 n1 c1 r1 w2 (HL.out.keep hB2) hn1 hr2 (by rw [HD.out]; exact HG.out)).mono ?_
      rintro e w3 ⟨⟨s3, rfl, hs3⟩, hb3⟩
      have hB3 := bt hB2 hb3
      have hr3 := (hr2.keep hb3 (Nat.le_refl _)).more hb3.size
      have e3 : (s3.toList == s.toList) = true := by rw [ByteArray.toList_eq, ByteArray.toList_eq, hs3, HD.out, HT.out]; simp
      have e3' : (s3.toList != s.toList) = false := by rw [bne, e3]; rfl
      clear hs3
      go_wp2_with fail
      refine (freshTexts_any A1 n1 c1 r1 w3 hn1 hr3 (by omega) (fun x hx => Nat.le_trans (HZ.out x hx) (by omega))).mono ?_
      rintro e w4 ⟨⟨g, rfl, hO4⟩, hb4⟩
      go_wp2_with fail
      go_ret2
      have hln : M.length = n1 := by rw [← HD.out, dL_len, hn1]
      refine ⟨⟨some ⟨g, 0, none⟩, n1, r1, by rw [hln]; rfl, hO4.rd, HD.out⟩, bt hB3 hb4⟩
    · have HR : Hid (readR s.data.toList = none) := by
        show _ = _
        rw [HP.out, if_neg (fun h => ht h.2)]
      have HG := Lib.hid hg
      have HT := Lib.hid ht
      clear hg ht HP
      rw [HR.out]
      show Calls _ _ _ _ fun e w' => e = .returned (.tuple #[.slice none 0 0, .int .i64 2]) ∧ Below w.heap.size w w'
      go_enter Tryd.func11, Tryd.ntmps11
      go_wp2_with fail
      refine HPA.out.mono ?_
      rintro e w1 ⟨⟨A1, c1, r1, rfl, hO1, hd1⟩, hb1⟩
      have HD := Lib.hid hd1
      have HZ := Lib.hid (HS.out r1 hd1)
      clear hd1 HPA
      have hn1 := hO1.len
      generalize M.length = n1 at *
      have hr1 := hO1.rd
      go_wp2_with fail
      refine (goodC_is A1 n1 c1 r1 w1 true (by rw [HD.out]; exact HG.out) (HL.out.keep hb1) hn1 hr1 (by omega) (fun x hx => Nat.le_trans (HZ.out x hx) (by omega))).mono ?_
      rintro e w2 ⟨rfl, hb2⟩
      have hB2 := bt hb1 hb2
      have hr2 := (hr1.keep hb2 (Nat.le_refl _)).more hb2.size
      go_wp2_with fail
      refine (textC A1 n1 c1 r1 w2 (HL.out.keep hB2) hn1 hr2 (by rw [HD.out]; exact HG.out)).mono ?_
      rintro e w3 ⟨⟨s3, rfl, hs3⟩, hb3⟩
      have hB3 := bt hB2 hb3
      have e3 : (s3.toList == s.toList) = false := by
        rw [ByteArray.toList_eq, ByteArray.toList_eq, hs3, HD.out]
        simpa using HT.out
      have e3' : (s3.toList != s.toList) = true := by rw [bne, e3]; rfl
      clear hs3
      go_wp2_with fail
      go_ret2
      exact ⟨rfl, hB3⟩
  · have HR : Hid (readR s.data.toList = none) := by
      show _ = _
      rw [HP.out, if_neg (fun h => hg h.1)]
    have HG := Lib.hid (Bool.eq_false_iff.2 hg)
    clear hg HP
    rw [HR.out]
    show Calls _ _ _ _ fun e w' => e = .returned (.tuple #[.slice none 0 0, .int .i64 2]) ∧ Below w.heap.size w w'
    go_enter Tryd.func11, Tryd.ntmps11
    go_wp2_with fail
    refine HPA.out.mono ?_
    rintro e w1 ⟨⟨A1, c1, r1, rfl, hO1, hd1⟩, hb1⟩
    have HD := Lib.hid hd1
    have HZ := Lib.hid (HS.out r1 hd1)
    clear hd1 HPA
    have hn1 := hO1.len
    generalize M.length = n1 at *
    have hr1 := hO1.rd
    go_wp2_with fail
    refine (goodC_is A1 n1 c1 r1 w1 false (by rw [HD.out]; exact HG.out) (HL.out.keep hb1) hn1 hr1 (by omega) (fun x hx => Nat.le_trans (HZ.out x hx) (by omega))).mono ?_
    rintro e w2 ⟨rfl, hb2⟩
    go_wp2_with fail
    go_ret2
    exact ⟨rfl, bt hb1 hb2⟩
end Go.Proofs.YtokkmofcijfmiaaDoor

namespace Go.Proofs.YtokkmofcijfmiaaDoor
open Go.RowKit

theorem ownZero {W : World} {base n : Nat} (cs : Array Value) (c : Nat) (hb : base ≤ W.heap.size) (hc : c ≤ maxLen) (hs : cs.size = c) (_hn : n ≤ c) : OwnS base (W.alloc (.cells cs 9)) (some ⟨W.heap.size, 0, none⟩) 0 c [] := by
  unfold OwnS
  exact World.ownsRow_made W cs c hb hc (by rw [hs, Nat.mul_one])
/-- Both, as far as k of them. -/
def partL (a b : List ByteArray) (k : Nat) : List ByteArray := if k = 0 then [] else if k = 1 then a else a ++ b
def partN (n m k : Nat) : Nat := if k = 0 then 0 else if k = 1 then n else n + m
theorem zeroC (z : Value) (n : Nat) : (Builtin.zeroCells #[z] n).size = n := by simp [Builtin.zeroCells]

set_option maxHeartbeats 2000000 in
set_option maxRecDepth 100000 in
theorem growL_any (n : Nat) (w : World) (hn : n ≤ 1000000) :
    Calls Tryd.prog 66 #[.slice none 0 0, .int .i64 n] w fun e w' => (∃ (A : Option Addr) (c : Nat), e = .returned (.slice A 0 c) ∧ OwnS w.heap.size w' A 0 c []) ∧ Below w.heap.size w w' := by
  obtain ⟨i0, hi0, hz0, hz1, hz2⟩ := info_parts str_info
  have h1 : ¬ ((n : Int) < 0) := by omega
  have h2 : wrap64 (n : Int) = (n : Int) := by unfold wrap64; omega
  by_cases h0 : n = 0
  · subst h0
    go_enter Tryd.func66, Tryd.ntmps66
    go_wp2_with fail
    go_ret
    exact ⟨⟨none, 0, rfl, OwnS.nil _ _⟩, Below.refl _ _⟩
  · have h4 : (0 : Int) < (n : Int) := by omega
    have hrz : ∀ ty, (Builtin.append_ #[22, 3] ty #[.slice none 0 0, .int .i64 n]).run Tryd.prog w = _ := fun ty => Lib.run_append_nil_zeros w 22 3 ty 9 i0 (.string ⟨#[]⟩) .i64 .i64 Tryd.underlying22 Tryd.underlying3 hi0 hz0 n (by omega) (by omega) (by omega) (by rw [hz2]; omega)
    have hG1 := grownCap_ge w n 0 9
    have hG2 := grownCap_le_maxLen w n 0 9 (by unfold maxLen; omega)
    have HG3 := Lib.hid hG2
    unfold maxLen at hG2
    generalize grownCap w n 0 9 = G at hrz hG1 hG2 HG3
    have HO : Hid (OwnS w.heap.size (w.drew.alloc (.cells (Builtin.zeroCells (Value.string ⟨#[]⟩).cells n ++ Builtin.zeroCells (Value.string ⟨#[]⟩).cells (G - n)) 9)) (some ⟨w.heap.size, 0, none⟩) 0 G []) :=
      ownZero (W := w.drew) (base := w.heap.size) (n := n) _ G (Nat.le_refl _) HG3.out (by
        show (Builtin.zeroCells #[Value.string ⟨#[]⟩] n ++ Builtin.zeroCells #[Value.string ⟨#[]⟩] (G - n)).size = G
        rw [Array.size_append, zeroC, zeroC]; omega) hG1
    have HB : Hid (Below w.heap.size w (w.drew.alloc (.cells (Builtin.zeroCells (Value.string ⟨#[]⟩).cells n ++ Builtin.zeroCells (Value.string ⟨#[]⟩).cells (G - n)) 9))) := ((Below.refl w.heap.size w).drew).alloc (Nat.le_refl _) _
    generalize w.drew.alloc (.cells (Builtin.zeroCells (Value.string ⟨#[]⟩).cells n ++ Builtin.zeroCells (Value.string ⟨#[]⟩).cells (G - n)) 9) = w9 at hrz HO HB
    have j0 : (0 : Int) ≤ (G : Int) := by omega
    go_enter Tryd.func66, Tryd.ntmps66
    go_wp2_with (at_builtin; refine Lib.wpList_append_run _ rfl _ _ _ _ rfl _ _ rfl rfl _ _ (hrz _) ?_)
    go_ret
    exact ⟨⟨_, _, rfl, HO.out⟩, HB.out⟩

set_option maxHeartbeats 2000000 in
set_option maxRecDepth 100000 in
theorem concatL_any (g : Nat) (A A2 : Option Addr) (n c m d : Nat) (a b : List ByteArray) (w : World) (hg : g < w.heap.size) (h0 : w.cell? ⟨g, 0, none⟩ = some (.slice A n c)) (h1 : w.cell? ⟨g, 1, none⟩ = some (.slice A2 m d))
    (ha : a.length = n) (hr : RdS w.heap.size w A a) (hb : b.length = m) (hr2 : RdS w.heap.size w A2 b) (hm : n ≤ 1000) (hm2 : m ≤ 1000) :
    Calls Tryd.prog 46 #[.slice (some ⟨g, 0, none⟩) 2 2] w fun e w' => (∃ (A' : Option Addr) (c' : Nat), e = .returned (.slice A' (n + m) c') ∧ OwnS w.heap.size w' A' (n + m) c' (a ++ b)) ∧ Below w.heap.size w w' := by
  obtain ⟨i0, hi0, hz0, hz1, hz2⟩ := info_parts str_info
  have HA := Lib.hid ha
  have HB := Lib.hid hb
  clear ha hb
  have e1 : wrap64 (n : Int) = (n : Int) := by unfold wrap64; omega
  have e2 : wrap64 ((n : Int) + (m : Int)) = (n : Int) + (m : Int) := by unfold wrap64; omega
  have e3 : ¬ ((n : Int) < 0) := by omega
  have e4 : ¬ ((n : Int) + (m : Int) < 0) := by omega
  go_enter Tryd.func46, Tryd.ntmps46
  go_wp2_with fail
  go_loop [3, 11] (fun v i => (i = .int .i64 0 ∧ v = .int .i64 0) ∨ (i = .int .i64 1 ∧ v = .int .i64 n) ∨ (i = .int .i64 2 ∧ v = .int .i64 ((n : Int) + (m : Int)))) (fun _ i => 2 - (intOf i).toNat)
  case atStart => exact Or.inl ⟨rfl, rfl⟩
  case round =>
    rcases hrel with ⟨rfl, rfl⟩ | ⟨rfl, rfl⟩ | ⟨rfl, rfl⟩
    · go_wp2_with fail
      go_round
      case rel => exact Or.inr (Or.inl ⟨rfl, by first | rfl | (congr 1; omega) | simp [e1]⟩)
      case measure => simp [intOf]
    · go_wp2_with fail
      go_round
      case rel => exact Or.inr (Or.inr ⟨rfl, by first | rfl | (congr 1; omega) | simp [e2]⟩)
      case measure => simp [intOf]
    · go_wp2_with fail
      have hnm : (n : Int) + (m : Int) = ((n + m : Nat) : Int) := by omega
      rw [hnm]
      clear hnm
      refine (growL_any (n + m) w (by omega)).mono ?_
      rintro e w1 ⟨⟨A1, c1, rfl, hO1⟩, hb1⟩
      have k0 := (hb1.cell (p := ⟨g, 0, none⟩) hg).trans h0
      have k1 := (hb1.cell (p := ⟨g, 1, none⟩) hg).trans h1
      have hr' := (hr.keep hb1 (Nat.le_refl _))
      have hr2' := (hr2.keep hb1 (Nat.le_refl _))
      go_wp2_with fail
      go_loopw [6, 27] (fun v i wr => ∃ (A3 : Option Addr) (c3 : Nat), Below w.heap.size w wr ∧ ((i = .int .i64 0 ∧ v = .slice A3 0 c3 ∧ OwnS w.heap.size wr A3 0 c3 []) ∨ (i = .int .i64 1 ∧ v = .slice A3 n c3 ∧ OwnS w.heap.size wr A3 n c3 a) ∨ (i = .int .i64 2 ∧ v = .slice A3 (n + m) c3 ∧ OwnS w.heap.size wr A3 (n + m) c3 (a ++ b)))) (fun _ i _ => 2 - (intOf i).toNat)
      case atStart => exact ⟨A1, c1, hb1, Or.inl ⟨rfl, rfl, hO1⟩⟩
      case round =>
        clear hO1 k0 k1 hr' hr2' hb1
        obtain ⟨A3, c3, hB, hrel⟩ := hrel
        have k0 := (hB.cell (p := ⟨g, 0, none⟩) hg).trans h0
        have k1 := (hB.cell (p := ⟨g, 1, none⟩) hg).trans h1
        have hr' := (hr.keep hB (Nat.le_refl _))
        have hr2' := (hr2.keep hB (Nat.le_refl _))
        rcases hrel with ⟨rfl, rfl, hO⟩ | ⟨rfl, rfl, hO⟩ | ⟨rfl, rfl, hO⟩
        · go_wp2_with (at_builtin; refine wpList_apS (l := []) (l2 := a) (B := w.heap.size) rfl _ _ rfl Tryd.underlying22 Tryd.underlying22 hi0 hz0 hz1 hz2 rfl rfl hO hr' HA.out n (Nat.zero_add n) (by omega) hB.size ?_)
          intro A' c' w' q1 q2 q3
          go_wp2_with fail
          go_roundw
          case rel => exact ⟨A', c', hB.trans q2, Or.inr (Or.inl ⟨rfl, rfl, q1⟩)⟩
          case measure => simp [intOf]
        · go_wp2_with (at_builtin; refine wpList_apS (l := a) (l2 := b) (B := w.heap.size) rfl _ _ rfl Tryd.underlying22 Tryd.underlying22 hi0 hz0 hz1 hz2 rfl rfl hO hr2' HB.out (n + m) rfl (by omega) hB.size ?_)
          intro A' c' w' q1 q2 q3
          go_wp2_with fail
          go_roundw
          case rel => exact ⟨A', c', hB.trans q2, Or.inr (Or.inr ⟨rfl, rfl, q1⟩)⟩
          case measure => simp [intOf]
        · go_wp2_with fail
          go_ret
          exact ⟨⟨A3, c3, rfl, hO⟩, hB⟩
end Go.Proofs.YtokkmofcijfmiaaDoor

namespace Go.Proofs.YtokkmofcijfmiaaDoor
open Go.RowKit

theorem within_step {l : List ByteArray} {k : Nat} {x : ByteArray} (h : l[k]? = some x) (p : List UInt8 → Bool) {L : List ByteArray} (hL : dL L = ((dL l).take k).filter p) (b : Bool) (hb : p x.data.toList = b) : ((dL l).take (k + 1)).filter p = if b = true then dL (L ++ [x]) else dL L := by
  rw [take_succ_get h, List.filter_append, ← hL]
  cases b with
  | true => simp [hb]
  | false => simp [hb]

set_option maxRecDepth 100000 in
set_option maxHeartbeats 2000000 in
theorem within_any (A A2 : Option Addr) (n c m d : Nat) (a b : List ByteArray) (w : World) (hn : a.length = n) (hr : RdS w.heap.size w A a) (hm : n ≤ 1000) (hb : b.length = m) (hr2 : RdS w.heap.size w A2 b) (hm2 : m ≤ 1000) :
    Calls Tryd.prog 47 #[.slice A n c, .slice A2 m d] w fun e w' => AnsO w.heap.size ((dL a).filter fun x => hasB (dL b) x) e w' ∧ Below w.heap.size w w' := by
  obtain ⟨i0, hi0, hz0, hz1, hz2⟩ := info_parts str_info
  have HN := Lib.hid hn
  have HB := Lib.hid hb
  clear hn hb
  go_enter Tryd.func47, Tryd.ntmps47
  go_wp2_with fail
  go_loopw [5, 10] (fun u i wr => ∃ (k q : Nat) (A3 : Option Addr) (c3 : Nat) (L : List ByteArray), k ≤ n ∧ i = .int .i64 k ∧ u = .slice A3 q c3 ∧ OwnS w.heap.size wr A3 q c3 L ∧ Hid (dL L = ((dL a).take k).filter fun x => hasB (dL b) x) ∧ q ≤ k ∧ Below w.heap.size w wr) (fun _ i _ => n - (intOf i).toNat)
  case atStart => exact ⟨0, 0, none, 0, [], Nat.zero_le _, rfl, rfl, OwnS.nil _ _, rfl, Nat.le_refl _, Below.refl _ _⟩
  case round =>
    obtain ⟨k, q, A3, c3, L, hk, rfl, rfl, hO, hA, hqk, hB⟩ := hrel
    have hL := hO.len
    by_cases hlt : k < n
    · obtain ⟨x, hx⟩ := get_ex (show k < a.length by have := HN.out; omega)
      obtain ⟨ad, rfl, _, hc⟩ := (hr.keep hB (Nat.le_refl _)) k x hx
      have i1 : (0 : Int) ≤ (k : Int) := by omega
      have i2 : (k : Int) < (n : Int) := by omega
      have hr2' := (hr2.keep hB (Nat.le_refl _)).more hB.size
      cases hh : hasB (dL b) x.data.toList with
      | true =>
        have HH := Lib.hid hh
        have HA2 : Hid (dL (L ++ [x]) = ((dL a).take (k + 1)).filter fun x => hasB (dL b) x) := by
          show _ = _
          rw [within_step hx _ hA.out true hh, if_pos rfl]
        clear hh hA hx
        go_wp2_with first
          | (go_at_call 45; refine (has_is A2 m d b x wr true HH.out HB.out hr2' (by unfold maxLen; omega)).mono ?_; rintro e w2 ⟨rfl, hb2⟩; have hB2 := bt hB hb2; have hO3 := (hO.keep hb2).keep (b0 w2 (.cells #[.string x] 9)); have hB0 := hB2.alloc hB2.size (.cells #[.string x] 9))
          | (at_builtin; refine wpList_apS (l := L) (l2 := [x]) (B := w2.heap.size + 1) rfl _ _ rfl Tryd.underlying22 Tryd.underlying22 hi0 hz0 hz1 hz2 rfl rfl hO3 (rdOne w2 x _ rfl) rfl (q + 1) rfl (by omega) ?b ?_)
        case b => have := hB2.size; simp; omega
        intro A' c' w' k1 k2 k3
        have hB3 := hB0.trans k2
        go_wp2_with fail
        go_roundw
        case rel => exact ⟨k + 1, q + 1, A', c', L ++ [x], by omega, by go_num, rfl, k1, HA2, by omega, hB3⟩
        case measure => simp [intOf]; omega
      | false =>
        have HH := Lib.hid hh
        have HA2 : Hid (dL L = ((dL a).take (k + 1)).filter fun x => hasB (dL b) x) := by
          show _ = _
          rw [within_step hx _ hA.out false hh, if_neg Bool.false_ne_true]
        clear hh hA hx
        go_wp2_with (go_at_call 45; refine (has_is A2 m d b x wr false HH.out HB.out hr2' (by unfold maxLen; omega)).mono ?_; rintro e w2 ⟨rfl, hb2⟩)
        go_roundw
        case rel => exact ⟨k + 1, q, A3, c3, L, by omega, by go_num, rfl, hO.keep hb2, HA2, by omega, bt hB hb2⟩
        case measure => simp [intOf]; omega
    · have hq : ¬ (k : Int) < (n : Int) := by omega
      have HA2 : Hid (dL L = (dL a).filter fun x => hasB (dL b) x) := by
        show _ = _
        rw [hA.out, List.take_of_length_le (by rw [dL_len, HN.out]; omega)]
      have HM : Hid (q = ((dL a).filter fun x => hasB (dL b) x).length) := by
        show _ = _
        rw [← HA2.out, dL_len, hL]
      clear hA hL
      go_wp2_with fail
      go_ret
      exact ⟨⟨A3, c3, L, by rw [← HM.out]; rfl, by rw [← HM.out]; exact hO, HA2.out⟩, hB⟩

theorem sz_app {a b : List ByteArray} {N : Nat} (h : Sz N a) (k : Sz N b) : Sz N (a ++ b) := by
  intro x hx
  rcases List.mem_append.1 hx with hx | hx
  · exact h x hx
  · exact k x hx
theorem sz_filter {l r : List ByteArray} {p : List UInt8 → Bool} {N : Nat} (h : dL r = (dL l).filter p) (hs : Sz N l) : Sz N r := by
  intro x hx
  have h1 : x.data.toList ∈ (dL l).filter p := by rw [← h]; exact List.mem_map_of_mem hx
  obtain ⟨y, hy, e⟩ := List.mem_map.1 (List.mem_filter.1 h1).1
  have e1 : x.data.toList.length = x.size := Array.length_toList
  have e2 : y.data.toList.length = y.size := Array.length_toList
  rw [← e1, ← e, e2]
  exact hs y hy
theorem both_made {a b r s R : List (List UInt8)} (h1 : r = a.filter fun x => hasB b x) (h2 : s = b.filter fun x => hasB a x) (hR : IsMade (BothS a b) R) : leastOf (r ++ s) = R := by
  refine made_uniq (least_made (r ++ s)) hR fun x => ?_
  rw [List.mem_append, h1, h2, List.mem_filter, List.mem_filter]
  unfold BothS
  exact Or.comm

set_option maxRecDepth 100000 in
set_option maxHeartbeats 2000000 in
theorem bothC : BothC := by
  intro A A2 n c m d a b w R _ ha hr hb hr2 g1 g2 hR
  have n6 : n ≤ 6 := by rw [← ha]; exact goodR_six g1
  have m6 : m ≤ 6 := by rw [← hb]; exact goodR_six g2
  have HA := Lib.hid ha
  have HB := Lib.hid hb
  have HR := Lib.hid hR
  have S1 := Lib.hid (goodR_sizes g1)
  have S2 := Lib.hid (goodR_sizes g2)
  clear ha hb hR g1 g2
  go_enter Tryd.func26, Tryd.ntmps26
  go_wp2_with fail
  refine (within_any A A2 n c m d a b w HA.out hr (by omega) HB.out hr2 (by omega)).mono ?_
  rintro e w2 ⟨⟨A3, c3, r3, rfl, hO3, hd3⟩, hb2⟩
  have HD3 := Lib.hid hd3
  have hl3 := hO3.len
  have hf3 : ((dL a).filter fun x => hasB (dL b) x).length ≤ 6 := Nat.le_trans (List.length_filter_le _ _) (by rw [dL_len, HA.out]; exact n6)
  generalize ((dL a).filter fun x => hasB (dL b) x).length = n3 at hO3 hl3 hf3 ⊢
  clear hd3
  go_wp2_with fail
  refine (within_any A2 A m d n c b a w2 HB.out ((hr2.keep hb2 (Nat.le_refl _)).more hb2.size) (by omega) HA.out ((hr.keep hb2 (Nat.le_refl _)).more hb2.size) (by omega)).mono ?_
  rintro e w3 ⟨⟨A4, c4, r4, rfl, hO4, hd4⟩, hb3⟩
  have HD4 := Lib.hid hd4
  have hl4 := hO4.len
  have hf4 : ((dL b).filter fun x => hasB (dL a) x).length ≤ 6 := Nat.le_trans (List.length_filter_le _ _) (by rw [dL_len, HB.out]; exact m6)
  generalize ((dL b).filter fun x => hasB (dL a) x).length = n4 at hO4 hl4 hf4 ⊢
  clear hd4
  have hB3 := bt hb2 hb3
  have hrd3 := rd_own hO3 hb3
  have hrd4 := rd_own hO4 (Below.refl _ w3)
  have HL3 := Lib.hid hl3
  have HL4 := Lib.hid hl4
  clear hl3 hl4
  go_wp2_with fail
  have q0 : (w3.alloc (.cells #[.slice A3 n3 c3, .slice A4 n4 c4] 22)).cell? ⟨w3.heap.size, 0, none⟩ = some (.slice A3 n3 c3) := by go_simp
  have q1 : (w3.alloc (.cells #[.slice A3 n3 c3, .slice A4 n4 c4] 22)).cell? ⟨w3.heap.size, 1, none⟩ = some (.slice A4 n4 c4) := by go_simp
  have hba := b0 w3 (.cells #[.slice A3 n3 c3, .slice A4 n4 c4] 22)
  refine (concatL_any w3.heap.size A3 A4 n3 c3 n4 c4 r3 r4 _ (by simp) q0 q1 HL3.out ((hrd3.keep hba (Nat.le_refl _)).more hba.size) HL4.out ((hrd4.keep hba (Nat.le_refl _)).more hba.size) (by omega) (by omega)).mono ?_
  rintro e w5 ⟨⟨A5, c5, rfl, hO5⟩, hb5⟩
  have hB5 := bt (bt hB3 hba) hb5
  clear q0 q1 hba hb5 hrd3 hrd4
  go_wp2_with fail
  refine (least_any A5 (n3 + n4) c5 (r3 ++ r4) w5 hO5.len hO5.rd (by omega)).mono ?_
  rintro e w6 ⟨⟨A6, c6, r6, rfl, hO6, hd6⟩, hb6⟩
  have HE : Hid (leastOf (dL (r3 ++ r4)) = R) := by
    show _ = _
    rw [show dL (r3 ++ r4) = dL r3 ++ dL r4 from List.map_append]
    exact both_made HD3.out HD4.out HR.out
  have hsz := leastOf_sz hd6 (sz_app (sz_filter HD3.out S1.out) (sz_filter HD4.out S2.out))
  have hlen := leastOf_len (dL (r3 ++ r4))
  rw [dL_len, hO5.len, HE.out] at hlen
  rw [HE.out] at hd6 hO6 ⊢
  have HD6 := Lib.hid hd6
  have hB6 := bt hB5 hb6
  clear hd6 hb6 HE
  generalize hlr : R.length = nR at hO6 hlen ⊢
  have HLR := Lib.hid hlr
  clear hlr
  go_wp2_with fail
  refine (freshTexts_any A6 nR c6 r6 w6 hO6.len hO6.rd (by omega) (fun x hx => Nat.le_trans (hsz x hx) (by omega))).mono ?_
  rintro e w7 ⟨⟨g, rfl, hO7⟩, hb7⟩
  go_wp2_with fail
  go_ret
  refine ⟨⟨some ⟨g, 0, none⟩, nR, r6, ?_, hO7.rd, HD6.out⟩, bt hB6 hb7⟩
  rw [HLR.out]
  rfl
end Go.Proofs.YtokkmofcijfmiaaDoor
