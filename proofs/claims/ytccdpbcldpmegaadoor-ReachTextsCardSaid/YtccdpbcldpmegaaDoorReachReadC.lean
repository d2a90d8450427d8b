/-
  WHAT IS PROVED: reach.Read reads a text's reach, or tells that it is none's (ReadC). Conditions: those typed in the definition.
-/
import Derived.Test.YtccdpbcldpmegaaDoorReachParse
import Derived.Test.YtccdpbcldpmegaaDoorReachTextC
import Derived.Test.YtccdpbcldpmegaaDoorReachIfD
namespace Go.Proofs.YtccdpbcldpmegaaDoor
open Go.RowKit

theorem parseL_sz {l : List ByteArray} {s : ByteArray} (h : dL l = parseL s.data.toList) (hs : s.size ≤ 500) : Sz 500 l := by
  intro x hx
  have h1 : x.data.toList ∈ parseL s.data.toList := by rw [← h]; exact List.mem_map_of_mem hx
  have e1 : x.data.toList.length = x.size := Array.length_toList
  have e2 : s.data.toList.length = s.size := Array.length_toList
  unfold parseL at h1
  by_cases h3 : s.data.toList = [33]
  · rw [if_pos h3] at h1
    cases h1
  · rw [if_neg h3] at h1
    obtain ⟨p, hp, e⟩ := List.mem_map.1 h1
    have h4 := pieceC_each 6 _ p hp
    have h5 := unstar_len p
    rw [e] at h5
    omega
theorem parseL_few (s : List UInt8) : (parseL s).length ≤ 7 := by
  unfold parseL
  split
  · exact Nat.zero_le _
  · rw [List.length_map]
    exact (pieceC_len 6 s).2
/-- .. with the answer named. -/
theorem goodC_is (A : Option Addr) (n c : Nat) (l : List ByteArray) (w : World) (b : Bool) (hb : goodR (dL l) = b) (hL : LaidR w) (hn : l.length = n) (hr : RdS w.heap.size w A l) (hm : n ≤ 1000) (hs : Sz 1000 l) :
    Calls Tryd.prog 15 #[.slice A n c] w fun e w' => e = .returned (.bool b) ∧ Below w.heap.size w w' := by
  subst hb
  exact goodC A n c l w hL hn hr hm hs

set_option maxRecDepth 100000 in
set_option maxHeartbeats 2000000 in
theorem readC : ReadC := by
  intro s w hL hs
  have HP := Lib.hid (readR_parse s.data.toList)
  have hfew := parseL_few s.data.toList
  have HS : Hid (∀ l : List ByteArray, dL l = parseL s.data.toList → Sz 500 l) := fun l h => parseL_sz h hs
  have HPA := Lib.hid (parse_anyR s w hs hL)
  have HL := Lib.hid hL
  clear hL
  generalize parseL s.data.toList = M at HP hfew HS HPA
  by_cases hg : goodR M = true
  · by_cases ht : textR M = s.data.toList
    · have HR : Hid (readR s.data.toList = some M) := by
        show _ = _
        rw [HP.out, if_pos ⟨hg, ht⟩]
      have HG := Lib.hid hg
      have HT := Lib.hid ht
      clear hg ht HP
      rw [HR.out]
      show Calls _ _ _ _ fun e w' => Ans M 0 e w' ∧ Below w.heap.size w w'
      go_enter Tryd.func5, Tryd.ntmps5
      go_wp2_with fail
      refine HPA.out.mono ?_
      rintro e w1 ⟨⟨A1, c1, r1, rfl, hO1, hd1⟩, hb1⟩
      have HD := Lib.hid hd1
      have HZ := Lib.hid (HS.out r1 hd1)
      clear hd1 HPA
      have hn1 := hO1.len
      generalize M.length = n1 at *
      have hr1 := hO1.rd
      go_wp2_with fail
      refine (goodC_is A1 n1 c1 r1 w1 true (by rw [HD.out]; exact HG.out) (HL.out.keep hb1) hn1 hr1 (by omega) (fun x hx => Nat.le_trans (HZ.out x hx) (by omega))).mono ?_
      rintro e w2 ⟨rfl, hb2⟩
      have hB2 := bt hb1 hb2
      have hr2 := (hr1.keep hb2 (Nat.le_refl _)).more hb2.size
      go_wp2_with fail
      refine (textC A1 n1 c1 r1 w2 (HL.out.keep hB2) hn1 hr2 (by rw [HD.out]; exact HG.out)).mono ?_
      rintro e w3 ⟨⟨s3, rfl, hs3⟩, hb3⟩
      have hB3 := bt hB2 hb3
      have hr3 := (hr2.keep hb3 (Nat.le_refl _)).more hb3.size
      have e3 : (s3.toList == s.toList) = true := by rw [ByteArray.toList_eq, ByteArray.toList_eq, hs3, HD.out, HT.out]; simp
      have e3' : (s3.toList != s.toList) = false := by rw [bne, e3]; rfl
      clear hs3
      go_wp2_with fail
      refine (freshTexts_any A1 n1 c1 r1 w3 hn1 hr3 (by omega) (fun x hx => Nat.le_trans (HZ.out x hx) (by omega))).mono ?_
      rintro e w4 ⟨⟨g, rfl, hO4⟩, hb4⟩
      go_wp2_with fail
      go_ret2
      have hln : M.length = n1 := by rw [← HD.out, dL_len, hn1]
      refine ⟨⟨some ⟨g, 0, none⟩, n1, r1, by rw [hln]; rfl, hO4.rd, HD.out⟩, bt hB3 hb4⟩
    · have HR : Hid (readR s.data.toList = none) := by
        show _ = _
        rw [HP.out, if_neg (fun h => ht h.2)]
      have HG := Lib.hid hg
      have HT := Lib.hid ht
      clear hg ht HP
      rw [HR.out]
      show Calls _ _ _ _ fun e w' => e = .returned (.tuple #[.slice none 0 0, .int .i64 2]) ∧ Below w.heap.size w w'
      go_enter Tryd.func5, Tryd.ntmps5
      go_wp2_with fail
      refine HPA.out.mono ?_
      rintro e w1 ⟨⟨A1, c1, r1, rfl, hO1, hd1⟩, hb1⟩
      have HD := Lib.hid hd1
      have HZ := Lib.hid (HS.out r1 hd1)
      clear hd1 HPA
      have hn1 := hO1.len
      generalize M.length = n1 at *
      have hr1 := hO1.rd
      go_wp2_with fail
      refine (goodC_is A1 n1 c1 r1 w1 true (by rw [HD.out]; exact HG.out) (HL.out.keep hb1) hn1 hr1 (by omega) (fun x hx => Nat.le_trans (HZ.out x hx) (by omega))).mono ?_
      rintro e w2 ⟨rfl, hb2⟩
      have hB2 := bt hb1 hb2
      have hr2 := (hr1.keep hb2 (Nat.le_refl _)).more hb2.size
      go_wp2_with fail
      refine (textC A1 n1 c1 r1 w2 (HL.out.keep hB2) hn1 hr2 (by rw [HD.out]; exact HG.out)).mono ?_
      rintro e w3 ⟨⟨s3, rfl, hs3⟩, hb3⟩
      have hB3 := bt hB2 hb3
      have e3 : (s3.toList == s.toList) = false := by
        rw [ByteArray.toList_eq, ByteArray.toList_eq, hs3, HD.out]
        simpa using HT.out
      have e3' : (s3.toList != s.toList) = true := by rw [bne, e3]; rfl
      clear hs3
      go_wp2_with fail
      go_ret2
      exact ⟨rfl, hB3⟩
  · have HR : Hid (readR s.data.toList = none) := by
      show _ = _
      rw [HP.out, if_neg (fun h => hg h.1)]
    have HG := Lib.hid (Bool.eq_false_iff.2 hg)
    clear hg HP
    rw [HR.out]
    show Calls _ _ _ _ fun e w' => e = .returned (.tuple #[.slice none 0 0, .int .i64 2]) ∧ Below w.heap.size w w'
    go_enter Tryd.func5, Tryd.ntmps5
    go_wp2_with fail
    refine HPA.out.mono ?_
    rintro e w1 ⟨⟨A1, c1, r1, rfl, hO1, hd1⟩, hb1⟩
    have HD := Lib.hid hd1
    have HZ := Lib.hid (HS.out r1 hd1)
    clear hd1 HPA
    have hn1 := hO1.len
    generalize M.length = n1 at *
    have hr1 := hO1.rd
    go_wp2_with fail
    refine (goodC_is A1 n1 c1 r1 w1 false (by rw [HD.out]; exact HG.out) (HL.out.keep hb1) hn1 hr1 (by omega) (fun x hx => Nat.le_trans (HZ.out x hx) (by omega))).mono ?_
    rintro e w2 ⟨rfl, hb2⟩
    go_wp2_with fail
    go_ret2
    exact ⟨rfl, bt hb1 hb2⟩
end Go.Proofs.YtccdpbcldpmegaaDoor
