/-
  WHAT IS PROVED: the document's reading of a line, way by way. Conditions: those typed in each theorem.
-/
import Derived.Test.YtmilcgikncecnaaDoorRefCut
import Derived.Test.YtmilcgikncecnaaDoorReadD
namespace Go.Proofs.YtmilcgikncecnaaDoor
open Go.RowKit

/-- The kind found among the words before the k-th. -/
def kindAt (l : List UInt8) (k : Nat) : Int := if 1 < k ∧ l = wordL 1 then 1 else if 2 < k ∧ l = wordL 2 then 2 else if 3 < k ∧ l = wordL 3 then 3 else if 4 < k ∧ l = wordL 4 then 4 else 0
theorem kindAt_1 (l : List UInt8) : kindAt l 1 = 0 := by unfold kindAt; simp
theorem kindAt_5 (l : List UInt8) : kindAt l 5 = begunK l := by unfold kindAt begunK; simp
theorem kindAt_y1 : kindAt [112, 117, 116] 2 = 1 := by decide
theorem kindAt_y2 : kindAt [100, 101, 108] 3 = 2 := by decide
theorem kindAt_y3 : kindAt [97, 100, 100] 4 = 3 := by decide
theorem kindAt_y4 : kindAt [99, 97, 115] 5 = 4 := by decide
theorem kindAt_no (l : List UInt8) (k : Nat) (h1 : 1 ≤ k) (h4 : k ≤ 4) (h : l ≠ wordL k) : kindAt l (k + 1) = kindAt l k := by
  have hc : k = 1 ∨ k = 2 ∨ k = 3 ∨ k = 4 := by omega
  rcases hc with rfl | rfl | rfl | rfl
  · have h' : l ≠ wordL 1 := h
    unfold kindAt
    simp [h']
  · have h' : l ≠ wordL 2 := h
    unfold kindAt
    simp [h']
  · have h' : l ≠ wordL 3 := h
    unfold kindAt
    simp [h']
  · have h' : l ≠ wordL 4 := h
    unfold kindAt
    simp [h']

theorem cut_call {s : ByteArray} {o : Option (List UInt8 × List UInt8)} (hs : s.size ≤ maxLen) (h : cutL s.data.toList = o) : Hid (∀ W : World, Calls Tryd.prog 34 #[.string s] W fun e W' => e = .returned (cT s o) ∧ Below W.heap.size W W') := by
  intro W
  have := refCut_any s W hs
  rwa [h] at this

/-- What a round of the loop over the words has. -/
def RRel (R OB WB : Nat) (w1 : ByteArray) (k : Nat) (w wr : World) : Prop :=
  Blk wr WB #[.string ⟨#[]⟩, .string ⟨#[112, 117, 116]⟩, .string ⟨#[100, 101, 108]⟩, .string ⟨#[97, 100, 100]⟩, .string ⟨#[99, 97, 115]⟩] 55 ∧ Blk wr OB (opC (kindAt w1.data.toList k) ⟨#[]⟩ 0 0 ⟨#[]⟩ 0 0 ⟨#[]⟩) 28 ∧ Blk wr R (opC 0 ⟨#[]⟩ 0 0 ⟨#[]⟩ 0 0 ⟨#[]⟩) 28 ∧ Below R w wr

set_option maxRecDepth 100000 in
set_option maxHeartbeats 8000000 in
theorem refReadD_0 (s w1 r1 : ByteArray) (w : World) (Hc1 : Hid (∀ W : World, Calls Tryd.prog 34 #[.string s] W fun e W' => e = .returned (.tuple #[.string w1, .string r1, .bool false]) ∧ Below W.heap.size W W')) :
    Calls Tryd.prog 20 #[.string s] w fun e w' => e = .returned (noT false) ∧ Below w.heap.size w w' := by
  go_enter Tryd.func20, Tryd.ntmps20
  go_wp2_with fail
  have hB := b0 w (.cells (opC 0 ⟨#[]⟩ 0 0 ⟨#[]⟩ 0 0 ⟨#[]⟩) 28)
  have HR := Lib.hid (blk_new w (opC 0 ⟨#[]⟩ 0 0 ⟨#[]⟩ 0 0 ⟨#[]⟩) 28)
  generalize w.alloc (.cells (opC 0 ⟨#[]⟩ 0 0 ⟨#[]⟩ 0 0 ⟨#[]⟩) 28) = W at HR hB ⊢
  refine (Hc1.out _).mono ?_
  rintro e wa ⟨rfl, hba⟩
  replace hB := bt hB hba
  replace HR := Lib.hid (HR.out.keep hba)
  clear hba
  obtain ⟨q0, q1, q2, q3, q4, q5, q6, q7, q8⟩ := HR.out.c8
  obtain ⟨f0, f1, f2, f3, f4, f5, f6, f7⟩ := HR.out.f8
  go_wp2_with fail
  exact bodyPost_ret (v := noT false) (by simp [results, Tryd.results20, go_sem, q0, q1, q2, q3, q4, q5, q6, q7]) rfl ⟨rfl, below8 hB (Nat.le_refl _) _ _ _ _ _ _ _ _⟩

set_option maxRecDepth 100000 in
set_option maxHeartbeats 8000000 in
theorem refReadD_1k (K : Int) (s w1 r1 ky r2 : ByteArray) (w : World)
    (Hc1 : Hid (∀ W : World, Calls Tryd.prog 34 #[.string s] W fun e W' => e = .returned (.tuple #[.string w1, .string r1, .bool true]) ∧ Below W.heap.size W W')) (hK : Hid (begunK w1.data.toList = K))
    (Hc2 : Hid (∀ W : World, Calls Tryd.prog 34 #[.string r1] W fun e W' => e = .returned (.tuple #[.string ky, .string r2, .bool false]) ∧ Below W.heap.size W W')) (k2 : (K == 2) = false) :
    Calls Tryd.prog 20 #[.string s] w fun e w' => e = .returned (noT false) ∧ Below w.heap.size w w' := by
  go_enter Tryd.func20, Tryd.ntmps20
  go_wp2_with fail
  have hB := b0 w (.cells (opC 0 ⟨#[]⟩ 0 0 ⟨#[]⟩ 0 0 ⟨#[]⟩) 28)
  have HR := Lib.hid (blk_new w (opC 0 ⟨#[]⟩ 0 0 ⟨#[]⟩ 0 0 ⟨#[]⟩) 28)
  generalize w.alloc (.cells (opC 0 ⟨#[]⟩ 0 0 ⟨#[]⟩ 0 0 ⟨#[]⟩) 28) = W at HR hB ⊢
  refine (Hc1.out _).mono ?_
  rintro e wa ⟨rfl, hba⟩
  replace hB := bt hB hba
  replace HR := Lib.hid (HR.out.keep hba)
  clear hba
  have hOB : w.heap.size ≤ wa.heap.size := hB.size
  go_wp2_with fail
  have hRel : RRel w.heap.size wa.heap.size (wa.heap.size + 1) w1 1 w ((wa.alloc (.cells (opC 0 ⟨#[]⟩ 0 0 ⟨#[]⟩ 0 0 ⟨#[]⟩) 28)).alloc (.cells #[.string ⟨#[]⟩, .string ⟨#[112, 117, 116]⟩, .string ⟨#[100, 101, 108]⟩, .string ⟨#[97, 100, 100]⟩, .string ⟨#[99, 97, 115]⟩] 55)) := by
    refine ⟨blk_at (by simp) _ _, ?_, (HR.out.alloc _).alloc _, ba (ba hB _) _⟩
    rw [kindAt_1]
    exact (blk_new wa _ _).alloc _
  have n1 : wa.heap.size ≠ w.heap.size := by have := HR.out.lt; omega
  generalize wa.heap.size = OB at hRel n1 hOB ⊢
  generalize (wa.alloc _).alloc _ = WA at hRel ⊢
  have HRel := Lib.hid hRel
  have N1 := Lib.hid n1
  clear hRel n1 HR hB
  go_loopw [10] (fun i wr => ∃ k : Nat, 1 ≤ k ∧ k ≤ 5 ∧ i = .int .i64 k ∧ RRel w.heap.size OB (OB + 1) w1 k w wr) (fun i _ => 5 - (intOf i).toNat)
  case atStart => exact ⟨1, by omega, by omega, rfl, HRel.out⟩
  case round =>
    obtain ⟨k, hk1, hk5, rfl, hW, hO, hR, hB⟩ := hrel
    have HW := Lib.hid hW
    have HO := Lib.hid hO
    have HR := Lib.hid hR
    clear hW hO hR HRel
    by_cases kk1 : k = 1
    · subst kk1
      have c0 : wr.cell? ⟨OB + 1, 1, none⟩ = some (.string ⟨#[112, 117, 116]⟩) := HW.out.cell 1
      by_cases h : w1.data.toList = [112, 117, 116]
      · obtain rfl : w1 = ⟨#[112, 117, 116]⟩ := data_eq' h
        clear h
        obtain ⟨q0, q1, q2, q3, q4, q5, q6, q7, q8⟩ := HO.out.c8
        obtain ⟨f0, f1, f2, f3, f4, f5, f6, f7⟩ := HO.out.f8
        go_wp2_with fail
        go_roundw
        case rel =>
          refine ⟨1 + 1, by omega, by omega, by go_num, HW.out.other (by omega) _ _, ?_, HR.out.other N1.out.symm _ _, hB.setCell (p := ⟨OB, 0, none⟩) hOB _⟩
          have h8 := HO.out.set 0 (.int .i64 1)
          rw [kindAt_y1]
          exact h8
        case measure => simp [intOf] <;> omega
      · have n1 : ([112, 117, 116] == w1.toList) = false := by
          rw [ByteArray.toList_eq]
          exact beq_eq_false_iff_ne.2 (fun e => h e.symm)
        have K2 : Hid (kindAt w1.data.toList (1 + 1) = kindAt w1.data.toList 1) := kindAt_no _ 1 (by omega) (by omega) h
        clear h
        go_wp2_with fail
        go_roundw
        case rel =>
          refine ⟨1 + 1, by omega, by omega, by go_num, HW.out, ?_, HR.out, hB⟩
          rw [K2.out]
          exact HO.out
        case measure => simp [intOf] <;> omega
    · skip
      by_cases kk2 : k = 2
      · subst kk2
        have c0 : wr.cell? ⟨OB + 1, 2, none⟩ = some (.string ⟨#[100, 101, 108]⟩) := HW.out.cell 2
        by_cases h : w1.data.toList = [100, 101, 108]
        · obtain rfl : w1 = ⟨#[100, 101, 108]⟩ := data_eq' h
          clear h
          obtain ⟨q0, q1, q2, q3, q4, q5, q6, q7, q8⟩ := HO.out.c8
          obtain ⟨f0, f1, f2, f3, f4, f5, f6, f7⟩ := HO.out.f8
          go_wp2_with fail
          go_roundw
          case rel =>
            refine ⟨2 + 1, by omega, by omega, by go_num, HW.out.other (by omega) _ _, ?_, HR.out.other N1.out.symm _ _, hB.setCell (p := ⟨OB, 0, none⟩) hOB _⟩
            have h8 := HO.out.set 0 (.int .i64 2)
            rw [kindAt_y2]
            exact h8
          case measure => simp [intOf] <;> omega
        · have n1 : ([100, 101, 108] == w1.toList) = false := by
            rw [ByteArray.toList_eq]
            exact beq_eq_false_iff_ne.2 (fun e => h e.symm)
          have K2 : Hid (kindAt w1.data.toList (2 + 1) = kindAt w1.data.toList 2) := kindAt_no _ 2 (by omega) (by omega) h
          clear h
          go_wp2_with fail
          go_roundw
          case rel =>
            refine ⟨2 + 1, by omega, by omega, by go_num, HW.out, ?_, HR.out, hB⟩
            rw [K2.out]
            exact HO.out
          case measure => simp [intOf] <;> omega
      · skip
        by_cases kk3 : k = 3
        · subst kk3
          have c0 : wr.cell? ⟨OB + 1, 3, none⟩ = some (.string ⟨#[97, 100, 100]⟩) := HW.out.cell 3
          by_cases h : w1.data.toList = [97, 100, 100]
          · obtain rfl : w1 = ⟨#[97, 100, 100]⟩ := data_eq' h
            clear h
            obtain ⟨q0, q1, q2, q3, q4, q5, q6, q7, q8⟩ := HO.out.c8
            obtain ⟨f0, f1, f2, f3, f4, f5, f6, f7⟩ := HO.out.f8
            go_wp2_with fail
            go_roundw
            case rel =>
              refine ⟨3 + 1, by omega, by omega, by go_num, HW.out.other (by omega) _ _, ?_, HR.out.other N1.out.symm _ _, hB.setCell (p := ⟨OB, 0, none⟩) hOB _⟩
              have h8 := HO.out.set 0 (.int .i64 3)
              rw [kindAt_y3]
              exact h8
            case measure => simp [intOf] <;> omega
          · have n1 : ([97, 100, 100] == w1.toList) = false := by
              rw [ByteArray.toList_eq]
              exact beq_eq_false_iff_ne.2 (fun e => h e.symm)
            have K2 : Hid (kindAt w1.data.toList (3 + 1) = kindAt w1.data.toList 3) := kindAt_no _ 3 (by omega) (by omega) h
            clear h
            go_wp2_with fail
            go_roundw
            case rel =>
              refine ⟨3 + 1, by omega, by omega, by go_num, HW.out, ?_, HR.out, hB⟩
              rw [K2.out]
              exact HO.out
            case measure => simp [intOf] <;> omega
        · skip
          by_cases kk4 : k = 4
          · subst kk4
            have c0 : wr.cell? ⟨OB + 1, 4, none⟩ = some (.string ⟨#[99, 97, 115]⟩) := HW.out.cell 4
            by_cases h : w1.data.toList = [99, 97, 115]
            · obtain rfl : w1 = ⟨#[99, 97, 115]⟩ := data_eq' h
              clear h
              obtain ⟨q0, q1, q2, q3, q4, q5, q6, q7, q8⟩ := HO.out.c8
              obtain ⟨f0, f1, f2, f3, f4, f5, f6, f7⟩ := HO.out.f8
              go_wp2_with fail
              go_roundw
              case rel =>
                refine ⟨4 + 1, by omega, by omega, by go_num, HW.out.other (by omega) _ _, ?_, HR.out.other N1.out.symm _ _, hB.setCell (p := ⟨OB, 0, none⟩) hOB _⟩
                have h8 := HO.out.set 0 (.int .i64 4)
                rw [kindAt_y4]
                exact h8
              case measure => simp [intOf] <;> omega
            · have n1 : ([99, 97, 115] == w1.toList) = false := by
                rw [ByteArray.toList_eq]
                exact beq_eq_false_iff_ne.2 (fun e => h e.symm)
              have K2 : Hid (kindAt w1.data.toList (4 + 1) = kindAt w1.data.toList 4) := kindAt_no _ 4 (by omega) (by omega) h
              clear h
              go_wp2_with fail
              go_roundw
              case rel =>
                refine ⟨4 + 1, by omega, by omega, by go_num, HW.out, ?_, HR.out, hB⟩
                rw [K2.out]
                exact HO.out
              case measure => simp [intOf] <;> omega
          · skip
            obtain rfl : k = 5 := by omega
            replace HO : Hid (Blk wr OB (opC K ⟨#[]⟩ 0 0 ⟨#[]⟩ 0 0 ⟨#[]⟩) 28) := by
              have := HO.out
              rw [kindAt_5, hK.out] at this
              exact this
            clear HW
            go_wp2_with fail
            refine (Hc2.out _).mono ?_
            rintro e wb ⟨rfl, hbb⟩
            replace hB := bt hB hbb
            replace HR := Lib.hid (HR.out.keep hbb)
            replace HO := Lib.hid (HO.out.keep hbb)
            clear hbb
            obtain ⟨p0, p1, p2, p3, p4, p5, p6, p7, p8⟩ := HO.out.c8
            obtain ⟨g0, g1, g2, g3, g4, g5, g6, g7⟩ := HO.out.f8
            have n5 : ¬ w.heap.size = OB := N1.out.symm
            have n6 : ¬ OB = w.heap.size := N1.out
            obtain ⟨q0, q1, q2, q3, q4, q5, q6, q7, q8⟩ := HR.out.c8
            obtain ⟨f0, f1, f2, f3, f4, f5, f6, f7⟩ := HR.out.f8
            go_wp2_with fail
            exact bodyPost_ret (v := noT false) (by simp [results, Tryd.results20, go_sem, q0, q1, q2, q3, q4, q5, q6, q7]) rfl ⟨rfl, below8 (hB.setCell (p := ⟨OB, 1, none⟩) hOB _) (Nat.le_refl _) _ _ _ _ _ _ _ _⟩

set_option maxRecDepth 100000 in
set_option maxHeartbeats 8000000 in
theorem refReadD_1g (K : Int) (s w1 r1 ky r2 : ByteArray) (w : World)
    (Hc1 : Hid (∀ W : World, Calls Tryd.prog 34 #[.string s] W fun e W' => e = .returned (.tuple #[.string w1, .string r1, .bool true]) ∧ Below W.heap.size W W')) (hK : Hid (begunK w1.data.toList = K))
    (Hc2 : Hid (∀ W : World, Calls Tryd.prog 34 #[.string r1] W fun e W' => e = .returned (.tuple #[.string ky, .string r2, .bool false]) ∧ Below W.heap.size W W'))
    (HG : Hid (∀ W : World, Calls Tryd.prog 13 #[opV K ky 0 0 ⟨#[]⟩ 0 0 ⟨#[]⟩] W fun e W' => e = .returned (.bool true) ∧ Below W.heap.size W W')) (k2 : (K == 2) = true) :
    Calls Tryd.prog 20 #[.string s] w fun e w' => e = .returned (opT K ky 0 0 ⟨#[]⟩ 0 0 ⟨#[]⟩ true) ∧ Below w.heap.size w w' := by
  go_enter Tryd.func20, Tryd.ntmps20
  go_wp2_with fail
  have hB := b0 w (.cells (opC 0 ⟨#[]⟩ 0 0 ⟨#[]⟩ 0 0 ⟨#[]⟩) 28)
  have HR := Lib.hid (blk_new w (opC 0 ⟨#[]⟩ 0 0 ⟨#[]⟩ 0 0 ⟨#[]⟩) 28)
  generalize w.alloc (.cells (opC 0 ⟨#[]⟩ 0 0 ⟨#[]⟩ 0 0 ⟨#[]⟩) 28) = W at HR hB ⊢
  refine (Hc1.out _).mono ?_
  rintro e wa ⟨rfl, hba⟩
  replace hB := bt hB hba
  replace HR := Lib.hid (HR.out.keep hba)
  clear hba
  have hOB : w.heap.size ≤ wa.heap.size := hB.size
  go_wp2_with fail
  have hRel : RRel w.heap.size wa.heap.size (wa.heap.size + 1) w1 1 w ((wa.alloc (.cells (opC 0 ⟨#[]⟩ 0 0 ⟨#[]⟩ 0 0 ⟨#[]⟩) 28)).alloc (.cells #[.string ⟨#[]⟩, .string ⟨#[112, 117, 116]⟩, .string ⟨#[100, 101, 108]⟩, .string ⟨#[97, 100, 100]⟩, .string ⟨#[99, 97, 115]⟩] 55)) := by
    refine ⟨blk_at (by simp) _ _, ?_, (HR.out.alloc _).alloc _, ba (ba hB _) _⟩
    rw [kindAt_1]
    exact (blk_new wa _ _).alloc _
  have n1 : wa.heap.size ≠ w.heap.size := by have := HR.out.lt; omega
  generalize wa.heap.size = OB at hRel n1 hOB ⊢
  generalize (wa.alloc _).alloc _ = WA at hRel ⊢
  have HRel := Lib.hid hRel
  have N1 := Lib.hid n1
  clear hRel n1 HR hB
  go_loopw [10] (fun i wr => ∃ k : Nat, 1 ≤ k ∧ k ≤ 5 ∧ i = .int .i64 k ∧ RRel w.heap.size OB (OB + 1) w1 k w wr) (fun i _ => 5 - (intOf i).toNat)
  case atStart => exact ⟨1, by omega, by omega, rfl, HRel.out⟩
  case round =>
    obtain ⟨k, hk1, hk5, rfl, hW, hO, hR, hB⟩ := hrel
    have HW := Lib.hid hW
    have HO := Lib.hid hO
    have HR := Lib.hid hR
    clear hW hO hR HRel
    by_cases kk1 : k = 1
    · subst kk1
      have c0 : wr.cell? ⟨OB + 1, 1, none⟩ = some (.string ⟨#[112, 117, 116]⟩) := HW.out.cell 1
      by_cases h : w1.data.toList = [112, 117, 116]
      · obtain rfl : w1 = ⟨#[112, 117, 116]⟩ := data_eq' h
        clear h
        obtain ⟨q0, q1, q2, q3, q4, q5, q6, q7, q8⟩ := HO.out.c8
        obtain ⟨f0, f1, f2, f3, f4, f5, f6, f7⟩ := HO.out.f8
        go_wp2_with fail
        go_roundw
        case rel =>
          refine ⟨1 + 1, by omega, by omega, by go_num, HW.out.other (by omega) _ _, ?_, HR.out.other N1.out.symm _ _, hB.setCell (p := ⟨OB, 0, none⟩) hOB _⟩
          have h8 := HO.out.set 0 (.int .i64 1)
          rw [kindAt_y1]
          exact h8
        case measure => simp [intOf] <;> omega
      · have n1 : ([112, 117, 116] == w1.toList) = false := by
          rw [ByteArray.toList_eq]
          exact beq_eq_false_iff_ne.2 (fun e => h e.symm)
        have K2 : Hid (kindAt w1.data.toList (1 + 1) = kindAt w1.data.toList 1) := kindAt_no _ 1 (by omega) (by omega) h
        clear h
        go_wp2_with fail
        go_roundw
        case rel =>
          refine ⟨1 + 1, by omega, by omega, by go_num, HW.out, ?_, HR.out, hB⟩
          rw [K2.out]
          exact HO.out
        case measure => simp [intOf] <;> omega
    · skip
      by_cases kk2 : k = 2
      · subst kk2
        have c0 : wr.cell? ⟨OB + 1, 2, none⟩ = some (.string ⟨#[100, 101, 108]⟩) := HW.out.cell 2
        by_cases h : w1.data.toList = [100, 101, 108]
        · obtain rfl : w1 = ⟨#[100, 101, 108]⟩ := data_eq' h
          clear h
          obtain ⟨q0, q1, q2, q3, q4, q5, q6, q7, q8⟩ := HO.out.c8
          obtain ⟨f0, f1, f2, f3, f4, f5, f6, f7⟩ := HO.out.f8
          go_wp2_with fail
          go_roundw
          case rel =>
            refine ⟨2 + 1, by omega, by omega, by go_num, HW.out.other (by omega) _ _, ?_, HR.out.other N1.out.symm _ _, hB.setCell (p := ⟨OB, 0, none⟩) hOB _⟩
            have h8 := HO.out.set 0 (.int .i64 2)
            rw [kindAt_y2]
            exact h8
          case measure => simp [intOf] <;> omega
        · have n1 : ([100, 101, 108] == w1.toList) = false := by
            rw [ByteArray.toList_eq]
            exact beq_eq_false_iff_ne.2 (fun e => h e.symm)
          have K2 : Hid (kindAt w1.data.toList (2 + 1) = kindAt w1.data.toList 2) := kindAt_no _ 2 (by omega) (by omega) h
          clear h
          go_wp2_with fail
          go_roundw
          case rel =>
            refine ⟨2 + 1, by omega, by omega, by go_num, HW.out, ?_, HR.out, hB⟩
            rw [K2.out]
            exact HO.out
          case measure => simp [intOf] <;> omega
      · skip
        by_cases kk3 : k = 3
        · subst kk3
          have c0 : wr.cell? ⟨OB + 1, 3, none⟩ = some (.string ⟨#[97, 100, 100]⟩) := HW.out.cell 3
          by_cases h : w1.data.toList = [97, 100, 100]
          · obtain rfl : w1 = ⟨#[97, 100, 100]⟩ := data_eq' h
            clear h
            obtain ⟨q0, q1, q2, q3, q4, q5, q6, q7, q8⟩ := HO.out.c8
            obtain ⟨f0, f1, f2, f3, f4, f5, f6, f7⟩ := HO.out.f8
            go_wp2_with fail
            go_roundw
            case rel =>
              refine ⟨3 + 1, by omega, by omega, by go_num, HW.out.other (by omega) _ _, ?_, HR.out.other N1.out.symm _ _, hB.setCell (p := ⟨OB, 0, none⟩) hOB _⟩
              have h8 := HO.out.set 0 (.int .i64 3)
              rw [kindAt_y3]
              exact h8
            case measure => simp [intOf] <;> omega
          · have n1 : ([97, 100, 100] == w1.toList) = false := by
              rw [ByteArray.toList_eq]
              exact beq_eq_false_iff_ne.2 (fun e => h e.symm)
            have K2 : Hid (kindAt w1.data.toList (3 + 1) = kindAt w1.data.toList 3) := kindAt_no _ 3 (by omega) (by omega) h
            clear h
            go_wp2_with fail
            go_roundw
            case rel =>
              refine ⟨3 + 1, by omega, by omega, by go_num, HW.out, ?_, HR.out, hB⟩
              rw [K2.out]
              exact HO.out
            case measure => simp [intOf] <;> omega
        · skip
          by_cases kk4 : k = 4
          · subst kk4
            have c0 : wr.cell? ⟨OB + 1, 4, none⟩ = some (.string ⟨#[99, 97, 115]⟩) := HW.out.cell 4
            by_cases h : w1.data.toList = [99, 97, 115]
            · obtain rfl : w1 = ⟨#[99, 97, 115]⟩ := data_eq' h
              clear h
              obtain ⟨q0, q1, q2, q3, q4, q5, q6, q7, q8⟩ := HO.out.c8
              obtain ⟨f0, f1, f2, f3, f4, f5, f6, f7⟩ := HO.out.f8
              go_wp2_with fail
              go_roundw
              case rel =>
                refine ⟨4 + 1, by omega, by omega, by go_num, HW.out.other (by omega) _ _, ?_, HR.out.other N1.out.symm _ _, hB.setCell (p := ⟨OB, 0, none⟩) hOB _⟩
                have h8 := HO.out.set 0 (.int .i64 4)
                rw [kindAt_y4]
                exact h8
              case measure => simp [intOf] <;> omega
            · have n1 : ([99, 97, 115] == w1.toList) = false := by
                rw [ByteArray.toList_eq]
                exact beq_eq_false_iff_ne.2 (fun e => h e.symm)
              have K2 : Hid (kindAt w1.data.toList (4 + 1) = kindAt w1.data.toList 4) := kindAt_no _ 4 (by omega) (by omega) h
              clear h
              go_wp2_with fail
              go_roundw
              case rel =>
                refine ⟨4 + 1, by omega, by omega, by go_num, HW.out, ?_, HR.out, hB⟩
                rw [K2.out]
                exact HO.out
              case measure => simp [intOf] <;> omega
          · skip
            obtain rfl : k = 5 := by omega
            replace HO : Hid (Blk wr OB (opC K ⟨#[]⟩ 0 0 ⟨#[]⟩ 0 0 ⟨#[]⟩) 28) := by
              have := HO.out
              rw [kindAt_5, hK.out] at this
              exact this
            clear HW
            go_wp2_with fail
            refine (Hc2.out _).mono ?_
            rintro e wb ⟨rfl, hbb⟩
            replace hB := bt hB hbb
            replace HR := Lib.hid (HR.out.keep hbb)
            replace HO := Lib.hid (HO.out.keep hbb)
            clear hbb
            obtain ⟨p0, p1, p2, p3, p4, p5, p6, p7, p8⟩ := HO.out.c8
            obtain ⟨g0, g1, g2, g3, g4, g5, g6, g7⟩ := HO.out.f8
            go_wp2_with fail
            have HO2 : Hid (Blk (wb.setCell ⟨OB, 1, none⟩ (.string ky)) OB (opC K ky 0 0 ⟨#[]⟩ 0 0 ⟨#[]⟩) 28) := HO.out.set 1 (.string ky)
            replace HR : Hid (Blk (wb.setCell ⟨OB, 1, none⟩ (.string ky)) w.heap.size (opC 0 ⟨#[]⟩ 0 0 ⟨#[]⟩ 0 0 ⟨#[]⟩) 28) := HR.out.other N1.out.symm _ _
            replace hB := hB.setCell (p := ⟨OB, 1, none⟩) hOB (.string ky)
            clear HO p0 p1 p2 p3 p4 p5 p6 p7 p8 g0 g1 g2 g3 g4 g5 g6 g7
            generalize wb.setCell ⟨OB, 1, none⟩ (.string ky) = wb2 at HO2 HR hB ⊢
            refine (HG.out _).mono ?_
            rintro e wz ⟨rfl, hbz⟩
            replace hB := bt hB hbz
            obtain ⟨q0, q1, q2, q3, q4, q5, q6, q7, q8⟩ := (HR.out.keep hbz).c8
            obtain ⟨f0, f1, f2, f3, f4, f5, f6, f7⟩ := (HR.out.keep hbz).f8
            obtain ⟨p0, p1, p2, p3, p4, p5, p6, p7, p8⟩ := (HO2.out.keep hbz).c8
            go_wp2_with fail
            exact bodyPost_ret (v := opT K ky 0 0 ⟨#[]⟩ 0 0 ⟨#[]⟩ true) (by simp [results, Tryd.results20, go_sem, q0, q1, q2, q3, q4, q5, q6, q7]) rfl ⟨rfl, below8 hB (Nat.le_refl _) _ _ _ _ _ _ _ _⟩

set_option maxRecDepth 100000 in
set_option maxHeartbeats 8000000 in
theorem refReadD_1n (K : Int) (s w1 r1 ky r2 : ByteArray) (w : World)
    (Hc1 : Hid (∀ W : World, Calls Tryd.prog 34 #[.string s] W fun e W' => e = .returned (.tuple #[.string w1, .string r1, .bool true]) ∧ Below W.heap.size W W')) (hK : Hid (begunK w1.data.toList = K))
    (Hc2 : Hid (∀ W : World, Calls Tryd.prog 34 #[.string r1] W fun e W' => e = .returned (.tuple #[.string ky, .string r2, .bool false]) ∧ Below W.heap.size W W'))
    (HG : Hid (∀ W : World, Calls Tryd.prog 13 #[opV K ky 0 0 ⟨#[]⟩ 0 0 ⟨#[]⟩] W fun e W' => e = .returned (.bool false) ∧ Below W.heap.size W W')) (k2 : (K == 2) = true) :
    Calls Tryd.prog 20 #[.string s] w fun e w' => e = .returned (noT false) ∧ Below w.heap.size w w' := by
  go_enter Tryd.func20, Tryd.ntmps20
  go_wp2_with fail
  have hB := b0 w (.cells (opC 0 ⟨#[]⟩ 0 0 ⟨#[]⟩ 0 0 ⟨#[]⟩) 28)
  have HR := Lib.hid (blk_new w (opC 0 ⟨#[]⟩ 0 0 ⟨#[]⟩ 0 0 ⟨#[]⟩) 28)
  generalize w.alloc (.cells (opC 0 ⟨#[]⟩ 0 0 ⟨#[]⟩ 0 0 ⟨#[]⟩) 28) = W at HR hB ⊢
  refine (Hc1.out _).mono ?_
  rintro e wa ⟨rfl, hba⟩
  replace hB := bt hB hba
  replace HR := Lib.hid (HR.out.keep hba)
  clear hba
  have hOB : w.heap.size ≤ wa.heap.size := hB.size
  go_wp2_with fail
  have hRel : RRel w.heap.size wa.heap.size (wa.heap.size + 1) w1 1 w ((wa.alloc (.cells (opC 0 ⟨#[]⟩ 0 0 ⟨#[]⟩ 0 0 ⟨#[]⟩) 28)).alloc (.cells #[.string ⟨#[]⟩, .string ⟨#[112, 117, 116]⟩, .string ⟨#[100, 101, 108]⟩, .string ⟨#[97, 100, 100]⟩, .string ⟨#[99, 97, 115]⟩] 55)) := by
    refine ⟨blk_at (by simp) _ _, ?_, (HR.out.alloc _).alloc _, ba (ba hB _) _⟩
    rw [kindAt_1]
    exact (blk_new wa _ _).alloc _
  have n1 : wa.heap.size ≠ w.heap.size := by have := HR.out.lt; omega
  generalize wa.heap.size = OB at hRel n1 hOB ⊢
  generalize (wa.alloc _).alloc _ = WA at hRel ⊢
  have HRel := Lib.hid hRel
  have N1 := Lib.hid n1
  clear hRel n1 HR hB
  go_loopw [10] (fun i wr => ∃ k : Nat, 1 ≤ k ∧ k ≤ 5 ∧ i = .int .i64 k ∧ RRel w.heap.size OB (OB + 1) w1 k w wr) (fun i _ => 5 - (intOf i).toNat)
  case atStart => exact ⟨1, by omega, by omega, rfl, HRel.out⟩
  case round =>
    obtain ⟨k, hk1, hk5, rfl, hW, hO, hR, hB⟩ := hrel
    have HW := Lib.hid hW
    have HO := Lib.hid hO
    have HR := Lib.hid hR
    clear hW hO hR HRel
    by_cases kk1 : k = 1
    · subst kk1
      have c0 : wr.cell? ⟨OB + 1, 1, none⟩ = some (.string ⟨#[112, 117, 116]⟩) := HW.out.cell 1
      by_cases h : w1.data.toList = [112, 117, 116]
      · obtain rfl : w1 = ⟨#[112, 117, 116]⟩ := data_eq' h
        clear h
        obtain ⟨q0, q1, q2, q3, q4, q5, q6, q7, q8⟩ := HO.out.c8
        obtain ⟨f0, f1, f2, f3, f4, f5, f6, f7⟩ := HO.out.f8
        go_wp2_with fail
        go_roundw
        case rel =>
          refine ⟨1 + 1, by omega, by omega, by go_num, HW.out.other (by omega) _ _, ?_, HR.out.other N1.out.symm _ _, hB.setCell (p := ⟨OB, 0, none⟩) hOB _⟩
          have h8 := HO.out.set 0 (.int .i64 1)
          rw [kindAt_y1]
          exact h8
        case measure => simp [intOf] <;> omega
      · have n1 : ([112, 117, 116] == w1.toList) = false := by
          rw [ByteArray.toList_eq]
          exact beq_eq_false_iff_ne.2 (fun e => h e.symm)
        have K2 : Hid (kindAt w1.data.toList (1 + 1) = kindAt w1.data.toList 1) := kindAt_no _ 1 (by omega) (by omega) h
        clear h
        go_wp2_with fail
        go_roundw
        case rel =>
          refine ⟨1 + 1, by omega, by omega, by go_num, HW.out, ?_, HR.out, hB⟩
          rw [K2.out]
          exact HO.out
        case measure => simp [intOf] <;> omega
    · skip
      by_cases kk2 : k = 2
      · subst kk2
        have c0 : wr.cell? ⟨OB + 1, 2, none⟩ = some (.string ⟨#[100, 101, 108]⟩) := HW.out.cell 2
        by_cases h : w1.data.toList = [100, 101, 108]
        · obtain rfl : w1 = ⟨#[100, 101, 108]⟩ := data_eq' h
          clear h
          obtain ⟨q0, q1, q2, q3, q4, q5, q6, q7, q8⟩ := HO.out.c8
          obtain ⟨f0, f1, f2, f3, f4, f5, f6, f7⟩ := HO.out.f8
          go_wp2_with fail
          go_roundw
          case rel =>
            refine ⟨2 + 1, by omega, by omega, by go_num, HW.out.other (by omega) _ _, ?_, HR.out.other N1.out.symm _ _, hB.setCell (p := ⟨OB, 0, none⟩) hOB _⟩
            have h8 := HO.out.set 0 (.int .i64 2)
            rw [kindAt_y2]
            exact h8
          case measure => simp [intOf] <;> omega
        · have n1 : ([100, 101, 108] == w1.toList) = false := by
            rw [ByteArray.toList_eq]
            exact beq_eq_false_iff_ne.2 (fun e => h e.symm)
          have K2 : Hid (kindAt w1.data.toList (2 + 1) = kindAt w1.data.toList 2) := kindAt_no _ 2 (by omega) (by omega) h
          clear h
          go_wp2_with fail
          go_roundw
          case rel =>
            refine ⟨2 + 1, by omega, by omega, by go_num, HW.out, ?_, HR.out, hB⟩
            rw [K2.out]
            exact HO.out
          case measure => simp [intOf] <;> omega
      · skip
        by_cases kk3 : k = 3
        · subst kk3
          have c0 : wr.cell? ⟨OB + 1, 3, none⟩ = some (.string ⟨#[97, 100, 100]⟩) := HW.out.cell 3
          by_cases h : w1.data.toList = [97, 100, 100]
          · obtain rfl : w1 = ⟨#[97, 100, 100]⟩ := data_eq' h
            clear h
            obtain ⟨q0, q1, q2, q3, q4, q5, q6, q7, q8⟩ := HO.out.c8
            obtain ⟨f0, f1, f2, f3, f4, f5, f6, f7⟩ := HO.out.f8
            go_wp2_with fail
            go_roundw
            case rel =>
              refine ⟨3 + 1, by omega, by omega, by go_num, HW.out.other (by omega) _ _, ?_, HR.out.other N1.out.symm _ _, hB.setCell (p := ⟨OB, 0, none⟩) hOB _⟩
              have h8 := HO.out.set 0 (.int .i64 3)
              rw [kindAt_y3]
              exact h8
            case measure => simp [intOf] <;> omega
          · have n1 : ([97, 100, 100] == w1.toList) = false := by
              rw [ByteArray.toList_eq]
              exact beq_eq_false_iff_ne.2 (fun e => h e.symm)
            have K2 : Hid (kindAt w1.data.toList (3 + 1) = kindAt w1.data.toList 3) := kindAt_no _ 3 (by omega) (by omega) h
            clear h
            go_wp2_with fail
            go_roundw
            case rel =>
              refine ⟨3 + 1, by omega, by omega, by go_num, HW.out, ?_, HR.out, hB⟩
              rw [K2.out]
              exact HO.out
            case measure => simp [intOf] <;> omega
        · skip
          by_cases kk4 : k = 4
          · subst kk4
            have c0 : wr.cell? ⟨OB + 1, 4, none⟩ = some (.string ⟨#[99, 97, 115]⟩) := HW.out.cell 4
            by_cases h : w1.data.toList = [99, 97, 115]
            · obtain rfl : w1 = ⟨#[99, 97, 115]⟩ := data_eq' h
              clear h
              obtain ⟨q0, q1, q2, q3, q4, q5, q6, q7, q8⟩ := HO.out.c8
              obtain ⟨f0, f1, f2, f3, f4, f5, f6, f7⟩ := HO.out.f8
              go_wp2_with fail
              go_roundw
              case rel =>
                refine ⟨4 + 1, by omega, by omega, by go_num, HW.out.other (by omega) _ _, ?_, HR.out.other N1.out.symm _ _, hB.setCell (p := ⟨OB, 0, none⟩) hOB _⟩
                have h8 := HO.out.set 0 (.int .i64 4)
                rw [kindAt_y4]
                exact h8
              case measure => simp [intOf] <;> omega
            · have n1 : ([99, 97, 115] == w1.toList) = false := by
                rw [ByteArray.toList_eq]
                exact beq_eq_false_iff_ne.2 (fun e => h e.symm)
              have K2 : Hid (kindAt w1.data.toList (4 + 1) = kindAt w1.data.toList 4) := kindAt_no _ 4 (by omega) (by omega) h
              clear h
              go_wp2_with fail
              go_roundw
              case rel =>
                refine ⟨4 + 1, by omega, by omega, by go_num, HW.out, ?_, HR.out, hB⟩
                rw [K2.out]
                exact HO.out
              case measure => simp [intOf] <;> omega
          · skip
            obtain rfl : k = 5 := by omega
            replace HO : Hid (Blk wr OB (opC K ⟨#[]⟩ 0 0 ⟨#[]⟩ 0 0 ⟨#[]⟩) 28) := by
              have := HO.out
              rw [kindAt_5, hK.out] at this
              exact this
            clear HW
            go_wp2_with fail
            refine (Hc2.out _).mono ?_
            rintro e wb ⟨rfl, hbb⟩
            replace hB := bt hB hbb
            replace HR := Lib.hid (HR.out.keep hbb)
            replace HO := Lib.hid (HO.out.keep hbb)
            clear hbb
            obtain ⟨p0, p1, p2, p3, p4, p5, p6, p7, p8⟩ := HO.out.c8
            obtain ⟨g0, g1, g2, g3, g4, g5, g6, g7⟩ := HO.out.f8
            go_wp2_with fail
            have HO2 : Hid (Blk (wb.setCell ⟨OB, 1, none⟩ (.string ky)) OB (opC K ky 0 0 ⟨#[]⟩ 0 0 ⟨#[]⟩) 28) := HO.out.set 1 (.string ky)
            replace HR : Hid (Blk (wb.setCell ⟨OB, 1, none⟩ (.string ky)) w.heap.size (opC 0 ⟨#[]⟩ 0 0 ⟨#[]⟩ 0 0 ⟨#[]⟩) 28) := HR.out.other N1.out.symm _ _
            replace hB := hB.setCell (p := ⟨OB, 1, none⟩) hOB (.string ky)
            clear HO p0 p1 p2 p3 p4 p5 p6 p7 p8 g0 g1 g2 g3 g4 g5 g6 g7
            generalize wb.setCell ⟨OB, 1, none⟩ (.string ky) = wb2 at HO2 HR hB ⊢
            refine (HG.out _).mono ?_
            rintro e wz ⟨rfl, hbz⟩
            replace hB := bt hB hbz
            obtain ⟨q0, q1, q2, q3, q4, q5, q6, q7, q8⟩ := (HR.out.keep hbz).c8
            obtain ⟨f0, f1, f2, f3, f4, f5, f6, f7⟩ := (HR.out.keep hbz).f8
            obtain ⟨p0, p1, p2, p3, p4, p5, p6, p7, p8⟩ := (HO2.out.keep hbz).c8
            go_wp2_with fail
            exact bodyPost_ret (v := noT false) (by simp [results, Tryd.results20, go_sem, q0, q1, q2, q3, q4, q5, q6, q7]) rfl ⟨rfl, below8 hB (Nat.le_refl _) _ _ _ _ _ _ _ _⟩

set_option maxRecDepth 100000 in
set_option maxHeartbeats 8000000 in
theorem refReadD_2c (K : Int) (s w1 r1 ky r2 : ByteArray) (a b : ByteArray) (ka na ea : Int) (sa : ByteArray) (w : World)
    (Hc1 : Hid (∀ W : World, Calls Tryd.prog 34 #[.string s] W fun e W' => e = .returned (.tuple #[.string w1, .string r1, .bool true]) ∧ Below W.heap.size W W')) (hK : Hid (begunK w1.data.toList = K))
    (Hc2 : Hid (∀ W : World, Calls Tryd.prog 34 #[.string r1] W fun e W' => e = .returned (.tuple #[.string ky, .string r2, .bool true]) ∧ Below W.heap.size W W'))
    (Hc3 : Hid (∀ W : World, Calls Tryd.prog 34 #[.string r2] W fun e W' => e = .returned (.tuple #[.string a, .string b, .bool false]) ∧ Below W.heap.size W W')) (Hra : Hid (∀ W : World, Calls Tryd.prog 35 #[.string a] W fun e W' => e = .returned (.tuple #[.agg #[.int .i64 ka, .int .i64 na, .string sa], .int .i64 ea]) ∧ Below W.heap.size W W')) (k4 : (K == 4) = true) :
    Calls Tryd.prog 20 #[.string s] w fun e w' => e = .returned (noT false) ∧ Below w.heap.size w w' := by
  go_enter Tryd.func20, Tryd.ntmps20
  go_wp2_with fail
  have hB := b0 w (.cells (opC 0 ⟨#[]⟩ 0 0 ⟨#[]⟩ 0 0 ⟨#[]⟩) 28)
  have HR := Lib.hid (blk_new w (opC 0 ⟨#[]⟩ 0 0 ⟨#[]⟩ 0 0 ⟨#[]⟩) 28)
  generalize w.alloc (.cells (opC 0 ⟨#[]⟩ 0 0 ⟨#[]⟩ 0 0 ⟨#[]⟩) 28) = W at HR hB ⊢
  refine (Hc1.out _).mono ?_
  rintro e wa ⟨rfl, hba⟩
  replace hB := bt hB hba
  replace HR := Lib.hid (HR.out.keep hba)
  clear hba
  have hOB : w.heap.size ≤ wa.heap.size := hB.size
  go_wp2_with fail
  have hRel : RRel w.heap.size wa.heap.size (wa.heap.size + 1) w1 1 w ((wa.alloc (.cells (opC 0 ⟨#[]⟩ 0 0 ⟨#[]⟩ 0 0 ⟨#[]⟩) 28)).alloc (.cells #[.string ⟨#[]⟩, .string ⟨#[112, 117, 116]⟩, .string ⟨#[100, 101, 108]⟩, .string ⟨#[97, 100, 100]⟩, .string ⟨#[99, 97, 115]⟩] 55)) := by
    refine ⟨blk_at (by simp) _ _, ?_, (HR.out.alloc _).alloc _, ba (ba hB _) _⟩
    rw [kindAt_1]
    exact (blk_new wa _ _).alloc _
  have n1 : wa.heap.size ≠ w.heap.size := by have := HR.out.lt; omega
  generalize wa.heap.size = OB at hRel n1 hOB ⊢
  generalize (wa.alloc _).alloc _ = WA at hRel ⊢
  have HRel := Lib.hid hRel
  have N1 := Lib.hid n1
  clear hRel n1 HR hB
  go_loopw [10] (fun i wr => ∃ k : Nat, 1 ≤ k ∧ k ≤ 5 ∧ i = .int .i64 k ∧ RRel w.heap.size OB (OB + 1) w1 k w wr) (fun i _ => 5 - (intOf i).toNat)
  case atStart => exact ⟨1, by omega, by omega, rfl, HRel.out⟩
  case round =>
    obtain ⟨k, hk1, hk5, rfl, hW, hO, hR, hB⟩ := hrel
    have HW := Lib.hid hW
    have HO := Lib.hid hO
    have HR := Lib.hid hR
    clear hW hO hR HRel
    by_cases kk1 : k = 1
    · subst kk1
      have c0 : wr.cell? ⟨OB + 1, 1, none⟩ = some (.string ⟨#[112, 117, 116]⟩) := HW.out.cell 1
      by_cases h : w1.data.toList = [112, 117, 116]
      · obtain rfl : w1 = ⟨#[112, 117, 116]⟩ := data_eq' h
        clear h
        obtain ⟨q0, q1, q2, q3, q4, q5, q6, q7, q8⟩ := HO.out.c8
        obtain ⟨f0, f1, f2, f3, f4, f5, f6, f7⟩ := HO.out.f8
        go_wp2_with fail
        go_roundw
        case rel =>
          refine ⟨1 + 1, by omega, by omega, by go_num, HW.out.other (by omega) _ _, ?_, HR.out.other N1.out.symm _ _, hB.setCell (p := ⟨OB, 0, none⟩) hOB _⟩
          have h8 := HO.out.set 0 (.int .i64 1)
          rw [kindAt_y1]
          exact h8
        case measure => simp [intOf] <;> omega
      · have n1 : ([112, 117, 116] == w1.toList) = false := by
          rw [ByteArray.toList_eq]
          exact beq_eq_false_iff_ne.2 (fun e => h e.symm)
        have K2 : Hid (kindAt w1.data.toList (1 + 1) = kindAt w1.data.toList 1) := kindAt_no _ 1 (by omega) (by omega) h
        clear h
        go_wp2_with fail
        go_roundw
        case rel =>
          refine ⟨1 + 1, by omega, by omega, by go_num, HW.out, ?_, HR.out, hB⟩
          rw [K2.out]
          exact HO.out
        case measure => simp [intOf] <;> omega
    · skip
      by_cases kk2 : k = 2
      · subst kk2
        have c0 : wr.cell? ⟨OB + 1, 2, none⟩ = some (.string ⟨#[100, 101, 108]⟩) := HW.out.cell 2
        by_cases h : w1.data.toList = [100, 101, 108]
        · obtain rfl : w1 = ⟨#[100, 101, 108]⟩ := data_eq' h
          clear h
          obtain ⟨q0, q1, q2, q3, q4, q5, q6, q7, q8⟩ := HO.out.c8
          obtain ⟨f0, f1, f2, f3, f4, f5, f6, f7⟩ := HO.out.f8
          go_wp2_with fail
          go_roundw
          case rel =>
            refine ⟨2 + 1, by omega, by omega, by go_num, HW.out.other (by omega) _ _, ?_, HR.out.other N1.out.symm _ _, hB.setCell (p := ⟨OB, 0, none⟩) hOB _⟩
            have h8 := HO.out.set 0 (.int .i64 2)
            rw [kindAt_y2]
            exact h8
          case measure => simp [intOf] <;> omega
        · have n1 : ([100, 101, 108] == w1.toList) = false := by
            rw [ByteArray.toList_eq]
            exact beq_eq_false_iff_ne.2 (fun e => h e.symm)
          have K2 : Hid (kindAt w1.data.toList (2 + 1) = kindAt w1.data.toList 2) := kindAt_no _ 2 (by omega) (by omega) h
          clear h
          go_wp2_with fail
          go_roundw
          case rel =>
            refine ⟨2 + 1, by omega, by omega, by go_num, HW.out, ?_, HR.out, hB⟩
            rw [K2.out]
            exact HO.out
          case measure => simp [intOf] <;> omega
      · skip
        by_cases kk3 : k = 3
        · subst kk3
          have c0 : wr.cell? ⟨OB + 1, 3, none⟩ = some (.string ⟨#[97, 100, 100]⟩) := HW.out.cell 3
          by_cases h : w1.data.toList = [97, 100, 100]
          · obtain rfl : w1 = ⟨#[97, 100, 100]⟩ := data_eq' h
            clear h
            obtain ⟨q0, q1, q2, q3, q4, q5, q6, q7, q8⟩ := HO.out.c8
            obtain ⟨f0, f1, f2, f3, f4, f5, f6, f7⟩ := HO.out.f8
            go_wp2_with fail
            go_roundw
            case rel =>
              refine ⟨3 + 1, by omega, by omega, by go_num, HW.out.other (by omega) _ _, ?_, HR.out.other N1.out.symm _ _, hB.setCell (p := ⟨OB, 0, none⟩) hOB _⟩
              have h8 := HO.out.set 0 (.int .i64 3)
              rw [kindAt_y3]
              exact h8
            case measure => simp [intOf] <;> omega
          · have n1 : ([97, 100, 100] == w1.toList) = false := by
              rw [ByteArray.toList_eq]
              exact beq_eq_false_iff_ne.2 (fun e => h e.symm)
            have K2 : Hid (kindAt w1.data.toList (3 + 1) = kindAt w1.data.toList 3) := kindAt_no _ 3 (by omega) (by omega) h
            clear h
            go_wp2_with fail
            go_roundw
            case rel =>
              refine ⟨3 + 1, by omega, by omega, by go_num, HW.out, ?_, HR.out, hB⟩
              rw [K2.out]
              exact HO.out
            case measure => simp [intOf] <;> omega
        · skip
          by_cases kk4 : k = 4
          · subst kk4
            have c0 : wr.cell? ⟨OB + 1, 4, none⟩ = some (.string ⟨#[99, 97, 115]⟩) := HW.out.cell 4
            by_cases h : w1.data.toList = [99, 97, 115]
            · obtain rfl : w1 = ⟨#[99, 97, 115]⟩ := data_eq' h
              clear h
              obtain ⟨q0, q1, q2, q3, q4, q5, q6, q7, q8⟩ := HO.out.c8
              obtain ⟨f0, f1, f2, f3, f4, f5, f6, f7⟩ := HO.out.f8
              go_wp2_with fail
              go_roundw
              case rel =>
                refine ⟨4 + 1, by omega, by omega, by go_num, HW.out.other (by omega) _ _, ?_, HR.out.other N1.out.symm _ _, hB.setCell (p := ⟨OB, 0, none⟩) hOB _⟩
                have h8 := HO.out.set 0 (.int .i64 4)
                rw [kindAt_y4]
                exact h8
              case measure => simp [intOf] <;> omega
            · have n1 : ([99, 97, 115] == w1.toList) = false := by
                rw [ByteArray.toList_eq]
                exact beq_eq_false_iff_ne.2 (fun e => h e.symm)
              have K2 : Hid (kindAt w1.data.toList (4 + 1) = kindAt w1.data.toList 4) := kindAt_no _ 4 (by omega) (by omega) h
              clear h
              go_wp2_with fail
              go_roundw
              case rel =>
                refine ⟨4 + 1, by omega, by omega, by go_num, HW.out, ?_, HR.out, hB⟩
                rw [K2.out]
                exact HO.out
              case measure => simp [intOf] <;> omega
          · skip
            obtain rfl : k = 5 := by omega
            replace HO : Hid (Blk wr OB (opC K ⟨#[]⟩ 0 0 ⟨#[]⟩ 0 0 ⟨#[]⟩) 28) := by
              have := HO.out
              rw [kindAt_5, hK.out] at this
              exact this
            clear HW
            go_wp2_with fail
            refine (Hc2.out _).mono ?_
            rintro e wb ⟨rfl, hbb⟩
            replace hB := bt hB hbb
            replace HR := Lib.hid (HR.out.keep hbb)
            replace HO := Lib.hid (HO.out.keep hbb)
            clear hbb
            obtain ⟨p0, p1, p2, p3, p4, p5, p6, p7, p8⟩ := HO.out.c8
            obtain ⟨g0, g1, g2, g3, g4, g5, g6, g7⟩ := HO.out.f8
            go_wp2_with fail
            have HO2 : Hid (Blk (wb.setCell ⟨OB, 1, none⟩ (.string ky)) OB (opC K ky 0 0 ⟨#[]⟩ 0 0 ⟨#[]⟩) 28) := HO.out.set 1 (.string ky)
            replace HR : Hid (Blk (wb.setCell ⟨OB, 1, none⟩ (.string ky)) w.heap.size (opC 0 ⟨#[]⟩ 0 0 ⟨#[]⟩ 0 0 ⟨#[]⟩) 28) := HR.out.other N1.out.symm _ _
            replace hB := hB.setCell (p := ⟨OB, 1, none⟩) hOB (.string ky)
            clear HO p0 p1 p2 p3 p4 p5 p6 p7 p8 g0 g1 g2 g3 g4 g5 g6 g7
            generalize wb.setCell ⟨OB, 1, none⟩ (.string ky) = wb2 at HO2 HR hB ⊢
            refine (Hc3.out _).mono ?_
            rintro e wc ⟨rfl, hbc⟩
            replace hB := bt hB hbc
            replace HR := Lib.hid (HR.out.keep hbc)
            replace HO2 := Lib.hid (HO2.out.keep hbc)
            clear hbc
            go_wp2_with fail
            refine (Hra.out _).mono ?_
            rintro e wd ⟨rfl, hbd⟩
            replace hB := bt hB hbd
            replace HR := Lib.hid (HR.out.keep hbd)
            replace HO2 := Lib.hid (HO2.out.keep hbd)
            clear hbd
            obtain ⟨p0, p1, p2, p3, p4, p5, p6, p7, p8⟩ := HO2.out.c8
            obtain ⟨g0, g1, g2, g3, g4, g5, g6, g7⟩ := HO2.out.f8
            have n5 : ¬ w.heap.size = OB := N1.out.symm
            have n6 : ¬ OB = w.heap.size := N1.out
            obtain ⟨q0, q1, q2, q3, q4, q5, q6, q7, q8⟩ := HR.out.c8
            obtain ⟨f0, f1, f2, f3, f4, f5, f6, f7⟩ := HR.out.f8
            go_wp2_with fail
            exact bodyPost_ret (v := noT false) (by simp [results, Tryd.results20, go_sem, q0, q1, q2, q3, q4, q5, q6, q7]) rfl ⟨rfl, below8 (((hB.setCell (p := ⟨OB, 2, none⟩) hOB _).setCell (p := ⟨OB, 3, none⟩) hOB _).setCell (p := ⟨OB, 4, none⟩) hOB _) (Nat.le_refl _) _ _ _ _ _ _ _ _⟩

set_option maxRecDepth 100000 in
set_option maxHeartbeats 8000000 in
theorem refReadD_2d (K : Int) (s w1 r1 ky r2 : ByteArray) (a b : ByteArray) (ka na ea : Int) (sa : ByteArray) (w : World)
    (Hc1 : Hid (∀ W : World, Calls Tryd.prog 34 #[.string s] W fun e W' => e = .returned (.tuple #[.string w1, .string r1, .bool true]) ∧ Below W.heap.size W W')) (hK : Hid (begunK w1.data.toList = K))
    (Hc2 : Hid (∀ W : World, Calls Tryd.prog 34 #[.string r1] W fun e W' => e = .returned (.tuple #[.string ky, .string r2, .bool true]) ∧ Below W.heap.size W W'))
    (Hc3 : Hid (∀ W : World, Calls Tryd.prog 34 #[.string r2] W fun e W' => e = .returned (.tuple #[.string a, .string b, .bool false]) ∧ Below W.heap.size W W')) (Hra : Hid (∀ W : World, Calls Tryd.prog 35 #[.string a] W fun e W' => e = .returned (.tuple #[.agg #[.int .i64 ka, .int .i64 na, .string sa], .int .i64 ea]) ∧ Below W.heap.size W W')) (k4 : (K == 4) = false) (k2 : (K == 2) = true) :
    Calls Tryd.prog 20 #[.string s] w fun e w' => e = .returned (noT false) ∧ Below w.heap.size w w' := by
  go_enter Tryd.func20, Tryd.ntmps20
  go_wp2_with fail
  have hB := b0 w (.cells (opC 0 ⟨#[]⟩ 0 0 ⟨#[]⟩ 0 0 ⟨#[]⟩) 28)
  have HR := Lib.hid (blk_new w (opC 0 ⟨#[]⟩ 0 0 ⟨#[]⟩ 0 0 ⟨#[]⟩) 28)
  generalize w.alloc (.cells (opC 0 ⟨#[]⟩ 0 0 ⟨#[]⟩ 0 0 ⟨#[]⟩) 28) = W at HR hB ⊢
  refine (Hc1.out _).mono ?_
  rintro e wa ⟨rfl, hba⟩
  replace hB := bt hB hba
  replace HR := Lib.hid (HR.out.keep hba)
  clear hba
  have hOB : w.heap.size ≤ wa.heap.size := hB.size
  go_wp2_with fail
  have hRel : RRel w.heap.size wa.heap.size (wa.heap.size + 1) w1 1 w ((wa.alloc (.cells (opC 0 ⟨#[]⟩ 0 0 ⟨#[]⟩ 0 0 ⟨#[]⟩) 28)).alloc (.cells #[.string ⟨#[]⟩, .string ⟨#[112, 117, 116]⟩, .string ⟨#[100, 101, 108]⟩, .string ⟨#[97, 100, 100]⟩, .string ⟨#[99, 97, 115]⟩] 55)) := by
    refine ⟨blk_at (by simp) _ _, ?_, (HR.out.alloc _).alloc _, ba (ba hB _) _⟩
    rw [kindAt_1]
    exact (blk_new wa _ _).alloc _
  have n1 : wa.heap.size ≠ w.heap.size := by have := HR.out.lt; omega
  generalize wa.heap.size = OB at hRel n1 hOB ⊢
  generalize (wa.alloc _).alloc _ = WA at hRel ⊢
  have HRel := Lib.hid hRel
  have N1 := Lib.hid n1
  clear hRel n1 HR hB
  go_loopw [10] (fun i wr => ∃ k : Nat, 1 ≤ k ∧ k ≤ 5 ∧ i = .int .i64 k ∧ RRel w.heap.size OB (OB + 1) w1 k w wr) (fun i _ => 5 - (intOf i).toNat)
  case atStart => exact ⟨1, by omega, by omega, rfl, HRel.out⟩
  case round =>
    obtain ⟨k, hk1, hk5, rfl, hW, hO, hR, hB⟩ := hrel
    have HW := Lib.hid hW
    have HO := Lib.hid hO
    have HR := Lib.hid hR
    clear hW hO hR HRel
    by_cases kk1 : k = 1
    · subst kk1
      have c0 : wr.cell? ⟨OB + 1, 1, none⟩ = some (.string ⟨#[112, 117, 116]⟩) := HW.out.cell 1
      by_cases h : w1.data.toList = [112, 117, 116]
      · obtain rfl : w1 = ⟨#[112, 117, 116]⟩ := data_eq' h
        clear h
        obtain ⟨q0, q1, q2, q3, q4, q5, q6, q7, q8⟩ := HO.out.c8
        obtain ⟨f0, f1, f2, f3, f4, f5, f6, f7⟩ := HO.out.f8
        go_wp2_with fail
        go_roundw
        case rel =>
          refine ⟨1 + 1, by omega, by omega, by go_num, HW.out.other (by omega) _ _, ?_, HR.out.other N1.out.symm _ _, hB.setCell (p := ⟨OB, 0, none⟩) hOB _⟩
          have h8 := HO.out.set 0 (.int .i64 1)
          rw [kindAt_y1]
          exact h8
        case measure => simp [intOf] <;> omega
      · have n1 : ([112, 117, 116] == w1.toList) = false := by
          rw [ByteArray.toList_eq]
          exact beq_eq_false_iff_ne.2 (fun e => h e.symm)
        have K2 : Hid (kindAt w1.data.toList (1 + 1) = kindAt w1.data.toList 1) := kindAt_no _ 1 (by omega) (by omega) h
        clear h
        go_wp2_with fail
        go_roundw
        case rel =>
          refine ⟨1 + 1, by omega, by omega, by go_num, HW.out, ?_, HR.out, hB⟩
          rw [K2.out]
          exact HO.out
        case measure => simp [intOf] <;> omega
    · skip
      by_cases kk2 : k = 2
      · subst kk2
        have c0 : wr.cell? ⟨OB + 1, 2, none⟩ = some (.string ⟨#[100, 101, 108]⟩) := HW.out.cell 2
        by_cases h : w1.data.toList = [100, 101, 108]
        · obtain rfl : w1 = ⟨#[100, 101, 108]⟩ := data_eq' h
          clear h
          obtain ⟨q0, q1, q2, q3, q4, q5, q6, q7, q8⟩ := HO.out.c8
          obtain ⟨f0, f1, f2, f3, f4, f5, f6, f7⟩ := HO.out.f8
          go_wp2_with fail
          go_roundw
          case rel =>
            refine ⟨2 + 1, by omega, by omega, by go_num, HW.out.other (by omega) _ _, ?_, HR.out.other N1.out.symm _ _, hB.setCell (p := ⟨OB, 0, none⟩) hOB _⟩
            have h8 := HO.out.set 0 (.int .i64 2)
            rw [kindAt_y2]
            exact h8
          case measure => simp [intOf] <;> omega
        · have n1 : ([100, 101, 108] == w1.toList) = false := by
            rw [ByteArray.toList_eq]
            exact beq_eq_false_iff_ne.2 (fun e => h e.symm)
          have K2 : Hid (kindAt w1.data.toList (2 + 1) = kindAt w1.data.toList 2) := kindAt_no _ 2 (by omega) (by omega) h
          clear h
          go_wp2_with fail
          go_roundw
          case rel =>
            refine ⟨2 + 1, by omega, by omega, by go_num, HW.out, ?_, HR.out, hB⟩
            rw [K2.out]
            exact HO.out
          case measure => simp [intOf] <;> omega
      · skip
        by_cases kk3 : k = 3
        · subst kk3
          have c0 : wr.cell? ⟨OB + 1, 3, none⟩ = some (.string ⟨#[97, 100, 100]⟩) := HW.out.cell 3
          by_cases h : w1.data.toList = [97, 100, 100]
          · obtain rfl : w1 = ⟨#[97, 100, 100]⟩ := data_eq' h
            clear h
            obtain ⟨q0, q1, q2, q3, q4, q5, q6, q7, q8⟩ := HO.out.c8
            obtain ⟨f0, f1, f2, f3, f4, f5, f6, f7⟩ := HO.out.f8
            go_wp2_with fail
            go_roundw
            case rel =>
              refine ⟨3 + 1, by omega, by omega, by go_num, HW.out.other (by omega) _ _, ?_, HR.out.other N1.out.symm _ _, hB.setCell (p := ⟨OB, 0, none⟩) hOB _⟩
              have h8 := HO.out.set 0 (.int .i64 3)
              rw [kindAt_y3]
              exact h8
            case measure => simp [intOf] <;> omega
          · have n1 : ([97, 100, 100] == w1.toList) = false := by
              rw [ByteArray.toList_eq]
              exact beq_eq_false_iff_ne.2 (fun e => h e.symm)
            have K2 : Hid (kindAt w1.data.toList (3 + 1) = kindAt w1.data.toList 3) := kindAt_no _ 3 (by omega) (by omega) h
            clear h
            go_wp2_with fail
            go_roundw
            case rel =>
              refine ⟨3 + 1, by omega, by omega, by go_num, HW.out, ?_, HR.out, hB⟩
              rw [K2.out]
              exact HO.out
            case measure => simp [intOf] <;> omega
        · skip
          by_cases kk4 : k = 4
          · subst kk4
            have c0 : wr.cell? ⟨OB + 1, 4, none⟩ = some (.string ⟨#[99, 97, 115]⟩) := HW.out.cell 4
            by_cases h : w1.data.toList = [99, 97, 115]
            · obtain rfl : w1 = ⟨#[99, 97, 115]⟩ := data_eq' h
              clear h
              obtain ⟨q0, q1, q2, q3, q4, q5, q6, q7, q8⟩ := HO.out.c8
              obtain ⟨f0, f1, f2, f3, f4, f5, f6, f7⟩ := HO.out.f8
              go_wp2_with fail
              go_roundw
              case rel =>
                refine ⟨4 + 1, by omega, by omega, by go_num, HW.out.other (by omega) _ _, ?_, HR.out.other N1.out.symm _ _, hB.setCell (p := ⟨OB, 0, none⟩) hOB _⟩
                have h8 := HO.out.set 0 (.int .i64 4)
                rw [kindAt_y4]
                exact h8
              case measure => simp [intOf] <;> omega
            · have n1 : ([99, 97, 115] == w1.toList) = false := by
                rw [ByteArray.toList_eq]
                exact beq_eq_false_iff_ne.2 (fun e => h e.symm)
              have K2 : Hid (kindAt w1.data.toList (4 + 1) = kindAt w1.data.toList 4) := kindAt_no _ 4 (by omega) (by omega) h
              clear h
              go_wp2_with fail
              go_roundw
              case rel =>
                refine ⟨4 + 1, by omega, by omega, by go_num, HW.out, ?_, HR.out, hB⟩
                rw [K2.out]
                exact HO.out
              case measure => simp [intOf] <;> omega
          · skip
            obtain rfl : k = 5 := by omega
            replace HO : Hid (Blk wr OB (opC K ⟨#[]⟩ 0 0 ⟨#[]⟩ 0 0 ⟨#[]⟩) 28) := by
              have := HO.out
              rw [kindAt_5, hK.out] at this
              exact this
            clear HW
            go_wp2_with fail
            refine (Hc2.out _).mono ?_
            rintro e wb ⟨rfl, hbb⟩
            replace hB := bt hB hbb
            replace HR := Lib.hid (HR.out.keep hbb)
            replace HO := Lib.hid (HO.out.keep hbb)
            clear hbb
            obtain ⟨p0, p1, p2, p3, p4, p5, p6, p7, p8⟩ := HO.out.c8
            obtain ⟨g0, g1, g2, g3, g4, g5, g6, g7⟩ := HO.out.f8
            go_wp2_with fail
            have HO2 : Hid (Blk (wb.setCell ⟨OB, 1, none⟩ (.string ky)) OB (opC K ky 0 0 ⟨#[]⟩ 0 0 ⟨#[]⟩) 28) := HO.out.set 1 (.string ky)
            replace HR : Hid (Blk (wb.setCell ⟨OB, 1, none⟩ (.string ky)) w.heap.size (opC 0 ⟨#[]⟩ 0 0 ⟨#[]⟩ 0 0 ⟨#[]⟩) 28) := HR.out.other N1.out.symm _ _
            replace hB := hB.setCell (p := ⟨OB, 1, none⟩) hOB (.string ky)
            clear HO p0 p1 p2 p3 p4 p5 p6 p7 p8 g0 g1 g2 g3 g4 g5 g6 g7
            generalize wb.setCell ⟨OB, 1, none⟩ (.string ky) = wb2 at HO2 HR hB ⊢
            refine (Hc3.out _).mono ?_
            rintro e wc ⟨rfl, hbc⟩
            replace hB := bt hB hbc
            replace HR := Lib.hid (HR.out.keep hbc)
            replace HO2 := Lib.hid (HO2.out.keep hbc)
            clear hbc
            go_wp2_with fail
            refine (Hra.out _).mono ?_
            rintro e wd ⟨rfl, hbd⟩
            replace hB := bt hB hbd
            replace HR := Lib.hid (HR.out.keep hbd)
            replace HO2 := Lib.hid (HO2.out.keep hbd)
            clear hbd
            obtain ⟨p0, p1, p2, p3, p4, p5, p6, p7, p8⟩ := HO2.out.c8
            obtain ⟨g0, g1, g2, g3, g4, g5, g6, g7⟩ := HO2.out.f8
            have n5 : ¬ w.heap.size = OB := N1.out.symm
            have n6 : ¬ OB = w.heap.size := N1.out
            obtain ⟨q0, q1, q2, q3, q4, q5, q6, q7, q8⟩ := HR.out.c8
            obtain ⟨f0, f1, f2, f3, f4, f5, f6, f7⟩ := HR.out.f8
            go_wp2_with fail
            exact bodyPost_ret (v := noT false) (by simp [results, Tryd.results20, go_sem, q0, q1, q2, q3, q4, q5, q6, q7]) rfl ⟨rfl, below8 (((hB.setCell (p := ⟨OB, 2, none⟩) hOB _).setCell (p := ⟨OB, 3, none⟩) hOB _).setCell (p := ⟨OB, 4, none⟩) hOB _) (Nat.le_refl _) _ _ _ _ _ _ _ _⟩

set_option maxRecDepth 100000 in
set_option maxHeartbeats 8000000 in
theorem refReadD_2e (K : Int) (s w1 r1 ky r2 : ByteArray) (a b : ByteArray) (ka na ea : Int) (sa : ByteArray) (w : World)
    (Hc1 : Hid (∀ W : World, Calls Tryd.prog 34 #[.string s] W fun e W' => e = .returned (.tuple #[.string w1, .string r1, .bool true]) ∧ Below W.heap.size W W')) (hK : Hid (begunK w1.data.toList = K))
    (Hc2 : Hid (∀ W : World, Calls Tryd.prog 34 #[.string r1] W fun e W' => e = .returned (.tuple #[.string ky, .string r2, .bool true]) ∧ Below W.heap.size W W'))
    (Hc3 : Hid (∀ W : World, Calls Tryd.prog 34 #[.string r2] W fun e W' => e = .returned (.tuple #[.string a, .string b, .bool false]) ∧ Below W.heap.size W W')) (Hra : Hid (∀ W : World, Calls Tryd.prog 35 #[.string a] W fun e W' => e = .returned (.tuple #[.agg #[.int .i64 ka, .int .i64 na, .string sa], .int .i64 ea]) ∧ Below W.heap.size W W')) (k4 : (K == 4) = false) (k2 : (K == 2) = false) (he : (ea != 0) = true) :
    Calls Tryd.prog 20 #[.string s] w fun e w' => e = .returned (noT false) ∧ Below w.heap.size w w' := by
  go_enter Tryd.func20, Tryd.ntmps20
  go_wp2_with fail
  have hB := b0 w (.cells (opC 0 ⟨#[]⟩ 0 0 ⟨#[]⟩ 0 0 ⟨#[]⟩) 28)
  have HR := Lib.hid (blk_new w (opC 0 ⟨#[]⟩ 0 0 ⟨#[]⟩ 0 0 ⟨#[]⟩) 28)
  generalize w.alloc (.cells (opC 0 ⟨#[]⟩ 0 0 ⟨#[]⟩ 0 0 ⟨#[]⟩) 28) = W at HR hB ⊢
  refine (Hc1.out _).mono ?_
  rintro e wa ⟨rfl, hba⟩
  replace hB := bt hB hba
  replace HR := Lib.hid (HR.out.keep hba)
  clear hba
  have hOB : w.heap.size ≤ wa.heap.size := hB.size
  go_wp2_with fail
  have hRel : RRel w.heap.size wa.heap.size (wa.heap.size + 1) w1 1 w ((wa.alloc (.cells (opC 0 ⟨#[]⟩ 0 0 ⟨#[]⟩ 0 0 ⟨#[]⟩) 28)).alloc (.cells #[.string ⟨#[]⟩, .string ⟨#[112, 117, 116]⟩, .string ⟨#[100, 101, 108]⟩, .string ⟨#[97, 100, 100]⟩, .string ⟨#[99, 97, 115]⟩] 55)) := by
    refine ⟨blk_at (by simp) _ _, ?_, (HR.out.alloc _).alloc _, ba (ba hB _) _⟩
    rw [kindAt_1]
    exact (blk_new wa _ _).alloc _
  have n1 : wa.heap.size ≠ w.heap.size := by have := HR.out.lt; omega
  generalize wa.heap.size = OB at hRel n1 hOB ⊢
  generalize (wa.alloc _).alloc _ = WA at hRel ⊢
  have HRel := Lib.hid hRel
  have N1 := Lib.hid n1
  clear hRel n1 HR hB
  go_loopw [10] (fun i wr => ∃ k : Nat, 1 ≤ k ∧ k ≤ 5 ∧ i = .int .i64 k ∧ RRel w.heap.size OB (OB + 1) w1 k w wr) (fun i _ => 5 - (intOf i).toNat)
  case atStart => exact ⟨1, by omega, by omega, rfl, HRel.out⟩
  case round =>
    obtain ⟨k, hk1, hk5, rfl, hW, hO, hR, hB⟩ := hrel
    have HW := Lib.hid hW
    have HO := Lib.hid hO
    have HR := Lib.hid hR
    clear hW hO hR HRel
    by_cases kk1 : k = 1
    · subst kk1
      have c0 : wr.cell? ⟨OB + 1, 1, none⟩ = some (.string ⟨#[112, 117, 116]⟩) := HW.out.cell 1
      by_cases h : w1.data.toList = [112, 117, 116]
      · obtain rfl : w1 = ⟨#[112, 117, 116]⟩ := data_eq' h
        clear h
        obtain ⟨q0, q1, q2, q3, q4, q5, q6, q7, q8⟩ := HO.out.c8
        obtain ⟨f0, f1, f2, f3, f4, f5, f6, f7⟩ := HO.out.f8
        go_wp2_with fail
        go_roundw
        case rel =>
          refine ⟨1 + 1, by omega, by omega, by go_num, HW.out.other (by omega) _ _, ?_, HR.out.other N1.out.symm _ _, hB.setCell (p := ⟨OB, 0, none⟩) hOB _⟩
          have h8 := HO.out.set 0 (.int .i64 1)
          rw [kindAt_y1]
          exact h8
        case measure => simp [intOf] <;> omega
      · have n1 : ([112, 117, 116] == w1.toList) = false := by
          rw [ByteArray.toList_eq]
          exact beq_eq_false_iff_ne.2 (fun e => h e.symm)
        have K2 : Hid (kindAt w1.data.toList (1 + 1) = kindAt w1.data.toList 1) := kindAt_no _ 1 (by omega) (by omega) h
        clear h
        go_wp2_with fail
        go_roundw
        case rel =>
          refine ⟨1 + 1, by omega, by omega, by go_num, HW.out, ?_, HR.out, hB⟩
          rw [K2.out]
          exact HO.out
        case measure => simp [intOf] <;> omega
    · skip
      by_cases kk2 : k = 2
      · subst kk2
        have c0 : wr.cell? ⟨OB + 1, 2, none⟩ = some (.string ⟨#[100, 101, 108]⟩) := HW.out.cell 2
        by_cases h : w1.data.toList = [100, 101, 108]
        · obtain rfl : w1 = ⟨#[100, 101, 108]⟩ := data_eq' h
          clear h
          obtain ⟨q0, q1, q2, q3, q4, q5, q6, q7, q8⟩ := HO.out.c8
          obtain ⟨f0, f1, f2, f3, f4, f5, f6, f7⟩ := HO.out.f8
          go_wp2_with fail
          go_roundw
          case rel =>
            refine ⟨2 + 1, by omega, by omega, by go_num, HW.out.other (by omega) _ _, ?_, HR.out.other N1.out.symm _ _, hB.setCell (p := ⟨OB, 0, none⟩) hOB _⟩
            have h8 := HO.out.set 0 (.int .i64 2)
            rw [kindAt_y2]
            exact h8
          case measure => simp [intOf] <;> omega
        · have n1 : ([100, 101, 108] == w1.toList) = false := by
            rw [ByteArray.toList_eq]
            exact beq_eq_false_iff_ne.2 (fun e => h e.symm)
          have K2 : Hid (kindAt w1.data.toList (2 + 1) = kindAt w1.data.toList 2) := kindAt_no _ 2 (by omega) (by omega) h
          clear h
          go_wp2_with fail
          go_roundw
          case rel =>
            refine ⟨2 + 1, by omega, by omega, by go_num, HW.out, ?_, HR.out, hB⟩
            rw [K2.out]
            exact HO.out
          case measure => simp [intOf] <;> omega
      · skip
        by_cases kk3 : k = 3
        · subst kk3
          have c0 : wr.cell? ⟨OB + 1, 3, none⟩ = some (.string ⟨#[97, 100, 100]⟩) := HW.out.cell 3
          by_cases h : w1.data.toList = [97, 100, 100]
          · obtain rfl : w1 = ⟨#[97, 100, 100]⟩ := data_eq' h
            clear h
            obtain ⟨q0, q1, q2, q3, q4, q5, q6, q7, q8⟩ := HO.out.c8
            obtain ⟨f0, f1, f2, f3, f4, f5, f6, f7⟩ := HO.out.f8
            go_wp2_with fail
            go_roundw
            case rel =>
              refine ⟨3 + 1, by omega, by omega, by go_num, HW.out.other (by omega) _ _, ?_, HR.out.other N1.out.symm _ _, hB.setCell (p := ⟨OB, 0, none⟩) hOB _⟩
              have h8 := HO.out.set 0 (.int .i64 3)
              rw [kindAt_y3]
              exact h8
            case measure => simp [intOf] <;> omega
          · have n1 : ([97, 100, 100] == w1.toList) = false := by
              rw [ByteArray.toList_eq]
              exact beq_eq_false_iff_ne.2 (fun e => h e.symm)
            have K2 : Hid (kindAt w1.data.toList (3 + 1) = kindAt w1.data.toList 3) := kindAt_no _ 3 (by omega) (by omega) h
            clear h
            go_wp2_with fail
            go_roundw
            case rel =>
              refine ⟨3 + 1, by omega, by omega, by go_num, HW.out, ?_, HR.out, hB⟩
              rw [K2.out]
              exact HO.out
            case measure => simp [intOf] <;> omega
        · skip
          by_cases kk4 : k = 4
          · subst kk4
            have c0 : wr.cell? ⟨OB + 1, 4, none⟩ = some (.string ⟨#[99, 97, 115]⟩) := HW.out.cell 4
            by_cases h : w1.data.toList = [99, 97, 115]
            · obtain rfl : w1 = ⟨#[99, 97, 115]⟩ := data_eq' h
              clear h
              obtain ⟨q0, q1, q2, q3, q4, q5, q6, q7, q8⟩ := HO.out.c8
              obtain ⟨f0, f1, f2, f3, f4, f5, f6, f7⟩ := HO.out.f8
              go_wp2_with fail
              go_roundw
              case rel =>
                refine ⟨4 + 1, by omega, by omega, by go_num, HW.out.other (by omega) _ _, ?_, HR.out.other N1.out.symm _ _, hB.setCell (p := ⟨OB, 0, none⟩) hOB _⟩
                have h8 := HO.out.set 0 (.int .i64 4)
                rw [kindAt_y4]
                exact h8
              case measure => simp [intOf] <;> omega
            · have n1 : ([99, 97, 115] == w1.toList) = false := by
                rw [ByteArray.toList_eq]
                exact beq_eq_false_iff_ne.2 (fun e => h e.symm)
              have K2 : Hid (kindAt w1.data.toList (4 + 1) = kindAt w1.data.toList 4) := kindAt_no _ 4 (by omega) (by omega) h
              clear h
              go_wp2_with fail
              go_roundw
              case rel =>
                refine ⟨4 + 1, by omega, by omega, by go_num, HW.out, ?_, HR.out, hB⟩
                rw [K2.out]
                exact HO.out
              case measure => simp [intOf] <;> omega
          · skip
            obtain rfl : k = 5 := by omega
            replace HO : Hid (Blk wr OB (opC K ⟨#[]⟩ 0 0 ⟨#[]⟩ 0 0 ⟨#[]⟩) 28) := by
              have := HO.out
              rw [kindAt_5, hK.out] at this
              exact this
            clear HW
            go_wp2_with fail
            refine (Hc2.out _).mono ?_
            rintro e wb ⟨rfl, hbb⟩
            replace hB := bt hB hbb
            replace HR := Lib.hid (HR.out.keep hbb)
            replace HO := Lib.hid (HO.out.keep hbb)
            clear hbb
            obtain ⟨p0, p1, p2, p3, p4, p5, p6, p7, p8⟩ := HO.out.c8
            obtain ⟨g0, g1, g2, g3, g4, g5, g6, g7⟩ := HO.out.f8
            go_wp2_with fail
            have HO2 : Hid (Blk (wb.setCell ⟨OB, 1, none⟩ (.string ky)) OB (opC K ky 0 0 ⟨#[]⟩ 0 0 ⟨#[]⟩) 28) := HO.out.set 1 (.string ky)
            replace HR : Hid (Blk (wb.setCell ⟨OB, 1, none⟩ (.string ky)) w.heap.size (opC 0 ⟨#[]⟩ 0 0 ⟨#[]⟩ 0 0 ⟨#[]⟩) 28) := HR.out.other N1.out.symm _ _
            replace hB := hB.setCell (p := ⟨OB, 1, none⟩) hOB (.string ky)
            clear HO p0 p1 p2 p3 p4 p5 p6 p7 p8 g0 g1 g2 g3 g4 g5 g6 g7
            generalize wb.setCell ⟨OB, 1, none⟩ (.string ky) = wb2 at HO2 HR hB ⊢
            refine (Hc3.out _).mono ?_
            rintro e wc ⟨rfl, hbc⟩
            replace hB := bt hB hbc
            replace HR := Lib.hid (HR.out.keep hbc)
            replace HO2 := Lib.hid (HO2.out.keep hbc)
            clear hbc
            go_wp2_with fail
            refine (Hra.out _).mono ?_
            rintro e wd ⟨rfl, hbd⟩
            replace hB := bt hB hbd
            replace HR := Lib.hid (HR.out.keep hbd)
            replace HO2 := Lib.hid (HO2.out.keep hbd)
            clear hbd
            obtain ⟨p0, p1, p2, p3, p4, p5, p6, p7, p8⟩ := HO2.out.c8
            obtain ⟨g0, g1, g2, g3, g4, g5, g6, g7⟩ := HO2.out.f8
            have n5 : ¬ w.heap.size = OB := N1.out.symm
            have n6 : ¬ OB = w.heap.size := N1.out
            obtain ⟨q0, q1, q2, q3, q4, q5, q6, q7, q8⟩ := HR.out.c8
            obtain ⟨f0, f1, f2, f3, f4, f5, f6, f7⟩ := HR.out.f8
            go_wp2_with fail
            exact bodyPost_ret (v := noT false) (by simp [results, Tryd.results20, go_sem, q0, q1, q2, q3, q4, q5, q6, q7]) rfl ⟨rfl, below8 (((hB.setCell (p := ⟨OB, 2, none⟩) hOB _).setCell (p := ⟨OB, 3, none⟩) hOB _).setCell (p := ⟨OB, 4, none⟩) hOB _) (Nat.le_refl _) _ _ _ _ _ _ _ _⟩

set_option maxRecDepth 100000 in
set_option maxHeartbeats 8000000 in
theorem refReadD_2g (K : Int) (s w1 r1 ky r2 : ByteArray) (a b : ByteArray) (ka na ea : Int) (sa : ByteArray) (w : World)
    (Hc1 : Hid (∀ W : World, Calls Tryd.prog 34 #[.string s] W fun e W' => e = .returned (.tuple #[.string w1, .string r1, .bool true]) ∧ Below W.heap.size W W')) (hK : Hid (begunK w1.data.toList = K))
    (Hc2 : Hid (∀ W : World, Calls Tryd.prog 34 #[.string r1] W fun e W' => e = .returned (.tuple #[.string ky, .string r2, .bool true]) ∧ Below W.heap.size W W'))
    (Hc3 : Hid (∀ W : World, Calls Tryd.prog 34 #[.string r2] W fun e W' => e = .returned (.tuple #[.string a, .string b, .bool false]) ∧ Below W.heap.size W W')) (Hra : Hid (∀ W : World, Calls Tryd.prog 35 #[.string a] W fun e W' => e = .returned (.tuple #[.agg #[.int .i64 ka, .int .i64 na, .string sa], .int .i64 ea]) ∧ Below W.heap.size W W'))
    (HG : Hid (∀ W : World, Calls Tryd.prog 13 #[opV K ky ka na sa 0 0 ⟨#[]⟩] W fun e W' => e = .returned (.bool true) ∧ Below W.heap.size W W')) (k4 : (K == 4) = false) (k2 : (K == 2) = false) (he : (ea != 0) = false) :
    Calls Tryd.prog 20 #[.string s] w fun e w' => e = .returned (opT K ky ka na sa 0 0 ⟨#[]⟩ true) ∧ Below w.heap.size w w' := by
  go_enter Tryd.func20, Tryd.ntmps20
  go_wp2_with fail
  have hB := b0 w (.cells (opC 0 ⟨#[]⟩ 0 0 ⟨#[]⟩ 0 0 ⟨#[]⟩) 28)
  have HR := Lib.hid (blk_new w (opC 0 ⟨#[]⟩ 0 0 ⟨#[]⟩ 0 0 ⟨#[]⟩) 28)
  generalize w.alloc (.cells (opC 0 ⟨#[]⟩ 0 0 ⟨#[]⟩ 0 0 ⟨#[]⟩) 28) = W at HR hB ⊢
  refine (Hc1.out _).mono ?_
  rintro e wa ⟨rfl, hba⟩
  replace hB := bt hB hba
  replace HR := Lib.hid (HR.out.keep hba)
  clear hba
  have hOB : w.heap.size ≤ wa.heap.size := hB.size
  go_wp2_with fail
  have hRel : RRel w.heap.size wa.heap.size (wa.heap.size + 1) w1 1 w ((wa.alloc (.cells (opC 0 ⟨#[]⟩ 0 0 ⟨#[]⟩ 0 0 ⟨#[]⟩) 28)).alloc (.cells #[.string ⟨#[]⟩, .string ⟨#[112, 117, 116]⟩, .string ⟨#[100, 101, 108]⟩, .string ⟨#[97, 100, 100]⟩, .string ⟨#[99, 97, 115]⟩] 55)) := by
    refine ⟨blk_at (by simp) _ _, ?_, (HR.out.alloc _).alloc _, ba (ba hB _) _⟩
    rw [kindAt_1]
    exact (blk_new wa _ _).alloc _
  have n1 : wa.heap.size ≠ w.heap.size := by have := HR.out.lt; omega
  generalize wa.heap.size = OB at hRel n1 hOB ⊢
  generalize (wa.alloc _).alloc _ = WA at hRel ⊢
  have HRel := Lib.hid hRel
  have N1 := Lib.hid n1
  clear hRel n1 HR hB
  go_loopw [10] (fun i wr => ∃ k : Nat, 1 ≤ k ∧ k ≤ 5 ∧ i = .int .i64 k ∧ RRel w.heap.size OB (OB + 1) w1 k w wr) (fun i _ => 5 - (intOf i).toNat)
  case atStart => exact ⟨1, by omega, by omega, rfl, HRel.out⟩
  case round =>
    obtain ⟨k, hk1, hk5, rfl, hW, hO, hR, hB⟩ := hrel
    have HW := Lib.hid hW
    have HO := Lib.hid hO
    have HR := Lib.hid hR
    clear hW hO hR HRel
    by_cases kk1 : k = 1
    · subst kk1
      have c0 : wr.cell? ⟨OB + 1, 1, none⟩ = some (.string ⟨#[112, 117, 116]⟩) := HW.out.cell 1
      by_cases h : w1.data.toList = [112, 117, 116]
      · obtain rfl : w1 = ⟨#[112, 117, 116]⟩ := data_eq' h
        clear h
        obtain ⟨q0, q1, q2, q3, q4, q5, q6, q7, q8⟩ := HO.out.c8
        obtain ⟨f0, f1, f2, f3, f4, f5, f6, f7⟩ := HO.out.f8
        go_wp2_with fail
        go_roundw
        case rel =>
          refine ⟨1 + 1, by omega, by omega, by go_num, HW.out.other (by omega) _ _, ?_, HR.out.other N1.out.symm _ _, hB.setCell (p := ⟨OB, 0, none⟩) hOB _⟩
          have h8 := HO.out.set 0 (.int .i64 1)
          rw [kindAt_y1]
          exact h8
        case measure => simp [intOf] <;> omega
      · have n1 : ([112, 117, 116] == w1.toList) = false := by
          rw [ByteArray.toList_eq]
          exact beq_eq_false_iff_ne.2 (fun e => h e.symm)
        have K2 : Hid (kindAt w1.data.toList (1 + 1) = kindAt w1.data.toList 1) := kindAt_no _ 1 (by omega) (by omega) h
        clear h
        go_wp2_with fail
        go_roundw
        case rel =>
          refine ⟨1 + 1, by omega, by omega, by go_num, HW.out, ?_, HR.out, hB⟩
          rw [K2.out]
          exact HO.out
        case measure => simp [intOf] <;> omega
    · skip
      by_cases kk2 : k = 2
      · subst kk2
        have c0 : wr.cell? ⟨OB + 1, 2, none⟩ = some (.string ⟨#[100, 101, 108]⟩) := HW.out.cell 2
        by_cases h : w1.data.toList = [100, 101, 108]
        · obtain rfl : w1 = ⟨#[100, 101, 108]⟩ := data_eq' h
          clear h
          obtain ⟨q0, q1, q2, q3, q4, q5, q6, q7, q8⟩ := HO.out.c8
          obtain ⟨f0, f1, f2, f3, f4, f5, f6, f7⟩ := HO.out.f8
          go_wp2_with fail
          go_roundw
          case rel =>
            refine ⟨2 + 1, by omega, by omega, by go_num, HW.out.other (by omega) _ _, ?_, HR.out.other N1.out.symm _ _, hB.setCell (p := ⟨OB, 0, none⟩) hOB _⟩
            have h8 := HO.out.set 0 (.int .i64 2)
            rw [kindAt_y2]
            exact h8
          case measure => simp [intOf] <;> omega
        · have n1 : ([100, 101, 108] == w1.toList) = false := by
            rw [ByteArray.toList_eq]
            exact beq_eq_false_iff_ne.2 (fun e => h e.symm)
          have K2 : Hid (kindAt w1.data.toList (2 + 1) = kindAt w1.data.toList 2) := kindAt_no _ 2 (by omega) (by omega) h
          clear h
          go_wp2_with fail
          go_roundw
          case rel =>
            refine ⟨2 + 1, by omega, by omega, by go_num, HW.out, ?_, HR.out, hB⟩
            rw [K2.out]
            exact HO.out
          case measure => simp [intOf] <;> omega
      · skip
        by_cases kk3 : k = 3
        · subst kk3
          have c0 : wr.cell? ⟨OB + 1, 3, none⟩ = some (.string ⟨#[97, 100, 100]⟩) := HW.out.cell 3
          by_cases h : w1.data.toList = [97, 100, 100]
          · obtain rfl : w1 = ⟨#[97, 100, 100]⟩ := data_eq' h
            clear h
            obtain ⟨q0, q1, q2, q3, q4, q5, q6, q7, q8⟩ := HO.out.c8
            obtain ⟨f0, f1, f2, f3, f4, f5, f6, f7⟩ := HO.out.f8
            go_wp2_with fail
            go_roundw
            case rel =>
              refine ⟨3 + 1, by omega, by omega, by go_num, HW.out.other (by omega) _ _, ?_, HR.out.other N1.out.symm _ _, hB.setCell (p := ⟨OB, 0, none⟩) hOB _⟩
              have h8 := HO.out.set 0 (.int .i64 3)
              rw [kindAt_y3]
              exact h8
            case measure => simp [intOf] <;> omega
          · have n1 : ([97, 100, 100] == w1.toList) = false := by
              rw [ByteArray.toList_eq]
              exact beq_eq_false_iff_ne.2 (fun e => h e.symm)
            have K2 : Hid (kindAt w1.data.toList (3 + 1) = kindAt w1.data.toList 3) := kindAt_no _ 3 (by omega) (by omega) h
            clear h
            go_wp2_with fail
            go_roundw
            case rel =>
              refine ⟨3 + 1, by omega, by omega, by go_num, HW.out, ?_, HR.out, hB⟩
              rw [K2.out]
              exact HO.out
            case measure => simp [intOf] <;> omega
        · skip
          by_cases kk4 : k = 4
          · subst kk4
            have c0 : wr.cell? ⟨OB + 1, 4, none⟩ = some (.string ⟨#[99, 97, 115]⟩) := HW.out.cell 4
            by_cases h : w1.data.toList = [99, 97, 115]
            · obtain rfl : w1 = ⟨#[99, 97, 115]⟩ := data_eq' h
              clear h
              obtain ⟨q0, q1, q2, q3, q4, q5, q6, q7, q8⟩ := HO.out.c8
              obtain ⟨f0, f1, f2, f3, f4, f5, f6, f7⟩ := HO.out.f8
              go_wp2_with fail
              go_roundw
              case rel =>
                refine ⟨4 + 1, by omega, by omega, by go_num, HW.out.other (by omega) _ _, ?_, HR.out.other N1.out.symm _ _, hB.setCell (p := ⟨OB, 0, none⟩) hOB _⟩
                have h8 := HO.out.set 0 (.int .i64 4)
                rw [kindAt_y4]
                exact h8
              case measure => simp [intOf] <;> omega
            · have n1 : ([99, 97, 115] == w1.toList) = false := by
                rw [ByteArray.toList_eq]
                exact beq_eq_false_iff_ne.2 (fun e => h e.symm)
              have K2 : Hid (kindAt w1.data.toList (4 + 1) = kindAt w1.data.toList 4) := kindAt_no _ 4 (by omega) (by omega) h
              clear h
              go_wp2_with fail
              go_roundw
              case rel =>
                refine ⟨4 + 1, by omega, by omega, by go_num, HW.out, ?_, HR.out, hB⟩
                rw [K2.out]
                exact HO.out
              case measure => simp [intOf] <;> omega
          · skip
            obtain rfl : k = 5 := by omega
            replace HO : Hid (Blk wr OB (opC K ⟨#[]⟩ 0 0 ⟨#[]⟩ 0 0 ⟨#[]⟩) 28) := by
              have := HO.out
              rw [kindAt_5, hK.out] at this
              exact this
            clear HW
            go_wp2_with fail
            refine (Hc2.out _).mono ?_
            rintro e wb ⟨rfl, hbb⟩
            replace hB := bt hB hbb
            replace HR := Lib.hid (HR.out.keep hbb)
            replace HO := Lib.hid (HO.out.keep hbb)
            clear hbb
            obtain ⟨p0, p1, p2, p3, p4, p5, p6, p7, p8⟩ := HO.out.c8
            obtain ⟨g0, g1, g2, g3, g4, g5, g6, g7⟩ := HO.out.f8
            go_wp2_with fail
            have HO2 : Hid (Blk (wb.setCell ⟨OB, 1, none⟩ (.string ky)) OB (opC K ky 0 0 ⟨#[]⟩ 0 0 ⟨#[]⟩) 28) := HO.out.set 1 (.string ky)
            replace HR : Hid (Blk (wb.setCell ⟨OB, 1, none⟩ (.string ky)) w.heap.size (opC 0 ⟨#[]⟩ 0 0 ⟨#[]⟩ 0 0 ⟨#[]⟩) 28) := HR.out.other N1.out.symm _ _
            replace hB := hB.setCell (p := ⟨OB, 1, none⟩) hOB (.string ky)
            clear HO p0 p1 p2 p3 p4 p5 p6 p7 p8 g0 g1 g2 g3 g4 g5 g6 g7
            generalize wb.setCell ⟨OB, 1, none⟩ (.string ky) = wb2 at HO2 HR hB ⊢
            refine (Hc3.out _).mono ?_
            rintro e wc ⟨rfl, hbc⟩
            replace hB := bt hB hbc
            replace HR := Lib.hid (HR.out.keep hbc)
            replace HO2 := Lib.hid (HO2.out.keep hbc)
            clear hbc
            go_wp2_with fail
            refine (Hra.out _).mono ?_
            rintro e wd ⟨rfl, hbd⟩
            replace hB := bt hB hbd
            replace HR := Lib.hid (HR.out.keep hbd)
            replace HO2 := Lib.hid (HO2.out.keep hbd)
            clear hbd
            obtain ⟨p0, p1, p2, p3, p4, p5, p6, p7, p8⟩ := HO2.out.c8
            obtain ⟨g0, g1, g2, g3, g4, g5, g6, g7⟩ := HO2.out.f8
            go_wp2_with fail
            have HO3 : Hid (Blk (((wd.setCell ⟨OB, 2, none⟩ (.int .i64 ka)).setCell ⟨OB, 3, none⟩ (.int .i64 na)).setCell ⟨OB, 4, none⟩ (.string sa)) OB (opC K ky ka na sa 0 0 ⟨#[]⟩) 28) := (((HO2.out.set 2 (.int .i64 ka)).set 3 (.int .i64 na)).set 4 (.string sa))
            replace HR : Hid (Blk (((wd.setCell ⟨OB, 2, none⟩ (.int .i64 ka)).setCell ⟨OB, 3, none⟩ (.int .i64 na)).setCell ⟨OB, 4, none⟩ (.string sa)) w.heap.size (opC 0 ⟨#[]⟩ 0 0 ⟨#[]⟩ 0 0 ⟨#[]⟩) 28) := (((HR.out.other N1.out.symm _ _).other N1.out.symm _ _).other N1.out.symm _ _)
            replace hB : Below w.heap.size w (((wd.setCell ⟨OB, 2, none⟩ (.int .i64 ka)).setCell ⟨OB, 3, none⟩ (.int .i64 na)).setCell ⟨OB, 4, none⟩ (.string sa)) := (((hB.setCell (p := ⟨OB, 2, none⟩) hOB (.int .i64 ka)).setCell (p := ⟨OB, 3, none⟩) hOB (.int .i64 na)).setCell (p := ⟨OB, 4, none⟩) hOB (.string sa))
            clear HO2 p0 p1 p2 p3 p4 p5 p6 p7 p8 g0 g1 g2 g3 g4 g5 g6 g7
            generalize (((wd.setCell ⟨OB, 2, none⟩ (.int .i64 ka)).setCell ⟨OB, 3, none⟩ (.int .i64 na)).setCell ⟨OB, 4, none⟩ (.string sa)) = we at HO3 HR hB ⊢
            have HO2 := HO3
            clear HO3
            refine (HG.out _).mono ?_
            rintro e wz ⟨rfl, hbz⟩
            replace hB := bt hB hbz
            obtain ⟨q0, q1, q2, q3, q4, q5, q6, q7, q8⟩ := (HR.out.keep hbz).c8
            obtain ⟨f0, f1, f2, f3, f4, f5, f6, f7⟩ := (HR.out.keep hbz).f8
            obtain ⟨p0, p1, p2, p3, p4, p5, p6, p7, p8⟩ := (HO2.out.keep hbz).c8
            go_wp2_with fail
            exact bodyPost_ret (v := opT K ky ka na sa 0 0 ⟨#[]⟩ true) (by simp [results, Tryd.results20, go_sem, q0, q1, q2, q3, q4, q5, q6, q7]) rfl ⟨rfl, below8 hB (Nat.le_refl _) _ _ _ _ _ _ _ _⟩

set_option maxRecDepth 100000 in
set_option maxHeartbeats 8000000 in
theorem refReadD_2n (K : Int) (s w1 r1 ky r2 : ByteArray) (a b : ByteArray) (ka na ea : Int) (sa : ByteArray) (w : World)
    (Hc1 : Hid (∀ W : World, Calls Tryd.prog 34 #[.string s] W fun e W' => e = .returned (.tuple #[.string w1, .string r1, .bool true]) ∧ Below W.heap.size W W')) (hK : Hid (begunK w1.data.toList = K))
    (Hc2 : Hid (∀ W : World, Calls Tryd.prog 34 #[.string r1] W fun e W' => e = .returned (.tuple #[.string ky, .string r2, .bool true]) ∧ Below W.heap.size W W'))
    (Hc3 : Hid (∀ W : World, Calls Tryd.prog 34 #[.string r2] W fun e W' => e = .returned (.tuple #[.string a, .string b, .bool false]) ∧ Below W.heap.size W W')) (Hra : Hid (∀ W : World, Calls Tryd.prog 35 #[.string a] W fun e W' => e = .returned (.tuple #[.agg #[.int .i64 ka, .int .i64 na, .string sa], .int .i64 ea]) ∧ Below W.heap.size W W'))
    (HG : Hid (∀ W : World, Calls Tryd.prog 13 #[opV K ky ka na sa 0 0 ⟨#[]⟩] W fun e W' => e = .returned (.bool false) ∧ Below W.heap.size W W')) (k4 : (K == 4) = false) (k2 : (K == 2) = false) (he : (ea != 0) = false) :
    Calls Tryd.prog 20 #[.string s] w fun e w' => e = .returned (noT false) ∧ Below w.heap.size w w' := by
  go_enter Tryd.func20, Tryd.ntmps20
  go_wp2_with fail
  have hB := b0 w (.cells (opC 0 ⟨#[]⟩ 0 0 ⟨#[]⟩ 0 0 ⟨#[]⟩) 28)
  have HR := Lib.hid (blk_new w (opC 0 ⟨#[]⟩ 0 0 ⟨#[]⟩ 0 0 ⟨#[]⟩) 28)
  generalize w.alloc (.cells (opC 0 ⟨#[]⟩ 0 0 ⟨#[]⟩ 0 0 ⟨#[]⟩) 28) = W at HR hB ⊢
  refine (Hc1.out _).mono ?_
  rintro e wa ⟨rfl, hba⟩
  replace hB := bt hB hba
  replace HR := Lib.hid (HR.out.keep hba)
  clear hba
  have hOB : w.heap.size ≤ wa.heap.size := hB.size
  go_wp2_with fail
  have hRel : RRel w.heap.size wa.heap.size (wa.heap.size + 1) w1 1 w ((wa.alloc (.cells (opC 0 ⟨#[]⟩ 0 0 ⟨#[]⟩ 0 0 ⟨#[]⟩) 28)).alloc (.cells #[.string ⟨#[]⟩, .string ⟨#[112, 117, 116]⟩, .string ⟨#[100, 101, 108]⟩, .string ⟨#[97, 100, 100]⟩, .string ⟨#[99, 97, 115]⟩] 55)) := by
    refine ⟨blk_at (by simp) _ _, ?_, (HR.out.alloc _).alloc _, ba (ba hB _) _⟩
    rw [kindAt_1]
    exact (blk_new wa _ _).alloc _
  have n1 : wa.heap.size ≠ w.heap.size := by have := HR.out.lt; omega
  generalize wa.heap.size = OB at hRel n1 hOB ⊢
  generalize (wa.alloc _).alloc _ = WA at hRel ⊢
  have HRel := Lib.hid hRel
  have N1 := Lib.hid n1
  clear hRel n1 HR hB
  go_loopw [10] (fun i wr => ∃ k : Nat, 1 ≤ k ∧ k ≤ 5 ∧ i = .int .i64 k ∧ RRel w.heap.size OB (OB + 1) w1 k w wr) (fun i _ => 5 - (intOf i).toNat)
  case atStart => exact ⟨1, by omega, by omega, rfl, HRel.out⟩
  case round =>
    obtain ⟨k, hk1, hk5, rfl, hW, hO, hR, hB⟩ := hrel
    have HW := Lib.hid hW
    have HO := Lib.hid hO
    have HR := Lib.hid hR
    clear hW hO hR HRel
    by_cases kk1 : k = 1
    · subst kk1
      have c0 : wr.cell? ⟨OB + 1, 1, none⟩ = some (.string ⟨#[112, 117, 116]⟩) := HW.out.cell 1
      by_cases h : w1.data.toList = [112, 117, 116]
      · obtain rfl : w1 = ⟨#[112, 117, 116]⟩ := data_eq' h
        clear h
        obtain ⟨q0, q1, q2, q3, q4, q5, q6, q7, q8⟩ := HO.out.c8
        obtain ⟨f0, f1, f2, f3, f4, f5, f6, f7⟩ := HO.out.f8
        go_wp2_with fail
        go_roundw
        case rel =>
          refine ⟨1 + 1, by omega, by omega, by go_num, HW.out.other (by omega) _ _, ?_, HR.out.other N1.out.symm _ _, hB.setCell (p := ⟨OB, 0, none⟩) hOB _⟩
          have h8 := HO.out.set 0 (.int .i64 1)
          rw [kindAt_y1]
          exact h8
        case measure => simp [intOf] <;> omega
      · have n1 : ([112, 117, 116] == w1.toList) = false := by
          rw [ByteArray.toList_eq]
          exact beq_eq_false_iff_ne.2 (fun e => h e.symm)
        have K2 : Hid (kindAt w1.data.toList (1 + 1) = kindAt w1.data.toList 1) := kindAt_no _ 1 (by omega) (by omega) h
        clear h
        go_wp2_with fail
        go_roundw
        case rel =>
          refine ⟨1 + 1, by omega, by omega, by go_num, HW.out, ?_, HR.out, hB⟩
          rw [K2.out]
          exact HO.out
        case measure => simp [intOf] <;> omega
    · skip
      by_cases kk2 : k = 2
      · subst kk2
        have c0 : wr.cell? ⟨OB + 1, 2, none⟩ = some (.string ⟨#[100, 101, 108]⟩) := HW.out.cell 2
        by_cases h : w1.data.toList = [100, 101, 108]
        · obtain rfl : w1 = ⟨#[100, 101, 108]⟩ := data_eq' h
          clear h
          obtain ⟨q0, q1, q2, q3, q4, q5, q6, q7, q8⟩ := HO.out.c8
          obtain ⟨f0, f1, f2, f3, f4, f5, f6, f7⟩ := HO.out.f8
          go_wp2_with fail
          go_roundw
          case rel =>
            refine ⟨2 + 1, by omega, by omega, by go_num, HW.out.other (by omega) _ _, ?_, HR.out.other N1.out.symm _ _, hB.setCell (p := ⟨OB, 0, none⟩) hOB _⟩
            have h8 := HO.out.set 0 (.int .i64 2)
            rw [kindAt_y2]
            exact h8
          case measure => simp [intOf] <;> omega
        · have n1 : ([100, 101, 108] == w1.toList) = false := by
            rw [ByteArray.toList_eq]
            exact beq_eq_false_iff_ne.2 (fun e => h e.symm)
          have K2 : Hid (kindAt w1.data.toList (2 + 1) = kindAt w1.data.toList 2) := kindAt_no _ 2 (by omega) (by omega) h
          clear h
          go_wp2_with fail
          go_roundw
          case rel =>
            refine ⟨2 + 1, by omega, by omega, by go_num, HW.out, ?_, HR.out, hB⟩
            rw [K2.out]
            exact HO.out
          case measure => simp [intOf] <;> omega
      · skip
        by_cases kk3 : k = 3
        · subst kk3
          have c0 : wr.cell? ⟨OB + 1, 3, none⟩ = some (.string ⟨#[97, 100, 100]⟩) := HW.out.cell 3
          by_cases h : w1.data.toList = [97, 100, 100]
          · obtain rfl : w1 = ⟨#[97, 100, 100]⟩ := data_eq' h
            clear h
            obtain ⟨q0, q1, q2, q3, q4, q5, q6, q7, q8⟩ := HO.out.c8
            obtain ⟨f0, f1, f2, f3, f4, f5, f6, f7⟩ := HO.out.f8
            go_wp2_with fail
            go_roundw
            case rel =>
              refine ⟨3 + 1, by omega, by omega, by go_num, HW.out.other (by omega) _ _, ?_, HR.out.other N1.out.symm _ _, hB.setCell (p := ⟨OB, 0, none⟩) hOB _⟩
              have h8 := HO.out.set 0 (.int .i64 3)
              rw [kindAt_y3]
              exact h8
            case measure => simp [intOf] <;> omega
          · have n1 : ([97, 100, 100] == w1.toList) = false := by
              rw [ByteArray.toList_eq]
              exact beq_eq_false_iff_ne.2 (fun e => h e.symm)
            have K2 : Hid (kindAt w1.data.toList (3 + 1) = kindAt w1.data.toList 3) := kindAt_no _ 3 (by omega) (by omega) h
            clear h
            go_wp2_with fail
            go_roundw
            case rel =>
              refine ⟨3 + 1, by omega, by omega, by go_num, HW.out, ?_, HR.out, hB⟩
              rw [K2.out]
              exact HO.out
            case measure => simp [intOf] <;> omega
        · skip
          by_cases kk4 : k = 4
          · subst kk4
            have c0 : wr.cell? ⟨OB + 1, 4, none⟩ = some (.string ⟨#[99, 97, 115]⟩) := HW.out.cell 4
            by_cases h : w1.data.toList = [99, 97, 115]
            · obtain rfl : w1 = ⟨#[99, 97, 115]⟩ := data_eq' h
              clear h
              obtain ⟨q0, q1, q2, q3, q4, q5, q6, q7, q8⟩ := HO.out.c8
              obtain ⟨f0, f1, f2, f3, f4, f5, f6, f7⟩ := HO.out.f8
              go_wp2_with fail
              go_roundw
              case rel =>
                refine ⟨4 + 1, by omega, by omega, by go_num, HW.out.other (by omega) _ _, ?_, HR.out.other N1.out.symm _ _, hB.setCell (p := ⟨OB, 0, none⟩) hOB _⟩
                have h8 := HO.out.set 0 (.int .i64 4)
                rw [kindAt_y4]
                exact h8
              case measure => simp [intOf] <;> omega
            · have n1 : ([99, 97, 115] == w1.toList) = false := by
                rw [ByteArray.toList_eq]
                exact beq_eq_false_iff_ne.2 (fun e => h e.symm)
              have K2 : Hid (kindAt w1.data.toList (4 + 1) = kindAt w1.data.toList 4) := kindAt_no _ 4 (by omega) (by omega) h
              clear h
              go_wp2_with fail
              go_roundw
              case rel =>
                refine ⟨4 + 1, by omega, by omega, by go_num, HW.out, ?_, HR.out, hB⟩
                rw [K2.out]
                exact HO.out
              case measure => simp [intOf] <;> omega
          · skip
            obtain rfl : k = 5 := by omega
            replace HO : Hid (Blk wr OB (opC K ⟨#[]⟩ 0 0 ⟨#[]⟩ 0 0 ⟨#[]⟩) 28) := by
              have := HO.out
              rw [kindAt_5, hK.out] at this
              exact this
            clear HW
            go_wp2_with fail
            refine (Hc2.out _).mono ?_
            rintro e wb ⟨rfl, hbb⟩
            replace hB := bt hB hbb
            replace HR := Lib.hid (HR.out.keep hbb)
            replace HO := Lib.hid (HO.out.keep hbb)
            clear hbb
            obtain ⟨p0, p1, p2, p3, p4, p5, p6, p7, p8⟩ := HO.out.c8
            obtain ⟨g0, g1, g2, g3, g4, g5, g6, g7⟩ := HO.out.f8
            go_wp2_with fail
            have HO2 : Hid (Blk (wb.setCell ⟨OB, 1, none⟩ (.string ky)) OB (opC K ky 0 0 ⟨#[]⟩ 0 0 ⟨#[]⟩) 28) := HO.out.set 1 (.string ky)
            replace HR : Hid (Blk (wb.setCell ⟨OB, 1, none⟩ (.string ky)) w.heap.size (opC 0 ⟨#[]⟩ 0 0 ⟨#[]⟩ 0 0 ⟨#[]⟩) 28) := HR.out.other N1.out.symm _ _
            replace hB := hB.setCell (p := ⟨OB, 1, none⟩) hOB (.string ky)
            clear HO p0 p1 p2 p3 p4 p5 p6 p7 p8 g0 g1 g2 g3 g4 g5 g6 g7
            generalize wb.setCell ⟨OB, 1, none⟩ (.string ky) = wb2 at HO2 HR hB ⊢
            refine (Hc3.out _).mono ?_
            rintro e wc ⟨rfl, hbc⟩
            replace hB := bt hB hbc
            replace HR := Lib.hid (HR.out.keep hbc)
            replace HO2 := Lib.hid (HO2.out.keep hbc)
            clear hbc
            go_wp2_with fail
            refine (Hra.out _).mono ?_
            rintro e wd ⟨rfl, hbd⟩
            replace hB := bt hB hbd
            replace HR := Lib.hid (HR.out.keep hbd)
            replace HO2 := Lib.hid (HO2.out.keep hbd)
            clear hbd
            obtain ⟨p0, p1, p2, p3, p4, p5, p6, p7, p8⟩ := HO2.out.c8
            obtain ⟨g0, g1, g2, g3, g4, g5, g6, g7⟩ := HO2.out.f8
            go_wp2_with fail
            have HO3 : Hid (Blk (((wd.setCell ⟨OB, 2, none⟩ (.int .i64 ka)).setCell ⟨OB, 3, none⟩ (.int .i64 na)).setCell ⟨OB, 4, none⟩ (.string sa)) OB (opC K ky ka na sa 0 0 ⟨#[]⟩) 28) := (((HO2.out.set 2 (.int .i64 ka)).set 3 (.int .i64 na)).set 4 (.string sa))
            replace HR : Hid (Blk (((wd.setCell ⟨OB, 2, none⟩ (.int .i64 ka)).setCell ⟨OB, 3, none⟩ (.int .i64 na)).setCell ⟨OB, 4, none⟩ (.string sa)) w.heap.size (opC 0 ⟨#[]⟩ 0 0 ⟨#[]⟩ 0 0 ⟨#[]⟩) 28) := (((HR.out.other N1.out.symm _ _).other N1.out.symm _ _).other N1.out.symm _ _)
            replace hB : Below w.heap.size w (((wd.setCell ⟨OB, 2, none⟩ (.int .i64 ka)).setCell ⟨OB, 3, none⟩ (.int .i64 na)).setCell ⟨OB, 4, none⟩ (.string sa)) := (((hB.setCell (p := ⟨OB, 2, none⟩) hOB (.int .i64 ka)).setCell (p := ⟨OB, 3, none⟩) hOB (.int .i64 na)).setCell (p := ⟨OB, 4, none⟩) hOB (.string sa))
            clear HO2 p0 p1 p2 p3 p4 p5 p6 p7 p8 g0 g1 g2 g3 g4 g5 g6 g7
            generalize (((wd.setCell ⟨OB, 2, none⟩ (.int .i64 ka)).setCell ⟨OB, 3, none⟩ (.int .i64 na)).setCell ⟨OB, 4, none⟩ (.string sa)) = we at HO3 HR hB ⊢
            have HO2 := HO3
            clear HO3
            refine (HG.out _).mono ?_
            rintro e wz ⟨rfl, hbz⟩
            replace hB := bt hB hbz
            obtain ⟨q0, q1, q2, q3, q4, q5, q6, q7, q8⟩ := (HR.out.keep hbz).c8
            obtain ⟨f0, f1, f2, f3, f4, f5, f6, f7⟩ := (HR.out.keep hbz).f8
            obtain ⟨p0, p1, p2, p3, p4, p5, p6, p7, p8⟩ := (HO2.out.keep hbz).c8
            go_wp2_with fail
            exact bodyPost_ret (v := noT false) (by simp [results, Tryd.results20, go_sem, q0, q1, q2, q3, q4, q5, q6, q7]) rfl ⟨rfl, below8 hB (Nat.le_refl _) _ _ _ _ _ _ _ _⟩

set_option maxRecDepth 100000 in
set_option maxHeartbeats 8000000 in
theorem refReadD_3k (K : Int) (s w1 r1 ky r2 : ByteArray) (a b : ByteArray) (ka na ea : Int) (sa : ByteArray) (w : World)
    (Hc1 : Hid (∀ W : World, Calls Tryd.prog 34 #[.string s] W fun e W' => e = .returned (.tuple #[.string w1, .string r1, .bool true]) ∧ Below W.heap.size W W')) (hK : Hid (begunK w1.data.toList = K))
    (Hc2 : Hid (∀ W : World, Calls Tryd.prog 34 #[.string r1] W fun e W' => e = .returned (.tuple #[.string ky, .string r2, .bool true]) ∧ Below W.heap.size W W'))
    (Hc3 : Hid (∀ W : World, Calls Tryd.prog 34 #[.string r2] W fun e W' => e = .returned (.tuple #[.string a, .string b, .bool true]) ∧ Below W.heap.size W W')) (Hra : Hid (∀ W : World, Calls Tryd.prog 35 #[.string a] W fun e W' => e = .returned (.tuple #[.agg #[.int .i64 ka, .int .i64 na, .string sa], .int .i64 ea]) ∧ Below W.heap.size W W')) (k4 : (K == 4) = false) :
    Calls Tryd.prog 20 #[.string s] w fun e w' => e = .returned (noT false) ∧ Below w.heap.size w w' := by
  go_enter Tryd.func20, Tryd.ntmps20
  go_wp2_with fail
  have hB := b0 w (.cells (opC 0 ⟨#[]⟩ 0 0 ⟨#[]⟩ 0 0 ⟨#[]⟩) 28)
  have HR := Lib.hid (blk_new w (opC 0 ⟨#[]⟩ 0 0 ⟨#[]⟩ 0 0 ⟨#[]⟩) 28)
  generalize w.alloc (.cells (opC 0 ⟨#[]⟩ 0 0 ⟨#[]⟩ 0 0 ⟨#[]⟩) 28) = W at HR hB ⊢
  refine (Hc1.out _).mono ?_
  rintro e wa ⟨rfl, hba⟩
  replace hB := bt hB hba
  replace HR := Lib.hid (HR.out.keep hba)
  clear hba
  have hOB : w.heap.size ≤ wa.heap.size := hB.size
  go_wp2_with fail
  have hRel : RRel w.heap.size wa.heap.size (wa.heap.size + 1) w1 1 w ((wa.alloc (.cells (opC 0 ⟨#[]⟩ 0 0 ⟨#[]⟩ 0 0 ⟨#[]⟩) 28)).alloc (.cells #[.string ⟨#[]⟩, .string ⟨#[112, 117, 116]⟩, .string ⟨#[100, 101, 108]⟩, .string ⟨#[97, 100, 100]⟩, .string ⟨#[99, 97, 115]⟩] 55)) := by
    refine ⟨blk_at (by simp) _ _, ?_, (HR.out.alloc _).alloc _, ba (ba hB _) _⟩
    rw [kindAt_1]
    exact (blk_new wa _ _).alloc _
  have n1 : wa.heap.size ≠ w.heap.size := by have := HR.out.lt; omega
  generalize wa.heap.size = OB at hRel n1 hOB ⊢
  generalize (wa.alloc _).alloc _ = WA at hRel ⊢
  have HRel := Lib.hid hRel
  have N1 := Lib.hid n1
  clear hRel n1 HR hB
  go_loopw [10] (fun i wr => ∃ k : Nat, 1 ≤ k ∧ k ≤ 5 ∧ i = .int .i64 k ∧ RRel w.heap.size OB (OB + 1) w1 k w wr) (fun i _ => 5 - (intOf i).toNat)
  case atStart => exact ⟨1, by omega, by omega, rfl, HRel.out⟩
  case round =>
    obtain ⟨k, hk1, hk5, rfl, hW, hO, hR, hB⟩ := hrel
    have HW := Lib.hid hW
    have HO := Lib.hid hO
    have HR := Lib.hid hR
    clear hW hO hR HRel
    by_cases kk1 : k = 1
    · subst kk1
      have c0 : wr.cell? ⟨OB + 1, 1, none⟩ = some (.string ⟨#[112, 117, 116]⟩) := HW.out.cell 1
      by_cases h : w1.data.toList = [112, 117, 116]
      · obtain rfl : w1 = ⟨#[112, 117, 116]⟩ := data_eq' h
        clear h
        obtain ⟨q0, q1, q2, q3, q4, q5, q6, q7, q8⟩ := HO.out.c8
        obtain ⟨f0, f1, f2, f3, f4, f5, f6, f7⟩ := HO.out.f8
        go_wp2_with fail
        go_roundw
        case rel =>
          refine ⟨1 + 1, by omega, by omega, by go_num, HW.out.other (by omega) _ _, ?_, HR.out.other N1.out.symm _ _, hB.setCell (p := ⟨OB, 0, none⟩) hOB _⟩
          have h8 := HO.out.set 0 (.int .i64 1)
          rw [kindAt_y1]
          exact h8
        case measure => simp [intOf] <;> omega
      · have n1 : ([112, 117, 116] == w1.toList) = false := by
          rw [ByteArray.toList_eq]
          exact beq_eq_false_iff_ne.2 (fun e => h e.symm)
        have K2 : Hid (kindAt w1.data.toList (1 + 1) = kindAt w1.data.toList 1) := kindAt_no _ 1 (by omega) (by omega) h
        clear h
        go_wp2_with fail
        go_roundw
        case rel =>
          refine ⟨1 + 1, by omega, by omega, by go_num, HW.out, ?_, HR.out, hB⟩
          rw [K2.out]
          exact HO.out
        case measure => simp [intOf] <;> omega
    · skip
      by_cases kk2 : k = 2
      · subst kk2
        have c0 : wr.cell? ⟨OB + 1, 2, none⟩ = some (.string ⟨#[100, 101, 108]⟩) := HW.out.cell 2
        by_cases h : w1.data.toList = [100, 101, 108]
        · obtain rfl : w1 = ⟨#[100, 101, 108]⟩ := data_eq' h
          clear h
          obtain ⟨q0, q1, q2, q3, q4, q5, q6, q7, q8⟩ := HO.out.c8
          obtain ⟨f0, f1, f2, f3, f4, f5, f6, f7⟩ := HO.out.f8
          go_wp2_with fail
          go_roundw
          case rel =>
            refine ⟨2 + 1, by omega, by omega, by go_num, HW.out.other (by omega) _ _, ?_, HR.out.other N1.out.symm _ _, hB.setCell (p := ⟨OB, 0, none⟩) hOB _⟩
            have h8 := HO.out.set 0 (.int .i64 2)
            rw [kindAt_y2]
            exact h8
          case measure => simp [intOf] <;> omega
        · have n1 : ([100, 101, 108] == w1.toList) = false := by
            rw [ByteArray.toList_eq]
            exact beq_eq_false_iff_ne.2 (fun e => h e.symm)
          have K2 : Hid (kindAt w1.data.toList (2 + 1) = kindAt w1.data.toList 2) := kindAt_no _ 2 (by omega) (by omega) h
          clear h
          go_wp2_with fail
          go_roundw
          case rel =>
            refine ⟨2 + 1, by omega, by omega, by go_num, HW.out, ?_, HR.out, hB⟩
            rw [K2.out]
            exact HO.out
          case measure => simp [intOf] <;> omega
      · skip
        by_cases kk3 : k = 3
        · subst kk3
          have c0 : wr.cell? ⟨OB + 1, 3, none⟩ = some (.string ⟨#[97, 100, 100]⟩) := HW.out.cell 3
          by_cases h : w1.data.toList = [97, 100, 100]
          · obtain rfl : w1 = ⟨#[97, 100, 100]⟩ := data_eq' h
            clear h
            obtain ⟨q0, q1, q2, q3, q4, q5, q6, q7, q8⟩ := HO.out.c8
            obtain ⟨f0, f1, f2, f3, f4, f5, f6, f7⟩ := HO.out.f8
            go_wp2_with fail
            go_roundw
            case rel =>
              refine ⟨3 + 1, by omega, by omega, by go_num, HW.out.other (by omega) _ _, ?_, HR.out.other N1.out.symm _ _, hB.setCell (p := ⟨OB, 0, none⟩) hOB _⟩
              have h8 := HO.out.set 0 (.int .i64 3)
              rw [kindAt_y3]
              exact h8
            case measure => simp [intOf] <;> omega
          · have n1 : ([97, 100, 100] == w1.toList) = false := by
              rw [ByteArray.toList_eq]
              exact beq_eq_false_iff_ne.2 (fun e => h e.symm)
            have K2 : Hid (kindAt w1.data.toList (3 + 1) = kindAt w1.data.toList 3) := kindAt_no _ 3 (by omega) (by omega) h
            clear h
            go_wp2_with fail
            go_roundw
            case rel =>
              refine ⟨3 + 1, by omega, by omega, by go_num, HW.out, ?_, HR.out, hB⟩
              rw [K2.out]
              exact HO.out
            case measure => simp [intOf] <;> omega
        · skip
          by_cases kk4 : k = 4
          · subst kk4
            have c0 : wr.cell? ⟨OB + 1, 4, none⟩ = some (.string ⟨#[99, 97, 115]⟩) := HW.out.cell 4
            by_cases h : w1.data.toList = [99, 97, 115]
            · obtain rfl : w1 = ⟨#[99, 97, 115]⟩ := data_eq' h
              clear h
              obtain ⟨q0, q1, q2, q3, q4, q5, q6, q7, q8⟩ := HO.out.c8
              obtain ⟨f0, f1, f2, f3, f4, f5, f6, f7⟩ := HO.out.f8
              go_wp2_with fail
              go_roundw
              case rel =>
                refine ⟨4 + 1, by omega, by omega, by go_num, HW.out.other (by omega) _ _, ?_, HR.out.other N1.out.symm _ _, hB.setCell (p := ⟨OB, 0, none⟩) hOB _⟩
                have h8 := HO.out.set 0 (.int .i64 4)
                rw [kindAt_y4]
                exact h8
              case measure => simp [intOf] <;> omega
            · have n1 : ([99, 97, 115] == w1.toList) = false := by
                rw [ByteArray.toList_eq]
                exact beq_eq_false_iff_ne.2 (fun e => h e.symm)
              have K2 : Hid (kindAt w1.data.toList (4 + 1) = kindAt w1.data.toList 4) := kindAt_no _ 4 (by omega) (by omega) h
              clear h
              go_wp2_with fail
              go_roundw
              case rel =>
                refine ⟨4 + 1, by omega, by omega, by go_num, HW.out, ?_, HR.out, hB⟩
                rw [K2.out]
                exact HO.out
              case measure => simp [intOf] <;> omega
          · skip
            obtain rfl : k = 5 := by omega
            replace HO : Hid (Blk wr OB (opC K ⟨#[]⟩ 0 0 ⟨#[]⟩ 0 0 ⟨#[]⟩) 28) := by
              have := HO.out
              rw [kindAt_5, hK.out] at this
              exact this
            clear HW
            go_wp2_with fail
            refine (Hc2.out _).mono ?_
            rintro e wb ⟨rfl, hbb⟩
            replace hB := bt hB hbb
            replace HR := Lib.hid (HR.out.keep hbb)
            replace HO := Lib.hid (HO.out.keep hbb)
            clear hbb
            obtain ⟨p0, p1, p2, p3, p4, p5, p6, p7, p8⟩ := HO.out.c8
            obtain ⟨g0, g1, g2, g3, g4, g5, g6, g7⟩ := HO.out.f8
            go_wp2_with fail
            have HO2 : Hid (Blk (wb.setCell ⟨OB, 1, none⟩ (.string ky)) OB (opC K ky 0 0 ⟨#[]⟩ 0 0 ⟨#[]⟩) 28) := HO.out.set 1 (.string ky)
            replace HR : Hid (Blk (wb.setCell ⟨OB, 1, none⟩ (.string ky)) w.heap.size (opC 0 ⟨#[]⟩ 0 0 ⟨#[]⟩ 0 0 ⟨#[]⟩) 28) := HR.out.other N1.out.symm _ _
            replace hB := hB.setCell (p := ⟨OB, 1, none⟩) hOB (.string ky)
            clear HO p0 p1 p2 p3 p4 p5 p6 p7 p8 g0 g1 g2 g3 g4 g5 g6 g7
            generalize wb.setCell ⟨OB, 1, none⟩ (.string ky) = wb2 at HO2 HR hB ⊢
            refine (Hc3.out _).mono ?_
            rintro e wc ⟨rfl, hbc⟩
            replace hB := bt hB hbc
            replace HR := Lib.hid (HR.out.keep hbc)
            replace HO2 := Lib.hid (HO2.out.keep hbc)
            clear hbc
            go_wp2_with fail
            refine (Hra.out _).mono ?_
            rintro e wd ⟨rfl, hbd⟩
            replace hB := bt hB hbd
            replace HR := Lib.hid (HR.out.keep hbd)
            replace HO2 := Lib.hid (HO2.out.keep hbd)
            clear hbd
            obtain ⟨p0, p1, p2, p3, p4, p5, p6, p7, p8⟩ := HO2.out.c8
            obtain ⟨g0, g1, g2, g3, g4, g5, g6, g7⟩ := HO2.out.f8
            have n5 : ¬ w.heap.size = OB := N1.out.symm
            have n6 : ¬ OB = w.heap.size := N1.out
            obtain ⟨q0, q1, q2, q3, q4, q5, q6, q7, q8⟩ := HR.out.c8
            obtain ⟨f0, f1, f2, f3, f4, f5, f6, f7⟩ := HR.out.f8
            go_wp2_with fail
            exact bodyPost_ret (v := noT false) (by simp [results, Tryd.results20, go_sem, q0, q1, q2, q3, q4, q5, q6, q7]) rfl ⟨rfl, below8 (((hB.setCell (p := ⟨OB, 2, none⟩) hOB _).setCell (p := ⟨OB, 3, none⟩) hOB _).setCell (p := ⟨OB, 4, none⟩) hOB _) (Nat.le_refl _) _ _ _ _ _ _ _ _⟩

set_option maxRecDepth 100000 in
set_option maxHeartbeats 8000000 in
theorem refReadD_3e (K : Int) (s w1 r1 ky r2 : ByteArray) (a b : ByteArray) (ka na ea : Int) (sa : ByteArray) (kb nb eb : Int) (sb : ByteArray) (w : World)
    (Hc1 : Hid (∀ W : World, Calls Tryd.prog 34 #[.string s] W fun e W' => e = .returned (.tuple #[.string w1, .string r1, .bool true]) ∧ Below W.heap.size W W')) (hK : Hid (begunK w1.data.toList = K))
    (Hc2 : Hid (∀ W : World, Calls Tryd.prog 34 #[.string r1] W fun e W' => e = .returned (.tuple #[.string ky, .string r2, .bool true]) ∧ Below W.heap.size W W'))
    (Hc3 : Hid (∀ W : World, Calls Tryd.prog 34 #[.string r2] W fun e W' => e = .returned (.tuple #[.string a, .string b, .bool true]) ∧ Below W.heap.size W W')) (Hra : Hid (∀ W : World, Calls Tryd.prog 35 #[.string a] W fun e W' => e = .returned (.tuple #[.agg #[.int .i64 ka, .int .i64 na, .string sa], .int .i64 ea]) ∧ Below W.heap.size W W'))
    (Hrb : Hid (∀ W : World, Calls Tryd.prog 35 #[.string b] W fun e W' => e = .returned (.tuple #[.agg #[.int .i64 kb, .int .i64 nb, .string sb], .int .i64 eb]) ∧ Below W.heap.size W W')) (k4 : (K == 4) = true) (k2 : (K == 2) = false) (ea0 : 0 ≤ ea) (eb0 : 0 ≤ eb) (he : 0 < ea ∨ 0 < eb) :
    Calls Tryd.prog 20 #[.string s] w fun e w' => e = .returned (noT false) ∧ Below w.heap.size w w' := by
  go_enter Tryd.func20, Tryd.ntmps20
  go_wp2_with fail
  have hB := b0 w (.cells (opC 0 ⟨#[]⟩ 0 0 ⟨#[]⟩ 0 0 ⟨#[]⟩) 28)
  have HR := Lib.hid (blk_new w (opC 0 ⟨#[]⟩ 0 0 ⟨#[]⟩ 0 0 ⟨#[]⟩) 28)
  generalize w.alloc (.cells (opC 0 ⟨#[]⟩ 0 0 ⟨#[]⟩ 0 0 ⟨#[]⟩) 28) = W at HR hB ⊢
  refine (Hc1.out _).mono ?_
  rintro e wa ⟨rfl, hba⟩
  replace hB := bt hB hba
  replace HR := Lib.hid (HR.out.keep hba)
  clear hba
  have hOB : w.heap.size ≤ wa.heap.size := hB.size
  go_wp2_with fail
  have hRel : RRel w.heap.size wa.heap.size (wa.heap.size + 1) w1 1 w ((wa.alloc (.cells (opC 0 ⟨#[]⟩ 0 0 ⟨#[]⟩ 0 0 ⟨#[]⟩) 28)).alloc (.cells #[.string ⟨#[]⟩, .string ⟨#[112, 117, 116]⟩, .string ⟨#[100, 101, 108]⟩, .string ⟨#[97, 100, 100]⟩, .string ⟨#[99, 97, 115]⟩] 55)) := by
    refine ⟨blk_at (by simp) _ _, ?_, (HR.out.alloc _).alloc _, ba (ba hB _) _⟩
    rw [kindAt_1]
    exact (blk_new wa _ _).alloc _
  have n1 : wa.heap.size ≠ w.heap.size := by have := HR.out.lt; omega
  generalize wa.heap.size = OB at hRel n1 hOB ⊢
  generalize (wa.alloc _).alloc _ = WA at hRel ⊢
  have HRel := Lib.hid hRel
  have N1 := Lib.hid n1
  clear hRel n1 HR hB
  go_loopw [10] (fun i wr => ∃ k : Nat, 1 ≤ k ∧ k ≤ 5 ∧ i = .int .i64 k ∧ RRel w.heap.size OB (OB + 1) w1 k w wr) (fun i _ => 5 - (intOf i).toNat)
  case atStart => exact ⟨1, by omega, by omega, rfl, HRel.out⟩
  case round =>
    obtain ⟨k, hk1, hk5, rfl, hW, hO, hR, hB⟩ := hrel
    have HW := Lib.hid hW
    have HO := Lib.hid hO
    have HR := Lib.hid hR
    clear hW hO hR HRel
    by_cases kk1 : k = 1
    · subst kk1
      have c0 : wr.cell? ⟨OB + 1, 1, none⟩ = some (.string ⟨#[112, 117, 116]⟩) := HW.out.cell 1
      by_cases h : w1.data.toList = [112, 117, 116]
      · obtain rfl : w1 = ⟨#[112, 117, 116]⟩ := data_eq' h
        clear h
        obtain ⟨q0, q1, q2, q3, q4, q5, q6, q7, q8⟩ := HO.out.c8
        obtain ⟨f0, f1, f2, f3, f4, f5, f6, f7⟩ := HO.out.f8
        go_wp2_with fail
        go_roundw
        case rel =>
          refine ⟨1 + 1, by omega, by omega, by go_num, HW.out.other (by omega) _ _, ?_, HR.out.other N1.out.symm _ _, hB.setCell (p := ⟨OB, 0, none⟩) hOB _⟩
          have h8 := HO.out.set 0 (.int .i64 1)
          rw [kindAt_y1]
          exact h8
        case measure => simp [intOf] <;> omega
      · have n1 : ([112, 117, 116] == w1.toList) = false := by
          rw [ByteArray.toList_eq]
          exact beq_eq_false_iff_ne.2 (fun e => h e.symm)
        have K2 : Hid (kindAt w1.data.toList (1 + 1) = kindAt w1.data.toList 1) := kindAt_no _ 1 (by omega) (by omega) h
        clear h
        go_wp2_with fail
        go_roundw
        case rel =>
          refine ⟨1 + 1, by omega, by omega, by go_num, HW.out, ?_, HR.out, hB⟩
          rw [K2.out]
          exact HO.out
        case measure => simp [intOf] <;> omega
    · skip
      by_cases kk2 : k = 2
      · subst kk2
        have c0 : wr.cell? ⟨OB + 1, 2, none⟩ = some (.string ⟨#[100, 101, 108]⟩) := HW.out.cell 2
        by_cases h : w1.data.toList = [100, 101, 108]
        · obtain rfl : w1 = ⟨#[100, 101, 108]⟩ := data_eq' h
          clear h
          obtain ⟨q0, q1, q2, q3, q4, q5, q6, q7, q8⟩ := HO.out.c8
          obtain ⟨f0, f1, f2, f3, f4, f5, f6, f7⟩ := HO.out.f8
          go_wp2_with fail
          go_roundw
          case rel =>
            refine ⟨2 + 1, by omega, by omega, by go_num, HW.out.other (by omega) _ _, ?_, HR.out.other N1.out.symm _ _, hB.setCell (p := ⟨OB, 0, none⟩) hOB _⟩
            have h8 := HO.out.set 0 (.int .i64 2)
            rw [kindAt_y2]
            exact h8
          case measure => simp [intOf] <;> omega
        · have n1 : ([100, 101, 108] == w1.toList) = false := by
            rw [ByteArray.toList_eq]
            exact beq_eq_false_iff_ne.2 (fun e => h e.symm)
          have K2 : Hid (kindAt w1.data.toList (2 + 1) = kindAt w1.data.toList 2) := kindAt_no _ 2 (by omega) (by omega) h
          clear h
          go_wp2_with fail
          go_roundw
          case rel =>
            refine ⟨2 + 1, by omega, by omega, by go_num, HW.out, ?_, HR.out, hB⟩
            rw [K2.out]
            exact HO.out
          case measure => simp [intOf] <;> omega
      · skip
        by_cases kk3 : k = 3
        · subst kk3
          have c0 : wr.cell? ⟨OB + 1, 3, none⟩ = some (.string ⟨#[97, 100, 100]⟩) := HW.out.cell 3
          by_cases h : w1.data.toList = [97, 100, 100]
          · obtain rfl : w1 = ⟨#[97, 100, 100]⟩ := data_eq' h
            clear h
            obtain ⟨q0, q1, q2, q3, q4, q5, q6, q7, q8⟩ := HO.out.c8
            obtain ⟨f0, f1, f2, f3, f4, f5, f6, f7⟩ := HO.out.f8
            go_wp2_with fail
            go_roundw
            case rel =>
              refine ⟨3 + 1, by omega, by omega, by go_num, HW.out.other (by omega) _ _, ?_, HR.out.other N1.out.symm _ _, hB.setCell (p := ⟨OB, 0, none⟩) hOB _⟩
              have h8 := HO.out.set 0 (.int .i64 3)
              rw [kindAt_y3]
              exact h8
            case measure => simp [intOf] <;> omega
          · have n1 : ([97, 100, 100] == w1.toList) = false := by
              rw [ByteArray.toList_eq]
              exact beq_eq_false_iff_ne.2 (fun e => h e.symm)
            have K2 : Hid (kindAt w1.data.toList (3 + 1) = kindAt w1.data.toList 3) := kindAt_no _ 3 (by omega) (by omega) h
            clear h
            go_wp2_with fail
            go_roundw
            case rel =>
              refine ⟨3 + 1, by omega, by omega, by go_num, HW.out, ?_, HR.out, hB⟩
              rw [K2.out]
              exact HO.out
            case measure => simp [intOf] <;> omega
        · skip
          by_cases kk4 : k = 4
          · subst kk4
            have c0 : wr.cell? ⟨OB + 1, 4, none⟩ = some (.string ⟨#[99, 97, 115]⟩) := HW.out.cell 4
            by_cases h : w1.data.toList = [99, 97, 115]
            · obtain rfl : w1 = ⟨#[99, 97, 115]⟩ := data_eq' h
              clear h
              obtain ⟨q0, q1, q2, q3, q4, q5, q6, q7, q8⟩ := HO.out.c8
              obtain ⟨f0, f1, f2, f3, f4, f5, f6, f7⟩ := HO.out.f8
              go_wp2_with fail
              go_roundw
              case rel =>
                refine ⟨4 + 1, by omega, by omega, by go_num, HW.out.other (by omega) _ _, ?_, HR.out.other N1.out.symm _ _, hB.setCell (p := ⟨OB, 0, none⟩) hOB _⟩
                have h8 := HO.out.set 0 (.int .i64 4)
                rw [kindAt_y4]
                exact h8
              case measure => simp [intOf] <;> omega
            · have n1 : ([99, 97, 115] == w1.toList) = false := by
                rw [ByteArray.toList_eq]
                exact beq_eq_false_iff_ne.2 (fun e => h e.symm)
              have K2 : Hid (kindAt w1.data.toList (4 + 1) = kindAt w1.data.toList 4) := kindAt_no _ 4 (by omega) (by omega) h
              clear h
              go_wp2_with fail
              go_roundw
              case rel =>
                refine ⟨4 + 1, by omega, by omega, by go_num, HW.out, ?_, HR.out, hB⟩
                rw [K2.out]
                exact HO.out
              case measure => simp [intOf] <;> omega
          · skip
            obtain rfl : k = 5 := by omega
            replace HO : Hid (Blk wr OB (opC K ⟨#[]⟩ 0 0 ⟨#[]⟩ 0 0 ⟨#[]⟩) 28) := by
              have := HO.out
              rw [kindAt_5, hK.out] at this
              exact this
            clear HW
            go_wp2_with fail
            refine (Hc2.out _).mono ?_
            rintro e wb ⟨rfl, hbb⟩
            replace hB := bt hB hbb
            replace HR := Lib.hid (HR.out.keep hbb)
            replace HO := Lib.hid (HO.out.keep hbb)
            clear hbb
            obtain ⟨p0, p1, p2, p3, p4, p5, p6, p7, p8⟩ := HO.out.c8
            obtain ⟨g0, g1, g2, g3, g4, g5, g6, g7⟩ := HO.out.f8
            go_wp2_with fail
            have HO2 : Hid (Blk (wb.setCell ⟨OB, 1, none⟩ (.string ky)) OB (opC K ky 0 0 ⟨#[]⟩ 0 0 ⟨#[]⟩) 28) := HO.out.set 1 (.string ky)
            replace HR : Hid (Blk (wb.setCell ⟨OB, 1, none⟩ (.string ky)) w.heap.size (opC 0 ⟨#[]⟩ 0 0 ⟨#[]⟩ 0 0 ⟨#[]⟩) 28) := HR.out.other N1.out.symm _ _
            replace hB := hB.setCell (p := ⟨OB, 1, none⟩) hOB (.string ky)
            clear HO p0 p1 p2 p3 p4 p5 p6 p7 p8 g0 g1 g2 g3 g4 g5 g6 g7
            generalize wb.setCell ⟨OB, 1, none⟩ (.string ky) = wb2 at HO2 HR hB ⊢
            refine (Hc3.out _).mono ?_
            rintro e wc ⟨rfl, hbc⟩
            replace hB := bt hB hbc
            replace HR := Lib.hid (HR.out.keep hbc)
            replace HO2 := Lib.hid (HO2.out.keep hbc)
            clear hbc
            go_wp2_with fail
            refine (Hra.out _).mono ?_
            rintro e wd ⟨rfl, hbd⟩
            replace hB := bt hB hbd
            replace HR := Lib.hid (HR.out.keep hbd)
            replace HO2 := Lib.hid (HO2.out.keep hbd)
            clear hbd
            obtain ⟨p0, p1, p2, p3, p4, p5, p6, p7, p8⟩ := HO2.out.c8
            obtain ⟨g0, g1, g2, g3, g4, g5, g6, g7⟩ := HO2.out.f8
            go_wp2_with fail
            have HO3 : Hid (Blk (((wd.setCell ⟨OB, 2, none⟩ (.int .i64 ka)).setCell ⟨OB, 3, none⟩ (.int .i64 na)).setCell ⟨OB, 4, none⟩ (.string sa)) OB (opC K ky ka na sa 0 0 ⟨#[]⟩) 28) := (((HO2.out.set 2 (.int .i64 ka)).set 3 (.int .i64 na)).set 4 (.string sa))
            replace HR : Hid (Blk (((wd.setCell ⟨OB, 2, none⟩ (.int .i64 ka)).setCell ⟨OB, 3, none⟩ (.int .i64 na)).setCell ⟨OB, 4, none⟩ (.string sa)) w.heap.size (opC 0 ⟨#[]⟩ 0 0 ⟨#[]⟩ 0 0 ⟨#[]⟩) 28) := (((HR.out.other N1.out.symm _ _).other N1.out.symm _ _).other N1.out.symm _ _)
            replace hB : Below w.heap.size w (((wd.setCell ⟨OB, 2, none⟩ (.int .i64 ka)).setCell ⟨OB, 3, none⟩ (.int .i64 na)).setCell ⟨OB, 4, none⟩ (.string sa)) := (((hB.setCell (p := ⟨OB, 2, none⟩) hOB (.int .i64 ka)).setCell (p := ⟨OB, 3, none⟩) hOB (.int .i64 na)).setCell (p := ⟨OB, 4, none⟩) hOB (.string sa))
            clear HO2 p0 p1 p2 p3 p4 p5 p6 p7 p8 g0 g1 g2 g3 g4 g5 g6 g7
            generalize (((wd.setCell ⟨OB, 2, none⟩ (.int .i64 ka)).setCell ⟨OB, 3, none⟩ (.int .i64 na)).setCell ⟨OB, 4, none⟩ (.string sa)) = we at HO3 HR hB ⊢
            have HO2 := HO3
            clear HO3
            refine (Hrb.out _).mono ?_
            rintro e wf ⟨rfl, hbf⟩
            replace hB := bt hB hbf
            replace HR := Lib.hid (HR.out.keep hbf)
            replace HO2 := Lib.hid (HO2.out.keep hbf)
            clear hbf
            obtain ⟨p0, p1, p2, p3, p4, p5, p6, p7, p8⟩ := HO2.out.c8
            obtain ⟨g0, g1, g2, g3, g4, g5, g6, g7⟩ := HO2.out.f8
            have n5 : ¬ w.heap.size = OB := N1.out.symm
            have n6 : ¬ OB = w.heap.size := N1.out
            obtain ⟨q0, q1, q2, q3, q4, q5, q6, q7, q8⟩ := HR.out.c8
            obtain ⟨f0, f1, f2, f3, f4, f5, f6, f7⟩ := HR.out.f8
            go_wp2_with fail
            exact bodyPost_ret (v := noT false) (by simp [results, Tryd.results20, go_sem, q0, q1, q2, q3, q4, q5, q6, q7]) rfl ⟨rfl, below8 (((hB.setCell (p := ⟨OB, 5, none⟩) hOB _).setCell (p := ⟨OB, 6, none⟩) hOB _).setCell (p := ⟨OB, 7, none⟩) hOB _) (Nat.le_refl _) _ _ _ _ _ _ _ _⟩

set_option maxRecDepth 100000 in
set_option maxHeartbeats 8000000 in
theorem refReadD_3g (K : Int) (s w1 r1 ky r2 : ByteArray) (a b : ByteArray) (ka na ea : Int) (sa : ByteArray) (kb nb eb : Int) (sb : ByteArray) (w : World)
    (Hc1 : Hid (∀ W : World, Calls Tryd.prog 34 #[.string s] W fun e W' => e = .returned (.tuple #[.string w1, .string r1, .bool true]) ∧ Below W.heap.size W W')) (hK : Hid (begunK w1.data.toList = K))
    (Hc2 : Hid (∀ W : World, Calls Tryd.prog 34 #[.string r1] W fun e W' => e = .returned (.tuple #[.string ky, .string r2, .bool true]) ∧ Below W.heap.size W W'))
    (Hc3 : Hid (∀ W : World, Calls Tryd.prog 34 #[.string r2] W fun e W' => e = .returned (.tuple #[.string a, .string b, .bool true]) ∧ Below W.heap.size W W')) (Hra : Hid (∀ W : World, Calls Tryd.prog 35 #[.string a] W fun e W' => e = .returned (.tuple #[.agg #[.int .i64 ka, .int .i64 na, .string sa], .int .i64 ea]) ∧ Below W.heap.size W W'))
    (Hrb : Hid (∀ W : World, Calls Tryd.prog 35 #[.string b] W fun e W' => e = .returned (.tuple #[.agg #[.int .i64 kb, .int .i64 nb, .string sb], .int .i64 eb]) ∧ Below W.heap.size W W'))
    (HG : Hid (∀ W : World, Calls Tryd.prog 13 #[opV K ky ka na sa kb nb sb] W fun e W' => e = .returned (.bool true) ∧ Below W.heap.size W W')) (k4 : (K == 4) = true) (k2 : (K == 2) = false) (he : ea = 0) (hf : eb = 0) :
    Calls Tryd.prog 20 #[.string s] w fun e w' => e = .returned (opT K ky ka na sa kb nb sb true) ∧ Below w.heap.size w w' := by
  go_enter Tryd.func20, Tryd.ntmps20
  go_wp2_with fail
  have hB := b0 w (.cells (opC 0 ⟨#[]⟩ 0 0 ⟨#[]⟩ 0 0 ⟨#[]⟩) 28)
  have HR := Lib.hid (blk_new w (opC 0 ⟨#[]⟩ 0 0 ⟨#[]⟩ 0 0 ⟨#[]⟩) 28)
  generalize w.alloc (.cells (opC 0 ⟨#[]⟩ 0 0 ⟨#[]⟩ 0 0 ⟨#[]⟩) 28) = W at HR hB ⊢
  refine (Hc1.out _).mono ?_
  rintro e wa ⟨rfl, hba⟩
  replace hB := bt hB hba
  replace HR := Lib.hid (HR.out.keep hba)
  clear hba
  have hOB : w.heap.size ≤ wa.heap.size := hB.size
  go_wp2_with fail
  have hRel : RRel w.heap.size wa.heap.size (wa.heap.size + 1) w1 1 w ((wa.alloc (.cells (opC 0 ⟨#[]⟩ 0 0 ⟨#[]⟩ 0 0 ⟨#[]⟩) 28)).alloc (.cells #[.string ⟨#[]⟩, .string ⟨#[112, 117, 116]⟩, .string ⟨#[100, 101, 108]⟩, .string ⟨#[97, 100, 100]⟩, .string ⟨#[99, 97, 115]⟩] 55)) := by
    refine ⟨blk_at (by simp) _ _, ?_, (HR.out.alloc _).alloc _, ba (ba hB _) _⟩
    rw [kindAt_1]
    exact (blk_new wa _ _).alloc _
  have n1 : wa.heap.size ≠ w.heap.size := by have := HR.out.lt; omega
  generalize wa.heap.size = OB at hRel n1 hOB ⊢
  generalize (wa.alloc _).alloc _ = WA at hRel ⊢
  have HRel := Lib.hid hRel
  have N1 := Lib.hid n1
  clear hRel n1 HR hB
  go_loopw [10] (fun i wr => ∃ k : Nat, 1 ≤ k ∧ k ≤ 5 ∧ i = .int .i64 k ∧ RRel w.heap.size OB (OB + 1) w1 k w wr) (fun i _ => 5 - (intOf i).toNat)
  case atStart => exact ⟨1, by omega, by omega, rfl, HRel.out⟩
  case round =>
    obtain ⟨k, hk1, hk5, rfl, hW, hO, hR, hB⟩ := hrel
    have HW := Lib.hid hW
    have HO := Lib.hid hO
    have HR := Lib.hid hR
    clear hW hO hR HRel
    by_cases kk1 : k = 1
    · subst kk1
      have c0 : wr.cell? ⟨OB + 1, 1, none⟩ = some (.string ⟨#[112, 117, 116]⟩) := HW.out.cell 1
      by_cases h : w1.data.toList = [112, 117, 116]
      · obtain rfl : w1 = ⟨#[112, 117, 116]⟩ := data_eq' h
        clear h
        obtain ⟨q0, q1, q2, q3, q4, q5, q6, q7, q8⟩ := HO.out.c8
        obtain ⟨f0, f1, f2, f3, f4, f5, f6, f7⟩ := HO.out.f8
        go_wp2_with fail
        go_roundw
        case rel =>
          refine ⟨1 + 1, by omega, by omega, by go_num, HW.out.other (by omega) _ _, ?_, HR.out.other N1.out.symm _ _, hB.setCell (p := ⟨OB, 0, none⟩) hOB _⟩
          have h8 := HO.out.set 0 (.int .i64 1)
          rw [kindAt_y1]
          exact h8
        case measure => simp [intOf] <;> omega
      · have n1 : ([112, 117, 116] == w1.toList) = false := by
          rw [ByteArray.toList_eq]
          exact beq_eq_false_iff_ne.2 (fun e => h e.symm)
        have K2 : Hid (kindAt w1.data.toList (1 + 1) = kindAt w1.data.toList 1) := kindAt_no _ 1 (by omega) (by omega) h
        clear h
        go_wp2_with fail
        go_roundw
        case rel =>
          refine ⟨1 + 1, by omega, by omega, by go_num, HW.out, ?_, HR.out, hB⟩
          rw [K2.out]
          exact HO.out
        case measure => simp [intOf] <;> omega
    · skip
      by_cases kk2 : k = 2
      · subst kk2
        have c0 : wr.cell? ⟨OB + 1, 2, none⟩ = some (.string ⟨#[100, 101, 108]⟩) := HW.out.cell 2
        by_cases h : w1.data.toList = [100, 101, 108]
        · obtain rfl : w1 = ⟨#[100, 101, 108]⟩ := data_eq' h
          clear h
          obtain ⟨q0, q1, q2, q3, q4, q5, q6, q7, q8⟩ := HO.out.c8
          obtain ⟨f0, f1, f2, f3, f4, f5, f6, f7⟩ := HO.out.f8
          go_wp2_with fail
          go_roundw
          case rel =>
            refine ⟨2 + 1, by omega, by omega, by go_num, HW.out.other (by omega) _ _, ?_, HR.out.other N1.out.symm _ _, hB.setCell (p := ⟨OB, 0, none⟩) hOB _⟩
            have h8 := HO.out.set 0 (.int .i64 2)
            rw [kindAt_y2]
            exact h8
          case measure => simp [intOf] <;> omega
        · have n1 : ([100, 101, 108] == w1.toList) = false := by
            rw [ByteArray.toList_eq]
            exact beq_eq_false_iff_ne.2 (fun e => h e.symm)
          have K2 : Hid (kindAt w1.data.toList (2 + 1) = kindAt w1.data.toList 2) := kindAt_no _ 2 (by omega) (by omega) h
          clear h
          go_wp2_with fail
          go_roundw
          case rel =>
            refine ⟨2 + 1, by omega, by omega, by go_num, HW.out, ?_, HR.out, hB⟩
            rw [K2.out]
            exact HO.out
          case measure => simp [intOf] <;> omega
      · skip
        by_cases kk3 : k = 3
        · subst kk3
          have c0 : wr.cell? ⟨OB + 1, 3, none⟩ = some (.string ⟨#[97, 100, 100]⟩) := HW.out.cell 3
          by_cases h : w1.data.toList = [97, 100, 100]
          · obtain rfl : w1 = ⟨#[97, 100, 100]⟩ := data_eq' h
            clear h
            obtain ⟨q0, q1, q2, q3, q4, q5, q6, q7, q8⟩ := HO.out.c8
            obtain ⟨f0, f1, f2, f3, f4, f5, f6, f7⟩ := HO.out.f8
            go_wp2_with fail
            go_roundw
            case rel =>
              refine ⟨3 + 1, by omega, by omega, by go_num, HW.out.other (by omega) _ _, ?_, HR.out.other N1.out.symm _ _, hB.setCell (p := ⟨OB, 0, none⟩) hOB _⟩
              have h8 := HO.out.set 0 (.int .i64 3)
              rw [kindAt_y3]
              exact h8
            case measure => simp [intOf] <;> omega
          · have n1 : ([97, 100, 100] == w1.toList) = false := by
              rw [ByteArray.toList_eq]
              exact beq_eq_false_iff_ne.2 (fun e => h e.symm)
            have K2 : Hid (kindAt w1.data.toList (3 + 1) = kindAt w1.data.toList 3) := kindAt_no _ 3 (by omega) (by omega) h
            clear h
            go_wp2_with fail
            go_roundw
            case rel =>
              refine ⟨3 + 1, by omega, by omega, by go_num, HW.out, ?_, HR.out, hB⟩
              rw [K2.out]
              exact HO.out
            case measure => simp [intOf] <;> omega
        · skip
          by_cases kk4 : k = 4
          · subst kk4
            have c0 : wr.cell? ⟨OB + 1, 4, none⟩ = some (.string ⟨#[99, 97, 115]⟩) := HW.out.cell 4
            by_cases h : w1.data.toList = [99, 97, 115]
            · obtain rfl : w1 = ⟨#[99, 97, 115]⟩ := data_eq' h
              clear h
              obtain ⟨q0, q1, q2, q3, q4, q5, q6, q7, q8⟩ := HO.out.c8
              obtain ⟨f0, f1, f2, f3, f4, f5, f6, f7⟩ := HO.out.f8
              go_wp2_with fail
              go_roundw
              case rel =>
                refine ⟨4 + 1, by omega, by omega, by go_num, HW.out.other (by omega) _ _, ?_, HR.out.other N1.out.symm _ _, hB.setCell (p := ⟨OB, 0, none⟩) hOB _⟩
                have h8 := HO.out.set 0 (.int .i64 4)
                rw [kindAt_y4]
                exact h8
              case measure => simp [intOf] <;> omega
            · have n1 : ([99, 97, 115] == w1.toList) = false := by
                rw [ByteArray.toList_eq]
                exact beq_eq_false_iff_ne.2 (fun e => h e.symm)
              have K2 : Hid (kindAt w1.data.toList (4 + 1) = kindAt w1.data.toList 4) := kindAt_no _ 4 (by omega) (by omega) h
              clear h
              go_wp2_with fail
              go_roundw
              case rel =>
                refine ⟨4 + 1, by omega, by omega, by go_num, HW.out, ?_, HR.out, hB⟩
                rw [K2.out]
                exact HO.out
              case measure => simp [intOf] <;> omega
          · skip
            obtain rfl : k = 5 := by omega
            replace HO : Hid (Blk wr OB (opC K ⟨#[]⟩ 0 0 ⟨#[]⟩ 0 0 ⟨#[]⟩) 28) := by
              have := HO.out
              rw [kindAt_5, hK.out] at this
              exact this
            clear HW
            go_wp2_with fail
            refine (Hc2.out _).mono ?_
            rintro e wb ⟨rfl, hbb⟩
            replace hB := bt hB hbb
            replace HR := Lib.hid (HR.out.keep hbb)
            replace HO := Lib.hid (HO.out.keep hbb)
            clear hbb
            obtain ⟨p0, p1, p2, p3, p4, p5, p6, p7, p8⟩ := HO.out.c8
            obtain ⟨g0, g1, g2, g3, g4, g5, g6, g7⟩ := HO.out.f8
            go_wp2_with fail
            have HO2 : Hid (Blk (wb.setCell ⟨OB, 1, none⟩ (.string ky)) OB (opC K ky 0 0 ⟨#[]⟩ 0 0 ⟨#[]⟩) 28) := HO.out.set 1 (.string ky)
            replace HR : Hid (Blk (wb.setCell ⟨OB, 1, none⟩ (.string ky)) w.heap.size (opC 0 ⟨#[]⟩ 0 0 ⟨#[]⟩ 0 0 ⟨#[]⟩) 28) := HR.out.other N1.out.symm _ _
            replace hB := hB.setCell (p := ⟨OB, 1, none⟩) hOB (.string ky)
            clear HO p0 p1 p2 p3 p4 p5 p6 p7 p8 g0 g1 g2 g3 g4 g5 g6 g7
            generalize wb.setCell ⟨OB, 1, none⟩ (.string ky) = wb2 at HO2 HR hB ⊢
            refine (Hc3.out _).mono ?_
            rintro e wc ⟨rfl, hbc⟩
            replace hB := bt hB hbc
            replace HR := Lib.hid (HR.out.keep hbc)
            replace HO2 := Lib.hid (HO2.out.keep hbc)
            clear hbc
            go_wp2_with fail
            refine (Hra.out _).mono ?_
            rintro e wd ⟨rfl, hbd⟩
            replace hB := bt hB hbd
            replace HR := Lib.hid (HR.out.keep hbd)
            replace HO2 := Lib.hid (HO2.out.keep hbd)
            clear hbd
            obtain ⟨p0, p1, p2, p3, p4, p5, p6, p7, p8⟩ := HO2.out.c8
            obtain ⟨g0, g1, g2, g3, g4, g5, g6, g7⟩ := HO2.out.f8
            go_wp2_with fail
            have HO3 : Hid (Blk (((wd.setCell ⟨OB, 2, none⟩ (.int .i64 ka)).setCell ⟨OB, 3, none⟩ (.int .i64 na)).setCell ⟨OB, 4, none⟩ (.string sa)) OB (opC K ky ka na sa 0 0 ⟨#[]⟩) 28) := (((HO2.out.set 2 (.int .i64 ka)).set 3 (.int .i64 na)).set 4 (.string sa))
            replace HR : Hid (Blk (((wd.setCell ⟨OB, 2, none⟩ (.int .i64 ka)).setCell ⟨OB, 3, none⟩ (.int .i64 na)).setCell ⟨OB, 4, none⟩ (.string sa)) w.heap.size (opC 0 ⟨#[]⟩ 0 0 ⟨#[]⟩ 0 0 ⟨#[]⟩) 28) := (((HR.out.other N1.out.symm _ _).other N1.out.symm _ _).other N1.out.symm _ _)
            replace hB : Below w.heap.size w (((wd.setCell ⟨OB, 2, none⟩ (.int .i64 ka)).setCell ⟨OB, 3, none⟩ (.int .i64 na)).setCell ⟨OB, 4, none⟩ (.string sa)) := (((hB.setCell (p := ⟨OB, 2, none⟩) hOB (.int .i64 ka)).setCell (p := ⟨OB, 3, none⟩) hOB (.int .i64 na)).setCell (p := ⟨OB, 4, none⟩) hOB (.string sa))
            clear HO2 p0 p1 p2 p3 p4 p5 p6 p7 p8 g0 g1 g2 g3 g4 g5 g6 g7
            generalize (((wd.setCell ⟨OB, 2, none⟩ (.int .i64 ka)).setCell ⟨OB, 3, none⟩ (.int .i64 na)).setCell ⟨OB, 4, none⟩ (.string sa)) = we at HO3 HR hB ⊢
            have HO2 := HO3
            clear HO3
            refine (Hrb.out _).mono ?_
            rintro e wf ⟨rfl, hbf⟩
            replace hB := bt hB hbf
            replace HR := Lib.hid (HR.out.keep hbf)
            replace HO2 := Lib.hid (HO2.out.keep hbf)
            clear hbf
            obtain ⟨p0, p1, p2, p3, p4, p5, p6, p7, p8⟩ := HO2.out.c8
            obtain ⟨g0, g1, g2, g3, g4, g5, g6, g7⟩ := HO2.out.f8
            go_wp2_with fail
            have HO3 : Hid (Blk (((wf.setCell ⟨OB, 5, none⟩ (.int .i64 kb)).setCell ⟨OB, 6, none⟩ (.int .i64 nb)).setCell ⟨OB, 7, none⟩ (.string sb)) OB (opC K ky ka na sa kb nb sb) 28) := (((HO2.out.set 5 (.int .i64 kb)).set 6 (.int .i64 nb)).set 7 (.string sb))
            replace HR : Hid (Blk (((wf.setCell ⟨OB, 5, none⟩ (.int .i64 kb)).setCell ⟨OB, 6, none⟩ (.int .i64 nb)).setCell ⟨OB, 7, none⟩ (.string sb)) w.heap.size (opC 0 ⟨#[]⟩ 0 0 ⟨#[]⟩ 0 0 ⟨#[]⟩) 28) := (((HR.out.other N1.out.symm _ _).other N1.out.symm _ _).other N1.out.symm _ _)
            replace hB : Below w.heap.size w (((wf.setCell ⟨OB, 5, none⟩ (.int .i64 kb)).setCell ⟨OB, 6, none⟩ (.int .i64 nb)).setCell ⟨OB, 7, none⟩ (.string sb)) := (((hB.setCell (p := ⟨OB, 5, none⟩) hOB (.int .i64 kb)).setCell (p := ⟨OB, 6, none⟩) hOB (.int .i64 nb)).setCell (p := ⟨OB, 7, none⟩) hOB (.string sb))
            clear HO2 p0 p1 p2 p3 p4 p5 p6 p7 p8 g0 g1 g2 g3 g4 g5 g6 g7
            generalize (((wf.setCell ⟨OB, 5, none⟩ (.int .i64 kb)).setCell ⟨OB, 6, none⟩ (.int .i64 nb)).setCell ⟨OB, 7, none⟩ (.string sb)) = wg at HO3 HR hB ⊢
            have HO2 := HO3
            clear HO3
            refine (HG.out _).mono ?_
            rintro e wz ⟨rfl, hbz⟩
            replace hB := bt hB hbz
            obtain ⟨q0, q1, q2, q3, q4, q5, q6, q7, q8⟩ := (HR.out.keep hbz).c8
            obtain ⟨f0, f1, f2, f3, f4, f5, f6, f7⟩ := (HR.out.keep hbz).f8
            obtain ⟨p0, p1, p2, p3, p4, p5, p6, p7, p8⟩ := (HO2.out.keep hbz).c8
            go_wp2_with fail
            exact bodyPost_ret (v := opT K ky ka na sa kb nb sb true) (by simp [results, Tryd.results20, go_sem, q0, q1, q2, q3, q4, q5, q6, q7]) rfl ⟨rfl, below8 hB (Nat.le_refl _) _ _ _ _ _ _ _ _⟩

set_option maxRecDepth 100000 in
set_option maxHeartbeats 8000000 in
theorem refReadD_3n (K : Int) (s w1 r1 ky r2 : ByteArray) (a b : ByteArray) (ka na ea : Int) (sa : ByteArray) (kb nb eb : Int) (sb : ByteArray) (w : World)
    (Hc1 : Hid (∀ W : World, Calls Tryd.prog 34 #[.string s] W fun e W' => e = .returned (.tuple #[.string w1, .string r1, .bool true]) ∧ Below W.heap.size W W')) (hK : Hid (begunK w1.data.toList = K))
    (Hc2 : Hid (∀ W : World, Calls Tryd.prog 34 #[.string r1] W fun e W' => e = .returned (.tuple #[.string ky, .string r2, .bool true]) ∧ Below W.heap.size W W'))
    (Hc3 : Hid (∀ W : World, Calls Tryd.prog 34 #[.string r2] W fun e W' => e = .returned (.tuple #[.string a, .string b, .bool true]) ∧ Below W.heap.size W W')) (Hra : Hid (∀ W : World, Calls Tryd.prog 35 #[.string a] W fun e W' => e = .returned (.tuple #[.agg #[.int .i64 ka, .int .i64 na, .string sa], .int .i64 ea]) ∧ Below W.heap.size W W'))
    (Hrb : Hid (∀ W : World, Calls Tryd.prog 35 #[.string b] W fun e W' => e = .returned (.tuple #[.agg #[.int .i64 kb, .int .i64 nb, .string sb], .int .i64 eb]) ∧ Below W.heap.size W W'))
    (HG : Hid (∀ W : World, Calls Tryd.prog 13 #[opV K ky ka na sa kb nb sb] W fun e W' => e = .returned (.bool false) ∧ Below W.heap.size W W')) (k4 : (K == 4) = true) (k2 : (K == 2) = false) (he : ea = 0) (hf : eb = 0) :
    Calls Tryd.prog 20 #[.string s] w fun e w' => e = .returned (noT false) ∧ Below w.heap.size w w' := by
  go_enter Tryd.func20, Tryd.ntmps20
  go_wp2_with fail
  have hB := b0 w (.cells (opC 0 ⟨#[]⟩ 0 0 ⟨#[]⟩ 0 0 ⟨#[]⟩) 28)
  have HR := Lib.hid (blk_new w (opC 0 ⟨#[]⟩ 0 0 ⟨#[]⟩ 0 0 ⟨#[]⟩) 28)
  generalize w.alloc (.cells (opC 0 ⟨#[]⟩ 0 0 ⟨#[]⟩ 0 0 ⟨#[]⟩) 28) = W at HR hB ⊢
  refine (Hc1.out _).mono ?_
  rintro e wa ⟨rfl, hba⟩
  replace hB := bt hB hba
  replace HR := Lib.hid (HR.out.keep hba)
  clear hba
  have hOB : w.heap.size ≤ wa.heap.size := hB.size
  go_wp2_with fail
  have hRel : RRel w.heap.size wa.heap.size (wa.heap.size + 1) w1 1 w ((wa.alloc (.cells (opC 0 ⟨#[]⟩ 0 0 ⟨#[]⟩ 0 0 ⟨#[]⟩) 28)).alloc (.cells #[.string ⟨#[]⟩, .string ⟨#[112, 117, 116]⟩, .string ⟨#[100, 101, 108]⟩, .string ⟨#[97, 100, 100]⟩, .string ⟨#[99, 97, 115]⟩] 55)) := by
    refine ⟨blk_at (by simp) _ _, ?_, (HR.out.alloc _).alloc _, ba (ba hB _) _⟩
    rw [kindAt_1]
    exact (blk_new wa _ _).alloc _
  have n1 : wa.heap.size ≠ w.heap.size := by have := HR.out.lt; omega
  generalize wa.heap.size = OB at hRel n1 hOB ⊢
  generalize (wa.alloc _).alloc _ = WA at hRel ⊢
  have HRel := Lib.hid hRel
  have N1 := Lib.hid n1
  clear hRel n1 HR hB
  go_loopw [10] (fun i wr => ∃ k : Nat, 1 ≤ k ∧ k ≤ 5 ∧ i = .int .i64 k ∧ RRel w.heap.size OB (OB + 1) w1 k w wr) (fun i _ => 5 - (intOf i).toNat)
  case atStart => exact ⟨1, by omega, by omega, rfl, HRel.out⟩
  case round =>
    obtain ⟨k, hk1, hk5, rfl, hW, hO, hR, hB⟩ := hrel
    have HW := Lib.hid hW
    have HO := Lib.hid hO
    have HR := Lib.hid hR
    clear hW hO hR HRel
    by_cases kk1 : k = 1
    · subst kk1
      have c0 : wr.cell? ⟨OB + 1, 1, none⟩ = some (.string ⟨#[112, 117, 116]⟩) := HW.out.cell 1
      by_cases h : w1.data.toList = [112, 117, 116]
      · obtain rfl : w1 = ⟨#[112, 117, 116]⟩ := data_eq' h
        clear h
        obtain ⟨q0, q1, q2, q3, q4, q5, q6, q7, q8⟩ := HO.out.c8
        obtain ⟨f0, f1, f2, f3, f4, f5, f6, f7⟩ := HO.out.f8
        go_wp2_with fail
        go_roundw
        case rel =>
          refine ⟨1 + 1, by omega, by omega, by go_num, HW.out.other (by omega) _ _, ?_, HR.out.other N1.out.symm _ _, hB.setCell (p := ⟨OB, 0, none⟩) hOB _⟩
          have h8 := HO.out.set 0 (.int .i64 1)
          rw [kindAt_y1]
          exact h8
        case measure => simp [intOf] <;> omega
      · have n1 : ([112, 117, 116] == w1.toList) = false := by
          rw [ByteArray.toList_eq]
          exact beq_eq_false_iff_ne.2 (fun e => h e.symm)
        have K2 : Hid (kindAt w1.data.toList (1 + 1) = kindAt w1.data.toList 1) := kindAt_no _ 1 (by omega) (by omega) h
        clear h
        go_wp2_with fail
        go_roundw
        case rel =>
          refine ⟨1 + 1, by omega, by omega, by go_num, HW.out, ?_, HR.out, hB⟩
          rw [K2.out]
          exact HO.out
        case measure => simp [intOf] <;> omega
    · skip
      by_cases kk2 : k = 2
      · subst kk2
        have c0 : wr.cell? ⟨OB + 1, 2, none⟩ = some (.string ⟨#[100, 101, 108]⟩) := HW.out.cell 2
        by_cases h : w1.data.toList = [100, 101, 108]
        · obtain rfl : w1 = ⟨#[100, 101, 108]⟩ := data_eq' h
          clear h
          obtain ⟨q0, q1, q2, q3, q4, q5, q6, q7, q8⟩ := HO.out.c8
          obtain ⟨f0, f1, f2, f3, f4, f5, f6, f7⟩ := HO.out.f8
          go_wp2_with fail
          go_roundw
          case rel =>
            refine ⟨2 + 1, by omega, by omega, by go_num, HW.out.other (by omega) _ _, ?_, HR.out.other N1.out.symm _ _, hB.setCell (p := ⟨OB, 0, none⟩) hOB _⟩
            have h8 := HO.out.set 0 (.int .i64 2)
            rw [kindAt_y2]
            exact h8
          case measure => simp [intOf] <;> omega
        · have n1 : ([100, 101, 108] == w1.toList) = false := by
            rw [ByteArray.toList_eq]
            exact beq_eq_false_iff_ne.2 (fun e => h e.symm)
          have K2 : Hid (kindAt w1.data.toList (2 + 1) = kindAt w1.data.toList 2) := kindAt_no _ 2 (by omega) (by omega) h
          clear h
          go_wp2_with fail
          go_roundw
          case rel =>
            refine ⟨2 + 1, by omega, by omega, by go_num, HW.out, ?_, HR.out, hB⟩
            rw [K2.out]
            exact HO.out
          case measure => simp [intOf] <;> omega
      · skip
        by_cases kk3 : k = 3
        · subst kk3
          have c0 : wr.cell? ⟨OB + 1, 3, none⟩ = some (.string ⟨#[97, 100, 100]⟩) := HW.out.cell 3
          by_cases h : w1.data.toList = [97, 100, 100]
          · obtain rfl : w1 = ⟨#[97, 100, 100]⟩ := data_eq' h
            clear h
            obtain ⟨q0, q1, q2, q3, q4, q5, q6, q7, q8⟩ := HO.out.c8
            obtain ⟨f0, f1, f2, f3, f4, f5, f6, f7⟩ := HO.out.f8
            go_wp2_with fail
            go_roundw
            case rel =>
              refine ⟨3 + 1, by omega, by omega, by go_num, HW.out.other (by omega) _ _, ?_, HR.out.other N1.out.symm _ _, hB.setCell (p := ⟨OB, 0, none⟩) hOB _⟩
              have h8 := HO.out.set 0 (.int .i64 3)
              rw [kindAt_y3]
              exact h8
            case measure => simp [intOf] <;> omega
          · have n1 : ([97, 100, 100] == w1.toList) = false := by
              rw [ByteArray.toList_eq]
              exact beq_eq_false_iff_ne.2 (fun e => h e.symm)
            have K2 : Hid (kindAt w1.data.toList (3 + 1) = kindAt w1.data.toList 3) := kindAt_no _ 3 (by omega) (by omega) h
            clear h
            go_wp2_with fail
            go_roundw
            case rel =>
              refine ⟨3 + 1, by omega, by omega, by go_num, HW.out, ?_, HR.out, hB⟩
              rw [K2.out]
              exact HO.out
            case measure => simp [intOf] <;> omega
        · skip
          by_cases kk4 : k = 4
          · subst kk4
            have c0 : wr.cell? ⟨OB + 1, 4, none⟩ = some (.string ⟨#[99, 97, 115]⟩) := HW.out.cell 4
            by_cases h : w1.data.toList = [99, 97, 115]
            · obtain rfl : w1 = ⟨#[99, 97, 115]⟩ := data_eq' h
              clear h
              obtain ⟨q0, q1, q2, q3, q4, q5, q6, q7, q8⟩ := HO.out.c8
              obtain ⟨f0, f1, f2, f3, f4, f5, f6, f7⟩ := HO.out.f8
              go_wp2_with fail
              go_roundw
              case rel =>
                refine ⟨4 + 1, by omega, by omega, by go_num, HW.out.other (by omega) _ _, ?_, HR.out.other N1.out.symm _ _, hB.setCell (p := ⟨OB, 0, none⟩) hOB _⟩
                have h8 := HO.out.set 0 (.int .i64 4)
                rw [kindAt_y4]
                exact h8
              case measure => simp [intOf] <;> omega
            · have n1 : ([99, 97, 115] == w1.toList) = false := by
                rw [ByteArray.toList_eq]
                exact beq_eq_false_iff_ne.2 (fun e => h e.symm)
              have K2 : Hid (kindAt w1.data.toList (4 + 1) = kindAt w1.data.toList 4) := kindAt_no _ 4 (by omega) (by omega) h
              clear h
              go_wp2_with fail
              go_roundw
              case rel =>
                refine ⟨4 + 1, by omega, by omega, by go_num, HW.out, ?_, HR.out, hB⟩
                rw [K2.out]
                exact HO.out
              case measure => simp [intOf] <;> omega
          · skip
            obtain rfl : k = 5 := by omega
            replace HO : Hid (Blk wr OB (opC K ⟨#[]⟩ 0 0 ⟨#[]⟩ 0 0 ⟨#[]⟩) 28) := by
              have := HO.out
              rw [kindAt_5, hK.out] at this
              exact this
            clear HW
            go_wp2_with fail
            refine (Hc2.out _).mono ?_
            rintro e wb ⟨rfl, hbb⟩
            replace hB := bt hB hbb
            replace HR := Lib.hid (HR.out.keep hbb)
            replace HO := Lib.hid (HO.out.keep hbb)
            clear hbb
            obtain ⟨p0, p1, p2, p3, p4, p5, p6, p7, p8⟩ := HO.out.c8
            obtain ⟨g0, g1, g2, g3, g4, g5, g6, g7⟩ := HO.out.f8
            go_wp2_with fail
            have HO2 : Hid (Blk (wb.setCell ⟨OB, 1, none⟩ (.string ky)) OB (opC K ky 0 0 ⟨#[]⟩ 0 0 ⟨#[]⟩) 28) := HO.out.set 1 (.string ky)
            replace HR : Hid (Blk (wb.setCell ⟨OB, 1, none⟩ (.string ky)) w.heap.size (opC 0 ⟨#[]⟩ 0 0 ⟨#[]⟩ 0 0 ⟨#[]⟩) 28) := HR.out.other N1.out.symm _ _
            replace hB := hB.setCell (p := ⟨OB, 1, none⟩) hOB (.string ky)
            clear HO p0 p1 p2 p3 p4 p5 p6 p7 p8 g0 g1 g2 g3 g4 g5 g6 g7
            generalize wb.setCell ⟨OB, 1, none⟩ (.string ky) = wb2 at HO2 HR hB ⊢
            refine (Hc3.out _).mono ?_
            rintro e wc ⟨rfl, hbc⟩
            replace hB := bt hB hbc
            replace HR := Lib.hid (HR.out.keep hbc)
            replace HO2 := Lib.hid (HO2.out.keep hbc)
            clear hbc
            go_wp2_with fail
            refine (Hra.out _).mono ?_
            rintro e wd ⟨rfl, hbd⟩
            replace hB := bt hB hbd
            replace HR := Lib.hid (HR.out.keep hbd)
            replace HO2 := Lib.hid (HO2.out.keep hbd)
            clear hbd
            obtain ⟨p0, p1, p2, p3, p4, p5, p6, p7, p8⟩ := HO2.out.c8
            obtain ⟨g0, g1, g2, g3, g4, g5, g6, g7⟩ := HO2.out.f8
            go_wp2_with fail
            have HO3 : Hid (Blk (((wd.setCell ⟨OB, 2, none⟩ (.int .i64 ka)).setCell ⟨OB, 3, none⟩ (.int .i64 na)).setCell ⟨OB, 4, none⟩ (.string sa)) OB (opC K ky ka na sa 0 0 ⟨#[]⟩) 28) := (((HO2.out.set 2 (.int .i64 ka)).set 3 (.int .i64 na)).set 4 (.string sa))
            replace HR : Hid (Blk (((wd.setCell ⟨OB, 2, none⟩ (.int .i64 ka)).setCell ⟨OB, 3, none⟩ (.int .i64 na)).setCell ⟨OB, 4, none⟩ (.string sa)) w.heap.size (opC 0 ⟨#[]⟩ 0 0 ⟨#[]⟩ 0 0 ⟨#[]⟩) 28) := (((HR.out.other N1.out.symm _ _).other N1.out.symm _ _).other N1.out.symm _ _)
            replace hB : Below w.heap.size w (((wd.setCell ⟨OB, 2, none⟩ (.int .i64 ka)).setCell ⟨OB, 3, none⟩ (.int .i64 na)).setCell ⟨OB, 4, none⟩ (.string sa)) := (((hB.setCell (p := ⟨OB, 2, none⟩) hOB (.int .i64 ka)).setCell (p := ⟨OB, 3, none⟩) hOB (.int .i64 na)).setCell (p := ⟨OB, 4, none⟩) hOB (.string sa))
            clear HO2 p0 p1 p2 p3 p4 p5 p6 p7 p8 g0 g1 g2 g3 g4 g5 g6 g7
            generalize (((wd.setCell ⟨OB, 2, none⟩ (.int .i64 ka)).setCell ⟨OB, 3, none⟩ (.int .i64 na)).setCell ⟨OB, 4, none⟩ (.string sa)) = we at HO3 HR hB ⊢
            have HO2 := HO3
            clear HO3
            refine (Hrb.out _).mono ?_
            rintro e wf ⟨rfl, hbf⟩
            replace hB := bt hB hbf
            replace HR := Lib.hid (HR.out.keep hbf)
            replace HO2 := Lib.hid (HO2.out.keep hbf)
            clear hbf
            obtain ⟨p0, p1, p2, p3, p4, p5, p6, p7, p8⟩ := HO2.out.c8
            obtain ⟨g0, g1, g2, g3, g4, g5, g6, g7⟩ := HO2.out.f8
            go_wp2_with fail
            have HO3 : Hid (Blk (((wf.setCell ⟨OB, 5, none⟩ (.int .i64 kb)).setCell ⟨OB, 6, none⟩ (.int .i64 nb)).setCell ⟨OB, 7, none⟩ (.string sb)) OB (opC K ky ka na sa kb nb sb) 28) := (((HO2.out.set 5 (.int .i64 kb)).set 6 (.int .i64 nb)).set 7 (.string sb))
            replace HR : Hid (Blk (((wf.setCell ⟨OB, 5, none⟩ (.int .i64 kb)).setCell ⟨OB, 6, none⟩ (.int .i64 nb)).setCell ⟨OB, 7, none⟩ (.string sb)) w.heap.size (opC 0 ⟨#[]⟩ 0 0 ⟨#[]⟩ 0 0 ⟨#[]⟩) 28) := (((HR.out.other N1.out.symm _ _).other N1.out.symm _ _).other N1.out.symm _ _)
            replace hB : Below w.heap.size w (((wf.setCell ⟨OB, 5, none⟩ (.int .i64 kb)).setCell ⟨OB, 6, none⟩ (.int .i64 nb)).setCell ⟨OB, 7, none⟩ (.string sb)) := (((hB.setCell (p := ⟨OB, 5, none⟩) hOB (.int .i64 kb)).setCell (p := ⟨OB, 6, none⟩) hOB (.int .i64 nb)).setCell (p := ⟨OB, 7, none⟩) hOB (.string sb))
            clear HO2 p0 p1 p2 p3 p4 p5 p6 p7 p8 g0 g1 g2 g3 g4 g5 g6 g7
            generalize (((wf.setCell ⟨OB, 5, none⟩ (.int .i64 kb)).setCell ⟨OB, 6, none⟩ (.int .i64 nb)).setCell ⟨OB, 7, none⟩ (.string sb)) = wg at HO3 HR hB ⊢
            have HO2 := HO3
            clear HO3
            refine (HG.out _).mono ?_
            rintro e wz ⟨rfl, hbz⟩
            replace hB := bt hB hbz
            obtain ⟨q0, q1, q2, q3, q4, q5, q6, q7, q8⟩ := (HR.out.keep hbz).c8
            obtain ⟨f0, f1, f2, f3, f4, f5, f6, f7⟩ := (HR.out.keep hbz).f8
            obtain ⟨p0, p1, p2, p3, p4, p5, p6, p7, p8⟩ := (HO2.out.keep hbz).c8
            go_wp2_with fail
            exact bodyPost_ret (v := noT false) (by simp [results, Tryd.results20, go_sem, q0, q1, q2, q3, q4, q5, q6, q7]) rfl ⟨rfl, below8 hB (Nat.le_refl _) _ _ _ _ _ _ _ _⟩
end Go.Proofs.YtmilcgikncecnaaDoor
