/-
  WHAT IS PROVED: the document's opening of a frame (spinneyref06.Open) is openF; as definitions, what the walks of layer 6's statements take of package frame's calls (they are proved elsewhere, of the code itself); the chapter's examples hold, if the calls answer so.
-/
import Derived.Test.YtggoinjjdogmaaaDoorFrameRef
import Derived.Test.YtggoinjjdogmaaaDoorNibMath
import Derived.Test.YtggoinjjdogmaaaDoorPieces
import Derived.Stop.LaidErr
import Derived.Lib.SmallJoins
namespace Go.Proofs.YtggoinjjdogmaaaDoor
open Go.RowKit

/-- The kind, the inside, the error. -/
def openF (b : List UInt8) : UInt8 × List UInt8 × Nat :=
  if (takeF b).2.2.1 ≠ b.length ∨ (takeF b).2.2.1 = 0 then (0, [], 2) else ((takeF b).1, (takeF b).2.1, (takeF b).2.2.2)
theorem takeF_code (b : List UInt8) : (takeF b).2.2.2 ≤ 4 ∧ (takeF b).2.2.1 ≤ b.length + 100009 ∧ (takeF b).2.1.length ≤ b.length := by
  unfold takeF
  split
  · exact ⟨by decide, by simp, by simp⟩
  · split
    · exact ⟨by decide, by simp, by simp⟩
    · rename_i h
      split
      · exact ⟨by simp, by simp only; omega, by simp⟩
      · exact ⟨by simp, by simp only; omega, by simp only [List.length_take, List.length_drop]; omega⟩
set_option maxRecDepth 100000 in
set_option maxHeartbeats 2000000 in
theorem refOpenF_any {B : Nat} (A : Option Addr) (n c : Nat) (b : List UInt8) (w : World) (hn : b.length = n) (hr : RdB B w A b) (hB : B ≤ w.heap.size) (hc : n ≤ c) (hm : n ≤ 1000000000) :
    Calls Tryd.prog 16 #[.slice A n c] w fun e w' => (∃ (A' : Option Addr) (c' : Nat), e = .returned (.tuple #[.int .u8 ((openF b).1.toNat : Int), .slice A' (openF b).2.1.length c', .int .i64 ((openF b).2.2 : Nat)]) ∧ RdB B w' A' (openF b).2.1) ∧ Below w.heap.size w w' := by
  have HF := Lib.hid (refTakeF_any A n c b w hn hr hB hc hm)
  have hl := takeF_code b
  have HO : Hid (openF b = if (takeF b).2.2.1 ≠ n ∨ (takeF b).2.2.1 = 0 then (0, [], 2) else ((takeF b).1, (takeF b).2.1, (takeF b).2.2.2)) := by show _ = _; unfold openF; rw [hn]
  unfold TakeFP at HF
  generalize takeF b = r at HF hl HO
  obtain ⟨k, ins, sz, code⟩ := r
  simp only at HF hl HO
  go_enter Tryd.func16, Tryd.ntmps16
  go_wp2_with fail
  refine HF.out.mono ?_
  rintro e w1 ⟨⟨A1, c1, rfl, hr1⟩, hb1⟩
  clear HF
  by_cases h1 : sz = n
  · by_cases h0 : sz = 0
    · have R : Hid (openF b = (0, [], 2)) := by show _ = _; rw [HO.out, if_pos (Or.inr h0)]
      have e1 : ((sz : Int) != (n : Int)) = false := by rw [h1]; simp
      have e2 : ((sz : Int) == 0) = true := by rw [h0]; rfl
      have e5 : (0 : Int) = (n : Int) := by omega
      subst h0
      clear h1
      go_wp2_with fail
      go_ret3
      rw [R.out]
      exact ⟨⟨none, 0, rfl, RdB.nil _ _ _⟩, hb1⟩
    · have R : Hid (openF b = (k, ins, code)) := by show _ = _; rw [HO.out, if_neg (by rintro (h | h); exact h h1; exact h0 h)]
      have e1 : ((sz : Int) == (n : Int)) = true := by rw [h1]; simp
      have e2 : ((sz : Int) == 0) = false := by rw [beq_eq_false_iff_ne]; omega
      have e3 : ¬ (sz : Int) = 0 := by omega
      have e4 : (sz : Int) = (n : Int) := by omega
      clear h1
      go_wp2_with fail
      go_ret3
      rw [R.out]
      exact ⟨⟨A1, c1, rfl, hr1⟩, hb1⟩
  · have R : Hid (openF b = (0, [], 2)) := by show _ = _; rw [HO.out, if_pos (Or.inl h1)]
    have e1 : ((sz : Int) == (n : Int)) = false := by rw [beq_eq_false_iff_ne]; omega
    have e4 : ¬ (sz : Int) = (n : Int) := by omega
    go_wp2_with fail
    go_ret3
    rw [R.out]
    exact ⟨⟨none, 0, rfl, RdB.nil _ _ _⟩, hb1⟩

/-- What the code reads of the package variables: its table of sixteen numbers, and errors.errorType. -/
def LaidF (W : World) : Prop :=
  (∀ i : Nat, i < 16 → W.cell? ⟨0, i, none⟩ = some (.int .u32 (crcSteps 4 i : Nat))) ∧ W.cell? ⟨1, 0, none⟩ = some (.iface 79 (.agg #[.pointer (some ⟨2, 56, none⟩)]))
theorem LaidF.keep {W W' : World} (h : LaidF W) (hb : Below W.heap.size W W') : LaidF W' :=
  ⟨fun i hi => (hb.cell (World.block_lt_of_cell? W _ (h.1 i hi))).trans (h.1 i hi), (hb.cell (World.block_lt_of_cell? W _ h.2)).trans h.2⟩
/-- What the calls answer. -/
structure FrameC : Prop where
  sumC : ∀ (A : Option Addr) (n c : Nat) (b : List UInt8) (w : World), LaidF w → b.length = n → n ≤ 200000 → RdB w.heap.size w A b →
    Calls Tryd.prog 11 #[.slice A n c] w fun e w' => e = .returned (.int .u32 (crcL b : Nat)) ∧ Below w.heap.size w w'
  sealC : ∀ (k : UInt8) (A : Option Addr) (n c : Nat) (b : List UInt8) (w : World), LaidF w → b.length = n → n ≤ 100000 → RdB w.heap.size w A b →
    Calls Tryd.prog 13 #[.agg #[.int .u8 (k.toNat : Int), .slice A n c]] w fun e w' => (∃ (A' : Option Addr) (c' : Nat), e = .returned (.tuple #[.slice A' (n + 9) c', .int .i64 0]) ∧ OwnB w.heap.size w' A' (n + 9) c' (sealL k b)) ∧ Below w.heap.size w w'
  fullC : ∀ (k : UInt8) (A : Option Addr) (n c : Nat) (b : List UInt8) (w : World), LaidF w → b.length = n → 100000 < n → n ≤ 200000 → RdB w.heap.size w A b →
    Calls Tryd.prog 13 #[.agg #[.int .u8 (k.toNat : Int), .slice A n c]] w fun e w' => e = .returned (.tuple #[.slice none 0 0, .int .i64 3]) ∧ Below w.heap.size w w'
  openC : ∀ (A : Option Addr) (n c : Nat) (b : List UInt8) (w : World), LaidF w → b.length = n → n ≤ c → n ≤ 200000 → RdB w.heap.size w A b →
    Calls Tryd.prog 15 #[.slice A n c] w fun e w' => (∃ (A' : Option Addr) (c' : Nat), e = .returned (.tuple #[.agg #[.int .u8 ((openF b).1.toNat : Int), .slice A' (openF b).2.1.length c'], .int .i64 ((openF b).2.2 : Nat)]) ∧ OwnB w.heap.size w' A' (openF b).2.1.length c' (openF b).2.1) ∧ Below w.heap.size w w'
  scanC : ∀ (A : Option Addr) (n c : Nat) (b : List UInt8) (w : World), LaidF w → b.length = n → n ≤ c → n ≤ 200000 → RdB w.heap.size w A b →
    Calls Tryd.prog 17 #[.slice A n c] w fun e w' => (∃ (l : List Pc) (m code : Nat) (A' : Option Addr) (c' : Nat), ScanR b l m code ∧ e = .returned (.tuple #[.slice A' l.length c', .int .i64 (m : Nat), .int .i64 (code : Nat)]) ∧ RdPc w'.heap.size w' A' l) ∧ Below w.heap.size w w'

/-- The bytes of a constant, as they lie. -/
theorem rd_const (w : World) (l : List UInt8) (fr : Nat × Nat) : RdB (w.alloc (.cells (bytV l).toArray 5 fr)).heap.size (w.alloc (.cells (bytV l).toArray 5 fr)) (some ⟨w.heap.size, 0, none⟩) l := by
  intro k x hx
  refine ⟨_, rfl, by simp, ?_⟩
  have e : (⟨w.heap.size, 0, none⟩ : Addr).add k = ⟨w.heap.size, k, none⟩ := by unfold Addr.add; split <;> simp_all
  rw [e, Joins.cell_alloc_mark_at w _ _ fr _ k rfl, List.getElem?_toArray, List.getElem?_map, hx]
  rfl
set_option maxRecDepth 100000 in
set_option maxHeartbeats 2000000 in
theorem frameAwake (hC : FrameC) (w : World) (hL : LaidF w) :
    Calls Tryd.prog 10 #[] w fun e w' => e = .returned (.bool true) ∧ Below w.heap.size w w' := by
  have HS : Hid (crcL [49, 50, 51, 52, 53, 54, 55, 56, 57] = 3808858755) := by show _ = _; kernel_rfl
  go_enter Tryd.func10, Tryd.ntmps10
  go_wp2_with fail
  refine (hC.sealC 7 none 0 0 [] w hL rfl (by omega) (RdB.nil _ _ _)).mono ?_
  rintro e w1 ⟨⟨A1, c1, rfl, hO1⟩, hb1⟩
  have cv := Joins.run_convert_bytes_const_at (P := Tryd.prog) w1 22 5 #[.int .u8 49, .int .u8 50, .int .u8 51, .int .u8 52, .int .u8 53, .int .u8 54, .int .u8 55, .int .u8 56, .int .u8 57] 9 9 w1.heap.size rfl Tryd.underlying22 Tryd.underlying5
  have hr9 := rd_const w1 [49, 50, 51, 52, 53, 54, 55, 56, 57] (9, 10)
  have hO2 := hO1.keep (b0 w1 (.cells #[.int .u8 49, .int .u8 50, .int .u8 51, .int .u8 52, .int .u8 53, .int .u8 54, .int .u8 55, .int .u8 56, .int .u8 57] 5 (9, 10)))
  have hB2 := ba hb1 (.cells #[.int .u8 49, .int .u8 50, .int .u8 51, .int .u8 52, .int .u8 53, .int .u8 54, .int .u8 55, .int .u8 56, .int .u8 57] 5 (9, 10))
  clear hO1
  go_wp2_with fail
  refine (hC.sumC _ 9 9 [49, 50, 51, 52, 53, 54, 55, 56, 57] _ (hL.keep hB2) rfl (by omega) hr9).mono ?_
  rintro e w3 ⟨rfl, hb3⟩
  have hB3 := bt hB2 hb3
  have hO3 := hO2.keep hb3
  rw [HS.out]
  have hlen : (sealL 7 []).length = 9 := rfl
  obtain ⟨ad, rfl, _, d0, d1, d2, d3, d4⟩ := five hO3.rd (by rw [hlen]; omega)
  rw [show byteAt (sealL 7 []) 0 = 229 from rfl] at d0
  rw [show byteAt (sealL 7 []) 1 = 7 from rfl] at d1
  rw [show byteAt (sealL 7 []) 4 = 0 from rfl] at d4
  clear hO2 hO3 hr9 cv d2 d3 hlen
  go_wp2_with fail
  go_ret
  exact ⟨rfl, hB3⟩
end Go.Proofs.YtggoinjjdogmaaaDoor
