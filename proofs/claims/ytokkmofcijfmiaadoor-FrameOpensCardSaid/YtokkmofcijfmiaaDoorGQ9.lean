/-
  WHAT IS PROVED: the laws of FrameSums and FrameOpens answer true for all bytes, if package frame's calls answer as FrameC says. Conditions: those typed in each theorem. · the law of the statement FrameOpens answers true, over the code itself. Conditions: the package variables that the code reads hold what the program's text lays (LaidF).
-/
import Derived.Test.YtokkmofcijfmiaaDoorGQ3
import Derived.Test.YtokkmofcijfmiaaDoorGQ2
import Derived.Test.YtokkmofcijfmiaaDoorGQ8
namespace Go.Proofs.YtokkmofcijfmiaaDoor
open Go.RowKit

set_option maxRecDepth 100000 in
set_option maxHeartbeats 4000000 in
theorem lawFrameOpens_any (hC : FrameC) (A : Option Addr) (n c : Nat) (b : List UInt8) (w : World) (hL : LaidF w) (hn : b.length = n) (hr : RdB w.heap.size w A b) (hc : n ≤ c) :
    Calls Tryd.prog 5 #[.slice A n c] w fun e w' => e = .returned (.bool true) ∧ Below w.heap.size w w' := by
  have HN := Lib.hid hn
  clear hn
  by_cases h : n ≤ 3000
  · have g1 : (n : Int) ≤ 3000 := by omega
    go_enter Tryd.func5, Tryd.ntmps5
    go_wp2_with fail
    refine (frameAwake hC w hL).mono ?_
    rintro e w1 ⟨rfl, B1⟩
    go_wp2_with fail
    refine (hC.openC A n c b w1 (hL.keep B1) HN.out hc (by omega) ((hr.keep B1 (Nat.le_refl _)).more B1.size)).mono ?_
    rintro e w2 ⟨⟨A2, c2, rfl, hO2⟩, hb2⟩
    have B2 := bt B1 hb2
    have FR := Lib.hid (fun W (h : RdB w.heap.size W A b) (h2 : w.heap.size ≤ W.heap.size) => refOpenF_any A n c b W HN.out h h2 hc (by omega))
    generalize openF b = r at FR hO2 ⊢
    obtain ⟨k, ins, code⟩ := r
    simp only at FR hO2 ⊢
    obtain ⟨m, hni⟩ : ∃ m, ins.length = m := ⟨_, rfl⟩
    rw [hni] at FR hO2 ⊢
    go_wp2_with fail
    have hP := blk_new w2 #[.int .u8 (k.toNat : Int), .slice A2 m c2] 38
    have hba := b0 w2 (.cells #[.int .u8 (k.toNat : Int), .slice A2 m c2] 38)
    have hO3 := hO2.keep hba
    have B3 := bt B2 hba
    generalize w2.alloc (.cells #[.int .u8 (k.toNat : Int), .slice A2 m c2] 38) = W at hP hba hO3 B3 ⊢
    refine (FR.out W (hr.keep B3 (Nat.le_refl _)) B3.size).mono ?_
    rintro e w4 ⟨⟨A4, c4, rfl, hr4⟩, hb4⟩
    have B4 := bt B3 hb4
    have hP4 := hP.keep hb4
    have p0 : w4.cell? ⟨w2.heap.size, 0, none⟩ = some (.int .u8 (k.toNat : Int)) := hP4.cell 0
    have p1 : w4.cell? ⟨w2.heap.size, 1, none⟩ = some (.slice A2 m c2) := hP4.cell 1
    have cv1 := conv_rd w4 A2 m c2 ins hni (hO3.keep hb4).rd
    have cv2 := conv_rd w4 A4 m c4 ins hni hr4
    clear FR hO2 hO3 hP hP4
    go_wp2_with fail
    go_ret
    exact ⟨rfl, B4⟩
  · have g1 : (3000 : Int) < (n : Int) := by omega
    go_enter Tryd.func5, Tryd.ntmps5
    go_wp2_with fail
    refine (frameAwake hC w hL).mono ?_
    rintro e w1 ⟨rfl, B1⟩
    go_wp2_with fail
    refine (frameAwake hC w1 (hL.keep B1)).mono ?_
    rintro e w2 ⟨rfl, hb2⟩
    go_wp2_with fail
    go_ret
    exact ⟨rfl, bt B1 hb2⟩
end Go.Proofs.YtokkmofcijfmiaaDoor

namespace Go.Proofs.YtokkmofcijfmiaaDoor
open Go.RowKit

theorem lawFrameOpens_all (A : Option Addr) (n c : Nat) (l : List UInt8) (w : World) (hn : l.length = n) (hr : RdB w.heap.size w A l) (hc : n ≤ c) (_ : c ≤ maxLen) (hL : LaidF w) :
    Calls Tryd.prog 5 #[.slice A n c] w fun e w' => e = .returned (.bool true) ∧ Below w.heap.size w w' :=
  lawFrameOpens_any frameC A n c l w hL hn hr hc
end Go.Proofs.YtokkmofcijfmiaaDoor
