/-
  WHAT IS PROVED: the law of FrameGreat answers true for every number, if package frame's calls answer as FrameC says. Conditions: those typed in the theorem. · the law of the statement FrameGreat answers true, over the code itself. Conditions: the package variables that the code reads hold what the program's text lays (LaidF).
-/
import Derived.Test.YtokkmofcijfmiaaDoorGQ7
import Derived.Test.YtokkmofcijfmiaaDoorGQ3
import Derived.Test.YtokkmofcijfmiaaDoorGQ2
import Derived.Laws.MakeOwn
import Derived.Test.YtokkmofcijfmiaaDoorGQ8
namespace Go.Proofs.YtokkmofcijfmiaaDoor
open Go.RowKit

theorem made_byte (v : Value) (n : Nat) : (madeCells #[v] n).toList = List.replicate n v := by
  unfold madeCells
  apply List.ext_getElem
  · simp
  · intro i h1 h2
    simp [Nat.mod_one]
theorem run_makeB (W : World) (n : Nat) (hn : n ≤ 1000000) :
    (Instr.makeSlice 34 (.int .i64 (n : Int)) (.int .i64 (n : Int))).run Tryd.prog W = .ok (.slice (some ⟨W.heap.size, 0, none⟩) n n) (W.alloc (.cells (madeCells #[.int .u8 0] n) 5)) := by
  obtain ⟨i0, hi0, hz0, hz1, hz2⟩ := info_parts byt_info
  have h := run_make W 34 5 i0 (.int .u8 0) Tryd.underlying34 hi0 hz0 .i64 .i64 (n : Int) (n : Int) (by omega) (Int.le_refl _) (by rw [hz2]; omega) (by omega)
  rw [Int.toNat_natCast, hz1, Nat.mul_one] at h
  exact h
theorem ownMadeB (w : World) (n : Nat) (hn : n ≤ 1000000) : OwnB w.heap.size (w.alloc (.cells (madeCells #[.int .u8 0] n) 5)) (some ⟨w.heap.size, 0, none⟩) n n (List.replicate n 0) :=
  OwnB.lit w _ _ (by rw [made_byte, bytV, List.map_replicate]; rfl) (by simp) (Nat.le_refl _) (by unfold maxLen; omega)

set_option maxRecDepth 100000 in
set_option maxHeartbeats 4000000 in
theorem lawFrameGreat_any (hC : FrameC) (x : UInt8) (w : World) (hL : LaidF w) :
    Calls Tryd.prog 9 #[.int .u8 (x.toNat : Int)] w fun e w' => e = .returned (.bool true) ∧ Below w.heap.size w w' := by
  have hx := x.toNat_lt
  obtain ⟨m, hm⟩ : ∃ m : Nat, 99998 + x.toNat % 5 = m := ⟨_, rfl⟩
  have hml : m ≤ 100002 := by omega
  have hmi : (99998 + (x.toNat : Int) % 5) = (m : Int) := by omega
  go_enter Tryd.func9, Tryd.ntmps9
  go_wp2_with fail
  refine (frameAwake hC w hL).mono ?_
  rintro e w1 ⟨rfl, B1⟩
  have hmk := fun W => run_makeB W m (by omega)
  have hO := ownMadeB w1 m (by omega)
  have BW := ba B1 (.cells (madeCells #[.int .u8 0] m) 5)
  by_cases hbig : 100000 < m
  · have g1 : (100000 : Int) < (m : Int) := by omega
    have FS := Lib.hid (hC.fullC 0 (some ⟨w1.heap.size, 0, none⟩) m m _ _ (hL.keep BW) hO.len hbig (by omega) hO.rd)
    clear hm hO
    go_wp2_with fail
    refine FS.out.mono ?_
    rintro e w2 ⟨rfl, hb2⟩
    have B2 := bt BW hb2
    clear FS hmk
    go_wp2_with fail
    go_ret
    exact ⟨rfl, B2⟩
  · have g1 : ¬ (100000 : Int) < (m : Int) := by omega
    have FS := Lib.hid (hC.sealC 0 (some ⟨w1.heap.size, 0, none⟩) m m _ _ (hL.keep BW) hO.len (by omega) hO.rd)
    have hlen := hO.len
    clear hm hO
    go_wp2_with fail
    refine FS.out.mono ?_
    rintro e w2 ⟨⟨A2, c2, rfl, hO2⟩, hb2⟩
    have B2 := bt BW hb2
    clear FS hmk
    have hop := hC.openC A2 (m + 9) c2 _ w2 (hL.keep B2) hO2.len hO2.cap.1 (by omega) hO2.rd
    rw [open_seal 0 _ (by rw [hlen]; omega)] at hop
    simp only at hop
    rw [hlen] at hop
    have HOP := Lib.hid hop
    clear hop hlen hO2
    go_wp2_with fail
    refine HOP.out.mono ?_
    rintro e w3 ⟨⟨A3, c3, rfl, _⟩, hb3⟩
    have B3 := bt B2 hb3
    clear HOP
    go_wp2_with fail
    go_ret
    exact ⟨rfl, ba B3 _⟩
end Go.Proofs.YtokkmofcijfmiaaDoor

namespace Go.Proofs.YtokkmofcijfmiaaDoor
open Go.RowKit

theorem lawFrameGreat_all (k : UInt8) (w : World) (hL : LaidF w) :
    Calls Tryd.prog 9 #[.int .u8 (k.toNat : Int)] w fun e w' => e = .returned (.bool true) ∧ Below w.heap.size w w' :=
  lawFrameGreat_any frameC k w hL
end Go.Proofs.YtokkmofcijfmiaaDoor
