/-
  WHAT IS PROVED: package roll's calls that tell whether cells, lines are good (goodCell, goodLine, rising, GoodCells, GoodLines): as the chapter says. Conditions: those typed in each theorem.
-/
import Derived.Test.YtpjleeeligahaaaGreatDoorGQ6
import Derived.Test.YtpjleeeligahaaaGreatDoorGQ9
import Derived.Test.YtpjleeeligahaaaGreatDoorGQ5
import Derived.IntWalk
namespace Go.Proofs.YtpjleeeligahaaaGreatDoor
open Go.RowKit

theorem bytesLess_is : ∀ (a b : List UInt8), Op.bytesLess a b = ltB a b
  | [], [] => rfl
  | _ :: _, [] => by unfold ltB Lib.compareBytes; rfl
  | [], _ :: _ => by unfold ltB Lib.compareBytes; rfl
  | x :: a, y :: b => by
    have ih := bytesLess_is a b
    unfold Op.bytesLess ltB Lib.compareBytes
    unfold ltB at ih
    by_cases h : x < y
    · simp [h]
    · by_cases h2 : y < x
      · have hne : ¬ x = y := by
          rintro rfl
          exact h h2
        simp [h, h2, hne]
      · have e : x = y := by
          apply UInt8.toNat.inj
          rw [UInt8.lt_iff_toNat_lt] at h h2
          omega
        subst e
        simp [h, ih]

section
variable {w0 W w' w1 : World} {p0 p1 p2 p3 : Addr} {v0 v1 v2 v3 : Value}
theorem fc4_0 (h0 : W.cell? p0 = some v0) (h1 : W.cell? p1 = some v1) (h2 : W.cell? p2 = some v2) (h3 : W.cell? p3 = some v3) (hB : Below w0.heap.size w0 W) : W.drew.cell? p0 = some v0 ∧ W.drew.cell? p1 = some v1 ∧ W.drew.cell? p2 = some v2 ∧ W.drew.cell? p3 = some v3 ∧ Below w0.heap.size w0 W.drew := ⟨h0, h1, h2, h3, hB.drew⟩
theorem fc4_1 (h : w'.cell? p0 = some v0 ∧ w'.cell? p1 = some v1 ∧ w'.cell? p2 = some v2 ∧ w'.cell? p3 = some v3 ∧ Below w0.heap.size w0 w') (hb : Below w'.heap.size w' w1) : w1.cell? p0 = some v0 ∧ w1.cell? p1 = some v1 ∧ w1.cell? p2 = some v2 ∧ w1.cell? p3 = some v3 ∧ Below w0.heap.size w0 w1 :=
  ⟨(hb.cell (World.block_lt_of_cell? w' _ h.1)).trans h.1, (hb.cell (World.block_lt_of_cell? w' _ h.2.1)).trans h.2.1, (hb.cell (World.block_lt_of_cell? w' _ h.2.2.1)).trans h.2.2.1, (hb.cell (World.block_lt_of_cell? w' _ h.2.2.2.1)).trans h.2.2.2.1, bt h.2.2.2.2 hb⟩
theorem fc4_b (h : w'.cell? p0 = some v0 ∧ w'.cell? p1 = some v1 ∧ w'.cell? p2 = some v2 ∧ w'.cell? p3 = some v3 ∧ Below w0.heap.size w0 w') : Below w0.heap.size w0 w' := h.2.2.2.2
end

section
variable {w0 W w' w1 : World} {p0 p1 p2 p3 p4 p5 p6 p7 : Addr} {v0 v1 v2 v3 v4 v5 v6 v7 : Value}
theorem fc8_0 (h0 : W.cell? p0 = some v0) (h1 : W.cell? p1 = some v1) (h2 : W.cell? p2 = some v2) (h3 : W.cell? p3 = some v3) (h4 : W.cell? p4 = some v4) (h5 : W.cell? p5 = some v5) (h6 : W.cell? p6 = some v6) (h7 : W.cell? p7 = some v7) (hB : Below w0.heap.size w0 W) : W.drew.cell? p0 = some v0 ∧ W.drew.cell? p1 = some v1 ∧ W.drew.cell? p2 = some v2 ∧ W.drew.cell? p3 = some v3 ∧ W.drew.cell? p4 = some v4 ∧ W.drew.cell? p5 = some v5 ∧ W.drew.cell? p6 = some v6 ∧ W.drew.cell? p7 = some v7 ∧ Below w0.heap.size w0 W.drew := ⟨h0, h1, h2, h3, h4, h5, h6, h7, hB.drew⟩
theorem fc8_1 (h : w'.cell? p0 = some v0 ∧ w'.cell? p1 = some v1 ∧ w'.cell? p2 = some v2 ∧ w'.cell? p3 = some v3 ∧ w'.cell? p4 = some v4 ∧ w'.cell? p5 = some v5 ∧ w'.cell? p6 = some v6 ∧ w'.cell? p7 = some v7 ∧ Below w0.heap.size w0 w') (hb : Below w'.heap.size w' w1) : w1.cell? p0 = some v0 ∧ w1.cell? p1 = some v1 ∧ w1.cell? p2 = some v2 ∧ w1.cell? p3 = some v3 ∧ w1.cell? p4 = some v4 ∧ w1.cell? p5 = some v5 ∧ w1.cell? p6 = some v6 ∧ w1.cell? p7 = some v7 ∧ Below w0.heap.size w0 w1 :=
  ⟨(hb.cell (World.block_lt_of_cell? w' _ h.1)).trans h.1, (hb.cell (World.block_lt_of_cell? w' _ h.2.1)).trans h.2.1, (hb.cell (World.block_lt_of_cell? w' _ h.2.2.1)).trans h.2.2.1, (hb.cell (World.block_lt_of_cell? w' _ h.2.2.2.1)).trans h.2.2.2.1, (hb.cell (World.block_lt_of_cell? w' _ h.2.2.2.2.1)).trans h.2.2.2.2.1, (hb.cell (World.block_lt_of_cell? w' _ h.2.2.2.2.2.1)).trans h.2.2.2.2.2.1, (hb.cell (World.block_lt_of_cell? w' _ h.2.2.2.2.2.2.1)).trans h.2.2.2.2.2.2.1, (hb.cell (World.block_lt_of_cell? w' _ h.2.2.2.2.2.2.2.1)).trans h.2.2.2.2.2.2.2.1, bt h.2.2.2.2.2.2.2.2 hb⟩
theorem fc8_b (h : w'.cell? p0 = some v0 ∧ w'.cell? p1 = some v1 ∧ w'.cell? p2 = some v2 ∧ w'.cell? p3 = some v3 ∧ w'.cell? p4 = some v4 ∧ w'.cell? p5 = some v5 ∧ w'.cell? p6 = some v6 ∧ w'.cell? p7 = some v7 ∧ Below w0.heap.size w0 w') : Below w0.heap.size w0 w' := h.2.2.2.2.2.2.2.2
end

section
variable {w0 W w' w1 : World} {p0 p1 p2 p3 p4 p5 p6 p7 p8 p9 p10 : Addr} {v0 v1 v2 v3 v4 v5 v6 v7 v8 v9 v10 : Value}
theorem fc11_0 (h0 : W.cell? p0 = some v0) (h1 : W.cell? p1 = some v1) (h2 : W.cell? p2 = some v2) (h3 : W.cell? p3 = some v3) (h4 : W.cell? p4 = some v4) (h5 : W.cell? p5 = some v5) (h6 : W.cell? p6 = some v6) (h7 : W.cell? p7 = some v7) (h8 : W.cell? p8 = some v8) (h9 : W.cell? p9 = some v9) (h10 : W.cell? p10 = some v10) (hB : Below w0.heap.size w0 W) : W.drew.cell? p0 = some v0 ∧ W.drew.cell? p1 = some v1 ∧ W.drew.cell? p2 = some v2 ∧ W.drew.cell? p3 = some v3 ∧ W.drew.cell? p4 = some v4 ∧ W.drew.cell? p5 = some v5 ∧ W.drew.cell? p6 = some v6 ∧ W.drew.cell? p7 = some v7 ∧ W.drew.cell? p8 = some v8 ∧ W.drew.cell? p9 = some v9 ∧ W.drew.cell? p10 = some v10 ∧ Below w0.heap.size w0 W.drew := ⟨h0, h1, h2, h3, h4, h5, h6, h7, h8, h9, h10, hB.drew⟩
theorem fc11_1 (h : w'.cell? p0 = some v0 ∧ w'.cell? p1 = some v1 ∧ w'.cell? p2 = some v2 ∧ w'.cell? p3 = some v3 ∧ w'.cell? p4 = some v4 ∧ w'.cell? p5 = some v5 ∧ w'.cell? p6 = some v6 ∧ w'.cell? p7 = some v7 ∧ w'.cell? p8 = some v8 ∧ w'.cell? p9 = some v9 ∧ w'.cell? p10 = some v10 ∧ Below w0.heap.size w0 w') (hb : Below w'.heap.size w' w1) : w1.cell? p0 = some v0 ∧ w1.cell? p1 = some v1 ∧ w1.cell? p2 = some v2 ∧ w1.cell? p3 = some v3 ∧ w1.cell? p4 = some v4 ∧ w1.cell? p5 = some v5 ∧ w1.cell? p6 = some v6 ∧ w1.cell? p7 = some v7 ∧ w1.cell? p8 = some v8 ∧ w1.cell? p9 = some v9 ∧ w1.cell? p10 = some v10 ∧ Below w0.heap.size w0 w1 :=
  ⟨(hb.cell (World.block_lt_of_cell? w' _ h.1)).trans h.1, (hb.cell (World.block_lt_of_cell? w' _ h.2.1)).trans h.2.1, (hb.cell (World.block_lt_of_cell? w' _ h.2.2.1)).trans h.2.2.1, (hb.cell (World.block_lt_of_cell? w' _ h.2.2.2.1)).trans h.2.2.2.1, (hb.cell (World.block_lt_of_cell? w' _ h.2.2.2.2.1)).trans h.2.2.2.2.1, (hb.cell (World.block_lt_of_cell? w' _ h.2.2.2.2.2.1)).trans h.2.2.2.2.2.1, (hb.cell (World.block_lt_of_cell? w' _ h.2.2.2.2.2.2.1)).trans h.2.2.2.2.2.2.1, (hb.cell (World.block_lt_of_cell? w' _ h.2.2.2.2.2.2.2.1)).trans h.2.2.2.2.2.2.2.1, (hb.cell (World.block_lt_of_cell? w' _ h.2.2.2.2.2.2.2.2.1)).trans h.2.2.2.2.2.2.2.2.1, (hb.cell (World.block_lt_of_cell? w' _ h.2.2.2.2.2.2.2.2.2.1)).trans h.2.2.2.2.2.2.2.2.2.1, (hb.cell (World.block_lt_of_cell? w' _ h.2.2.2.2.2.2.2.2.2.2.1)).trans h.2.2.2.2.2.2.2.2.2.2.1, bt h.2.2.2.2.2.2.2.2.2.2.2 hb⟩
theorem fc11_b (h : w'.cell? p0 = some v0 ∧ w'.cell? p1 = some v1 ∧ w'.cell? p2 = some v2 ∧ w'.cell? p3 = some v3 ∧ w'.cell? p4 = some v4 ∧ w'.cell? p5 = some v5 ∧ w'.cell? p6 = some v6 ∧ w'.cell? p7 = some v7 ∧ w'.cell? p8 = some v8 ∧ w'.cell? p9 = some v9 ∧ w'.cell? p10 = some v10 ∧ Below w0.heap.size w0 w') : Below w0.heap.size w0 w' := h.2.2.2.2.2.2.2.2.2.2.2
end

section
variable {w0 W w' w1 : World} {p0 p1 p2 p3 p4 p5 p6 p7 p8 p9 p10 p11 p12 p13 p14 p15 p16 p17 p18 p19 p20 p21 : Addr} {v0 v1 v2 v3 v4 v5 v6 v7 v8 v9 v10 v11 v12 v13 v14 v15 v16 v17 v18 v19 v20 v21 : Value}
theorem fc22_0 (h0 : W.cell? p0 = some v0) (h1 : W.cell? p1 = some v1) (h2 : W.cell? p2 = some v2) (h3 : W.cell? p3 = some v3) (h4 : W.cell? p4 = some v4) (h5 : W.cell? p5 = some v5) (h6 : W.cell? p6 = some v6) (h7 : W.cell? p7 = some v7) (h8 : W.cell? p8 = some v8) (h9 : W.cell? p9 = some v9) (h10 : W.cell? p10 = some v10) (h11 : W.cell? p11 = some v11) (h12 : W.cell? p12 = some v12) (h13 : W.cell? p13 = some v13) (h14 : W.cell? p14 = some v14) (h15 : W.cell? p15 = some v15) (h16 : W.cell? p16 = some v16) (h17 : W.cell? p17 = some v17) (h18 : W.cell? p18 = some v18) (h19 : W.cell? p19 = some v19) (h20 : W.cell? p20 = some v20) (h21 : W.cell? p21 = some v21) (hB : Below w0.heap.size w0 W) : W.drew.cell? p0 = some v0 ∧ W.drew.cell? p1 = some v1 ∧ W.drew.cell? p2 = some v2 ∧ W.drew.cell? p3 = some v3 ∧ W.drew.cell? p4 = some v4 ∧ W.drew.cell? p5 = some v5 ∧ W.drew.cell? p6 = some v6 ∧ W.drew.cell? p7 = some v7 ∧ W.drew.cell? p8 = some v8 ∧ W.drew.cell? p9 = some v9 ∧ W.drew.cell? p10 = some v10 ∧ W.drew.cell? p11 = some v11 ∧ W.drew.cell? p12 = some v12 ∧ W.drew.cell? p13 = some v13 ∧ W.drew.cell? p14 = some v14 ∧ W.drew.cell? p15 = some v15 ∧ W.drew.cell? p16 = some v16 ∧ W.drew.cell? p17 = some v17 ∧ W.drew.cell? p18 = some v18 ∧ W.drew.cell? p19 = some v19 ∧ W.drew.cell? p20 = some v20 ∧ W.drew.cell? p21 = some v21 ∧ Below w0.heap.size w0 W.drew := ⟨h0, h1, h2, h3, h4, h5, h6, h7, h8, h9, h10, h11, h12, h13, h14, h15, h16, h17, h18, h19, h20, h21, hB.drew⟩
theorem fc22_1 (h : w'.cell? p0 = some v0 ∧ w'.cell? p1 = some v1 ∧ w'.cell? p2 = some v2 ∧ w'.cell? p3 = some v3 ∧ w'.cell? p4 = some v4 ∧ w'.cell? p5 = some v5 ∧ w'.cell? p6 = some v6 ∧ w'.cell? p7 = some v7 ∧ w'.cell? p8 = some v8 ∧ w'.cell? p9 = some v9 ∧ w'.cell? p10 = some v10 ∧ w'.cell? p11 = some v11 ∧ w'.cell? p12 = some v12 ∧ w'.cell? p13 = some v13 ∧ w'.cell? p14 = some v14 ∧ w'.cell? p15 = some v15 ∧ w'.cell? p16 = some v16 ∧ w'.cell? p17 = some v17 ∧ w'.cell? p18 = some v18 ∧ w'.cell? p19 = some v19 ∧ w'.cell? p20 = some v20 ∧ w'.cell? p21 = some v21 ∧ Below w0.heap.size w0 w') (hb : Below w'.heap.size w' w1) : w1.cell? p0 = some v0 ∧ w1.cell? p1 = some v1 ∧ w1.cell? p2 = some v2 ∧ w1.cell? p3 = some v3 ∧ w1.cell? p4 = some v4 ∧ w1.cell? p5 = some v5 ∧ w1.cell? p6 = some v6 ∧ w1.cell? p7 = some v7 ∧ w1.cell? p8 = some v8 ∧ w1.cell? p9 = some v9 ∧ w1.cell? p10 = some v10 ∧ w1.cell? p11 = some v11 ∧ w1.cell? p12 = some v12 ∧ w1.cell? p13 = some v13 ∧ w1.cell? p14 = some v14 ∧ w1.cell? p15 = some v15 ∧ w1.cell? p16 = some v16 ∧ w1.cell? p17 = some v17 ∧ w1.cell? p18 = some v18 ∧ w1.cell? p19 = some v19 ∧ w1.cell? p20 = some v20 ∧ w1.cell? p21 = some v21 ∧ Below w0.heap.size w0 w1 :=
  ⟨(hb.cell (World.block_lt_of_cell? w' _ h.1)).trans h.1, (hb.cell (World.block_lt_of_cell? w' _ h.2.1)).trans h.2.1, (hb.cell (World.block_lt_of_cell? w' _ h.2.2.1)).trans h.2.2.1, (hb.cell (World.block_lt_of_cell? w' _ h.2.2.2.1)).trans h.2.2.2.1, (hb.cell (World.block_lt_of_cell? w' _ h.2.2.2.2.1)).trans h.2.2.2.2.1, (hb.cell (World.block_lt_of_cell? w' _ h.2.2.2.2.2.1)).trans h.2.2.2.2.2.1, (hb.cell (World.block_lt_of_cell? w' _ h.2.2.2.2.2.2.1)).trans h.2.2.2.2.2.2.1, (hb.cell (World.block_lt_of_cell? w' _ h.2.2.2.2.2.2.2.1)).trans h.2.2.2.2.2.2.2.1, (hb.cell (World.block_lt_of_cell? w' _ h.2.2.2.2.2.2.2.2.1)).trans h.2.2.2.2.2.2.2.2.1, (hb.cell (World.block_lt_of_cell? w' _ h.2.2.2.2.2.2.2.2.2.1)).trans h.2.2.2.2.2.2.2.2.2.1, (hb.cell (World.block_lt_of_cell? w' _ h.2.2.2.2.2.2.2.2.2.2.1)).trans h.2.2.2.2.2.2.2.2.2.2.1, (hb.cell (World.block_lt_of_cell? w' _ h.2.2.2.2.2.2.2.2.2.2.2.1)).trans h.2.2.2.2.2.2.2.2.2.2.2.1, (hb.cell (World.block_lt_of_cell? w' _ h.2.2.2.2.2.2.2.2.2.2.2.2.1)).trans h.2.2.2.2.2.2.2.2.2.2.2.2.1, (hb.cell (World.block_lt_of_cell? w' _ h.2.2.2.2.2.2.2.2.2.2.2.2.2.1)).trans h.2.2.2.2.2.2.2.2.2.2.2.2.2.1, (hb.cell (World.block_lt_of_cell? w' _ h.2.2.2.2.2.2.2.2.2.2.2.2.2.2.1)).trans h.2.2.2.2.2.2.2.2.2.2.2.2.2.2.1, (hb.cell (World.block_lt_of_cell? w' _ h.2.2.2.2.2.2.2.2.2.2.2.2.2.2.2.1)).trans h.2.2.2.2.2.2.2.2.2.2.2.2.2.2.2.1, (hb.cell (World.block_lt_of_cell? w' _ h.2.2.2.2.2.2.2.2.2.2.2.2.2.2.2.2.1)).trans h.2.2.2.2.2.2.2.2.2.2.2.2.2.2.2.2.1, (hb.cell (World.block_lt_of_cell? w' _ h.2.2.2.2.2.2.2.2.2.2.2.2.2.2.2.2.2.1)).trans h.2.2.2.2.2.2.2.2.2.2.2.2.2.2.2.2.2.1, (hb.cell (World.block_lt_of_cell? w' _ h.2.2.2.2.2.2.2.2.2.2.2.2.2.2.2.2.2.2.1)).trans h.2.2.2.2.2.2.2.2.2.2.2.2.2.2.2.2.2.2.1, (hb.cell (World.block_lt_of_cell? w' _ h.2.2.2.2.2.2.2.2.2.2.2.2.2.2.2.2.2.2.2.1)).trans h.2.2.2.2.2.2.2.2.2.2.2.2.2.2.2.2.2.2.2.1, (hb.cell (World.block_lt_of_cell? w' _ h.2.2.2.2.2.2.2.2.2.2.2.2.2.2.2.2.2.2.2.2.1)).trans h.2.2.2.2.2.2.2.2.2.2.2.2.2.2.2.2.2.2.2.2.1, (hb.cell (World.block_lt_of_cell? w' _ h.2.2.2.2.2.2.2.2.2.2.2.2.2.2.2.2.2.2.2.2.2.1)).trans h.2.2.2.2.2.2.2.2.2.2.2.2.2.2.2.2.2.2.2.2.2.1, bt h.2.2.2.2.2.2.2.2.2.2.2.2.2.2.2.2.2.2.2.2.2.2 hb⟩
theorem fc22_b (h : w'.cell? p0 = some v0 ∧ w'.cell? p1 = some v1 ∧ w'.cell? p2 = some v2 ∧ w'.cell? p3 = some v3 ∧ w'.cell? p4 = some v4 ∧ w'.cell? p5 = some v5 ∧ w'.cell? p6 = some v6 ∧ w'.cell? p7 = some v7 ∧ w'.cell? p8 = some v8 ∧ w'.cell? p9 = some v9 ∧ w'.cell? p10 = some v10 ∧ w'.cell? p11 = some v11 ∧ w'.cell? p12 = some v12 ∧ w'.cell? p13 = some v13 ∧ w'.cell? p14 = some v14 ∧ w'.cell? p15 = some v15 ∧ w'.cell? p16 = some v16 ∧ w'.cell? p17 = some v17 ∧ w'.cell? p18 = some v18 ∧ w'.cell? p19 = some v19 ∧ w'.cell? p20 = some v20 ∧ w'.cell? p21 = some v21 ∧ Below w0.heap.size w0 w') : Below w0.heap.size w0 w' := h.2.2.2.2.2.2.2.2.2.2.2.2.2.2.2.2.2.2.2.2.2.2
end

theorem enters_goodC : ∀ args w, (callFunc 139 args).run Tryz.prog w = .ok (.enter 139 args) w := enters_of Tryz.func139 (by kernel_rfl) rfl
theorem enters_goodL : ∀ args w, (callFunc 76 args).run Tryz.prog w = .ok (.enter 76 args) w := enters_of Tryz.func76 (by kernel_rfl) rfl
theorem enters_ahC : ∀ args w, (callFunc 140 args).run Tryz.prog w = .ok (.enter 140 args) w := enters_of Tryz.func140 (by kernel_rfl) rfl
theorem enters_ahL : ∀ args w, (callFunc 77 args).run Tryz.prog w = .ok (.enter 77 args) w := enters_of Tryz.func77 (by kernel_rfl) rfl

set_option maxRecDepth 100000 in
set_option maxHeartbeats 2000000 in
theorem ahC_any (a b : Cl) (w : World) :
    Calls Tryz.prog 140 #[clV a, clV b] w fun e w' => e = .returned (.bool (clLt a b)) ∧ Below w.heap.size w w' := by
  have R := Lib.hid (show Op.bytesLess a.ky.toList b.ky.toList = clLt a b by rw [bytesLess_is, ByteArray.toList_eq, ByteArray.toList_eq]; rfl)
  generalize clLt a b = v at R ⊢
  obtain ⟨ky, k, x, s⟩ := a
  obtain ⟨ky2, k2, x2, s2⟩ := b
  dsimp only at R
  go_enter Tryz.func140, Tryz.ntmps140
  go_wp2_with fail
  go_ret
  exact ⟨ret_bool R.out, ba (b0 _ _) _⟩
set_option maxRecDepth 100000 in
set_option maxHeartbeats 2000000 in
theorem ahL_any (a b : Ln) (w : World) :
    Calls Tryz.prog 77 #[lnV a, lnV b] w fun e w' => e = .returned (.bool (lnLt a b)) ∧ Below w.heap.size w w' := by
  have R := Lib.hid (show decide (a.pl < b.pl) = lnLt a b from rfl)
  generalize lnLt a b = v at R ⊢
  obtain ⟨pl, dev, seq, K, ky, ka, na, sa, kb, nb, sb⟩ := a
  obtain ⟨pl2, dev2, seq2, K2, ky2, ka2, na2, sa2, kb2, nb2, sb2⟩ := b
  dsimp only at R
  go_enter Tryz.func77, Tryz.ntmps77
  go_wp2_with fail
  go_ret
  exact ⟨ret_bool R.out, ba (b0 _ _) _⟩

set_option maxRecDepth 100000 in
set_option maxHeartbeats 2000000 in
theorem goodC_any (c : Cl) (w : World) (hf : c.fits) :
    Calls Tryz.prog 139 #[clV c] w fun e w' => e = .returned (.bool c.good) ∧ Below w.heap.size w w' := by
  obtain ⟨ky, k, x, s⟩ := c
  obtain ⟨f1, f2, f3, f4⟩ := hf
  dsimp only at f1 f2 f3 f4
  have hC := Lib.hid (blk_new w (clI ky k x s) 61)
  have hB := b0 w (.cells (clI ky k x s) 61)
  show Calls Tryz.prog 139 #[clV ⟨ky, k, x, s⟩] w fun e w' => e = .returned (.bool (clGoodB ky k x s)) ∧ Below w.heap.size w w'
  generalize hv : clGoodB ky k x s = v
  have HK := Lib.hid (fun W b hb => key_is ky W b hb f1)
  have HG := Lib.hid (fun W => good_any k x s W f2)
  cases h1 : keyB ky.data.toList with
  | false =>
    have R : Hid (false = v) := by show _ = _; rw [← hv]; unfold clGoodB; rw [h1]; rfl
    have H1 := Lib.hid h1
    clear h1 hv f3 f4
    go_enter Tryz.func139, Tryz.ntmps139
    go_wp2_with (go_at_call 156; refine (HK.out _ false H1.out).mono ?_; rintro e w1 ⟨rfl, hb1⟩)
    go_ret
    exact ⟨ret_bool R.out, bt hB hb1⟩
  | true =>
    have H1 := Lib.hid h1
    have R : Hid ((goodB k x s && !(k == 0)) = v) := by show _ = _; rw [← hv]; unfold clGoodB; rw [h1]; rfl
    clear h1 hv f3 f4
    generalize goodB k x s = gb at HG R
    go_enter Tryz.func139, Tryz.ntmps139
    go_wp2_with first
      | (go_at_call 156; refine (HK.out _ true H1.out).mono ?_; rintro e w1 ⟨rfl, hb1⟩; obtain ⟨d0, d1, d2, d3⟩ := (show w1.cell? ⟨w.heap.size, 0, none⟩ = some (.string ky) ∧ w1.cell? ⟨w.heap.size, 1, none⟩ = some (.int .i64 k) ∧ w1.cell? ⟨w.heap.size, 2, none⟩ = some (.int .i64 x) ∧ w1.cell? ⟨w.heap.size, 3, none⟩ = some (.string s) from have q := hC.out.keep hb1; ⟨q.cell 0, q.cell 1, q.cell 2, q.cell 3⟩))
      | (go_at_call 117; refine (HG.out _).mono ?_; rintro e w2 ⟨rfl, hb2⟩; obtain ⟨u0, u1, u2, u3⟩ := (show w2.cell? ⟨w.heap.size, 0, none⟩ = some (.string ky) ∧ w2.cell? ⟨w.heap.size, 1, none⟩ = some (.int .i64 k) ∧ w2.cell? ⟨w.heap.size, 2, none⟩ = some (.int .i64 x) ∧ w2.cell? ⟨w.heap.size, 3, none⟩ = some (.string s) from have q := (hC.out.keep hb1).keep hb2; ⟨q.cell 0, q.cell 1, q.cell 2, q.cell 3⟩))
    all_goals go_ret
    all_goals refine ⟨ret_bool ?_, bt (bt hB hb1) hb2⟩
    all_goals rw [← R.out]
    all_goals first | rfl | (simp_all; done) | (simp_all; rfl)

set_option maxRecDepth 100000 in
set_option maxHeartbeats 2000000 in
theorem goodL_any (c : Ln) (w : World) (hf : c.fits) :
    Calls Tryz.prog 76 #[lnV c] w fun e w' => e = .returned (.bool c.good) ∧ Below w.heap.size w w' := by
  obtain ⟨pl, y⟩ := c
  have HG := Lib.hid (fun W => stampGood_any y W hf)
  have R : Hid ((Ln.mk pl y).good = (plB pl && y.good)) := rfl
  generalize (Ln.mk pl y).good = v at R ⊢
  generalize y.good = gb at HG R
  obtain ⟨dev, seq, K, ky, ka, na, sa, kb, nb, sb⟩ := y
  have hB := b0 w (.cells (lnI pl dev seq K ky ka na sa kb nb sb) 49)
  clear hf
  by_cases h0 : 0 ≤ pl
  · by_cases h1 : pl < 4096
    · have R2 : Hid (gb = v) := by
        show _ = _
        rw [R.out]
        unfold plB
        rw [decide_eq_true (by omega), Bool.true_and]
      clear R
      go_enter Tryz.func76, Tryz.ntmps76
      go_wp2_with (go_at_call 73; refine (HG.out _).mono ?_; rintro e w2 ⟨rfl, hb2⟩)
      go_ret
      exact ⟨ret_bool R2.out, bt hB hb2⟩
    · have R2 : Hid (false = v) := by
        show _ = _
        rw [R.out]
        unfold plB
        rw [decide_eq_false (by omega), Bool.false_and]
      clear R
      go_enter Tryz.func76, Tryz.ntmps76
      go_wp2_with fail
      go_ret
      exact ⟨ret_bool R2.out, hB⟩
  · have R2 : Hid (false = v) := by
      show _ = _
      rw [R.out]
      unfold plB
      rw [decide_eq_false (by omega), Bool.false_and]
    clear R
    go_enter Tryz.func76, Tryz.ntmps76
    go_wp2_with fail
    go_ret
    exact ⟨ret_bool R2.out, hB⟩

set_option maxRecDepth 100000 in
set_option maxHeartbeats 8000000 in
theorem risingC_any (A : Option Addr) (n c : Nat) (l : List Cl) (w : World) (hn : l.length = n) (hr : RdX 4 w.heap.size w A (l.map Cl.cells)) (hm : n ≤ maxLen) (hf : ∀ x, x ∈ l → x.fits) :
    Calls Tryz.prog 138 #[.slice A n c, .func (.func 139) #[] #[], .func (.func 140) #[] #[]] w fun e w' => e = .returned (.bool (goodCls l)) ∧ Below w.heap.size w w' := by
  unfold maxLen at hm
  have eg1 := enters_goodC
  have eg2 := enters_ahC
  have HN := Lib.hid hn
  have HR := Lib.hid (fun W (h : Below w.heap.size w W) => hr.keep (W' := W) h (Nat.le_refl _))
  clear hn hr
  go_enter Tryz.func138, Tryz.ntmps138
  go_wp2_with fail
  go_loopw [7, 11] (fun _ i wr => ∃ k : Nat, k ≤ n ∧ i = .int .i64 k ∧ Hid (∀ j, j < k → GoodAt Cl.good clLt l j) ∧ Below w.heap.size w wr) (fun _ i _ => n - (intOf i).toNat)
  case atStart => exact ⟨0, Nat.zero_le _, rfl, fun j hj => by omega, Below.refl _ _⟩
  case round =>
    obtain ⟨k, hk, rfl, hA, hW⟩ := hrel
    by_cases hlt : k < n
    · obtain ⟨x, hx⟩ : ∃ x, l[k]? = some x := ⟨_, List.getElem?_eq_getElem (show k < l.length by have := HN.out; omega)⟩
      obtain ⟨ad, rfl, _, hc⟩ := HR.out wr hW k _ (map_get hx)
      have i1 : (0 : Int) ≤ (k : Int) := by omega
      have i2 : (k : Int) < (n : Int) := by omega
      have HX := Lib.hid hx
      have HG := Lib.hid (fun W => goodC_any x W (hf x (List.mem_of_getElem? hx)))
      clear hx
      have q0 : wr.cell? (ad.add (k * 4)) = some (.string x.ky) := (celX hc).1 _ rfl
      have q1 : wr.cell? ⟨(ad.add (k * 4)).block, (ad.add (k * 4)).off + 1, none⟩ = some (.int .i64 x.k) := (celX hc).2 0 _ rfl
      have q2 : wr.cell? ⟨(ad.add (k * 4)).block, (ad.add (k * 4)).off + 2, none⟩ = some (.int .i64 x.x) := (celX hc).2 1 _ rfl
      have q3 : wr.cell? ⟨(ad.add (k * 4)).block, (ad.add (k * 4)).off + 3, none⟩ = some (.string x.s) := (celX hc).2 2 _ rfl
      clear hc
      go_upto_region 4 with fail
      have hX := blk_new wr x.cells 61
      have hW3 := ba hW (.cells x.cells 61)
      clear q0 q1 q2 q3 hW
      generalize wr.alloc (.cells x.cells 61) = W3 at hX hW3 ⊢
      generalize wr.heap.size = b at hX ⊢
      cases hg : x.good with
      | false =>
        rw [hg] at HG
        have R := Lib.hid (goodLs_no (lt := clLt) HX.out (.inl hg))
        clear hg
        refine wp_region_noPanic ?_
        refine wp_region_held_drew (S := (fun w' => w'.cell? ⟨b, 0, none⟩ = some (.string x.ky) ∧ w'.cell? ⟨b, 1, none⟩ = some (.int .i64 x.k) ∧ w'.cell? ⟨b, 2, none⟩ = some (.int .i64 x.x) ∧ w'.cell? ⟨b, 3, none⟩ = some (.string x.s) ∧ Below w.heap.size w w')) (by kernel_rfl) ?_ (fun hHeld => ?_)
        · (first | assumption | exact fc4_0 (hX.cell 0) (hX.cell 1) (hX.cell 2) (hX.cell 3) hW3 | exact fc4_1 (by assumption) (by assumption))
        refine wpAnyH_take (i := 0) (oi := ⟨some 16, _, _, _, _, _⟩) (v := ?_) (by rfl) (by kernel_rfl) (by kernel_rfl) (by kernel_rfl) (fun _ _ _ h => h) (Or.inl ⟨by rfl, ?hy⟩) (by assumption) ?_
        case hy => (intro w hSw; (try dsimp only at hSw); go_simp; try with_reducible rfl)
        try simp only [Act.put, List.setIfInBounds_toArray, List.set_cons_zero, List.set_cons_succ]
        refine wpAnyH_take (i := 1) (oi := ⟨some 17, _, _, _, _, _⟩) (v := ?_) (by rfl) (by kernel_rfl) (by kernel_rfl) (by kernel_rfl) (fun _ _ _ h => h) (Or.inl ⟨by rfl, ?hy⟩) (by assumption) ?_
        case hy => (intro w hSw; (try dsimp only at hSw); go_simp; try with_reducible rfl)
        try simp only [Act.put, List.setIfInBounds_toArray, List.set_cons_zero, List.set_cons_succ]
        refine wpAnyH_ready (rs := [2]) (by kernel_rfl) (by simp) ?_
        refine AllReadyH.cons (o := ⟨some 18, _, _, _, _, _⟩) (by rfl) (fun K hK => ?_) ?_
        · (go_simp; (go_at_fn 139; ((with_reducible refine (HG.out _).mono ?_); rintro e w1 ⟨rfl, hb1⟩)); go_wp2_with fail)
          refine hK.out _ _ ?_ (fun hHeld => ?_)
          · (first | assumption | exact fc4_0 (hX.cell 0) (hX.cell 1) (hX.cell 2) (hX.cell 3) hW3 | exact fc4_1 (by assumption) (by assumption))
          clear hK K
          try simp only [Act.put, List.setIfInBounds_toArray, List.set_cons_zero, List.set_cons_succ]
          refine wpAnyH_take (i := 3) (oi := ⟨some 19, _, _, _, _, _⟩) (v := ?_) (by rfl) (by kernel_rfl) (by kernel_rfl) (by kernel_rfl) (fun _ _ _ h => h) (Or.inl ⟨by rfl, ?hy⟩) (by assumption) ?_
          case hy => (intro w hSw; (try dsimp only at hSw); go_simp; try with_reducible rfl)
          try simp only [Act.put, List.setIfInBounds_toArray, List.set_cons_zero, List.set_cons_succ]
          refine wpAnyH_take (i := 4) (oi := ⟨some 20, _, _, _, _, _⟩) (v := ?_) (by rfl) (by kernel_rfl) (by kernel_rfl) (by kernel_rfl) (fun _ _ _ h => h) (Or.inl ⟨by rfl, ?hy⟩) (by assumption) ?_
          case hy => (intro w hSw; (try dsimp only at hSw); go_simp; try with_reducible rfl)
          try simp only [Act.put, List.setIfInBounds_toArray, List.set_cons_zero, List.set_cons_succ]
          refine wpAnyH_take (i := 5) (oi := ⟨some 21, _, _, _, _, _⟩) (v := undef) (by rfl) (by kernel_rfl) (by kernel_rfl) (by kernel_rfl) (fun _ _ _ h => h) (Or.inr ⟨by rfl, rfl⟩) (by assumption) ?_
          try simp only [Act.put, List.setIfInBounds_toArray, List.set_cons_zero, List.set_cons_succ]
          refine wpAnyH_take (i := 6) (oi := ⟨some 22, _, _, _, _, _⟩) (v := undef) (by rfl) (by kernel_rfl) (by kernel_rfl) (by kernel_rfl) (fun _ _ _ h => h) (Or.inr ⟨by rfl, rfl⟩) (by assumption) ?_
          try simp only [Act.put, List.setIfInBounds_toArray, List.set_cons_zero, List.set_cons_succ]
          refine wpAnyH_take (i := 7) (oi := ⟨some 23, _, _, _, _, _⟩) (v := undef) (by rfl) (by kernel_rfl) (by kernel_rfl) (by kernel_rfl) (fun _ _ _ h => h) (Or.inr ⟨by rfl, rfl⟩) (by assumption) ?_
          try simp only [Act.put, List.setIfInBounds_toArray, List.set_cons_zero, List.set_cons_succ]
          refine wpAnyH_take (i := 8) (oi := ⟨some 24, _, _, _, _, _⟩) (v := undef) (by rfl) (by kernel_rfl) (by kernel_rfl) (by kernel_rfl) (fun _ _ _ h => h) (Or.inr ⟨by rfl, rfl⟩) (by assumption) ?_
          try simp only [Act.put, List.setIfInBounds_toArray, List.set_cons_zero, List.set_cons_succ]
          refine wpAnyH_take (i := 9) (oi := ⟨some 25, _, _, _, _, _⟩) (v := undef) (by rfl) (by kernel_rfl) (by kernel_rfl) (by kernel_rfl) (fun _ _ _ h => h) (Or.inr ⟨by rfl, rfl⟩) (by assumption) ?_
          try simp only [Act.put, List.setIfInBounds_toArray, List.set_cons_zero, List.set_cons_succ]
          refine wpAnyH_take (i := 10) (oi := ⟨some 26, _, _, _, _, _⟩) (v := undef) (by rfl) (by kernel_rfl) (by kernel_rfl) (by kernel_rfl) (fun _ _ _ h => h) (Or.inr ⟨by rfl, rfl⟩) (by assumption) ?_
          try simp only [Act.put, List.setIfInBounds_toArray, List.set_cons_zero, List.set_cons_succ]
          refine wpAnyH_take (i := 11) (oi := ⟨some 27, _, _, _, _, _⟩) (v := undef) (by rfl) (by kernel_rfl) (by kernel_rfl) (by kernel_rfl) (fun _ _ _ h => h) (Or.inr ⟨by rfl, rfl⟩) (by assumption) ?_
          try simp only [Act.put, List.setIfInBounds_toArray, List.set_cons_zero, List.set_cons_succ]
          refine wpAnyH_take (i := 12) (oi := ⟨some 28, _, _, _, _, _⟩) (v := undef) (by rfl) (by kernel_rfl) (by kernel_rfl) (by kernel_rfl) (fun _ _ _ h => h) (Or.inr ⟨by rfl, rfl⟩) (by assumption) ?_
          try simp only [Act.put, List.setIfInBounds_toArray, List.set_cons_zero, List.set_cons_succ]
          refine wpAnyH_take (i := 13) (oi := ⟨some 29, _, _, _, _, _⟩) (v := undef) (by rfl) (by kernel_rfl) (by kernel_rfl) (by kernel_rfl) (fun _ _ _ h => h) (Or.inr ⟨by rfl, rfl⟩) (by assumption) ?_
          try simp only [Act.put, List.setIfInBounds_toArray, List.set_cons_zero, List.set_cons_succ]
          refine wpAnyH_take (i := 14) (oi := ⟨some 30, _, _, _, _, _⟩) (v := undef) (by rfl) (by kernel_rfl) (by kernel_rfl) (by kernel_rfl) (fun _ _ _ h => h) (Or.inr ⟨by rfl, rfl⟩) (by assumption) ?_
          try simp only [Act.put, List.setIfInBounds_toArray, List.set_cons_zero, List.set_cons_succ]
          refine wpAnyH_take (i := 15) (oi := ⟨some 31, _, _, _, _, _⟩) (v := undef) (by rfl) (by kernel_rfl) (by kernel_rfl) (by kernel_rfl) (fun _ _ _ h => h) (Or.inr ⟨by rfl, rfl⟩) (by assumption) ?_
          try simp only [Act.put, List.setIfInBounds_toArray, List.set_cons_zero, List.set_cons_succ]
          refine wpAnyH_take (i := 16) (oi := ⟨some 32, _, _, _, _, _⟩) (v := undef) (by rfl) (by kernel_rfl) (by kernel_rfl) (by kernel_rfl) (fun _ _ _ h => h) (Or.inr ⟨by rfl, rfl⟩) (by assumption) ?_
          try simp only [Act.put, List.setIfInBounds_toArray, List.set_cons_zero, List.set_cons_succ]
          refine wpAnyH_take (i := 17) (oi := ⟨some 33, _, _, _, _, _⟩) (v := undef) (by rfl) (by kernel_rfl) (by kernel_rfl) (by kernel_rfl) (fun _ _ _ h => h) (Or.inr ⟨by rfl, rfl⟩) (by assumption) ?_
          try simp only [Act.put, List.setIfInBounds_toArray, List.set_cons_zero, List.set_cons_succ]
          refine wpAnyH_take (i := 18) (oi := ⟨some 34, _, _, _, _, _⟩) (v := ?_) (by rfl) (by kernel_rfl) (by kernel_rfl) (by kernel_rfl) (fun _ _ _ h => h) (Or.inl ⟨by rfl, ?hy⟩) (by assumption) ?_
          case hy => (intro w hSw; (try dsimp only at hSw); go_simp; try with_reducible rfl)
          try simp only [Act.put, List.setIfInBounds_toArray, List.set_cons_zero, List.set_cons_succ]
          refine wpAnyH_done (by kernel_rfl) ?_ _
          refine NoPanic.normal ?_
          have hfin := fc4_b hHeld
          go_wp2_with fail
          go_ret
          exact ⟨ret_bool R.out.symm, hfin⟩
        exact AllReadyH.nil
      | true =>
        rw [hg] at HG
        by_cases k0 : k = 0
        · subst k0
          have HA2 : Hid (∀ j, j < 0 + 1 → GoodAt Cl.good clLt l j) := fun j hj z hz => by
            have e : j = 0 := by omega
            subst e
            rw [HX.out] at hz
            injection hz with hz
            subst hz
            exact ⟨hg, fun y h0 => by omega⟩
          clear hg hA
          refine wp_region_noPanic ?_
          refine wp_region_held_drew (S := (fun w' => w'.cell? ⟨b, 0, none⟩ = some (.string x.ky) ∧ w'.cell? ⟨b, 1, none⟩ = some (.int .i64 x.k) ∧ w'.cell? ⟨b, 2, none⟩ = some (.int .i64 x.x) ∧ w'.cell? ⟨b, 3, none⟩ = some (.string x.s) ∧ Below w.heap.size w w')) (by kernel_rfl) ?_ (fun hHeld => ?_)
          · (first | assumption | exact fc4_0 (hX.cell 0) (hX.cell 1) (hX.cell 2) (hX.cell 3) hW3 | exact fc4_1 (by assumption) (by assumption))
          refine wpAnyH_take (i := 0) (oi := ⟨some 16, _, _, _, _, _⟩) (v := ?_) (by rfl) (by kernel_rfl) (by kernel_rfl) (by kernel_rfl) (fun _ _ _ h => h) (Or.inl ⟨by rfl, ?hy⟩) (by assumption) ?_
          case hy => (intro w hSw; (try dsimp only at hSw); go_simp; try with_reducible rfl)
          try simp only [Act.put, List.setIfInBounds_toArray, List.set_cons_zero, List.set_cons_succ]
          refine wpAnyH_take (i := 1) (oi := ⟨some 17, _, _, _, _, _⟩) (v := ?_) (by rfl) (by kernel_rfl) (by kernel_rfl) (by kernel_rfl) (fun _ _ _ h => h) (Or.inl ⟨by rfl, ?hy⟩) (by assumption) ?_
          case hy => (intro w hSw; (try dsimp only at hSw); go_simp; try with_reducible rfl)
          try simp only [Act.put, List.setIfInBounds_toArray, List.set_cons_zero, List.set_cons_succ]
          refine wpAnyH_ready (rs := [2]) (by kernel_rfl) (by simp) ?_
          refine AllReadyH.cons (o := ⟨some 18, _, _, _, _, _⟩) (by rfl) (fun K hK => ?_) ?_
          · (go_simp; (go_at_fn 139; ((with_reducible refine (HG.out _).mono ?_); rintro e w1 ⟨rfl, hb1⟩)); go_wp2_with fail)
            refine hK.out _ _ ?_ (fun hHeld => ?_)
            · (first | assumption | exact fc4_0 (hX.cell 0) (hX.cell 1) (hX.cell 2) (hX.cell 3) hW3 | exact fc4_1 (by assumption) (by assumption))
            clear hK K
            try simp only [Act.put, List.setIfInBounds_toArray, List.set_cons_zero, List.set_cons_succ]
            refine wpAnyH_take (i := 3) (oi := ⟨some 19, _, _, _, _, _⟩) (v := ?_) (by rfl) (by kernel_rfl) (by kernel_rfl) (by kernel_rfl) (fun _ _ _ h => h) (Or.inl ⟨by rfl, ?hy⟩) (by assumption) ?_
            case hy => (intro w hSw; (try dsimp only at hSw); go_simp; try with_reducible rfl)
            try simp only [Act.put, List.setIfInBounds_toArray, List.set_cons_zero, List.set_cons_succ]
            refine wpAnyH_take (i := 4) (oi := ⟨some 20, _, _, _, _, _⟩) (v := ?_) (by rfl) (by kernel_rfl) (by kernel_rfl) (by kernel_rfl) (fun _ _ _ h => h) (Or.inl ⟨by rfl, ?hy⟩) (by assumption) ?_
            case hy => (intro w hSw; (try dsimp only at hSw); go_simp; try with_reducible rfl)
            try simp only [Act.put, List.setIfInBounds_toArray, List.set_cons_zero, List.set_cons_succ]
            refine wpAnyH_take (i := 5) (oi := ⟨some 21, _, _, _, _, _⟩) (v := ?_) (by rfl) (by kernel_rfl) (by kernel_rfl) (by kernel_rfl) (fun _ _ _ h => h) (Or.inl ⟨by rfl, ?hy⟩) (by assumption) ?_
            case hy => (intro w hSw; (try dsimp only at hSw); go_simp; try with_reducible rfl)
            try simp only [Act.put, List.setIfInBounds_toArray, List.set_cons_zero, List.set_cons_succ]
            refine wpAnyH_take (i := 6) (oi := ⟨some 22, _, _, _, _, _⟩) (v := ?_) (by rfl) (by kernel_rfl) (by kernel_rfl) (by kernel_rfl) (fun _ _ _ h => h) (Or.inl ⟨by rfl, ?hy⟩) (by assumption) ?_
            case hy => (intro w hSw; (try dsimp only at hSw); go_simp; try with_reducible rfl)
            try simp only [Act.put, List.setIfInBounds_toArray, List.set_cons_zero, List.set_cons_succ]
            refine wpAnyH_take (i := 7) (oi := ⟨some 23, _, _, _, _, _⟩) (v := ?_) (by rfl) (by kernel_rfl) (by kernel_rfl) (by kernel_rfl) (fun _ _ _ h => h) (Or.inl ⟨by rfl, ?hy⟩) (by assumption) ?_
            case hy => (intro w hSw; (try dsimp only at hSw); go_simp; try with_reducible rfl)
            try simp only [Act.put, List.setIfInBounds_toArray, List.set_cons_zero, List.set_cons_succ]
            refine wpAnyH_take (i := 8) (oi := ⟨some 24, _, _, _, _, _⟩) (v := undef) (by rfl) (by kernel_rfl) (by kernel_rfl) (by kernel_rfl) (fun _ _ _ h => h) (Or.inr ⟨by rfl, rfl⟩) (by assumption) ?_
            try simp only [Act.put, List.setIfInBounds_toArray, List.set_cons_zero, List.set_cons_succ]
            refine wpAnyH_take (i := 9) (oi := ⟨some 25, _, _, _, _, _⟩) (v := undef) (by rfl) (by kernel_rfl) (by kernel_rfl) (by kernel_rfl) (fun _ _ _ h => h) (Or.inr ⟨by rfl, rfl⟩) (by assumption) ?_
            try simp only [Act.put, List.setIfInBounds_toArray, List.set_cons_zero, List.set_cons_succ]
            refine wpAnyH_take (i := 10) (oi := ⟨some 26, _, _, _, _, _⟩) (v := undef) (by rfl) (by kernel_rfl) (by kernel_rfl) (by kernel_rfl) (fun _ _ _ h => h) (Or.inr ⟨by rfl, rfl⟩) (by assumption) ?_
            try simp only [Act.put, List.setIfInBounds_toArray, List.set_cons_zero, List.set_cons_succ]
            refine wpAnyH_take (i := 11) (oi := ⟨some 27, _, _, _, _, _⟩) (v := undef) (by rfl) (by kernel_rfl) (by kernel_rfl) (by kernel_rfl) (fun _ _ _ h => h) (Or.inr ⟨by rfl, rfl⟩) (by assumption) ?_
            try simp only [Act.put, List.setIfInBounds_toArray, List.set_cons_zero, List.set_cons_succ]
            refine wpAnyH_take (i := 12) (oi := ⟨some 28, _, _, _, _, _⟩) (v := undef) (by rfl) (by kernel_rfl) (by kernel_rfl) (by kernel_rfl) (fun _ _ _ h => h) (Or.inr ⟨by rfl, rfl⟩) (by assumption) ?_
            try simp only [Act.put, List.setIfInBounds_toArray, List.set_cons_zero, List.set_cons_succ]
            refine wpAnyH_take (i := 13) (oi := ⟨some 29, _, _, _, _, _⟩) (v := undef) (by rfl) (by kernel_rfl) (by kernel_rfl) (by kernel_rfl) (fun _ _ _ h => h) (Or.inr ⟨by rfl, rfl⟩) (by assumption) ?_
            try simp only [Act.put, List.setIfInBounds_toArray, List.set_cons_zero, List.set_cons_succ]
            refine wpAnyH_take (i := 14) (oi := ⟨some 30, _, _, _, _, _⟩) (v := undef) (by rfl) (by kernel_rfl) (by kernel_rfl) (by kernel_rfl) (fun _ _ _ h => h) (Or.inr ⟨by rfl, rfl⟩) (by assumption) ?_
            try simp only [Act.put, List.setIfInBounds_toArray, List.set_cons_zero, List.set_cons_succ]
            refine wpAnyH_take (i := 15) (oi := ⟨some 31, _, _, _, _, _⟩) (v := undef) (by rfl) (by kernel_rfl) (by kernel_rfl) (by kernel_rfl) (fun _ _ _ h => h) (Or.inr ⟨by rfl, rfl⟩) (by assumption) ?_
            try simp only [Act.put, List.setIfInBounds_toArray, List.set_cons_zero, List.set_cons_succ]
            refine wpAnyH_take (i := 16) (oi := ⟨some 32, _, _, _, _, _⟩) (v := undef) (by rfl) (by kernel_rfl) (by kernel_rfl) (by kernel_rfl) (fun _ _ _ h => h) (Or.inr ⟨by rfl, rfl⟩) (by assumption) ?_
            try simp only [Act.put, List.setIfInBounds_toArray, List.set_cons_zero, List.set_cons_succ]
            refine wpAnyH_take (i := 17) (oi := ⟨some 33, _, _, _, _, _⟩) (v := ?_) (by rfl) (by kernel_rfl) (by kernel_rfl) (by kernel_rfl) (fun _ _ _ h => h) (Or.inl ⟨by rfl, ?hy⟩) (by assumption) ?_
            case hy => (intro w hSw; (try dsimp only at hSw); go_simp; try with_reducible rfl)
            try simp only [Act.put, List.setIfInBounds_toArray, List.set_cons_zero, List.set_cons_succ]
            refine wpAnyH_take (i := 18) (oi := ⟨some 34, _, _, _, _, _⟩) (v := ?_) (by rfl) (by kernel_rfl) (by kernel_rfl) (by kernel_rfl) (fun _ _ _ h => h) (Or.inl ⟨by rfl, ?hy⟩) (by assumption) ?_
            case hy => (intro w hSw; (try dsimp only at hSw); go_simp; try with_reducible rfl)
            try simp only [Act.put, List.setIfInBounds_toArray, List.set_cons_zero, List.set_cons_succ]
            refine wpAnyH_done (by kernel_rfl) ?_ _
            refine NoPanic.normal ?_
            have hfin := fc4_b hHeld
            go_wp2_with fail
            go_roundw
            case rel => exact ⟨0 + 1, by omega, by go_num, HA2, hfin⟩
            case measure => simp [intOf]; omega
          exact AllReadyH.nil
        · obtain ⟨k1, rfl⟩ : ∃ k1, k = k1 + 1 := ⟨k - 1, by omega⟩
          obtain ⟨y, hy⟩ : ∃ y, l[k1]? = some y := ⟨_, List.getElem?_eq_getElem (show k1 < l.length by have := HN.out; omega)⟩
          obtain ⟨ad2, e2, _, hcy⟩ := HR.out W3 hW3 k1 _ (map_get hy)
          injection e2 with e2
          subst e2
          have HY := Lib.hid hy
          clear hy
          have hY0 : W3.cell? (ad.add (k1 * 4)) = some (.string y.ky) := (celX hcy).1 _ rfl
          have hY1 : W3.cell? ⟨(ad.add (k1 * 4)).block, (ad.add (k1 * 4)).off + 1, none⟩ = some (.int .i64 y.k) := (celX hcy).2 0 _ rfl
          have hY2 : W3.cell? ⟨(ad.add (k1 * 4)).block, (ad.add (k1 * 4)).off + 2, none⟩ = some (.int .i64 y.x) := (celX hcy).2 1 _ rfl
          have hY3 : W3.cell? ⟨(ad.add (k1 * 4)).block, (ad.add (k1 * 4)).off + 3, none⟩ = some (.string y.s) := (celX hcy).2 2 _ rfl
          clear hcy
          have j0 : ((k1 + 1 : Nat) : Int) - 1 = (k1 : Int) := by omega
          have j1 : (0 : Int) ≤ (k1 : Int) := by omega
          have j2 : (k1 : Int) < (n : Int) := by omega
          have j3 : (0 : Int) < ((k1 + 1 : Nat) : Int) := by omega
          have s4 : IntKind.i64.wrap (k1 : Int) = (k1 : Int) := IntWalk.i64_in _ (by omega)
          have s5 : IntKind.i64.wrap (((k1 + 1 : Nat) : Int) - 1) = (k1 : Int) := by rw [j0]; exact s4
          have s6 : IntKind.i64.wrap ((k1 : Int) + 1 - 1) = (k1 : Int) := by rw [show (k1 : Int) + 1 - 1 = (k1 : Int) by omega]; exact s4
          have s7 : wrap64 (k1 : Int) = (k1 : Int) := by unfold wrap64; omega
          have s8 : decide (0 < k1 + 1) = true := decide_eq_true (by omega)
          have HH := Lib.hid (fun W => ahC_any y x W)
          cases ha : clLt y x with
          | false =>
            rw [ha] at HH
            have R := Lib.hid (goodLs_no (good := Cl.good) (lt := clLt) HX.out (.inr ⟨y, by omega, HY.out, ha⟩))
            clear hg ha
            go_region_held3 (fun w' => w'.cell? ⟨b, 0, none⟩ = some (.string x.ky) ∧ w'.cell? ⟨b, 1, none⟩ = some (.int .i64 x.k) ∧ w'.cell? ⟨b, 2, none⟩ = some (.int .i64 x.x) ∧ w'.cell? ⟨b, 3, none⟩ = some (.string x.s) ∧ w'.cell? (ad.add (k1 * 4)) = some (.string y.ky) ∧ w'.cell? ⟨(ad.add (k1 * 4)).block, (ad.add (k1 * 4)).off + 1, none⟩ = some (.int .i64 y.k) ∧ w'.cell? ⟨(ad.add (k1 * 4)).block, (ad.add (k1 * 4)).off + 2, none⟩ = some (.int .i64 y.x) ∧ w'.cell? ⟨(ad.add (k1 * 4)).block, (ad.add (k1 * 4)).off + 3, none⟩ = some (.string y.s) ∧ Below w.heap.size w w')
              (first | assumption | exact fc8_0 (hX.cell 0) (hX.cell 1) (hX.cell 2) (hX.cell 3) (hY0) (hY1) (hY2) (hY3) hW3 | exact fc8_1 (by assumption) (by assumption))
              (first
                | (go_at_fn 139; ((with_reducible refine (HG.out _).mono ?_); rintro e w1 ⟨rfl, hb1⟩))
                | (go_at_fn 140; ((with_reducible refine (HH.out _).mono ?_); rintro e w2 ⟨rfl, hb2⟩)))
            have hfin := fc8_b (w' := w2) (by assumption)
            go_wp2_with fail
            go_ret
            exact ⟨ret_bool R.out.symm, hfin⟩
          | true =>
            rw [ha] at HH
            have HA2 : Hid (∀ j, j < k1 + 1 + 1 → GoodAt Cl.good clLt l j) := fun j hj => by
              by_cases e : j = k1 + 1
              · subst e
                intro z hz
                rw [HX.out] at hz
                injection hz with hz
                subst hz
                refine ⟨hg, fun y2 _ hy2 => ?_⟩
                rw [Nat.add_sub_cancel, HY.out] at hy2
                injection hy2 with hy2
                subst hy2
                exact ha
              · exact hA.out j (by omega)
            clear hg ha hA
            go_region_held3 (fun w' => w'.cell? ⟨b, 0, none⟩ = some (.string x.ky) ∧ w'.cell? ⟨b, 1, none⟩ = some (.int .i64 x.k) ∧ w'.cell? ⟨b, 2, none⟩ = some (.int .i64 x.x) ∧ w'.cell? ⟨b, 3, none⟩ = some (.string x.s) ∧ w'.cell? (ad.add (k1 * 4)) = some (.string y.ky) ∧ w'.cell? ⟨(ad.add (k1 * 4)).block, (ad.add (k1 * 4)).off + 1, none⟩ = some (.int .i64 y.k) ∧ w'.cell? ⟨(ad.add (k1 * 4)).block, (ad.add (k1 * 4)).off + 2, none⟩ = some (.int .i64 y.x) ∧ w'.cell? ⟨(ad.add (k1 * 4)).block, (ad.add (k1 * 4)).off + 3, none⟩ = some (.string y.s) ∧ Below w.heap.size w w')
              (first | assumption | exact fc8_0 (hX.cell 0) (hX.cell 1) (hX.cell 2) (hX.cell 3) (hY0) (hY1) (hY2) (hY3) hW3 | exact fc8_1 (by assumption) (by assumption))
              (first
                | (go_at_fn 139; ((with_reducible refine (HG.out _).mono ?_); rintro e w1 ⟨rfl, hb1⟩))
                | (go_at_fn 140; ((with_reducible refine (HH.out _).mono ?_); rintro e w2 ⟨rfl, hb2⟩)))
            have hfin := fc8_b (w' := w2) (by assumption)
            go_wp2_with fail
            go_roundw
            case rel => exact ⟨k1 + 1 + 1, by omega, by go_num, HA2, hfin⟩
            case measure => simp [intOf]; omega
    · have hq : ¬ (k : Int) < (n : Int) := by omega
      have R : Hid (goodCls l = true) := goodLs_yes fun j hj => hA.out j (by have := HN.out; omega)
      clear hA
      go_wp2_with fail
      go_ret
      exact ⟨ret_bool R.out.symm, hW⟩
set_option maxRecDepth 100000 in
theorem goodCs_any (A : Option Addr) (n c : Nat) (l : List Cl) (w : World) (hn : l.length = n) (hr : RdX 4 w.heap.size w A (l.map Cl.cells)) (hm : n ≤ maxLen) (hf : ∀ x, x ∈ l → x.fits) :
    Calls Tryz.prog 94 #[.slice A n c] w fun e w' => e = .returned (.bool (goodCls l)) ∧ Below w.heap.size w w' := by
  have HP := Lib.hid (risingC_any A n c l w hn hr hm hf)
  generalize goodCls l = v at HP ⊢
  clear hn hr hf
  go_enter Tryz.func94, Tryz.ntmps94
  go_wp2_with fail
  refine HP.out.mono ?_
  rintro e w1 ⟨rfl, hb1⟩
  go_wp2_with fail
  go_ret
  exact ⟨rfl, hb1⟩

set_option maxRecDepth 100000 in
set_option maxHeartbeats 8000000 in
theorem risingL_any (A : Option Addr) (n c : Nat) (l : List Ln) (w : World) (hn : l.length = n) (hr : RdX 11 w.heap.size w A (l.map Ln.cells)) (hm : n ≤ maxLen) (hf : ∀ x, x ∈ l → x.fits) :
    Calls Tryz.prog 75 #[.slice A n c, .func (.func 76) #[] #[], .func (.func 77) #[] #[]] w fun e w' => e = .returned (.bool (goodLns l)) ∧ Below w.heap.size w w' := by
  unfold maxLen at hm
  have eg1 := enters_goodL
  have eg2 := enters_ahL
  have HN := Lib.hid hn
  have HR := Lib.hid (fun W (h : Below w.heap.size w W) => hr.keep (W' := W) h (Nat.le_refl _))
  clear hn hr
  go_enter Tryz.func75, Tryz.ntmps75
  go_wp2_with fail
  go_loopw [7, 11] (fun _ i wr => ∃ k : Nat, k ≤ n ∧ i = .int .i64 k ∧ Hid (∀ j, j < k → GoodAt Ln.good lnLt l j) ∧ Below w.heap.size w wr) (fun _ i _ => n - (intOf i).toNat)
  case atStart => exact ⟨0, Nat.zero_le _, rfl, fun j hj => by omega, Below.refl _ _⟩
  case round =>
    obtain ⟨k, hk, rfl, hA, hW⟩ := hrel
    by_cases hlt : k < n
    · obtain ⟨x, hx⟩ : ∃ x, l[k]? = some x := ⟨_, List.getElem?_eq_getElem (show k < l.length by have := HN.out; omega)⟩
      obtain ⟨ad, rfl, _, hc⟩ := HR.out wr hW k _ (map_get hx)
      have i1 : (0 : Int) ≤ (k : Int) := by omega
      have i2 : (k : Int) < (n : Int) := by omega
      have HX := Lib.hid hx
      have HG := Lib.hid (fun W => goodL_any x W (hf x (List.mem_of_getElem? hx)))
      clear hx
      have q0 : wr.cell? (ad.add (k * 11)) = some (.int .i64 x.pl) := (celX hc).1 _ rfl
      have q1 : wr.cell? ⟨(ad.add (k * 11)).block, (ad.add (k * 11)).off + 1, none⟩ = some (.int .i64 x.w.dev) := (celX hc).2 0 _ rfl
      have q2 : wr.cell? ⟨(ad.add (k * 11)).block, (ad.add (k * 11)).off + 2, none⟩ = some (.int .i64 x.w.seq) := (celX hc).2 1 _ rfl
      have q3 : wr.cell? ⟨(ad.add (k * 11)).block, (ad.add (k * 11)).off + 3, none⟩ = some (.int .i64 x.w.K) := (celX hc).2 2 _ rfl
      have q4 : wr.cell? ⟨(ad.add (k * 11)).block, (ad.add (k * 11)).off + 4, none⟩ = some (.string x.w.ky) := (celX hc).2 3 _ rfl
      have q5 : wr.cell? ⟨(ad.add (k * 11)).block, (ad.add (k * 11)).off + 5, none⟩ = some (.int .i64 x.w.ka) := (celX hc).2 4 _ rfl
      have q6 : wr.cell? ⟨(ad.add (k * 11)).block, (ad.add (k * 11)).off + 6, none⟩ = some (.int .i64 x.w.na) := (celX hc).2 5 _ rfl
      have q7 : wr.cell? ⟨(ad.add (k * 11)).block, (ad.add (k * 11)).off + 7, none⟩ = some (.string x.w.sa) := (celX hc).2 6 _ rfl
      have q8 : wr.cell? ⟨(ad.add (k * 11)).block, (ad.add (k * 11)).off + 8, none⟩ = some (.int .i64 x.w.kb) := (celX hc).2 7 _ rfl
      have q9 : wr.cell? ⟨(ad.add (k * 11)).block, (ad.add (k * 11)).off + 9, none⟩ = some (.int .i64 x.w.nb) := (celX hc).2 8 _ rfl
      have q10 : wr.cell? ⟨(ad.add (k * 11)).block, (ad.add (k * 11)).off + 10, none⟩ = some (.string x.w.sb) := (celX hc).2 9 _ rfl
      clear hc
      go_upto_region 4 with fail
      have hX := blk_new wr x.cells 49
      have hW3 := ba hW (.cells x.cells 49)
      clear q0 q1 q2 q3 q4 q5 q6 q7 q8 q9 q10 hW
      generalize wr.alloc (.cells x.cells 49) = W3 at hX hW3 ⊢
      generalize wr.heap.size = b at hX ⊢
      cases hg : x.good with
      | false =>
        rw [hg] at HG
        have R := Lib.hid (goodLs_no (lt := lnLt) HX.out (.inl hg))
        clear hg
        refine wp_region_noPanic ?_
        refine wp_region_held_drew (S := (fun w' => w'.cell? ⟨b, 0, none⟩ = some (.int .i64 x.pl) ∧ w'.cell? ⟨b, 1, none⟩ = some (.int .i64 x.w.dev) ∧ w'.cell? ⟨b, 2, none⟩ = some (.int .i64 x.w.seq) ∧ w'.cell? ⟨b, 3, none⟩ = some (.int .i64 x.w.K) ∧ w'.cell? ⟨b, 4, none⟩ = some (.string x.w.ky) ∧ w'.cell? ⟨b, 5, none⟩ = some (.int .i64 x.w.ka) ∧ w'.cell? ⟨b, 6, none⟩ = some (.int .i64 x.w.na) ∧ w'.cell? ⟨b, 7, none⟩ = some (.string x.w.sa) ∧ w'.cell? ⟨b, 8, none⟩ = some (.int .i64 x.w.kb) ∧ w'.cell? ⟨b, 9, none⟩ = some (.int .i64 x.w.nb) ∧ w'.cell? ⟨b, 10, none⟩ = some (.string x.w.sb) ∧ Below w.heap.size w w')) (by kernel_rfl) ?_ (fun hHeld => ?_)
        · (first | assumption | exact fc11_0 (hX.cell 0) (hX.cell 1) (hX.cell 2) (hX.cell 3) (hX.cell 4) (hX.cell 5) (hX.cell 6) (hX.cell 7) (hX.cell 8) (hX.cell 9) (hX.cell 10) hW3 | exact fc11_1 (by assumption) (by assumption))
        refine wpAnyH_take (i := 0) (oi := ⟨some 16, _, _, _, _, _⟩) (v := ?_) (by rfl) (by kernel_rfl) (by kernel_rfl) (by kernel_rfl) (fun _ _ _ h => h) (Or.inl ⟨by rfl, ?hy⟩) (by assumption) ?_
        case hy => (intro w hSw; (try dsimp only at hSw); go_simp; try with_reducible rfl)
        try simp only [Act.put, List.setIfInBounds_toArray, List.set_cons_zero, List.set_cons_succ]
        refine wpAnyH_take (i := 1) (oi := ⟨some 17, _, _, _, _, _⟩) (v := ?_) (by rfl) (by kernel_rfl) (by kernel_rfl) (by kernel_rfl) (fun _ _ _ h => h) (Or.inl ⟨by rfl, ?hy⟩) (by assumption) ?_
        case hy => (intro w hSw; (try dsimp only at hSw); go_simp; try with_reducible rfl)
        try simp only [Act.put, List.setIfInBounds_toArray, List.set_cons_zero, List.set_cons_succ]
        refine wpAnyH_ready (rs := [2]) (by kernel_rfl) (by simp) ?_
        refine AllReadyH.cons (o := ⟨some 18, _, _, _, _, _⟩) (by rfl) (fun K hK => ?_) ?_
        · (go_simp; (go_at_fn 76; ((with_reducible refine (HG.out _).mono ?_); rintro e w1 ⟨rfl, hb1⟩)); go_wp2_with fail)
          refine hK.out _ _ ?_ (fun hHeld => ?_)
          · (first | assumption | exact fc11_0 (hX.cell 0) (hX.cell 1) (hX.cell 2) (hX.cell 3) (hX.cell 4) (hX.cell 5) (hX.cell 6) (hX.cell 7) (hX.cell 8) (hX.cell 9) (hX.cell 10) hW3 | exact fc11_1 (by assumption) (by assumption))
          clear hK K
          try simp only [Act.put, List.setIfInBounds_toArray, List.set_cons_zero, List.set_cons_succ]
          refine wpAnyH_take (i := 3) (oi := ⟨some 19, _, _, _, _, _⟩) (v := ?_) (by rfl) (by kernel_rfl) (by kernel_rfl) (by kernel_rfl) (fun _ _ _ h => h) (Or.inl ⟨by rfl, ?hy⟩) (by assumption) ?_
          case hy => (intro w hSw; (try dsimp only at hSw); go_simp; try with_reducible rfl)
          try simp only [Act.put, List.setIfInBounds_toArray, List.set_cons_zero, List.set_cons_succ]
          refine wpAnyH_take (i := 4) (oi := ⟨some 20, _, _, _, _, _⟩) (v := ?_) (by rfl) (by kernel_rfl) (by kernel_rfl) (by kernel_rfl) (fun _ _ _ h => h) (Or.inl ⟨by rfl, ?hy⟩) (by assumption) ?_
          case hy => (intro w hSw; (try dsimp only at hSw); go_simp; try with_reducible rfl)
          try simp only [Act.put, List.setIfInBounds_toArray, List.set_cons_zero, List.set_cons_succ]
          refine wpAnyH_take (i := 5) (oi := ⟨some 21, _, _, _, _, _⟩) (v := undef) (by rfl) (by kernel_rfl) (by kernel_rfl) (by kernel_rfl) (fun _ _ _ h => h) (Or.inr ⟨by rfl, rfl⟩) (by assumption) ?_
          try simp only [Act.put, List.setIfInBounds_toArray, List.set_cons_zero, List.set_cons_succ]
          refine wpAnyH_take (i := 6) (oi := ⟨some 22, _, _, _, _, _⟩) (v := undef) (by rfl) (by kernel_rfl) (by kernel_rfl) (by kernel_rfl) (fun _ _ _ h => h) (Or.inr ⟨by rfl, rfl⟩) (by assumption) ?_
          try simp only [Act.put, List.setIfInBounds_toArray, List.set_cons_zero, List.set_cons_succ]
          refine wpAnyH_take (i := 7) (oi := ⟨some 23, _, _, _, _, _⟩) (v := undef) (by rfl) (by kernel_rfl) (by kernel_rfl) (by kernel_rfl) (fun _ _ _ h => h) (Or.inr ⟨by rfl, rfl⟩) (by assumption) ?_
          try simp only [Act.put, List.setIfInBounds_toArray, List.set_cons_zero, List.set_cons_succ]
          refine wpAnyH_take (i := 8) (oi := ⟨some 24, _, _, _, _, _⟩) (v := undef) (by rfl) (by kernel_rfl) (by kernel_rfl) (by kernel_rfl) (fun _ _ _ h => h) (Or.inr ⟨by rfl, rfl⟩) (by assumption) ?_
          try simp only [Act.put, List.setIfInBounds_toArray, List.set_cons_zero, List.set_cons_succ]
          refine wpAnyH_take (i := 9) (oi := ⟨some 25, _, _, _, _, _⟩) (v := undef) (by rfl) (by kernel_rfl) (by kernel_rfl) (by kernel_rfl) (fun _ _ _ h => h) (Or.inr ⟨by rfl, rfl⟩) (by assumption) ?_
          try simp only [Act.put, List.setIfInBounds_toArray, List.set_cons_zero, List.set_cons_succ]
          refine wpAnyH_take (i := 10) (oi := ⟨some 26, _, _, _, _, _⟩) (v := undef) (by rfl) (by kernel_rfl) (by kernel_rfl) (by kernel_rfl) (fun _ _ _ h => h) (Or.inr ⟨by rfl, rfl⟩) (by assumption) ?_
          try simp only [Act.put, List.setIfInBounds_toArray, List.set_cons_zero, List.set_cons_succ]
          refine wpAnyH_take (i := 11) (oi := ⟨some 27, _, _, _, _, _⟩) (v := undef) (by rfl) (by kernel_rfl) (by kernel_rfl) (by kernel_rfl) (fun _ _ _ h => h) (Or.inr ⟨by rfl, rfl⟩) (by assumption) ?_
          try simp only [Act.put, List.setIfInBounds_toArray, List.set_cons_zero, List.set_cons_succ]
          refine wpAnyH_take (i := 12) (oi := ⟨some 28, _, _, _, _, _⟩) (v := undef) (by rfl) (by kernel_rfl) (by kernel_rfl) (by kernel_rfl) (fun _ _ _ h => h) (Or.inr ⟨by rfl, rfl⟩) (by assumption) ?_
          try simp only [Act.put, List.setIfInBounds_toArray, List.set_cons_zero, List.set_cons_succ]
          refine wpAnyH_take (i := 13) (oi := ⟨some 29, _, _, _, _, _⟩) (v := undef) (by rfl) (by kernel_rfl) (by kernel_rfl) (by kernel_rfl) (fun _ _ _ h => h) (Or.inr ⟨by rfl, rfl⟩) (by assumption) ?_
          try simp only [Act.put, List.setIfInBounds_toArray, List.set_cons_zero, List.set_cons_succ]
          refine wpAnyH_take (i := 14) (oi := ⟨some 30, _, _, _, _, _⟩) (v := undef) (by rfl) (by kernel_rfl) (by kernel_rfl) (by kernel_rfl) (fun _ _ _ h => h) (Or.inr ⟨by rfl, rfl⟩) (by assumption) ?_
          try simp only [Act.put, List.setIfInBounds_toArray, List.set_cons_zero, List.set_cons_succ]
          refine wpAnyH_take (i := 15) (oi := ⟨some 31, _, _, _, _, _⟩) (v := undef) (by rfl) (by kernel_rfl) (by kernel_rfl) (by kernel_rfl) (fun _ _ _ h => h) (Or.inr ⟨by rfl, rfl⟩) (by assumption) ?_
          try simp only [Act.put, List.setIfInBounds_toArray, List.set_cons_zero, List.set_cons_succ]
          refine wpAnyH_take (i := 16) (oi := ⟨some 32, _, _, _, _, _⟩) (v := undef) (by rfl) (by kernel_rfl) (by kernel_rfl) (by kernel_rfl) (fun _ _ _ h => h) (Or.inr ⟨by rfl, rfl⟩) (by assumption) ?_
          try simp only [Act.put, List.setIfInBounds_toArray, List.set_cons_zero, List.set_cons_succ]
          refine wpAnyH_take (i := 17) (oi := ⟨some 33, _, _, _, _, _⟩) (v := undef) (by rfl) (by kernel_rfl) (by kernel_rfl) (by kernel_rfl) (fun _ _ _ h => h) (Or.inr ⟨by rfl, rfl⟩) (by assumption) ?_
          try simp only [Act.put, List.setIfInBounds_toArray, List.set_cons_zero, List.set_cons_succ]
          refine wpAnyH_take (i := 18) (oi := ⟨some 34, _, _, _, _, _⟩) (v := ?_) (by rfl) (by kernel_rfl) (by kernel_rfl) (by kernel_rfl) (fun _ _ _ h => h) (Or.inl ⟨by rfl, ?hy⟩) (by assumption) ?_
          case hy => (intro w hSw; (try dsimp only at hSw); go_simp; try with_reducible rfl)
          try simp only [Act.put, List.setIfInBounds_toArray, List.set_cons_zero, List.set_cons_succ]
          refine wpAnyH_done (by kernel_rfl) ?_ _
          refine NoPanic.normal ?_
          have hfin := fc11_b hHeld
          go_wp2_with fail
          go_ret
          exact ⟨ret_bool R.out.symm, hfin⟩
        exact AllReadyH.nil
      | true =>
        rw [hg] at HG
        by_cases k0 : k = 0
        · subst k0
          have HA2 : Hid (∀ j, j < 0 + 1 → GoodAt Ln.good lnLt l j) := fun j hj z hz => by
            have e : j = 0 := by omega
            subst e
            rw [HX.out] at hz
            injection hz with hz
            subst hz
            exact ⟨hg, fun y h0 => by omega⟩
          clear hg hA
          refine wp_region_noPanic ?_
          refine wp_region_held_drew (S := (fun w' => w'.cell? ⟨b, 0, none⟩ = some (.int .i64 x.pl) ∧ w'.cell? ⟨b, 1, none⟩ = some (.int .i64 x.w.dev) ∧ w'.cell? ⟨b, 2, none⟩ = some (.int .i64 x.w.seq) ∧ w'.cell? ⟨b, 3, none⟩ = some (.int .i64 x.w.K) ∧ w'.cell? ⟨b, 4, none⟩ = some (.string x.w.ky) ∧ w'.cell? ⟨b, 5, none⟩ = some (.int .i64 x.w.ka) ∧ w'.cell? ⟨b, 6, none⟩ = some (.int .i64 x.w.na) ∧ w'.cell? ⟨b, 7, none⟩ = some (.string x.w.sa) ∧ w'.cell? ⟨b, 8, none⟩ = some (.int .i64 x.w.kb) ∧ w'.cell? ⟨b, 9, none⟩ = some (.int .i64 x.w.nb) ∧ w'.cell? ⟨b, 10, none⟩ = some (.string x.w.sb) ∧ Below w.heap.size w w')) (by kernel_rfl) ?_ (fun hHeld => ?_)
          · (first | assumption | exact fc11_0 (hX.cell 0) (hX.cell 1) (hX.cell 2) (hX.cell 3) (hX.cell 4) (hX.cell 5) (hX.cell 6) (hX.cell 7) (hX.cell 8) (hX.cell 9) (hX.cell 10) hW3 | exact fc11_1 (by assumption) (by assumption))
          refine wpAnyH_take (i := 0) (oi := ⟨some 16, _, _, _, _, _⟩) (v := ?_) (by rfl) (by kernel_rfl) (by kernel_rfl) (by kernel_rfl) (fun _ _ _ h => h) (Or.inl ⟨by rfl, ?hy⟩) (by assumption) ?_
          case hy => (intro w hSw; (try dsimp only at hSw); go_simp; try with_reducible rfl)
          try simp only [Act.put, List.setIfInBounds_toArray, List.set_cons_zero, List.set_cons_succ]
          refine wpAnyH_take (i := 1) (oi := ⟨some 17, _, _, _, _, _⟩) (v := ?_) (by rfl) (by kernel_rfl) (by kernel_rfl) (by kernel_rfl) (fun _ _ _ h => h) (Or.inl ⟨by rfl, ?hy⟩) (by assumption) ?_
          case hy => (intro w hSw; (try dsimp only at hSw); go_simp; try with_reducible rfl)
          try simp only [Act.put, List.setIfInBounds_toArray, List.set_cons_zero, List.set_cons_succ]
          refine wpAnyH_ready (rs := [2]) (by kernel_rfl) (by simp) ?_
          refine AllReadyH.cons (o := ⟨some 18, _, _, _, _, _⟩) (by rfl) (fun K hK => ?_) ?_
          · (go_simp; (go_at_fn 76; ((with_reducible refine (HG.out _).mono ?_); rintro e w1 ⟨rfl, hb1⟩)); go_wp2_with fail)
            refine hK.out _ _ ?_ (fun hHeld => ?_)
            · (first | assumption | exact fc11_0 (hX.cell 0) (hX.cell 1) (hX.cell 2) (hX.cell 3) (hX.cell 4) (hX.cell 5) (hX.cell 6) (hX.cell 7) (hX.cell 8) (hX.cell 9) (hX.cell 10) hW3 | exact fc11_1 (by assumption) (by assumption))
            clear hK K
            try simp only [Act.put, List.setIfInBounds_toArray, List.set_cons_zero, List.set_cons_succ]
            refine wpAnyH_take (i := 3) (oi := ⟨some 19, _, _, _, _, _⟩) (v := ?_) (by rfl) (by kernel_rfl) (by kernel_rfl) (by kernel_rfl) (fun _ _ _ h => h) (Or.inl ⟨by rfl, ?hy⟩) (by assumption) ?_
            case hy => (intro w hSw; (try dsimp only at hSw); go_simp; try with_reducible rfl)
            try simp only [Act.put, List.setIfInBounds_toArray, List.set_cons_zero, List.set_cons_succ]
            refine wpAnyH_take (i := 4) (oi := ⟨some 20, _, _, _, _, _⟩) (v := ?_) (by rfl) (by kernel_rfl) (by kernel_rfl) (by kernel_rfl) (fun _ _ _ h => h) (Or.inl ⟨by rfl, ?hy⟩) (by assumption) ?_
            case hy => (intro w hSw; (try dsimp only at hSw); go_simp; try with_reducible rfl)
            try simp only [Act.put, List.setIfInBounds_toArray, List.set_cons_zero, List.set_cons_succ]
            refine wpAnyH_take (i := 5) (oi := ⟨some 21, _, _, _, _, _⟩) (v := ?_) (by rfl) (by kernel_rfl) (by kernel_rfl) (by kernel_rfl) (fun _ _ _ h => h) (Or.inl ⟨by rfl, ?hy⟩) (by assumption) ?_
            case hy => (intro w hSw; (try dsimp only at hSw); go_simp; try with_reducible rfl)
            try simp only [Act.put, List.setIfInBounds_toArray, List.set_cons_zero, List.set_cons_succ]
            refine wpAnyH_take (i := 6) (oi := ⟨some 22, _, _, _, _, _⟩) (v := ?_) (by rfl) (by kernel_rfl) (by kernel_rfl) (by kernel_rfl) (fun _ _ _ h => h) (Or.inl ⟨by rfl, ?hy⟩) (by assumption) ?_
            case hy => (intro w hSw; (try dsimp only at hSw); go_simp; try with_reducible rfl)
            try simp only [Act.put, List.setIfInBounds_toArray, List.set_cons_zero, List.set_cons_succ]
            refine wpAnyH_take (i := 7) (oi := ⟨some 23, _, _, _, _, _⟩) (v := ?_) (by rfl) (by kernel_rfl) (by kernel_rfl) (by kernel_rfl) (fun _ _ _ h => h) (Or.inl ⟨by rfl, ?hy⟩) (by assumption) ?_
            case hy => (intro w hSw; (try dsimp only at hSw); go_simp; try with_reducible rfl)
            try simp only [Act.put, List.setIfInBounds_toArray, List.set_cons_zero, List.set_cons_succ]
            refine wpAnyH_take (i := 8) (oi := ⟨some 24, _, _, _, _, _⟩) (v := undef) (by rfl) (by kernel_rfl) (by kernel_rfl) (by kernel_rfl) (fun _ _ _ h => h) (Or.inr ⟨by rfl, rfl⟩) (by assumption) ?_
            try simp only [Act.put, List.setIfInBounds_toArray, List.set_cons_zero, List.set_cons_succ]
            refine wpAnyH_take (i := 9) (oi := ⟨some 25, _, _, _, _, _⟩) (v := undef) (by rfl) (by kernel_rfl) (by kernel_rfl) (by kernel_rfl) (fun _ _ _ h => h) (Or.inr ⟨by rfl, rfl⟩) (by assumption) ?_
            try simp only [Act.put, List.setIfInBounds_toArray, List.set_cons_zero, List.set_cons_succ]
            refine wpAnyH_take (i := 10) (oi := ⟨some 26, _, _, _, _, _⟩) (v := undef) (by rfl) (by kernel_rfl) (by kernel_rfl) (by kernel_rfl) (fun _ _ _ h => h) (Or.inr ⟨by rfl, rfl⟩) (by assumption) ?_
            try simp only [Act.put, List.setIfInBounds_toArray, List.set_cons_zero, List.set_cons_succ]
            refine wpAnyH_take (i := 11) (oi := ⟨some 27, _, _, _, _, _⟩) (v := undef) (by rfl) (by kernel_rfl) (by kernel_rfl) (by kernel_rfl) (fun _ _ _ h => h) (Or.inr ⟨by rfl, rfl⟩) (by assumption) ?_
            try simp only [Act.put, List.setIfInBounds_toArray, List.set_cons_zero, List.set_cons_succ]
            refine wpAnyH_take (i := 12) (oi := ⟨some 28, _, _, _, _, _⟩) (v := undef) (by rfl) (by kernel_rfl) (by kernel_rfl) (by kernel_rfl) (fun _ _ _ h => h) (Or.inr ⟨by rfl, rfl⟩) (by assumption) ?_
            try simp only [Act.put, List.setIfInBounds_toArray, List.set_cons_zero, List.set_cons_succ]
            refine wpAnyH_take (i := 13) (oi := ⟨some 29, _, _, _, _, _⟩) (v := undef) (by rfl) (by kernel_rfl) (by kernel_rfl) (by kernel_rfl) (fun _ _ _ h => h) (Or.inr ⟨by rfl, rfl⟩) (by assumption) ?_
            try simp only [Act.put, List.setIfInBounds_toArray, List.set_cons_zero, List.set_cons_succ]
            refine wpAnyH_take (i := 14) (oi := ⟨some 30, _, _, _, _, _⟩) (v := undef) (by rfl) (by kernel_rfl) (by kernel_rfl) (by kernel_rfl) (fun _ _ _ h => h) (Or.inr ⟨by rfl, rfl⟩) (by assumption) ?_
            try simp only [Act.put, List.setIfInBounds_toArray, List.set_cons_zero, List.set_cons_succ]
            refine wpAnyH_take (i := 15) (oi := ⟨some 31, _, _, _, _, _⟩) (v := undef) (by rfl) (by kernel_rfl) (by kernel_rfl) (by kernel_rfl) (fun _ _ _ h => h) (Or.inr ⟨by rfl, rfl⟩) (by assumption) ?_
            try simp only [Act.put, List.setIfInBounds_toArray, List.set_cons_zero, List.set_cons_succ]
            refine wpAnyH_take (i := 16) (oi := ⟨some 32, _, _, _, _, _⟩) (v := undef) (by rfl) (by kernel_rfl) (by kernel_rfl) (by kernel_rfl) (fun _ _ _ h => h) (Or.inr ⟨by rfl, rfl⟩) (by assumption) ?_
            try simp only [Act.put, List.setIfInBounds_toArray, List.set_cons_zero, List.set_cons_succ]
            refine wpAnyH_take (i := 17) (oi := ⟨some 33, _, _, _, _, _⟩) (v := ?_) (by rfl) (by kernel_rfl) (by kernel_rfl) (by kernel_rfl) (fun _ _ _ h => h) (Or.inl ⟨by rfl, ?hy⟩) (by assumption) ?_
            case hy => (intro w hSw; (try dsimp only at hSw); go_simp; try with_reducible rfl)
            try simp only [Act.put, List.setIfInBounds_toArray, List.set_cons_zero, List.set_cons_succ]
            refine wpAnyH_take (i := 18) (oi := ⟨some 34, _, _, _, _, _⟩) (v := ?_) (by rfl) (by kernel_rfl) (by kernel_rfl) (by kernel_rfl) (fun _ _ _ h => h) (Or.inl ⟨by rfl, ?hy⟩) (by assumption) ?_
            case hy => (intro w hSw; (try dsimp only at hSw); go_simp; try with_reducible rfl)
            try simp only [Act.put, List.setIfInBounds_toArray, List.set_cons_zero, List.set_cons_succ]
            refine wpAnyH_done (by kernel_rfl) ?_ _
            refine NoPanic.normal ?_
            have hfin := fc11_b hHeld
            go_wp2_with fail
            go_roundw
            case rel => exact ⟨0 + 1, by omega, by go_num, HA2, hfin⟩
            case measure => simp [intOf]; omega
          exact AllReadyH.nil
        · obtain ⟨k1, rfl⟩ : ∃ k1, k = k1 + 1 := ⟨k - 1, by omega⟩
          obtain ⟨y, hy⟩ : ∃ y, l[k1]? = some y := ⟨_, List.getElem?_eq_getElem (show k1 < l.length by have := HN.out; omega)⟩
          obtain ⟨ad2, e2, _, hcy⟩ := HR.out W3 hW3 k1 _ (map_get hy)
          injection e2 with e2
          subst e2
          have HY := Lib.hid hy
          clear hy
          have hY0 : W3.cell? (ad.add (k1 * 11)) = some (.int .i64 y.pl) := (celX hcy).1 _ rfl
          have hY1 : W3.cell? ⟨(ad.add (k1 * 11)).block, (ad.add (k1 * 11)).off + 1, none⟩ = some (.int .i64 y.w.dev) := (celX hcy).2 0 _ rfl
          have hY2 : W3.cell? ⟨(ad.add (k1 * 11)).block, (ad.add (k1 * 11)).off + 2, none⟩ = some (.int .i64 y.w.seq) := (celX hcy).2 1 _ rfl
          have hY3 : W3.cell? ⟨(ad.add (k1 * 11)).block, (ad.add (k1 * 11)).off + 3, none⟩ = some (.int .i64 y.w.K) := (celX hcy).2 2 _ rfl
          have hY4 : W3.cell? ⟨(ad.add (k1 * 11)).block, (ad.add (k1 * 11)).off + 4, none⟩ = some (.string y.w.ky) := (celX hcy).2 3 _ rfl
          have hY5 : W3.cell? ⟨(ad.add (k1 * 11)).block, (ad.add (k1 * 11)).off + 5, none⟩ = some (.int .i64 y.w.ka) := (celX hcy).2 4 _ rfl
          have hY6 : W3.cell? ⟨(ad.add (k1 * 11)).block, (ad.add (k1 * 11)).off + 6, none⟩ = some (.int .i64 y.w.na) := (celX hcy).2 5 _ rfl
          have hY7 : W3.cell? ⟨(ad.add (k1 * 11)).block, (ad.add (k1 * 11)).off + 7, none⟩ = some (.string y.w.sa) := (celX hcy).2 6 _ rfl
          have hY8 : W3.cell? ⟨(ad.add (k1 * 11)).block, (ad.add (k1 * 11)).off + 8, none⟩ = some (.int .i64 y.w.kb) := (celX hcy).2 7 _ rfl
          have hY9 : W3.cell? ⟨(ad.add (k1 * 11)).block, (ad.add (k1 * 11)).off + 9, none⟩ = some (.int .i64 y.w.nb) := (celX hcy).2 8 _ rfl
          have hY10 : W3.cell? ⟨(ad.add (k1 * 11)).block, (ad.add (k1 * 11)).off + 10, none⟩ = some (.string y.w.sb) := (celX hcy).2 9 _ rfl
          clear hcy
          have j0 : ((k1 + 1 : Nat) : Int) - 1 = (k1 : Int) := by omega
          have j1 : (0 : Int) ≤ (k1 : Int) := by omega
          have j2 : (k1 : Int) < (n : Int) := by omega
          have j3 : (0 : Int) < ((k1 + 1 : Nat) : Int) := by omega
          have s4 : IntKind.i64.wrap (k1 : Int) = (k1 : Int) := IntWalk.i64_in _ (by omega)
          have s5 : IntKind.i64.wrap (((k1 + 1 : Nat) : Int) - 1) = (k1 : Int) := by rw [j0]; exact s4
          have s6 : IntKind.i64.wrap ((k1 : Int) + 1 - 1) = (k1 : Int) := by rw [show (k1 : Int) + 1 - 1 = (k1 : Int) by omega]; exact s4
          have s7 : wrap64 (k1 : Int) = (k1 : Int) := by unfold wrap64; omega
          have s8 : decide (0 < k1 + 1) = true := decide_eq_true (by omega)
          have HH := Lib.hid (fun W => ahL_any y x W)
          cases ha : lnLt y x with
          | false =>
            rw [ha] at HH
            have R := Lib.hid (goodLs_no (good := Ln.good) (lt := lnLt) HX.out (.inr ⟨y, by omega, HY.out, ha⟩))
            clear hg ha
            go_region_held3 (fun w' => w'.cell? ⟨b, 0, none⟩ = some (.int .i64 x.pl) ∧ w'.cell? ⟨b, 1, none⟩ = some (.int .i64 x.w.dev) ∧ w'.cell? ⟨b, 2, none⟩ = some (.int .i64 x.w.seq) ∧ w'.cell? ⟨b, 3, none⟩ = some (.int .i64 x.w.K) ∧ w'.cell? ⟨b, 4, none⟩ = some (.string x.w.ky) ∧ w'.cell? ⟨b, 5, none⟩ = some (.int .i64 x.w.ka) ∧ w'.cell? ⟨b, 6, none⟩ = some (.int .i64 x.w.na) ∧ w'.cell? ⟨b, 7, none⟩ = some (.string x.w.sa) ∧ w'.cell? ⟨b, 8, none⟩ = some (.int .i64 x.w.kb) ∧ w'.cell? ⟨b, 9, none⟩ = some (.int .i64 x.w.nb) ∧ w'.cell? ⟨b, 10, none⟩ = some (.string x.w.sb) ∧ w'.cell? (ad.add (k1 * 11)) = some (.int .i64 y.pl) ∧ w'.cell? ⟨(ad.add (k1 * 11)).block, (ad.add (k1 * 11)).off + 1, none⟩ = some (.int .i64 y.w.dev) ∧ w'.cell? ⟨(ad.add (k1 * 11)).block, (ad.add (k1 * 11)).off + 2, none⟩ = some (.int .i64 y.w.seq) ∧ w'.cell? ⟨(ad.add (k1 * 11)).block, (ad.add (k1 * 11)).off + 3, none⟩ = some (.int .i64 y.w.K) ∧ w'.cell? ⟨(ad.add (k1 * 11)).block, (ad.add (k1 * 11)).off + 4, none⟩ = some (.string y.w.ky) ∧ w'.cell? ⟨(ad.add (k1 * 11)).block, (ad.add (k1 * 11)).off + 5, none⟩ = some (.int .i64 y.w.ka) ∧ w'.cell? ⟨(ad.add (k1 * 11)).block, (ad.add (k1 * 11)).off + 6, none⟩ = some (.int .i64 y.w.na) ∧ w'.cell? ⟨(ad.add (k1 * 11)).block, (ad.add (k1 * 11)).off + 7, none⟩ = some (.string y.w.sa) ∧ w'.cell? ⟨(ad.add (k1 * 11)).block, (ad.add (k1 * 11)).off + 8, none⟩ = some (.int .i64 y.w.kb) ∧ w'.cell? ⟨(ad.add (k1 * 11)).block, (ad.add (k1 * 11)).off + 9, none⟩ = some (.int .i64 y.w.nb) ∧ w'.cell? ⟨(ad.add (k1 * 11)).block, (ad.add (k1 * 11)).off + 10, none⟩ = some (.string y.w.sb) ∧ Below w.heap.size w w')
              (first | assumption | exact fc22_0 (hX.cell 0) (hX.cell 1) (hX.cell 2) (hX.cell 3) (hX.cell 4) (hX.cell 5) (hX.cell 6) (hX.cell 7) (hX.cell 8) (hX.cell 9) (hX.cell 10) (hY0) (hY1) (hY2) (hY3) (hY4) (hY5) (hY6) (hY7) (hY8) (hY9) (hY10) hW3 | exact fc22_1 (by assumption) (by assumption))
              (first
                | (go_at_fn 76; ((with_reducible refine (HG.out _).mono ?_); rintro e w1 ⟨rfl, hb1⟩))
                | (go_at_fn 77; ((with_reducible refine (HH.out _).mono ?_); rintro e w2 ⟨rfl, hb2⟩)))
            have hfin := fc22_b (w' := w2) (by assumption)
            go_wp2_with fail
            go_ret
            exact ⟨ret_bool R.out.symm, hfin⟩
          | true =>
            rw [ha] at HH
            have HA2 : Hid (∀ j, j < k1 + 1 + 1 → GoodAt Ln.good lnLt l j) := fun j hj => by
              by_cases e : j = k1 + 1
              · subst e
                intro z hz
                rw [HX.out] at hz
                injection hz with hz
                subst hz
                refine ⟨hg, fun y2 _ hy2 => ?_⟩
                rw [Nat.add_sub_cancel, HY.out] at hy2
                injection hy2 with hy2
                subst hy2
                exact ha
              · exact hA.out j (by omega)
            clear hg ha hA
            go_region_held3 (fun w' => w'.cell? ⟨b, 0, none⟩ = some (.int .i64 x.pl) ∧ w'.cell? ⟨b, 1, none⟩ = some (.int .i64 x.w.dev) ∧ w'.cell? ⟨b, 2, none⟩ = some (.int .i64 x.w.seq) ∧ w'.cell? ⟨b, 3, none⟩ = some (.int .i64 x.w.K) ∧ w'.cell? ⟨b, 4, none⟩ = some (.string x.w.ky) ∧ w'.cell? ⟨b, 5, none⟩ = some (.int .i64 x.w.ka) ∧ w'.cell? ⟨b, 6, none⟩ = some (.int .i64 x.w.na) ∧ w'.cell? ⟨b, 7, none⟩ = some (.string x.w.sa) ∧ w'.cell? ⟨b, 8, none⟩ = some (.int .i64 x.w.kb) ∧ w'.cell? ⟨b, 9, none⟩ = some (.int .i64 x.w.nb) ∧ w'.cell? ⟨b, 10, none⟩ = some (.string x.w.sb) ∧ w'.cell? (ad.add (k1 * 11)) = some (.int .i64 y.pl) ∧ w'.cell? ⟨(ad.add (k1 * 11)).block, (ad.add (k1 * 11)).off + 1, none⟩ = some (.int .i64 y.w.dev) ∧ w'.cell? ⟨(ad.add (k1 * 11)).block, (ad.add (k1 * 11)).off + 2, none⟩ = some (.int .i64 y.w.seq) ∧ w'.cell? ⟨(ad.add (k1 * 11)).block, (ad.add (k1 * 11)).off + 3, none⟩ = some (.int .i64 y.w.K) ∧ w'.cell? ⟨(ad.add (k1 * 11)).block, (ad.add (k1 * 11)).off + 4, none⟩ = some (.string y.w.ky) ∧ w'.cell? ⟨(ad.add (k1 * 11)).block, (ad.add (k1 * 11)).off + 5, none⟩ = some (.int .i64 y.w.ka) ∧ w'.cell? ⟨(ad.add (k1 * 11)).block, (ad.add (k1 * 11)).off + 6, none⟩ = some (.int .i64 y.w.na) ∧ w'.cell? ⟨(ad.add (k1 * 11)).block, (ad.add (k1 * 11)).off + 7, none⟩ = some (.string y.w.sa) ∧ w'.cell? ⟨(ad.add (k1 * 11)).block, (ad.add (k1 * 11)).off + 8, none⟩ = some (.int .i64 y.w.kb) ∧ w'.cell? ⟨(ad.add (k1 * 11)).block, (ad.add (k1 * 11)).off + 9, none⟩ = some (.int .i64 y.w.nb) ∧ w'.cell? ⟨(ad.add (k1 * 11)).block, (ad.add (k1 * 11)).off + 10, none⟩ = some (.string y.w.sb) ∧ Below w.heap.size w w')
              (first | assumption | exact fc22_0 (hX.cell 0) (hX.cell 1) (hX.cell 2) (hX.cell 3) (hX.cell 4) (hX.cell 5) (hX.cell 6) (hX.cell 7) (hX.cell 8) (hX.cell 9) (hX.cell 10) (hY0) (hY1) (hY2) (hY3) (hY4) (hY5) (hY6) (hY7) (hY8) (hY9) (hY10) hW3 | exact fc22_1 (by assumption) (by assumption))
              (first
                | (go_at_fn 76; ((with_reducible refine (HG.out _).mono ?_); rintro e w1 ⟨rfl, hb1⟩))
                | (go_at_fn 77; ((with_reducible refine (HH.out _).mono ?_); rintro e w2 ⟨rfl, hb2⟩)))
            have hfin := fc22_b (w' := w2) (by assumption)
            go_wp2_with fail
            go_roundw
            case rel => exact ⟨k1 + 1 + 1, by omega, by go_num, HA2, hfin⟩
            case measure => simp [intOf]; omega
    · have hq : ¬ (k : Int) < (n : Int) := by omega
      have R : Hid (goodLns l = true) := goodLs_yes fun j hj => hA.out j (by have := HN.out; omega)
      clear hA
      go_wp2_with fail
      go_ret
      exact ⟨ret_bool R.out.symm, hW⟩
set_option maxRecDepth 100000 in
theorem goodLs_any (A : Option Addr) (n c : Nat) (l : List Ln) (w : World) (hn : l.length = n) (hr : RdX 11 w.heap.size w A (l.map Ln.cells)) (hm : n ≤ maxLen) (hf : ∀ x, x ∈ l → x.fits) :
    Calls Tryz.prog 35 #[.slice A n c] w fun e w' => e = .returned (.bool (goodLns l)) ∧ Below w.heap.size w w' := by
  have HP := Lib.hid (risingL_any A n c l w hn hr hm hf)
  generalize goodLns l = v at HP ⊢
  clear hn hr hf
  go_enter Tryz.func35, Tryz.ntmps35
  go_wp2_with fail
  refine HP.out.mono ?_
  rintro e w1 ⟨rfl, hb1⟩
  go_wp2_with fail
  go_ret
  exact ⟨rfl, hb1⟩
end Go.Proofs.YtpjleeeligahaaaGreatDoor
