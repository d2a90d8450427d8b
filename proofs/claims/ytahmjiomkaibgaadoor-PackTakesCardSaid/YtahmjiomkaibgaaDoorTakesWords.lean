/-
  WHAT IS PROVED: plain facts and words for the walk of the statement PackTakes. Conditions: those typed in each theorem.
-/
import Derived.Test.YtahmjiomkaibgaaDoorTakesMath
import Derived.Test.YtahmjiomkaibgaaDoorLawPackWr
namespace Go.Proofs.YtahmjiomkaibgaaDoor
open Go.RowKit

theorem refTakeNum_is {B : Nat} (A : Option Addr) (n c : Nat) (l : List UInt8) (most : Nat) (w : World) (hn : l.length = n) (hr : RdB B w A l) (hm : n ≤ 1000000) (hmost : most < 18446744073709551616) :
    Calls Tryd.prog 28 #[.slice A n c, .int .u64 most] w fun e w' => e = .returned (.tuple #[.int .u64 ((takeNum l most).1 : Nat), .int .i64 ((takeNum l most).2 : Nat)]) ∧ Drn w w' :=
  refTakeNumber_any A n c l most w hn hr hm hmost

/-- What stands in memory while the readers take. -/
theorem tS {W w7 : World} {ra bv bw p0 p1 p2 p3 p4 p5 p6 : Nat} {vk vn : Int} {s5 : ByteArray} {x : Wr} (hR : Blk W ra (rowP [p0, p1, p2, p3, p4, p5, p6]) 73) (hV : Blk w7 bv #[.int .i64 vk, .int .i64 vn, .string s5] 44) (hW : Blk w7 bw x.cells 48) (hB : Below w7.heap.size w7 W) :
    ((W.cell? ⟨ra, 0, none⟩ = some (.pointer (some ⟨p0, 0, none⟩)) ∧ W.cell? ⟨ra, 1, none⟩ = some (.pointer (some ⟨p1, 0, none⟩)) ∧ W.cell? ⟨ra, 2, none⟩ = some (.pointer (some ⟨p2, 0, none⟩)) ∧ W.cell? ⟨ra, 3, none⟩ = some (.pointer (some ⟨p3, 0, none⟩)) ∧ W.cell? ⟨ra, 4, none⟩ = some (.pointer (some ⟨p4, 0, none⟩)) ∧ W.cell? ⟨ra, 5, none⟩ = some (.pointer (some ⟨p5, 0, none⟩)) ∧ W.cell? ⟨ra, 6, none⟩ = some (.pointer (some ⟨p6, 0, none⟩))) ∧ (W.cell? ⟨bv, 0, none⟩ = some (.int .i64 vk) ∧ W.cell? ⟨bv, 1, none⟩ = some (.int .i64 vn) ∧ W.cell? ⟨bv, 2, none⟩ = some (.string s5)) ∧ (W.cell? ⟨bw, 0, none⟩ = some (.int .i64 x.dev) ∧ W.cell? ⟨bw, 1, none⟩ = some (.int .i64 x.seq) ∧ W.cell? ⟨bw, 2, none⟩ = some (.int .i64 x.K) ∧ W.cell? ⟨bw, 3, none⟩ = some (.string x.ky) ∧ W.cell? ⟨bw, 4, none⟩ = some (.int .i64 x.ka) ∧ W.cell? ⟨bw, 5, none⟩ = some (.int .i64 x.na) ∧ W.cell? ⟨bw, 6, none⟩ = some (.string x.sa) ∧ W.cell? ⟨bw, 7, none⟩ = some (.int .i64 x.kb) ∧ W.cell? ⟨bw, 8, none⟩ = some (.int .i64 x.nb) ∧ W.cell? ⟨bw, 9, none⟩ = some (.string x.sb))) ∧ Blk W ra (rowP [p0, p1, p2, p3, p4, p5, p6]) 73 ∧ Below w7.heap.size w7 W := by
  obtain ⟨a0, a1, a2, _⟩ := (hV.keep hB).c3
  obtain ⟨c0, c1, c2, c3, c4, c5, c6, c7, c8, c9, _⟩ := blk_c10 (hW.keep hB)
  exact ⟨⟨⟨hR.cell 0, hR.cell 1, hR.cell 2, hR.cell 3, hR.cell 4, hR.cell 5, hR.cell 6⟩, ⟨a0, a1, a2⟩, c0, c1, c2, c3, c4, c5, c6, c7, c8, c9⟩, hR, hB⟩
theorem seven {gs : List Nat} (h : gs.length = 7) : ∃ p0 p1 p2 p3 p4 p5 p6, gs = [p0, p1, p2, p3, p4, p5, p6] := by
  match gs, h with
  | [p0, p1, p2, p3, p4, p5, p6], _ => exact ⟨p0, p1, p2, p3, p4, p5, p6, rfl⟩
theorem val_same (k n : Int) (s : ByteArray) (W : World) : (binOp .neq 44 (.agg #[.int .i64 k, .int .i64 n, .string s]) (.agg #[.int .i64 k, .int .i64 n, .string s])).run Tryd.prog W = .ok (.bool false) W := by
  go_simp
theorem takeWrs_few (b : List UInt8) (most : Nat) : (takeWrsB b most).1.length ≤ most := by
  by_cases hs : stdWs b most
  · rw [takeWrs_yes hs]
    show (listWs b most _).length ≤ _
    rw [listWs_len]
    exact (takeNum_lt b most).2.1
  · rw [takeWrs_no hs]
    exact Nat.zero_le _
theorem row_cells {W : World} {ra p0 p1 p2 p3 p4 p5 p6 : Nat} {t : TypeId} (hR : Blk W ra (rowP [p0, p1, p2, p3, p4, p5, p6]) t) : W.cell? ⟨ra, 0, none⟩ = some (.pointer (some ⟨p0, 0, none⟩)) ∧ W.cell? ⟨ra, 1, none⟩ = some (.pointer (some ⟨p1, 0, none⟩)) ∧ W.cell? ⟨ra, 2, none⟩ = some (.pointer (some ⟨p2, 0, none⟩)) ∧ W.cell? ⟨ra, 3, none⟩ = some (.pointer (some ⟨p3, 0, none⟩)) ∧ W.cell? ⟨ra, 4, none⟩ = some (.pointer (some ⟨p4, 0, none⟩)) ∧ W.cell? ⟨ra, 5, none⟩ = some (.pointer (some ⟨p5, 0, none⟩)) ∧ W.cell? ⟨ra, 6, none⟩ = some (.pointer (some ⟨p6, 0, none⟩)) :=
  ⟨hR.cell 0, hR.cell 1, hR.cell 2, hR.cell 3, hR.cell 4, hR.cell 5, hR.cell 6⟩
/-- What End tells, in the words of the statement. -/
theorem end3 {b : List UInt8} {k n : Nat} (h : k ≤ b.length) (hn : b.length = n) :
    ((0 : Int) < (k : Int) ∧ decide (0 < k) = true ∧ ((k : Int) == (n : Int)) = true ∧ (k == n) = true ∧ decide (k = n) = true ∧ endOf (stOf b k) = 0) ∨ (¬ (0 : Int) < (k : Int) ∧ decide (0 < k) = false ∧ endOf (stOf b k) = 2) ∨
    ((0 : Int) < (k : Int) ∧ decide (0 < k) = true ∧ ((k : Int) == (n : Int)) = false ∧ (k == n) = false ∧ decide (k = n) = false ∧ endOf (stOf b k) = 2) := by
  subst hn
  rcases end_st h with ⟨h1, h2, h3⟩ | ⟨h1, h3⟩
  · refine Or.inl ⟨by omega, decide_eq_true h1, by rw [beq_iff_eq]; omega, by rw [beq_iff_eq]; exact h2, decide_eq_true h2, h3⟩
  · by_cases h0 : 0 < k
    · have hne : k ≠ b.length := fun e => h1 ⟨h0, e⟩
      exact Or.inr (Or.inr ⟨by omega, decide_eq_true h0, by rw [beq_eq_false_iff_ne]; omega, by rw [beq_eq_false_iff_ne]; exact hne, decide_eq_false hne, h3⟩)
    · exact Or.inr (Or.inl ⟨by omega, decide_eq_false h0, h3⟩)
theorem eqb {a s : ByteArray} {l : List UInt8} (h : a.data.toList = l) (k : s.data.toList = l) : a = s := by
  rw [ba_of h, ba_of k]
end Go.Proofs.YtahmjiomkaibgaaDoor
