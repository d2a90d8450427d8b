/-
  WHAT IS PROVED: words for arrays of twelve numbers: as a list, in a block, loaded whole or by a cell. Conditions: those typed in each theorem.
-/
import Derived.Test.YtgbopikhdpmmcaaMem
import Derived.Deep.MidRow
namespace Go.Proofs.Ytgbopikhdpmmcaa
open Go.RowKit

abbrev laI (a0 a1 a2 a3 a4 a5 a6 a7 a8 a9 a10 a11 : Int) : Array Value := #[.int .i64 a0, .int .i64 a1, .int .i64 a2, .int .i64 a3, .int .i64 a4, .int .i64 a5, .int .i64 a6, .int .i64 a7, .int .i64 a8, .int .i64 a9, .int .i64 a10, .int .i64 a11]
abbrev laL (a0 a1 a2 a3 a4 a5 a6 a7 a8 a9 a10 a11 : Int) : List Int := [a0, a1, a2, a3, a4, a5, a6, a7, a8, a9, a10, a11]
/-- Twelve numbers as a list. -/
abbrev liA (l : List Int) : Array Value := (l.map (Value.int .i64)).toArray
def gI (l : List Int) (j : Nat) : Int := (l[j]?).getD 0
theorem li_cases {l : List Int} (hl : l.length = 12) : ∃ a0 a1 a2 a3 a4 a5 a6 a7 a8 a9 a10 a11 : Int, l = laL a0 a1 a2 a3 a4 a5 a6 a7 a8 a9 a10 a11 := by
  match l, hl with
  | [a0, a1, a2, a3, a4, a5, a6, a7, a8, a9, a10, a11], _ => exact ⟨a0, a1, a2, a3, a4, a5, a6, a7, a8, a9, a10, a11, rfl⟩
theorem gI_some {l : List Int} {j : Nat} (h : j < l.length) : l[j]? = some (gI l j) := by
  unfold gI
  rw [List.getElem?_eq_getElem h]
  rfl
theorem li_cell {W : World} {b : Nat} {l : List Int} {t : TypeId} (h : Blk W b (liA l) t) {j : Nat} (hj : j < l.length) : W.cell? ⟨b, j, none⟩ = some (.int .i64 (gI l j)) := by
  rw [h.cell j, List.getElem?_toArray, List.getElem?_map, gI_some hj]
  rfl
theorem li_set (l : List Int) (j : Nat) (v : Int) : (liA l).setIfInBounds j (.int .i64 v) = liA (l.set j v) := by
  show _ = ((l.set j v).map (Value.int .i64)).toArray
  rw [List.setIfInBounds_toArray, List.map_set]
theorem li_one (l : List Int) : (liA l).all (·.oneCell') = true := by
  rw [List.all_toArray]
  simp [Value.oneCell']
theorem li_size (l : List Int) : (liA l).size = l.length := by simp
/-- Twelve numbers out of a rule. -/
def mk12 (f : Nat → Int) : List Int := (List.range 12).map f
theorem mk12_len (f : Nat → Int) : (mk12 f).length = 12 := by unfold mk12; simp
theorem gI_mk {f : Nat → Int} {j : Nat} (h : j < 12) : gI (mk12 f) j = f j := by
  unfold gI mk12
  rw [List.getElem?_map, List.getElem?_range h]
  rfl
theorem mk12_ext {f g : Nat → Int} (h : ∀ j, j < 12 → f j = g j) : mk12 f = mk12 g := by
  unfold mk12
  exact List.map_congr_left fun j hj => h j (List.mem_range.1 hj)
theorem li_ext {a b : List Int} (ha : a.length = 12) (hb : b.length = 12) (h : ∀ j, j < 12 → gI a j = gI b j) : a = b := by
  refine List.ext_getElem? fun j => ?_
  by_cases hj : j < 12
  · rw [gI_some (by omega), gI_some (by omega), h j hj]
  · rw [List.getElem?_eq_none (by omega), List.getElem?_eq_none (by omega)]
theorem mk12_self {l : List Int} (h : l.length = 12) : mk12 (gI l) = l := li_ext (mk12_len _) h fun _ hj => gI_mk hj
theorem gI_set {l : List Int} {j k : Nat} {v : Int} (h : k < l.length) : gI (l.set j v) k = if j = k then v else gI l k := by
  unfold gI
  rw [List.getElem?_set]
  split
  · rename_i e
    subst e
    rw [if_pos h]
    rfl
  · rfl
theorem in_liL {l : List Int} (hl : l.length = 12) {j : Nat} (hj : j < 12) (W : World) : (Instr.index 23 (.agg (liA l)) (.int .i64 (j : Int))).run Try.prog W = .ok (.int .i64 (gI l j)) W := by
  have hz : Try.prog.arrayLen 23 = 12 := by kernel_rfl
  have hc : Try.prog.cellsOf 3 = 1 := by kernel_rfl
  have i1 : (0 : Int) ≤ (j : Int) := by omega
  have i2 : (j : Int) < 12 := by omega
  have hg : (liA l)[j]? = some (.int .i64 (gI l j)) := by
    rw [List.getElem?_toArray, List.getElem?_map, gI_some (by omega)]
    rfl
  have hsz : (liA l).size = 12 := by rw [li_size, hl]
  obtain ⟨a0, a1, a2, a3, a4, a5, a6, a7, a8, a9, a10, a11, rfl⟩ := li_cases hl
  simp [Instr.index, run_underlying Try.underlying23, asIntOf, go_sem]
  match j, hj with
  | 0, _ | 1, _ | 2, _ | 3, _ | 4, _ | 5, _ | 6, _ | 7, _ | 8, _ | 9, _ | 10, _ | 11, _ => rfl
theorem ld_liL {W : World} {b : Nat} {l : List Int} {t : TypeId} (h : Blk W b (liA l) t) (hl : l.length = 12) : (Instr.loadAt 23 (.pointer (some ⟨b, 0, none⟩))).run Try.prog W = .ok (.agg (liA l)) W := by
  obtain ⟨a0, a1, a2, a3, a4, a5, a6, a7, a8, a9, a10, a11, rfl⟩ := li_cases hl
  exact run_loadAt_mid W b 0 _ (laI a0 a1 a2 a3 a4 a5 a6 a7 a8 a9 a10 a11).toList _ (fun j v hv => by rw [Nat.zero_add, h.cell j]; exact (Array.getElem?_toList ..).symm.trans hv) Try.underlying23 rfl (by kernel_rfl)
theorem ix_liL (W : World) (g j : Nat) (h : j < 12) : (Instr.indexAt 23 (.pointer (some ⟨g, 0, none⟩)) (.int .i64 (j : Int))).run Try.prog W = .ok (.pointer (some ⟨g, j, none⟩)) W := by
  have hz : Try.prog.arrayLen 23 = 12 := by kernel_rfl
  have i1 : (0 : Int) ≤ (j : Int) := by omega
  have i2 : (j : Int) < 12 := by omega
  have e : (⟨g, 0, none⟩ : Addr).add j = ⟨g, j, none⟩ := by
    unfold Addr.add
    split
    · next h => rw [h]
    · rw [Nat.zero_add]
  go_simp
theorem ld_liA {W : World} {b : Nat} {l : List Int} {t : TypeId} (h : Blk W b (liA l) t) (hl : l.length = 12) : (Instr.loadAt 22 (.pointer (some ⟨b, 0, none⟩))).run Try.prog W = .ok (.agg (liA l)) W := by
  obtain ⟨a0, a1, a2, a3, a4, a5, a6, a7, a8, a9, a10, a11, rfl⟩ := li_cases hl
  exact run_loadAt_mid W b 0 _ (laI a0 a1 a2 a3 a4 a5 a6 a7 a8 a9 a10 a11).toList _ (fun j v hv => by rw [Nat.zero_add, h.cell j]; exact (Array.getElem?_toList ..).symm.trans hv) Try.underlying22 rfl (by kernel_rfl)
theorem ix_liA (W : World) (g j : Nat) (h : j < 12) : (Instr.indexAt 22 (.pointer (some ⟨g, 0, none⟩)) (.int .i64 (j : Int))).run Try.prog W = .ok (.pointer (some ⟨g, j, none⟩)) W := by
  have hz : Try.prog.arrayLen 22 = 12 := by kernel_rfl
  have i1 : (0 : Int) ≤ (j : Int) := by omega
  have i2 : (j : Int) < 12 := by omega
  have e : (⟨g, 0, none⟩ : Addr).add j = ⟨g, j, none⟩ := by
    unfold Addr.add
    split
    · next h => rw [h]
    · rw [Nat.zero_add]
  go_simp
end Go.Proofs.Ytgbopikhdpmmcaa
