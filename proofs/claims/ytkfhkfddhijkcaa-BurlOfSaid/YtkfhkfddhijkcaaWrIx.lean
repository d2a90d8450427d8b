/-
  WHAT IS PROVED: a write's cells, reached by an index into a slice of writes, or in a block of its own. Conditions: those typed in each theorem.
-/
import Derived.Test.YtkfhkfddhijkcaaGQ14
import Derived.Test.YtkfhkfddhijkcaaGQ3
namespace Go.Proofs.Ytkfhkfddhijkcaa
open Go.RowKit

abbrev tWr : TypeId := 39
abbrev tId : TypeId := 32
theorem wix (W : World) (ad : Addr) (n c k : Nat) (h : k < n) : (Instr.indexAt 30 (.slice (some ad) n c) (.int .i64 (k : Int))).run Try.prog W = .ok (.pointer (some (ad.add (k * 10)))) W := by
  have i1 : (0 : Int) ≤ (k : Int) := by omega
  have i2 : (k : Int) < (n : Int) := by omega
  go_simp
theorem wld {W : World} {ad : Addr} {k : Nat} {x : Wr} (hc : ∀ j v, x.cells[j]? = some v → W.cell? (ad.add (k * 10 + j)) = some v) : (Instr.loadAt tWr (.pointer (some (ad.add (k * 10))))).run Try.prog W = .ok (.agg x.cells) W := by
  obtain ⟨c0, c1, c2, c3, c4, c5, c6, c7, c8, c9⟩ := wr_cells hc
  clear hc
  go_simp
theorem wld_blk {W : World} {g : Nat} {x : Wr} {t : TypeId} (h : Blk W g x.cells t) : (Instr.loadAt tWr (.pointer (some ⟨g, 0, none⟩))).run Try.prog W = .ok (.agg x.cells) W := by
  have c0 := h.cell 0
  have c1 := h.cell 1
  have c2 := h.cell 2
  have c3 := h.cell 3
  have c4 := h.cell 4
  have c5 := h.cell 5
  have c6 := h.cell 6
  have c7 := h.cell 7
  have c8 := h.cell 8
  have c9 := h.cell 9
  clear h
  go_simp
theorem wfd0 (W : World) (a : Addr) : (Instr.fieldAt tWr (.pointer (some a)) 0).run Try.prog W = .ok (.pointer (some a)) W := by go_simp
theorem wfd1 (W : World) (a : Addr) : (Instr.fieldAt tWr (.pointer (some a)) 1).run Try.prog W = .ok (.pointer (some ⟨a.block, a.off + 2, none⟩)) W := by go_simp
theorem ifd0 (W : World) (a : Addr) : (Instr.fieldAt tId (.pointer (some a)) 0).run Try.prog W = .ok (.pointer (some a)) W := by go_simp
theorem ifd1 (W : World) (a : Addr) : (Instr.fieldAt tId (.pointer (some a)) 1).run Try.prog W = .ok (.pointer (some ⟨a.block, a.off + 1, none⟩)) W := by go_simp
theorem ild {W : World} {a : Addr} {dev seq : Value} (h0 : W.cell? a = some dev) (h1 : W.cell? ⟨a.block, a.off + 1, none⟩ = some seq) : (Instr.loadAt tId (.pointer (some a))).run Try.prog W = .ok (.agg #[dev, seq]) W := by go_simp
theorem alW (w : World) : (Instr.alloc tWr true (.tuple #[])).run Try.prog w = .ok (.pointer (some ⟨w.heap.size, 0, none⟩)) (w.alloc (.cells (⟨0, 0, 0, ⟨#[]⟩, 0, 0, ⟨#[]⟩, 0, 0, ⟨#[]⟩⟩ : Wr).cells tWr)) := by kernel_rfl
theorem alI (w : World) : (Instr.alloc tId true (.tuple #[])).run Try.prog w = .ok (.pointer (some ⟨w.heap.size, 0, none⟩)) (w.alloc (.cells #[.int .i64 0, .int .i64 0] tId)) := by kernel_rfl
theorem id_oneC (a b : Int) : (#[.int .i64 a, .int .i64 b] : Array Value).all (·.oneCell') = true := by
  rw [show (#[.int .i64 a, .int .i64 b] : Array Value) = [.int .i64 a, .int .i64 b].toArray from rfl, List.all_toArray]
  simp [Value.oneCell']
theorem wr_oneC (x : Wr) : x.cells.all (·.oneCell') = true := by
  obtain ⟨dev, seq, K, ky, ka, na, sa, kb, nb, sb⟩ := x
  show (wrI dev seq K ky ka na sa kb nb sb).all _ = true
  rw [show wrI dev seq K ky ka na sa kb nb sb = [.int .i64 dev, .int .i64 seq, .int .i64 K, .string ky, .int .i64 ka, .int .i64 na, .string sa, .int .i64 kb, .int .i64 nb, .string sb].toArray from rfl, List.all_toArray]
  simp [Value.oneCell']
end Go.Proofs.Ytkfhkfddhijkcaa
