/-
  WHAT IS PROVED: what string(..) makes of one byte in a block of its own, and of a row of bytes that the call owns.
-/
import Derived.Test.YtkfhkfddhijkcaaBase
import Derived.Laws.IdiomStrings
import Derived.Laws.BytesArg
import Derived.Laws.OwnMore
import Derived.Laws.AppendOwn
namespace Go.Proofs.Ytkfhkfddhijkcaa
open Go.RowKit

/-- string of one byte. -/
theorem conv_one (W : World) (n : Int) (c : UInt8) (h : n = (c.toNat : Int)) :
    (convert 105 9 (.slice (some ⟨W.heap.size, 0, none⟩) 1 1)).run Try.prog (W.alloc (.cells #[.int .u8 n] 5)) = .ok (.string ⟨#[c]⟩) (W.alloc (.cells #[.int .u8 n] 5)) := by
  have := run_convert_bytes_back (P := Try.prog) (W.alloc (.cells #[.int .u8 n] 5)) 105 9 5 ⟨W.heap.size, 0, none⟩ 1 [c] Try.underlying105 Try.underlying5 Try.underlying9 (by
    intro j hj
    have hj0 : j = 0 := by simpa using hj
    subst hj0
    subst h
    have e : (⟨W.heap.size, 0, none⟩ : Addr).add 0 = ⟨W.heap.size, 0, none⟩ := by simp [Addr.add]
    rw [e]
    go_simp)
  simpa using this
/-- string of a row of the call's own. -/
theorem conv_own (W : World) (B : Nat) (v : Value) (l : List UInt8) (h : W.ownsRow B 5 1 v l.length (Lib.byteCells l)) :
    (convert 105 9 v).run Try.prog W = .ok (.string ⟨l.toArray⟩) W := by
  rcases h.2 with ⟨rfl, h0⟩ | ⟨g, cap, cur, rfl, _⟩
  · have : l = [] := List.length_eq_zero_iff.1 h0
    subst this
    exact run_convert_bytes_nil W 105 5 Try.underlying105 Try.underlying5 0 0 9 Try.underlying9
  · refine run_convert_bytes_back W 105 9 5 ⟨g, 0, none⟩ cap l Try.underlying105 Try.underlying5 Try.underlying9 ?_
    intro j hj
    have e : (⟨g, 0, none⟩ : Addr).add j = ⟨g, j, none⟩ := by unfold Addr.add; split <;> simp_all
    rw [e, h.cellAt j (by omega)]
    simp [Lib.byteCells, hj]

theorem str_add' {a b : ByteArray} (ha : a.size ≤ 100000) (hb : b.size ≤ 100000) : Op.stringOp .add a b = pure (.string (a ++ b)) := by
  unfold Op.stringOp
  have e : IntKind.i64.max = 9223372036854775807 := rfl
  simp only
  rw [if_neg]
  rw [e]
  omega
end Go.Proofs.Ytkfhkfddhijkcaa
