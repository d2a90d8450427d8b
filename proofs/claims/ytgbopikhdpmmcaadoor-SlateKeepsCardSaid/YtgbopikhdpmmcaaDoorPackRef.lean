/-
  WHAT IS PROVED: the document's bytes of numbers, ints, texts and flags (spinneyref05), for all. Conditions: those typed in each theorem.
-/
import Derived.Test.YtgbopikhdpmmcaaDoorPackMath
import Derived.Test.YtgbopikhdpmmcaaDoorBytes
import Derived.IntWalk
import Derived.Lib.AppendStr
namespace Go.Proofs.YtgbopikhdpmmcaaDoor
open Go.RowKit

/-- A row of bytes that a call answered. -/
def PutP (w : World) (l : List UInt8) (e : Ending) (w' : World) : Prop :=
  (∃ (A : Option Addr) (n c : Nat), e = .returned (.slice A n c) ∧ OwnB w.heap.size w' A n c l) ∧ Below w.heap.size w w'

/-- One byte in a row of its own. -/
theorem litB (w : World) {base : Nat} (z : Int) (c : UInt8) (h : z = (c.toNat : Int)) (hb : base ≤ w.heap.size) : OwnB base (w.alloc (.cells #[.int .u8 z] 5)) (some ⟨w.heap.size, 0, none⟩) 1 1 [c] := by
  subst h
  exact OwnB.lit w #[.int .u8 (c.toNat : Int)] [c] rfl rfl hb (by unfold maxLen; omega)
theorem mod_byte (v : Nat) : (v : Int) % 256 = ((UInt8.ofNat (v % 256)).toNat : Int) := by
  rw [toNat_mod]
  omega

theorem wrap_quo {v n : Nat} (hv : v ≤ n) (hn : n < 18446744073709551616) : IntKind.u64.wrap ((v : Int) / 256) = ((v / 256 : Nat) : Int) := by
  rw [IntKind.wrap_u64]
  omega

theorem zig_neg {n : Int} (h : n < 0) (h0 : -9223372036854775808 ≤ n) : IntKind.u64.wrap (IntKind.u64.wrap (2 * IntKind.u64.wrap (-IntKind.u64.wrap n)) - 1) = ((zig n : Nat) : Int) := by
  unfold zig
  rw [if_pos h]
  simp only [IntKind.wrap_u64]
  omega
theorem zig_pos {n : Int} (h : ¬ n < 0) (h1 : n ≤ 9223372036854775807) : IntKind.u64.wrap (2 * IntKind.u64.wrap n) = ((zig n : Nat) : Int) := by
  unfold zig
  rw [if_neg h]
  simp only [IntKind.wrap_u64]
  omega

theorem strCells_is (s : ByteArray) : Lib.strCells s = bytV s.data.toList := rfl
section
variable {P : Program} {w : World} {t u : TypeId} {i : TypeInfo} {base : Nat} {A : Option Addr} {n c : Nat} {l : List UInt8} {o : Oper} {a : Act} {Q : Exit → Act → World → Prop} {ops : Array Oper}
theorem run_apT {ty : TypeId} (ht : P.underlying t = some (.slice 5)) (hu : P.underlying u = some .string) (hi : P.info? 5 = some i) (hz : i.zero = some (.int .u8 0)) (hs : i.size = 1) (hy : i.bytes = 1)
    (hown : OwnB base w A n c l) (s : ByteArray) (hsz : n + s.size ≤ 1099511627776) (hbase : base ≤ w.heap.size) :
    ∃ A' c' w', (Builtin.append_ #[t, u] ty #[.slice A n c, .string s]).run P w = .ok (.slice A' (n + s.size) c') w' ∧ OwnB base w' A' (n + s.size) c' (l ++ s.data.toList) ∧ Below base w w' ∧ w.grownBy w' (A.map (·.block)) := by
  obtain ⟨v', w', hrun, h2, h3, _⟩ := Lib.run_append_own_string (P := P) w base t u ty 5 i ht hu hi hz hs hy (.slice A n c) n (bytV l) hown s (by unfold maxLen; omega) (by omega) hbase
  have hb : Below base w w' := (Below.refl base w).grown h3 hbase (fun k hk => (World.ownsRow.lt hown k hk).1)
  have hv : ∃ A' c', v' = .slice A' (n + s.size) c' := by
    rcases h2.2 with ⟨e1, e2⟩ | ⟨g, cap, cur, e1, _⟩
    · exact ⟨none, 0, by rw [e1, e2]⟩
    · exact ⟨_, _, e1⟩
  obtain ⟨A', c', rfl⟩ := hv
  refine ⟨A', c', w', hrun, ?_, hb, by cases A <;> exact h3⟩
  unfold OwnB
  rw [show bytV (l ++ s.data.toList) = bytV l ++ bytV s.data.toList from List.map_append]
  exact h2
theorem wp_apT {K : Act → World → Prop} (sl x : Operand) (ho : o.op = .call { callee := .builtin .append, args := #[sl, x], argTypes := #[t, u] })
    (ht : P.underlying t = some (.slice 5)) (hu : P.underlying u = some .string) (hi : P.info? 5 = some i) (hz : i.zero = some (.int .u8 0)) (hs : i.size = 1) (hy : i.bytes = 1) (s : ByteArray)
    (h1 : a.eval sl = .slice A n c) (h2 : a.eval x = .string s) (hown : OwnB base w A n c l) (N : Nat) (hN : n + s.size = N) (hsz : n + s.size ≤ 1099511627776) (hbase : base ≤ w.heap.size)
    (h : ∀ A' c' w', OwnB base w' A' N c' (l ++ s.data.toList) → Below base w w' → w.grownBy w' (A.map (·.block)) → K (a.put o.dst (.slice A' N c')) w') : o.wp P a w K Q := by
  subst hN
  obtain ⟨A', c', w', hrun, k1, k2, k3⟩ := run_apT (P := P) (ty := o.type) (w := w) ht hu hi hz hs hy hown s hsz hbase
  unfold Oper.wp execOp
  simp only [ho, resolve, invoke, builtin, Sem.run_bind, Sem.run_pure, Result.andThen_ok, List.map_toArray, List.map_cons, List.map_nil, h1, h2, hrun]
  exact h A' c' w' k1 k2 k3
theorem wpList_apT {rest : List Oper} (hgd : o.guard = none) (sl x : Operand) (ho : o.op = .call { callee := .builtin .append, args := #[sl, x], argTypes := #[t, u] })
    (ht : P.underlying t = some (.slice 5)) (hu : P.underlying u = some .string) (hi : P.info? 5 = some i) (hz : i.zero = some (.int .u8 0)) (hs : i.size = 1) (hy : i.bytes = 1) (s : ByteArray)
    (h1 : a.eval sl = .slice A n c) (h2 : a.eval x = .string s) (hown : OwnB base w A n c l) (N : Nat) (hN : n + s.size = N) (hsz : n + s.size ≤ 1099511627776) (hbase : base ≤ w.heap.size)
    (h : ∀ A' c' w', OwnB base w' A' N c' (l ++ s.data.toList) → Below base w w' → w.grownBy w' (A.map (·.block)) → wpList P ops Q rest (a.put o.dst (.slice A' N c')) w') : wpList P ops Q (o :: rest) a w :=
  wpList_plain hgd fun _ hK => wp_apT sl x ho ht hu hi hz hs hy s h1 h2 hown N hN hsz hbase fun A' c' w' k1 k2 k3 => hK _ _ (h A' c' w' k1 k2 k3)
end

theorem numB_small {n : Nat} (h : n < 18446744073709551616) : (numB n).length ≤ 9 := by
  have := beB_eight h
  rw [numB_len]
  omega
theorem wrap_size {n : Nat} (h : n ≤ 1099511627776) : IntKind.u64.wrap (n : Int) = (n : Int) := by
  rw [IntKind.wrap_u64]
  omega

end Go.Proofs.YtgbopikhdpmmcaaDoor
