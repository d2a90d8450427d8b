/-
  WHAT IS PROVED: errors.Is and errors.As of Go's own text, walked, where package pack calls them: of no error, of its sentinel, of its own error type 'wrong'. Conditions: those typed in each theorem.
-/
import Derived.Test.YtnlnbgcmmlpniaaDoorM0
import Derived.WalkKit
import Derived.LaidEql
import Derived.Stop.Asserts
import Derived.RowKitTokens
namespace Go.Proofs.YtnlnbgcmmlpniaaDoor
open Go.RowKit Go.Extern.Stop Go.Stop Go.Extern

/-! Closed facts on the library's entries, at this program's types. -/
theorem eTypeOfS (v : Value) (w : World) : (Extern.ReflectliteType.typeOf #[.iface 123 v]).run Tryd.prog w = .ok (.iface 108 (.agg #[.pointer (some ⟨2, 123, none⟩)])) w := by kernel_rfl
/-- The model's entry of (rtype).Comparable, as it is found. -/
noncomputable def eCmp : Array Value → Sem Value := (Go.Extern.find Tryd.f97).getD fun _ => pure .nilIface
theorem eComparableS (w : World) : (eCmp #[.agg #[.pointer (some ⟨2, 123, none⟩)]]).run Tryd.prog w = .ok (.bool true) w := by kernel_rfl
theorem eMComparable (v : Value) (w : World) : (Go.method 255 108 v "Comparable").run Tryd.prog w = .ok (97, v) w := by kernel_rfl
theorem eComp : (Tryd.prog.info? 123).map (·.comparable) = some true := by kernel_rfl
theorem eSize : (Tryd.prog.info? 143).map (·.size) = some 1 := by kernel_rfl
theorem eNoIs (v : Value) (xT : TypeId) (w : World) : (Instr.typeAssert (.iface 66 v) xT 110 true).run Tryd.prog w = .ok (.tuple #[.nilIface, .bool false]) w := run_typeAssert_lacksB Tryd.underlying110 (by kernel_rfl) (by kernel_rfl) v xT w
theorem eNoUnwrap (v : Value) (xT : TypeId) (w : World) : (Instr.typeAssert (.iface 66 v) xT 113 true).run Tryd.prog w = .ok (.tuple #[.nilIface, .bool false]) w := run_typeAssert_lacksB Tryd.underlying113 (by kernel_rfl) (by kernel_rfl) v xT w
theorem eNoUnwraps (v : Value) (xT : TypeId) (w : World) : (Instr.typeAssert (.iface 66 v) xT 115 true).run Tryd.prog w = .ok (.tuple #[.nilIface, .bool false]) w := run_typeAssert_lacksB Tryd.underlying115 (by kernel_rfl) (by kernel_rfl) v xT w

/-- errors.Is(nil, the sentinel). -/
theorem is_nil (b : Addr) (w : World) :
    Calls Tryd.prog 52 #[.nilIface, .iface 123 (.pointer (some b))] w fun e w' => e = .returned (.bool false) ∧ w' = w := by
  have hn := run_eql_iface_nil_left (P := Tryd.prog) w 123 (.pointer (some b)) Tryd.underlying52
  go_enter Tryd.func52, Tryd.ntmps52
  go_wp2
  go_ret
  exact ⟨rfl, rfl⟩
/-- errors.Is(the sentinel, itself). -/
theorem is_same (a : Addr) (w : World) :
    Calls Tryd.prog 52 #[.iface 123 (.pointer (some a)), .iface 123 (.pointer (some a))] w fun e w' => e = .returned (.bool true) ∧ w' = w := by
  obtain ⟨i, hi, hcmp⟩ := Option.map_eq_some_iff.1 eComp
  obtain ⟨j, hj, hjs⟩ := Option.map_eq_some_iff.1 eSize
  have h8 := @run_callFunc_extern Tryd.prog 63 _ Extern.ReflectliteType.typeOf Tryd.func63 (by kernel_rfl) (by kernel_rfl) (by kernel_rfl) (by kernel_rfl)
  have h32 := @run_callFunc_extern Tryd.prog 97 _ eCmp Tryd.func97 (by kernel_rfl) (by kernel_rfl) (by kernel_rfl) (by kernel_rfl)
  have tT := eTypeOfS
  have cT := eComparableS
  have mR := eMComparable
  have heq := run_eql_iface_ptr_same (P := Tryd.prog) w a Tryd.underlying52 Tryd.underlying123 hi hcmp hj
  go_enter Tryd.func52, Tryd.ntmps52
  go_wp2
  refine wp_loop_rounds 1 ?_
  rw [rounds_succ]
  go_wp2
  go_ret
  exact ⟨rfl, rfl⟩
/-- errors.Is(an error of the type 'wrong', the sentinel). -/
theorem is_wrong (v : Value) (b : Addr) (w : World) :
    Calls Tryd.prog 52 #[.iface 66 v, .iface 123 (.pointer (some b))] w fun e w' => e = .returned (.bool false) ∧ w' = w := by
  have h8 := @run_callFunc_extern Tryd.prog 63 _ Extern.ReflectliteType.typeOf Tryd.func63 (by kernel_rfl) (by kernel_rfl) (by kernel_rfl) (by kernel_rfl)
  have h32 := @run_callFunc_extern Tryd.prog 97 _ eCmp Tryd.func97 (by kernel_rfl) (by kernel_rfl) (by kernel_rfl) (by kernel_rfl)
  have tT := eTypeOfS
  have cT := eComparableS
  have mR := eMComparable
  have nI := eNoIs
  have nU := eNoUnwrap
  have nV := eNoUnwraps
  have heq := run_eql_iface_types (P := Tryd.prog) 66 123 v (.pointer (some b)) Tryd.underlying52 (by decide) w
  go_enter Tryd.func52, Tryd.ntmps52
  go_wp2
  refine wp_loop_rounds 1 ?_
  rw [rounds_succ]
  go_wp2
  go_ret
  exact ⟨rfl, rfl⟩
/-- errors.As(nil, ..). -/
theorem as_nil (t : Value) (w : World) :
    Calls Tryd.prog 53 #[.nilIface, t] w fun e w' => e = .returned (.bool false) ∧ w' = w := by
  go_enter Tryd.func53, Tryd.ntmps53
  go_wp2
  go_ret
  exact ⟨rfl, rfl⟩
end Go.Proofs.YtnlnbgcmmlpniaaDoor
