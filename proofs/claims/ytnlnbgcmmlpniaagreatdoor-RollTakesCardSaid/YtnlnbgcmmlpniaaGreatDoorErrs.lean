/-
  WHAT IS PROVED: errors.Is and errors.As of Go's own text, walked, where package pack calls them: of no error, of its sentinel, of its own error type 'wrong'. Conditions: those typed in each theorem.
-/
import Derived.Test.YtnlnbgcmmlpniaaGreatDoorM1
import Derived.WalkKit
import Derived.LaidEql
import Derived.Stop.Asserts
import Derived.RowKitTokens
namespace Go.Proofs.YtnlnbgcmmlpniaaGreatDoor
open Go.RowKit Go.Extern.Stop Go.Stop Go.Extern

/-! Closed facts on the library's entries, at this program's types. -/
theorem eTypeOfS (v : Value) (w : World) : (Extern.ReflectliteType.typeOf #[.iface 231 v]).run Tryz.prog w = .ok (.iface 197 (.agg #[.pointer (some ⟨2, 231, none⟩)])) w := by kernel_rfl
/-- The model's entry of (rtype).Comparable, as it is found. -/
noncomputable def eCmp : Array Value → Sem Value := (Go.Extern.find Tryz.f188).getD fun _ => pure .nilIface
theorem eComparableS (w : World) : (eCmp #[.agg #[.pointer (some ⟨2, 231, none⟩)]]).run Tryz.prog w = .ok (.bool true) w := by kernel_rfl
theorem eMComparable (v : Value) (w : World) : (Go.method 361 197 v "Comparable").run Tryz.prog w = .ok (188, v) w := by kernel_rfl
theorem eComp : (Tryz.prog.info? 231).map (·.comparable) = some true := by kernel_rfl
theorem eSize : (Tryz.prog.info? 249).map (·.size) = some 1 := by kernel_rfl
theorem eNoIs (v : Value) (xT : TypeId) (w : World) : (Instr.typeAssert (.iface 108 v) xT 199 true).run Tryz.prog w = .ok (.tuple #[.nilIface, .bool false]) w := run_typeAssert_lacksB Tryz.underlying199 (by kernel_rfl) (by kernel_rfl) v xT w
theorem eNoUnwrap (v : Value) (xT : TypeId) (w : World) : (Instr.typeAssert (.iface 108 v) xT 202 true).run Tryz.prog w = .ok (.tuple #[.nilIface, .bool false]) w := run_typeAssert_lacksB Tryz.underlying202 (by kernel_rfl) (by kernel_rfl) v xT w
theorem eNoUnwraps (v : Value) (xT : TypeId) (w : World) : (Instr.typeAssert (.iface 108 v) xT 204 true).run Tryz.prog w = .ok (.tuple #[.nilIface, .bool false]) w := run_typeAssert_lacksB Tryz.underlying204 (by kernel_rfl) (by kernel_rfl) v xT w

/-- errors.Is(nil, the sentinel). -/
theorem is_nil (b : Addr) (w : World) :
    Calls Tryz.prog 93 #[.nilIface, .iface 231 (.pointer (some b))] w fun e w' => e = .returned (.bool false) ∧ w' = w := by
  have hn := run_eql_iface_nil_left (P := Tryz.prog) w 231 (.pointer (some b)) Tryz.underlying94
  go_enter Tryz.func93, Tryz.ntmps93
  go_wp2
  go_ret
  exact ⟨rfl, rfl⟩
/-- errors.Is(the sentinel, itself). -/
theorem is_same (a : Addr) (w : World) :
    Calls Tryz.prog 93 #[.iface 231 (.pointer (some a)), .iface 231 (.pointer (some a))] w fun e w' => e = .returned (.bool true) ∧ w' = w := by
  obtain ⟨i, hi, hcmp⟩ := Option.map_eq_some_iff.1 eComp
  obtain ⟨j, hj, hjs⟩ := Option.map_eq_some_iff.1 eSize
  have h8 := @run_callFunc_extern Tryz.prog 127 _ Extern.ReflectliteType.typeOf Tryz.func127 (by kernel_rfl) (by kernel_rfl) (by kernel_rfl) (by kernel_rfl)
  have h32 := @run_callFunc_extern Tryz.prog 188 _ eCmp Tryz.func188 (by kernel_rfl) (by kernel_rfl) (by kernel_rfl) (by kernel_rfl)
  have tT := eTypeOfS
  have cT := eComparableS
  have mR := eMComparable
  have heq := run_eql_iface_ptr_same (P := Tryz.prog) w a Tryz.underlying94 Tryz.underlying231 hi hcmp hj
  go_enter Tryz.func93, Tryz.ntmps93
  go_wp2
  refine wp_loop_rounds 1 ?_
  rw [rounds_succ]
  go_wp2
  go_ret
  exact ⟨rfl, rfl⟩
/-- errors.Is(an error of the type 'wrong', the sentinel). -/
theorem is_wrong (v : Value) (b : Addr) (w : World) :
    Calls Tryz.prog 93 #[.iface 108 v, .iface 231 (.pointer (some b))] w fun e w' => e = .returned (.bool false) ∧ w' = w := by
  have h8 := @run_callFunc_extern Tryz.prog 127 _ Extern.ReflectliteType.typeOf Tryz.func127 (by kernel_rfl) (by kernel_rfl) (by kernel_rfl) (by kernel_rfl)
  have h32 := @run_callFunc_extern Tryz.prog 188 _ eCmp Tryz.func188 (by kernel_rfl) (by kernel_rfl) (by kernel_rfl) (by kernel_rfl)
  have tT := eTypeOfS
  have cT := eComparableS
  have mR := eMComparable
  have nI := eNoIs
  have nU := eNoUnwrap
  have nV := eNoUnwraps
  have heq := run_eql_iface_types (P := Tryz.prog) 108 231 v (.pointer (some b)) Tryz.underlying94 (by decide) w
  go_enter Tryz.func93, Tryz.ntmps93
  go_wp2
  refine wp_loop_rounds 1 ?_
  rw [rounds_succ]
  go_wp2
  go_ret
  exact ⟨rfl, rfl⟩
/-- errors.As(nil, ..). -/
theorem as_nil (t : Value) (w : World) :
    Calls Tryz.prog 94 #[.nilIface, t] w fun e w' => e = .returned (.bool false) ∧ w' = w := by
  go_enter Tryz.func94, Tryz.ntmps94
  go_wp2
  go_ret
  exact ⟨rfl, rfl⟩
end Go.Proofs.YtnlnbgcmmlpniaaGreatDoor
