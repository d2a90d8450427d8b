/-
  WHAT IS PROVED: errors.Is and errors.As of Go's own text, walked, where package pack calls them: of no error, of its sentinel, of its own error type 'wrong'. Conditions: those typed in each theorem.
-/
import Derived.Test.YtfpfalgbkbmkeaaDoorMem
import Derived.WalkKit
import Derived.LaidEql
import Derived.Stop.Asserts
import Derived.RowKitTokens
namespace Go.Proofs.YtfpfalgbkbmkeaaDoor
open Go.RowKit Go.Extern.Stop Go.Stop Go.Extern

/-! Closed facts on the library's entries, at this program's types. -/
theorem eTypeOfS (v : Value) (w : World) : (Extern.ReflectliteType.typeOf #[.iface 102 v]).run Tryd.prog w = .ok (.iface 92 (.agg #[.pointer (some ⟨1, 102, none⟩)])) w := by kernel_rfl
/-- The model's entry of (rtype).Comparable, as it is found. -/
noncomputable def eCmp : Array Value → Sem Value := (Go.Extern.find Tryd.f65).getD fun _ => pure .nilIface
theorem eComparableS (w : World) : (eCmp #[.agg #[.pointer (some ⟨1, 102, none⟩)]]).run Tryd.prog w = .ok (.bool true) w := by kernel_rfl
theorem eMComparable (v : Value) (w : World) : (Go.method 239 92 v "Comparable").run Tryd.prog w = .ok (65, v) w := by kernel_rfl
theorem eComp : (Tryd.prog.info? 102).map (·.comparable) = some true := by kernel_rfl
theorem eSize : (Tryd.prog.info? 127).map (·.size) = some 1 := by kernel_rfl
/-- errors.Is(nil, the sentinel). -/
theorem is_nil (b : Addr) (w : World) :
    Calls Tryd.prog 22 #[.nilIface, .iface 102 (.pointer (some b))] w fun e w' => e = .returned (.bool false) ∧ w' = w := by
  have hn := run_eql_iface_nil_left (P := Tryd.prog) w 102 (.pointer (some b)) Tryd.underlying61
  go_enter Tryd.func22, Tryd.ntmps22
  go_wp2
  go_ret
  exact ⟨rfl, rfl⟩
/-- errors.Is(the sentinel, itself). -/
theorem is_same (a : Addr) (w : World) :
    Calls Tryd.prog 22 #[.iface 102 (.pointer (some a)), .iface 102 (.pointer (some a))] w fun e w' => e = .returned (.bool true) ∧ w' = w := by
  obtain ⟨i, hi, hcmp⟩ := Option.map_eq_some_iff.1 eComp
  obtain ⟨j, hj, hjs⟩ := Option.map_eq_some_iff.1 eSize
  have h8 := @run_callFunc_extern Tryd.prog 37 _ Extern.ReflectliteType.typeOf Tryd.func37 (by kernel_rfl) (by kernel_rfl) (by kernel_rfl) (by kernel_rfl)
  have h32 := @run_callFunc_extern Tryd.prog 65 _ eCmp Tryd.func65 (by kernel_rfl) (by kernel_rfl) (by kernel_rfl) (by kernel_rfl)
  have tT := eTypeOfS
  have cT := eComparableS
  have mR := eMComparable
  have heq := run_eql_iface_ptr_same (P := Tryd.prog) w a Tryd.underlying61 Tryd.underlying102 hi hcmp hj
  go_enter Tryd.func22, Tryd.ntmps22
  go_wp2
  refine wp_loop_rounds 1 ?_
  rw [rounds_succ]
  go_wp2
  go_ret
  exact ⟨rfl, rfl⟩
end Go.Proofs.YtfpfalgbkbmkeaaDoor
