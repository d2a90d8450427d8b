/-
  WHAT IS PROVED: a call with any operands, in a region that doesn't draw its order. Over any program that bears the types named.
-/
import Derived.Test.YtokkmofcijfmiabFast4
namespace Go.Proofs.Ytokkmofcijfmiab
open Go.RowKit
section
variable {l : List Oper} {Q : Exit → Act → World → Prop} {rest : List Oper} {a0 : Act} {L : List (Nat × Bool × Value)} {w : World}
theorem callv_is {f : FuncId} (he : ∀ args w, (callFunc f args).run Try.prog w = .ok (.enter f args) w) (d : Option Tmp) (xs : Array Operand) (ts : Array TypeId) (ty : TypeId) (p : String) (af : Array Edge) (gd : Option (Nat × Bool)) (ρ : Operand → Value) (vs : Array Value) (h : xs.map ρ = vs) (hf : ρ (.func f) = .func (.func f) #[] #[]) : (execOp ρ ⟨d, .call { callee := .value (.func f), args := xs, argTypes := ts }, ty, p, af, gd⟩).run Try.prog w = .ok (.enter f vs) w := by
  subst h
  unfold execOp
  dsimp only
  go_simp
theorem g_cvx {f : FuncId} {xs : Array Operand} {d n : Nat} {vs : Array Value} {R : Value → World → Prop} {ts : Array TypeId} {ty : TypeId} {p : String} {af : Array Edge} {gd : Option (Nat × Bool)} (he : ∀ args w, (callFunc f args).run Try.prog w = .ok (.enter f args) w) (hn : a0.tmps.size = n) (hv : (∀ p, p ∈ L → p.1 < a0.tmps.size) → xs.map (fr a0 L).eval = vs) (hc : Calls Try.prog f vs w fun e w' => ∃ v, e = .returned v ∧ R v w') (h : ∀ v w2, R v w2 → FL Try.prog l Q rest a0 ((d, true, v) :: L) w2) (hd : Nat.blt d n = true := by rfl) (hw : wtG l L gd = some true := by rfl) : FL Try.prog l Q (⟨some d, .call { callee := .value (.func f), args := xs, argTypes := ts }, ty, p, af, gd⟩ :: rest) a0 L w :=
  fl_callx hn rfl hd hw (fun hk => callv_is he _ _ _ _ _ _ _ _ vs (hv hk) rfl) hc h
end
end Go.Proofs.Ytokkmofcijfmiab
