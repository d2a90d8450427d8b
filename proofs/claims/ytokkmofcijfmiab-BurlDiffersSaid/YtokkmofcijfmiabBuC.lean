/-
  WHAT IS PROVED: slices.Equal of rows of the same whole numbers; the law BurlParts. Conditions: those typed in each theorem.
-/
import Derived.Test.YtokkmofcijfmiabBuB
namespace Go.Proofs.Ytokkmofcijfmiab
open Go.RowKit

theorem neq_in (i j : Nat) (x : Int) (W : World) : ((do eqGuard .neq 3 (.tmp i) (.tmp j) (.int .i64 x) (.int .i64 x); binOp .neq 3 (.int .i64 x) (.int .i64 x)) : Sem Value).run Try.prog W = .ok (.bool false) W := by go_simp
theorem bu_one (r : Nat) (L : List Nat) : ((buC r L).all (·.oneCell')) = true := by
  unfold buC
  simp [Value.oneCell']
theorem ld_bu {W : World} {b r : Nat} {L : List Nat} (hX : Blk W b (buC r L) 39) (hl : L.length = 16) : (Instr.loadAt 39 (.pointer (some ⟨b, 0, none⟩))).run Try.prog W = .ok (.agg (buC r L)) W := by
  obtain ⟨a0, a1, a2, a3, a4, a5, a6, a7, a8, a9, a10, a11, a12, a13, a14, a15, rfl⟩ : ∃ a0 a1 a2 a3 a4 a5 a6 a7 a8 a9 a10 a11 a12 a13 a14 a15, L = [a0, a1, a2, a3, a4, a5, a6, a7, a8, a9, a10, a11, a12, a13, a14, a15] := by
    match L, hl with
    | [a0, a1, a2, a3, a4, a5, a6, a7, a8, a9, a10, a11, a12, a13, a14, a15], _ => exact ⟨_, _, _, _, _, _, _, _, _, _, _, _, _, _, _, _, rfl⟩
  exact run_loadAt_mid W b 0 _ (buC r [a0, a1, a2, a3, a4, a5, a6, a7, a8, a9, a10, a11, a12, a13, a14, a15]).toList _ (fun j v hv => by rw [Nat.zero_add, hX.cell j]; exact (Array.getElem?_toList ..).symm.trans hv) Try.underlying39 rfl (by kernel_rfl)
theorem call0_isB {f : FuncId} (he : ∀ args w, (callFunc f args).run Try.prog w = .ok (.enter f args) w) {w : World} (d : Option Tmp) (ts : Array TypeId) (ty : TypeId) (p : String) (af : Array Edge) (gd : Option (Nat × Bool)) (ρ : Operand → Value) (hf : ρ (.func f) = .func (.func f) #[] #[]) : (execOp ρ ⟨d, .call { callee := .value (.func f), args := #[], argTypes := ts }, ty, p, af, gd⟩).run Try.prog w = .ok (.enter f #[]) w := by
  unfold execOp
  dsimp only
  go_simp
theorem h_c0 {l : List Oper} {Q : Exit → Act → World → Prop} {S : World → Prop} {fuel : Nat} {listed : Array Bool} {a0 : Act} {L : List (Nat × Bool × Value)} {w : World} (k : Nat) {f : FuncId} {d n : Nat} {R : Value → World → Prop} {ts : Array TypeId} {ty : TypeId} {p : String} {af : Array Edge} {gd : Option (Nat × Bool)} (he : ∀ args w, (callFunc f args).run Try.prog w = .ok (.enter f args) w) (hn : a0.tmps.size = n) (hc : Calls Try.prog f #[] w fun e w' => ∃ v, e = .returned v ∧ R v w') (h : ∀ v w2, R v w2 → S w2 ∧ FH Try.prog l Q S fuel (listed.setIfInBounds k true) a0 ((d, true, v) :: L) w2) (hi : l.toArray[k]? = some ⟨some d, .call { callee := .value (.func f), args := #[], argTypes := ts }, ty, p, af, gd⟩ := by rfl) (hd : Nat.blt d n = true := by rfl) (hw : wtG l L gd = some true := by rfl) (hr : Region.ready .any l.toArray listed = [k] := by kernel_rfl) : FH Try.prog l Q S (fuel + 1) listed a0 L w :=
  fh_callx k hn rfl (fun hk => call0_isB he _ _ _ _ _ _ _ rfl) hc h hi hd hr hw
theorem parts_len (r r2 : Nat) (L L2 : List Nat) : (parts r r2 L L2).length ≤ 16 := by
  unfold parts
  split
  · simp
  · exact partTo_len L L2 16
end Go.Proofs.Ytokkmofcijfmiab
