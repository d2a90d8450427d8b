/-
  WHAT IS PROVED: where two operations of a region that draws its order are ready: one that makes a value, one that calls. Over any program.
-/
import Derived.Test.YtjbmhbnlanbbkaaDoorGQ3
namespace Go.Proofs.YtjbmhbnlanbbkaaDoor
open Go.RowKit

theorem bel_un29 {b : Nat} {w w' : World} (h : Below b w.drew w') : Below b w w' := ⟨h.os, h.tape, h.output, h.size, h.block⟩
section
variable {P : Program} {l : List Oper} {Q : Exit → Act → World → Prop} {S : World → Prop} {fuel : Nat} {listed : Array Bool} {a0 : Act} {L : List (Nat × Bool × Value)} {w : World}
theorem one_val29 {i : Nat} {oi : Oper} {d n : Nat} {R : Value → World → Prop} (hn : a0.tmps.size = n) (hX : ∀ K : Act → World → Prop, (∀ v w2, R v w2 → K ((fr a0 L).put (some d) v) w2) → (∀ p, p ∈ L → p.1 < a0.tmps.size) → oi.wp P (fr a0 L) w K Q)
    (h : ∀ v w2, R v w2 → S w2 ∧ FH P l Q S fuel (listed.setIfInBounds i true) a0 ((d, true, v) :: L) w2) (hi : l.toArray[i]? = some oi) (hd : Nat.blt d n = true) (hw : wtG l L oi.guard = some true) : FHone P l Q S fuel listed a0 L w i := by
  intro hk
  unfold wpOp
  simp only [hi, wt_is hk hw, if_true]
  refine .inl (hX _ (fun v w2 hR => ?_) hk)
  obtain ⟨hs, hF⟩ := h v w2 hR
  exact ⟨hs, hF.go (fun p hp => by
    rcases List.mem_cons.1 hp with e | e
    · rw [e, hn]; exact blt_lt hd
    · exact hk p e)⟩
theorem one_callx29 {i : Nat} {oi : Oper} {d n : Nat} {R : Value → World → Prop} {f : FuncId} {args : Array Value} (hn : a0.tmps.size = n) (ho : oi.dst = some d) (hx : (∀ p, p ∈ L → p.1 < a0.tmps.size) → (execOp (fr a0 L).eval oi).run P w = .ok (.enter f args) w) (hc : Calls P f args w fun e w' => ∃ v, e = .returned v ∧ R v w')
    (h : ∀ v w2, R v w2 → S w2 ∧ FH P l Q S fuel (listed.setIfInBounds i true) a0 ((d, true, v) :: L) w2) (hi : l.toArray[i]? = some oi) (hd : Nat.blt d n = true) (hw : wtG l L oi.guard = some true) : FHone P l Q S fuel listed a0 L w i :=
  one_val29 hn (fun K hK hk => by
    unfold Oper.wp
    rw [hx hk, Oper.upon_enter]
    refine hc.mono ?_
    rintro e w' ⟨v, rfl, hR⟩
    show K ((fr a0 L).put oi.dst v) w'
    rw [ho]
    exact hK v w' hR) h hi hd hw
end
end Go.Proofs.YtjbmhbnlanbbkaaDoor
