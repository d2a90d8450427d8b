/-
  WHAT IS PROVED: append of one element onto a row of the call's own, with what else stays: nothing turns but the row's own block. Over any program · cells by index or block. Conditions: those typed in each theorem.
-/
import Derived.Test.YtokkmofcijfmiabRowX
import Derived.Test.YtokkmofcijfmiabFastH
import Derived.Test.YtokkmofcijfmiabRollMath
import Derived.Test.YtokkmofcijfmiabGQ13
namespace Go.Proofs.Ytokkmofcijfmiab
open Go.RowKit

theorem run_apG {P : Program} (w : World) {t t' e' ty el : TypeId} {i : TypeInfo} {z y : Nat} {zv : Value} (ht : P.underlying t = some (.slice el)) (ht' : P.underlying t' = some (.slice e')) (hi : P.info? el = some i) (hz : i.zero = some zv) (hs : i.size = z) (hy : i.bytes = y) (hzs : zv.cells.size = z) (hz0 : 0 < z) (hy0 : y ≤ 1000)
    {base : Nat} {A : Option Addr} {ad : Addr} {n c d : Nat} {l : List (Array Value)} {x : Array Value} (hown : OwnX el z base w A n c l) (hx : x.size = z) (h1 : ∀ u ∈ x.toList, u.oneCell' = true) (hr : ∀ j v, x[j]? = some v → w.cell? (ad.add j) = some v) (hsz : n ≤ 1000000000) (hbase : base ≤ w.heap.size) :
    ∃ A' c' w', (Builtin.append_ #[t, t'] ty #[.slice A n c, .slice (some ad) 1 d]).run P w = .ok (.slice A' (n + 1) c') w' ∧ OwnX el z base w' A' (n + 1) c' (l ++ [x]) ∧ w.grownBy w' (A.map (·.block)) := by
  obtain ⟨v', w', hrun, h2, h3, _, _⟩ := run_append_own_at (P := P) w base t ty el i zv z y ht hi hz hs hy hzs hz0 (.slice A n c) n (celV l) hown.1 ad 1 d x.toList (by rw [Array.length_toList, hx, Nat.one_mul]) (fun j u hu => hr j u (by rw [← Array.getElem?_toList]; exact hu)) h1
    (by unfold maxLen; omega) (Nat.le_trans (Nat.mul_le_mul (show n + 1 ≤ 1000000001 by omega) hy0) (by omega)) hbase
  have hv : ∃ A' c', v' = .slice A' (n + 1) c' := by
    rcases h2.2 with ⟨_, e2⟩ | ⟨g, cap, cur, e1, _⟩
    · omega
    · exact ⟨_, _, e1⟩
  obtain ⟨A', c', rfl⟩ := hv
  refine ⟨A', c', w', by rw [run_append_tt w ht ht']; exact hrun, ⟨?_, ?_, ?_⟩, by cases A <;> exact h3⟩
  · rw [show celV (l ++ [x]) = celV l ++ x.toList by simp [celV]]
    exact h2
  · intro cs hc
    rcases List.mem_append.1 hc with h | h
    · exact hown.2.1 cs h
    · rw [List.mem_singleton.1 h]
      exact hx
  · rw [List.length_append, hown.2.2]
    rfl
/-! Two operations that may come up. -/
section
variable {P : Program} {l : List Oper} {Q : Exit → Act → World → Prop} {S : World → Prop} {fuel : Nat} {listed : Array Bool} {a0 : Act} {L : List (Nat × Bool × Value)} {w : World}
/-- An operation taken now, whatever it does. -/
def FHone (P : Program) (l : List Oper) (Q : Exit → Act → World → Prop) (S : World → Prop) (fuel : Nat) (listed : Array Bool) (a0 : Act) (L : List (Nat × Bool × Value)) (w : World) (i : Nat) : Prop :=
  (∀ p, p ∈ L → p.1 < a0.tmps.size) → wpOp P l.toArray Q i (fun a' w' => S w' ∧ wpAnyH P .any l.toArray Q S fuel (listed.setIfInBounds i true) a' w') (fr a0 L) w
theorem fh_two {i j : Nat} (hr : Region.ready .any l.toArray listed = [i, j]) (h1 : FHone P l Q S fuel listed a0 L w i) (h2 : FHone P l Q S fuel listed a0 L w j) : FH P l Q S (fuel + 1) listed a0 L w := by
  refine ⟨fun hk => wpAnyH_all hr (by simp) fun m hm => ?_⟩
  rcases List.mem_cons.1 hm with rfl | hm
  · exact h1 hk
  · have e : m = j := by simpa using hm
    subst e
    exact h2 hk
theorem one_valx {i : Nat} {oi : Oper} {d n : Nat} {v : Value} {w2 : World} (hn : a0.tmps.size = n) (ho : oi.dst = some d) (hx : (∀ p, p ∈ L → p.1 < a0.tmps.size) → (execOp (fr a0 L).eval oi).run P w = .ok (.value v) w2)
    (hS : S w2) (h : FH P l Q S fuel (listed.setIfInBounds i true) a0 ((d, true, v) :: L) w2) (hi : l.toArray[i]? = some oi) (hd : Nat.blt d n = true) (hw : wtG l L oi.guard = some true) : FHone P l Q S fuel listed a0 L w i := by
  intro hk
  unfold wpOp
  simp only [hi, wt_is hk hw, if_true]
  refine .inl ?_
  unfold Oper.wp
  rw [hx hk, Oper.upon_value, ho]
  exact ⟨hS, h.go (fun p hp => by
    rcases List.mem_cons.1 hp with e | e
    · rw [e, hn]; exact blt_lt hd
    · exact hk p e)⟩
end
theorem x_ap {P : Program} {w w2 : World} {i j : Nat} {ts : Array TypeId} {ty : TypeId} {d : Option Tmp} {p : String} {af : Array Edge} {gd : Option (Nat × Bool)} {ρ : Operand → Value} {vi vj v : Value} (h1 : ρ (.tmp i) = vi) (h2 : ρ (.tmp j) = vj) (hr : (Builtin.append_ ts ty #[vi, vj]).run P w = .ok v w2) :
    (execOp ρ ⟨d, .call { callee := .builtin .append, args := #[.tmp i, .tmp j], argTypes := ts }, ty, p, af, gd⟩).run P w = .ok (.value v) w2 := by
  unfold execOp
  simp only [resolve, invoke, builtin, Sem.run_bind, Sem.run_pure, Result.andThen_ok, List.map_toArray, List.map_cons, List.map_nil, h1, h2, hr]
theorem x_cp {P : Program} {w w2 : World} {i j : Nat} {ts : Array TypeId} {ty : TypeId} {d : Option Tmp} {p : String} {af : Array Edge} {gd : Option (Nat × Bool)} {ρ : Operand → Value} {vi vj v : Value} (h1 : ρ (.tmp i) = vi) (h2 : ρ (.tmp j) = vj) (hr : (Builtin.copy_ ts ty #[vi, vj]).run P w = .ok v w2) :
    (execOp ρ ⟨d, .call { callee := .builtin .copy, args := #[.tmp i, .tmp j], argTypes := ts }, ty, p, af, gd⟩).run P w = .ok (.value v) w2 := by
  unfold execOp
  simp only [resolve, invoke, builtin, Sem.run_bind, Sem.run_pure, Result.andThen_ok, List.map_toArray, List.map_cons, List.map_nil, h1, h2, hr]
end Go.Proofs.Ytokkmofcijfmiab

namespace Go.Proofs.Ytokkmofcijfmiab
open Go.RowKit

abbrev tCl : TypeId := 54
theorem cix (W : World) (ad : Addr) (n c k : Nat) (h : k < n) : (Instr.indexAt 22 (.slice (some ad) n c) (.int .i64 (k : Int))).run Try.prog W = .ok (.pointer (some (ad.add (k * 4)))) W := by
  have i1 : (0 : Int) ≤ (k : Int) := by omega
  have i2 : (k : Int) < (n : Int) := by omega
  go_simp
theorem cld {W : World} {ad : Addr} {k : Nat} {x : Cl} (hc : ∀ j v, x.cells[j]? = some v → W.cell? (ad.add (k * 4 + j)) = some v) : (Instr.loadAt tCl (.pointer (some (ad.add (k * 4))))).run Try.prog W = .ok (.agg x.cells) W := by
  obtain ⟨ky, kk, n, s⟩ := x
  obtain ⟨h0, h1⟩ := celX hc
  have c0 : W.cell? (ad.add (k * 4)) = some (.string ky) := h0 _ rfl
  have c1 : W.cell? ⟨(ad.add (k * 4)).block, (ad.add (k * 4)).off + 1, none⟩ = some (.int .i64 kk) := h1 0 _ rfl
  have c2 : W.cell? ⟨(ad.add (k * 4)).block, (ad.add (k * 4)).off + 2, none⟩ = some (.int .i64 n) := h1 1 _ rfl
  have c3 : W.cell? ⟨(ad.add (k * 4)).block, (ad.add (k * 4)).off + 3, none⟩ = some (.string s) := h1 2 _ rfl
  clear hc h0 h1
  go_simp
theorem cld_blk {W : World} {g : Nat} {x : Cl} {t : TypeId} (h : Blk W g x.cells t) : (Instr.loadAt tCl (.pointer (some ⟨g, 0, none⟩))).run Try.prog W = .ok (.agg x.cells) W := by
  have c0 := h.cell 0
  have c1 := h.cell 1
  have c2 := h.cell 2
  have c3 := h.cell 3
  clear h
  go_simp
theorem alC (w : World) : (Instr.alloc tCl true (.tuple #[])).run Try.prog w = .ok (.pointer (some ⟨w.heap.size, 0, none⟩)) (w.alloc (.cells (⟨⟨#[]⟩, 0, 0, ⟨#[]⟩⟩ : Cl).cells tCl)) := by kernel_rfl
theorem cl_oneC (x : Cl) : x.cells.all (·.oneCell') = true := by
  obtain ⟨ky, k, n, s⟩ := x
  show (clI ky k n s).all _ = true
  rw [show clI ky k n s = [.string ky, .int .i64 k, .int .i64 n, .string s].toArray from rfl, List.all_toArray]
  simp [Value.oneCell']
theorem fcl0 (W : World) (b : Nat) : (Instr.fieldAt tCl (.pointer (some ⟨b, 0, none⟩)) 0).run Try.prog W = .ok (.pointer (some ⟨b, 0, none⟩)) W := by kernel_rfl
theorem fcl1 (W : World) (b : Nat) : (Instr.fieldAt tCl (.pointer (some ⟨b, 0, none⟩)) 1).run Try.prog W = .ok (.pointer (some ⟨b, 1, none⟩)) W := by kernel_rfl
theorem ld_ky {W : World} {b : Nat} {x : Cl} {t : TypeId} (h : Blk W b x.cells t) : (Instr.loadAt 9 (.pointer (some ⟨b, 0, none⟩))).run Try.prog W = .ok (.string x.ky) W := by
  have c0 := h.cell 0
  clear h
  go_simp
theorem ld_cv {W : World} {b : Nat} {x : Cl} {t : TypeId} (h : Blk W b x.cells t) : (Instr.loadAt 31 (.pointer (some ⟨b, 1, none⟩))).run Try.prog W = .ok (.agg #[.int .i64 x.k, .int .i64 x.x, .string x.s]) W := by
  have c1 := h.cell 1
  have c2 := h.cell 2
  have c3 := h.cell 3
  clear h
  go_simp
theorem bel_un29 {b : Nat} {w w' : World} (h : Below b w.drew w') : Below b w w' := ⟨h.os, h.tape, h.output, h.size, h.block⟩
section
variable {P : Program} {l : List Oper} {Q : Exit → Act → World → Prop} {S : World → Prop} {fuel : Nat} {listed : Array Bool} {a0 : Act} {L : List (Nat × Bool × Value)} {w : World}
theorem one_val29 {i : Nat} {oi : Oper} {d n : Nat} {R : Value → World → Prop} (hn : a0.tmps.size = n) (hX : ∀ K : Act → World → Prop, (∀ v w2, R v w2 → K ((fr a0 L).put (some d) v) w2) → (∀ p, p ∈ L → p.1 < a0.tmps.size) → oi.wp P (fr a0 L) w K Q)
    (h : ∀ v w2, R v w2 → S w2 ∧ FH P l Q S fuel (listed.setIfInBounds i true) a0 ((d, true, v) :: L) w2) (hi : l.toArray[i]? = some oi) (hd : Nat.blt d n = true) (hw : wtG l L oi.guard = some true) : FHone P l Q S fuel listed a0 L w i := by
  intro hk
  unfold wpOp
  simp only [hi, wt_is hk hw, if_true]
  refine .inl (hX _ (fun v w2 hR => ?_) hk)
  obtain ⟨hs, hF⟩ := h v w2 hR
  exact ⟨hs, hF.go (fun p hp => by
    rcases List.mem_cons.1 hp with e | e
    · rw [e, hn]; exact blt_lt hd
    · exact hk p e)⟩
theorem one_callx29 {i : Nat} {oi : Oper} {d n : Nat} {R : Value → World → Prop} {f : FuncId} {args : Array Value} (hn : a0.tmps.size = n) (ho : oi.dst = some d) (hx : (∀ p, p ∈ L → p.1 < a0.tmps.size) → (execOp (fr a0 L).eval oi).run P w = .ok (.enter f args) w) (hc : Calls P f args w fun e w' => ∃ v, e = .returned v ∧ R v w')
    (h : ∀ v w2, R v w2 → S w2 ∧ FH P l Q S fuel (listed.setIfInBounds i true) a0 ((d, true, v) :: L) w2) (hi : l.toArray[i]? = some oi) (hd : Nat.blt d n = true) (hw : wtG l L oi.guard = some true) : FHone P l Q S fuel listed a0 L w i :=
  one_val29 hn (fun K hK hk => by
    unfold Oper.wp
    rw [hx hk, Oper.upon_enter]
    refine hc.mono ?_
    rintro e w' ⟨v, rfl, hR⟩
    show K ((fr a0 L).put oi.dst v) w'
    rw [ho]
    exact hK v w' hR) h hi hd hw
end
end Go.Proofs.Ytokkmofcijfmiab
