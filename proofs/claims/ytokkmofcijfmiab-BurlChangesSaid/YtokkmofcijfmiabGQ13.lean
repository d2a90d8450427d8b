/-
  WHAT IS PROVED: 'what lay in w0 lies in W' as a word for XFastC's laws. Conditions: those typed in each theorem. · append of one element onto a row of the call's own, with what else stays: nothing turns but the row's own block. Over any program · cells by index or block. Conditions: those typed in each theorem. · a write's cells, reached by an index into a slice of writes, or in a block of its own. Conditions: those typed in each theorem.
-/
import Derived.Test.YtokkmofcijfmiabFastC
import Derived.Test.YtokkmofcijfmiabRowX
import Derived.Test.YtokkmofcijfmiabFastH
import Derived.Test.YtokkmofcijfmiabRollMath
import Derived.Test.YtokkmofcijfmiabGQ3
namespace Go.Proofs.Ytokkmofcijfmiab
open Go.RowKit

/-- What lay in w0 lies in W. -/
def Kp (w0 W : World) : Prop := Below w0.heap.size w0 W
theorem Kp.refl (w : World) : Kp w w := Below.refl _ _
theorem Kp.drew (w : World) : Kp w w.drew := (Below.refl w.heap.size w).drew
theorem Kp.drews {a b : World} (h : Kp a b) : Kp a b.drew := Below.drew h
theorem Kp.blk {w0 W : World} (h : Kp w0 W) {b : Nat} {cs : Array Value} {t : TypeId} (hX : Blk w0 b cs t) : Blk W b cs t := hX.keep h
theorem Kp.trans {a b c : World} (h : Kp a b) (k : Below b.heap.size b c) : Kp a c := Below.trans h (k.mono h.size)
theorem Kp.below {a b : World} (h : Kp a b) : Below a.heap.size a b := h
/-- A call's contract under Kp. -/
theorem kp_c {w0 : World} {f : FuncId} {args : Array Value} {v : Value} (h : ∀ W, Kp w0 W → Calls Try.prog f args W fun e w' => e = .returned v ∧ Below W.heap.size W w') :
    ∀ W, Kp w0 W → Calls Try.prog f args W fun e w' => e = .returned v ∧ Kp w0 w' := fun W hW => (h W hW).mono fun _ _ ⟨he, hb⟩ => ⟨he, hW.trans hb⟩
theorem same_c {f : FuncId} {args : Array Value} {v : Value} {w : World} (h : Calls Try.prog f args w fun e w' => e = .returned v ∧ w' = w) : Calls Try.prog f args w fun e w' => e = .returned v ∧ Below w.heap.size w w' :=
  h.mono fun _ _ ⟨he, hw⟩ => ⟨he, by rw [hw]; exact Below.refl _ _⟩
theorem er_eql (i : Nat) (m k : Int) (W : World) : ((do eqGuard .eql 25 (.tmp i) (.const (.int .i64 k)) (.int .i64 m) (.int .i64 k); binOp .eql 25 (.int .i64 m) (.int .i64 k)) : Sem Value).run Try.prog W = .ok (.bool (m == k)) W := by go_simp
theorem er_eql2 (i j : Nat) (m k : Int) (W : World) : ((do eqGuard .eql 25 (.tmp i) (.tmp j) (.int .i64 m) (.int .i64 k); binOp .eql 25 (.int .i64 m) (.int .i64 k)) : Sem Value).run Try.prog W = .ok (.bool (m == k)) W := by go_simp
theorem bo_eql2 (i j : Nat) (m k : Bool) (W : World) : ((do eqGuard .eql 4 (.tmp i) (.tmp j) (.bool m) (.bool k); binOp .eql 4 (.bool m) (.bool k)) : Sem Value).run Try.prog W = .ok (.bool (m == k)) W := by cases m <;> cases k <;> go_simp
theorem er_neq (i : Nat) (m k : Int) (W : World) : ((do eqGuard .neq 25 (.tmp i) (.const (.int .i64 k)) (.int .i64 m) (.int .i64 k); binOp .neq 25 (.int .i64 m) (.int .i64 k)) : Sem Value).run Try.prog W = .ok (.bool (m != k)) W := by go_simp
theorem er_neq2 (i j : Nat) (m k : Int) (W : World) : ((do eqGuard .neq 25 (.tmp i) (.tmp j) (.int .i64 m) (.int .i64 k); binOp .neq 25 (.int .i64 m) (.int .i64 k)) : Sem Value).run Try.prog W = .ok (.bool (m != k)) W := by go_simp
theorem bo_neq2 (i j : Nat) (m k : Bool) (W : World) : ((do eqGuard .neq 4 (.tmp i) (.tmp j) (.bool m) (.bool k); binOp .neq 4 (.bool m) (.bool k)) : Sem Value).run Try.prog W = .ok (.bool (m != k)) W := by cases m <;> cases k <;> go_simp
section
variable {P : Program} {l : List Oper} {Q : Exit → Act → World → Prop} {S : World → Prop} {fuel : Nat} {listed : Array Bool} {a0 : Act} {L : List (Nat × Bool × Value)} {w : World}
/-- Any operation that reads, in a region that draws and writes. -/
theorem h_op (k : Nat) {oi : Oper} {d n : Nat} {v : Value} (hn : a0.tmps.size = n) (hS : S w) (hr : ∀ W, S W → (∀ p, p ∈ L → p.1 < a0.tmps.size) → (execOp (fr a0 L).eval oi).run P W = .ok (.value v) W) (h : FH P l Q S fuel (listed.setIfInBounds k true) a0 ((d, true, v) :: L) w) (hi : l.toArray[k]? = some oi := by rfl) (ho : oi.dst = some d := by rfl) (hd : Nat.blt d n = true := by rfl) (hw : wtG l L oi.guard = some true := by rfl) (hs : Region.noSelect l.toArray = true := by kernel_rfl) (hf : Region.free .any l.toArray listed k = true := by kernel_rfl) (hr2 : (Region.ready .any l.toArray listed).contains k = true := by kernel_rfl) (hQ : ∀ c a w, Q (.panic c) (a.put oi.dst (cnd true v)) w → Q (.panic c) a w := by exact fun _ _ _ h => h) : FH P l Q S (fuel + 1) listed a0 L w :=
  fh_op k hn hS h ho hi hd hs hf hr2 hQ hw (fun hk _ w hw => hr w hw hk)
/-- The one operation that may come up reads. -/
theorem h_one (k : Nat) {oi : Oper} {d n : Nat} {v : Value} (hn : a0.tmps.size = n) (hS : S w) (hx : (∀ p, p ∈ L → p.1 < a0.tmps.size) → (execOp (fr a0 L).eval oi).run P w = .ok (.value v) w) (h : FH P l Q S fuel (listed.setIfInBounds k true) a0 ((d, true, v) :: L) w) (hi : l.toArray[k]? = some oi := by rfl) (ho : oi.dst = some d := by rfl) (hd : Nat.blt d n = true := by rfl) (hw : wtG l L oi.guard = some true := by rfl) (hr : Region.ready .any l.toArray listed = [k] := by kernel_rfl) : FH P l Q S (fuel + 1) listed a0 L w :=
  fh_valx k hn ho hx hS h hi hd hr hw
/-- The last operation stores. -/
theorem h_st (k : Nat) {w2 : World} {i j : Nat} {t ty : TypeId} {p : String} {af : Array Edge} {gd : Option (Nat × Bool)} {ad : Addr} {v : Value} (hs : (Instr.storeAt t (.pointer (some ad)) v).run P w = .ok () w2) (hS : S w2) (h : FH P l Q S fuel (listed.setIfInBounds k true) a0 L w2) (hi : l.toArray[k]? = some ⟨none, .store t (.tmp i) (.tmp j), ty, p, af, gd⟩ := by rfl) (h1 : lk L i = some (true, .pointer (some ad)) := by rfl) (h2 : lk L j = some (true, v) := by rfl) (hr : Region.ready .any l.toArray listed = [k] := by kernel_rfl) (hw : wtG l L gd = some true := by rfl) : FH P l Q S (fuel + 1) listed a0 L w :=
  fh_skip k rfl (fun hk => run_st (lk_at hk h1 (fun _ => rfl) rfl) (lk_at hk h2 (fun _ => rfl) rfl) hs) hS h hi hr hw
end
section
variable {P : Program} {l : List Oper} {Q : Exit → Act → World → Prop} {S : World → Prop} {fuel : Nat} {listed : Array Bool} {a0 : Act} {L : List (Nat × Bool × Value)} {w : World}
/-- The one operation that may come up yields one value and keeps S. -/
theorem h_yv (k : Nat) {oi : Oper} {d n : Nat} {v : Value} (hn : a0.tmps.size = n) (hS : S w) (hy : (∀ p, p ∈ L → p.1 < a0.tmps.size) → YV P S (fr a0 L).eval oi v) (h : ∀ w2, S w2 → FH P l Q S fuel (listed.setIfInBounds k true) a0 ((d, true, v) :: L) w2)
    (hi : l.toArray[k]? = some oi := by rfl) (ho : oi.dst = some d := by rfl) (hd : Nat.blt d n = true := by rfl) (hr : Region.ready .any l.toArray listed = [k] := by kernel_rfl) (hw : wtG l L oi.guard = some true := by rfl) : FH P l Q S (fuel + 1) listed a0 L w :=
  fh_val k hn (R := fun u w2 => u = v ∧ S w2) (fun K hK hk => (hy hk).wp hS fun w2 hs => by rw [ho]; exact hK v w2 ⟨rfl, hs⟩) (fun u w2 e => by obtain ⟨rfl, hs⟩ := e; exact ⟨hs, h w2 hs⟩) hi hd hr hw
end
/-- A struct or an array of a call's own: its block, laid and stored. -/
theorem al_row {d n : Nat} {l : List Oper} {Q : Exit → Act → World → Prop} {rest : List Oper} {a0 : Act} {L : List (Nat × Bool × Value)} {w : World} {t ty : TypeId} {p : String} {af : Array Edge} {z : Array Value} (hn : a0.tmps.size = n)
    (hr : (Instr.alloc t true (.tuple #[])).run Try.prog w = .ok (.pointer (some ⟨w.heap.size, 0, none⟩)) (w.alloc (.cells z t)))
    (h : ∀ g w2, g = w.heap.size → Blk w2 g z t → Below w.heap.size w w2 → FL Try.prog l Q rest a0 ((d, true, .pointer (some ⟨g, 0, none⟩)) :: L) w2) (hd : Nat.blt d n = true := by rfl) : FL Try.prog l Q (⟨some d, .alloc t, ty, p, af, none⟩ :: rest) a0 L w :=
  g_w hn (w2 := w.alloc (.cells z t)) (v := .pointer (some ⟨w.heap.size, 0, none⟩)) (fun _ => by unfold execOp; dsimp only; rw [Sem.run_bind, hr]; rfl) (h _ _ rfl (blk_new w z t) (b0 w _)) rfl hd rfl
end Go.Proofs.Ytokkmofcijfmiab

namespace Go.Proofs.Ytokkmofcijfmiab
open Go.RowKit

theorem run_apG {P : Program} (w : World) {t t' e' ty el : TypeId} {i : TypeInfo} {z y : Nat} {zv : Value} (ht : P.underlying t = some (.slice el)) (ht' : P.underlying t' = some (.slice e')) (hi : P.info? el = some i) (hz : i.zero = some zv) (hs : i.size = z) (hy : i.bytes = y) (hzs : zv.cells.size = z) (hz0 : 0 < z) (hy0 : y ≤ 1000)
    {base : Nat} {A : Option Addr} {ad : Addr} {n c d : Nat} {l : List (Array Value)} {x : Array Value} (hown : OwnX el z base w A n c l) (hx : x.size = z) (h1 : ∀ u ∈ x.toList, u.oneCell' = true) (hr : ∀ j v, x[j]? = some v → w.cell? (ad.add j) = some v) (hsz : n ≤ 1000000000) (hbase : base ≤ w.heap.size) :
    ∃ A' c' w', (Builtin.append_ #[t, t'] ty #[.slice A n c, .slice (some ad) 1 d]).run P w = .ok (.slice A' (n + 1) c') w' ∧ OwnX el z base w' A' (n + 1) c' (l ++ [x]) ∧ w.grownBy w' (A.map (·.block)) := by
  obtain ⟨v', w', hrun, h2, h3, _, _⟩ := run_append_own_at (P := P) w base t ty el i zv z y ht hi hz hs hy hzs hz0 (.slice A n c) n (celV l) hown.1 ad 1 d x.toList (by rw [Array.length_toList, hx, Nat.one_mul]) (fun j u hu => hr j u (by rw [← Array.getElem?_toList]; exact hu)) h1
    (by unfold maxLen; omega) (Nat.le_trans (Nat.mul_le_mul (show n + 1 ≤ 1000000001 by omega) hy0) (by omega)) hbase
  have hv : ∃ A' c', v' = .slice A' (n + 1) c' := by
    rcases h2.2 with ⟨_, e2⟩ | ⟨g, cap, cur, e1, _⟩
    · omega
    · exact ⟨_, _, e1⟩
  obtain ⟨A', c', rfl⟩ := hv
  refine ⟨A', c', w', by rw [run_append_tt w ht ht']; exact hrun, ⟨?_, ?_, ?_⟩, by cases A <;> exact h3⟩
  · rw [show celV (l ++ [x]) = celV l ++ x.toList by simp [celV]]
    exact h2
  · intro cs hc
    rcases List.mem_append.1 hc with h | h
    · exact hown.2.1 cs h
    · rw [List.mem_singleton.1 h]
      exact hx
  · rw [List.length_append, hown.2.2]
    rfl
/-! Two operations that may come up. -/
section
variable {P : Program} {l : List Oper} {Q : Exit → Act → World → Prop} {S : World → Prop} {fuel : Nat} {listed : Array Bool} {a0 : Act} {L : List (Nat × Bool × Value)} {w : World}
/-- An operation taken now, whatever it does. -/
def FHone (P : Program) (l : List Oper) (Q : Exit → Act → World → Prop) (S : World → Prop) (fuel : Nat) (listed : Array Bool) (a0 : Act) (L : List (Nat × Bool × Value)) (w : World) (i : Nat) : Prop :=
  (∀ p, p ∈ L → p.1 < a0.tmps.size) → wpOp P l.toArray Q i (fun a' w' => S w' ∧ wpAnyH P .any l.toArray Q S fuel (listed.setIfInBounds i true) a' w') (fr a0 L) w
theorem fh_two {i j : Nat} (hr : Region.ready .any l.toArray listed = [i, j]) (h1 : FHone P l Q S fuel listed a0 L w i) (h2 : FHone P l Q S fuel listed a0 L w j) : FH P l Q S (fuel + 1) listed a0 L w := by
  refine ⟨fun hk => wpAnyH_all hr (by simp) fun m hm => ?_⟩
  rcases List.mem_cons.1 hm with rfl | hm
  · exact h1 hk
  · have e : m = j := by simpa using hm
    subst e
    exact h2 hk
theorem one_valx {i : Nat} {oi : Oper} {d n : Nat} {v : Value} {w2 : World} (hn : a0.tmps.size = n) (ho : oi.dst = some d) (hx : (∀ p, p ∈ L → p.1 < a0.tmps.size) → (execOp (fr a0 L).eval oi).run P w = .ok (.value v) w2)
    (hS : S w2) (h : FH P l Q S fuel (listed.setIfInBounds i true) a0 ((d, true, v) :: L) w2) (hi : l.toArray[i]? = some oi) (hd : Nat.blt d n = true) (hw : wtG l L oi.guard = some true) : FHone P l Q S fuel listed a0 L w i := by
  intro hk
  unfold wpOp
  simp only [hi, wt_is hk hw, if_true]
  refine .inl ?_
  unfold Oper.wp
  rw [hx hk, Oper.upon_value, ho]
  exact ⟨hS, h.go (fun p hp => by
    rcases List.mem_cons.1 hp with e | e
    · rw [e, hn]; exact blt_lt hd
    · exact hk p e)⟩
end
theorem x_ap {P : Program} {w w2 : World} {i j : Nat} {ts : Array TypeId} {ty : TypeId} {d : Option Tmp} {p : String} {af : Array Edge} {gd : Option (Nat × Bool)} {ρ : Operand → Value} {vi vj v : Value} (h1 : ρ (.tmp i) = vi) (h2 : ρ (.tmp j) = vj) (hr : (Builtin.append_ ts ty #[vi, vj]).run P w = .ok v w2) :
    (execOp ρ ⟨d, .call { callee := .builtin .append, args := #[.tmp i, .tmp j], argTypes := ts }, ty, p, af, gd⟩).run P w = .ok (.value v) w2 := by
  unfold execOp
  simp only [resolve, invoke, builtin, Sem.run_bind, Sem.run_pure, Result.andThen_ok, List.map_toArray, List.map_cons, List.map_nil, h1, h2, hr]
theorem x_cp {P : Program} {w w2 : World} {i j : Nat} {ts : Array TypeId} {ty : TypeId} {d : Option Tmp} {p : String} {af : Array Edge} {gd : Option (Nat × Bool)} {ρ : Operand → Value} {vi vj v : Value} (h1 : ρ (.tmp i) = vi) (h2 : ρ (.tmp j) = vj) (hr : (Builtin.copy_ ts ty #[vi, vj]).run P w = .ok v w2) :
    (execOp ρ ⟨d, .call { callee := .builtin .copy, args := #[.tmp i, .tmp j], argTypes := ts }, ty, p, af, gd⟩).run P w = .ok (.value v) w2 := by
  unfold execOp
  simp only [resolve, invoke, builtin, Sem.run_bind, Sem.run_pure, Result.andThen_ok, List.map_toArray, List.map_cons, List.map_nil, h1, h2, hr]
end Go.Proofs.Ytokkmofcijfmiab

namespace Go.Proofs.Ytokkmofcijfmiab
open Go.RowKit

abbrev tCl : TypeId := 54
theorem cix (W : World) (ad : Addr) (n c k : Nat) (h : k < n) : (Instr.indexAt 22 (.slice (some ad) n c) (.int .i64 (k : Int))).run Try.prog W = .ok (.pointer (some (ad.add (k * 4)))) W := by
  have i1 : (0 : Int) ≤ (k : Int) := by omega
  have i2 : (k : Int) < (n : Int) := by omega
  go_simp
theorem cld {W : World} {ad : Addr} {k : Nat} {x : Cl} (hc : ∀ j v, x.cells[j]? = some v → W.cell? (ad.add (k * 4 + j)) = some v) : (Instr.loadAt tCl (.pointer (some (ad.add (k * 4))))).run Try.prog W = .ok (.agg x.cells) W := by
  obtain ⟨ky, kk, n, s⟩ := x
  obtain ⟨h0, h1⟩ := celX hc
  have c0 : W.cell? (ad.add (k * 4)) = some (.string ky) := h0 _ rfl
  have c1 : W.cell? ⟨(ad.add (k * 4)).block, (ad.add (k * 4)).off + 1, none⟩ = some (.int .i64 kk) := h1 0 _ rfl
  have c2 : W.cell? ⟨(ad.add (k * 4)).block, (ad.add (k * 4)).off + 2, none⟩ = some (.int .i64 n) := h1 1 _ rfl
  have c3 : W.cell? ⟨(ad.add (k * 4)).block, (ad.add (k * 4)).off + 3, none⟩ = some (.string s) := h1 2 _ rfl
  clear hc h0 h1
  go_simp
theorem cld_blk {W : World} {g : Nat} {x : Cl} {t : TypeId} (h : Blk W g x.cells t) : (Instr.loadAt tCl (.pointer (some ⟨g, 0, none⟩))).run Try.prog W = .ok (.agg x.cells) W := by
  have c0 := h.cell 0
  have c1 := h.cell 1
  have c2 := h.cell 2
  have c3 := h.cell 3
  clear h
  go_simp
theorem alC (w : World) : (Instr.alloc tCl true (.tuple #[])).run Try.prog w = .ok (.pointer (some ⟨w.heap.size, 0, none⟩)) (w.alloc (.cells (⟨⟨#[]⟩, 0, 0, ⟨#[]⟩⟩ : Cl).cells tCl)) := by kernel_rfl
theorem cl_oneC (x : Cl) : x.cells.all (·.oneCell') = true := by
  obtain ⟨ky, k, n, s⟩ := x
  show (clI ky k n s).all _ = true
  rw [show clI ky k n s = [.string ky, .int .i64 k, .int .i64 n, .string s].toArray from rfl, List.all_toArray]
  simp [Value.oneCell']
theorem fcl0 (W : World) (b : Nat) : (Instr.fieldAt tCl (.pointer (some ⟨b, 0, none⟩)) 0).run Try.prog W = .ok (.pointer (some ⟨b, 0, none⟩)) W := by kernel_rfl
theorem fcl1 (W : World) (b : Nat) : (Instr.fieldAt tCl (.pointer (some ⟨b, 0, none⟩)) 1).run Try.prog W = .ok (.pointer (some ⟨b, 1, none⟩)) W := by kernel_rfl
theorem ld_ky {W : World} {b : Nat} {x : Cl} {t : TypeId} (h : Blk W b x.cells t) : (Instr.loadAt 9 (.pointer (some ⟨b, 0, none⟩))).run Try.prog W = .ok (.string x.ky) W := by
  have c0 := h.cell 0
  clear h
  go_simp
theorem ld_cv {W : World} {b : Nat} {x : Cl} {t : TypeId} (h : Blk W b x.cells t) : (Instr.loadAt 31 (.pointer (some ⟨b, 1, none⟩))).run Try.prog W = .ok (.agg #[.int .i64 x.k, .int .i64 x.x, .string x.s]) W := by
  have c1 := h.cell 1
  have c2 := h.cell 2
  have c3 := h.cell 3
  clear h
  go_simp
theorem bel_un29 {b : Nat} {w w' : World} (h : Below b w.drew w') : Below b w w' := ⟨h.os, h.tape, h.output, h.size, h.block⟩
section
variable {P : Program} {l : List Oper} {Q : Exit → Act → World → Prop} {S : World → Prop} {fuel : Nat} {listed : Array Bool} {a0 : Act} {L : List (Nat × Bool × Value)} {w : World}
theorem one_val29 {i : Nat} {oi : Oper} {d n : Nat} {R : Value → World → Prop} (hn : a0.tmps.size = n) (hX : ∀ K : Act → World → Prop, (∀ v w2, R v w2 → K ((fr a0 L).put (some d) v) w2) → (∀ p, p ∈ L → p.1 < a0.tmps.size) → oi.wp P (fr a0 L) w K Q)
    (h : ∀ v w2, R v w2 → S w2 ∧ FH P l Q S fuel (listed.setIfInBounds i true) a0 ((d, true, v) :: L) w2) (hi : l.toArray[i]? = some oi) (hd : Nat.blt d n = true) (hw : wtG l L oi.guard = some true) : FHone P l Q S fuel listed a0 L w i := by
  intro hk
  unfold wpOp
  simp only [hi, wt_is hk hw, if_true]
  refine .inl (hX _ (fun v w2 hR => ?_) hk)
  obtain ⟨hs, hF⟩ := h v w2 hR
  exact ⟨hs, hF.go (fun p hp => by
    rcases List.mem_cons.1 hp with e | e
    · rw [e, hn]; exact blt_lt hd
    · exact hk p e)⟩
theorem one_callx29 {i : Nat} {oi : Oper} {d n : Nat} {R : Value → World → Prop} {f : FuncId} {args : Array Value} (hn : a0.tmps.size = n) (ho : oi.dst = some d) (hx : (∀ p, p ∈ L → p.1 < a0.tmps.size) → (execOp (fr a0 L).eval oi).run P w = .ok (.enter f args) w) (hc : Calls P f args w fun e w' => ∃ v, e = .returned v ∧ R v w')
    (h : ∀ v w2, R v w2 → S w2 ∧ FH P l Q S fuel (listed.setIfInBounds i true) a0 ((d, true, v) :: L) w2) (hi : l.toArray[i]? = some oi) (hd : Nat.blt d n = true) (hw : wtG l L oi.guard = some true) : FHone P l Q S fuel listed a0 L w i :=
  one_val29 hn (fun K hK hk => by
    unfold Oper.wp
    rw [hx hk, Oper.upon_enter]
    refine hc.mono ?_
    rintro e w' ⟨v, rfl, hR⟩
    show K ((fr a0 L).put oi.dst v) w'
    rw [ho]
    exact hK v w' hR) h hi hd hw
end
end Go.Proofs.Ytokkmofcijfmiab

namespace Go.Proofs.Ytokkmofcijfmiab
open Go.RowKit

theorem id_oneC (a b : Int) : (#[.int .i64 a, .int .i64 b] : Array Value).all (·.oneCell') = true := by
  rw [show (#[.int .i64 a, .int .i64 b] : Array Value) = [.int .i64 a, .int .i64 b].toArray from rfl, List.all_toArray]
  simp [Value.oneCell']
theorem wr_oneC (x : Wr) : x.cells.all (·.oneCell') = true := by
  obtain ⟨dev, seq, K, ky, ka, na, sa, kb, nb, sb⟩ := x
  show (wrI dev seq K ky ka na sa kb nb sb).all _ = true
  rw [show wrI dev seq K ky ka na sa kb nb sb = [.int .i64 dev, .int .i64 seq, .int .i64 K, .string ky, .int .i64 ka, .int .i64 na, .string sa, .int .i64 kb, .int .i64 nb, .string sb].toArray from rfl, List.all_toArray]
  simp [Value.oneCell']
end Go.Proofs.Ytokkmofcijfmiab
