/-
  WHAT IS PROVED: append of a slice's elements, however many, onto a row of the call's own; slices of writes cut. Conditions: those typed in each theorem.
-/
import Derived.Test.YtkfhkfddhijkcaaRowX
import Derived.Test.YtkfhkfddhijkcaaWrIx
namespace Go.Proofs.Ytkfhkfddhijkcaa
open Go.RowKit

theorem celV_src {z : Nat} (hz : 0 < z) {W : World} {ad : Addr} : ∀ (xs : List (Array Value)), Szd z xs → (∀ k cs, xs[k]? = some cs → ∀ j v, cs[j]? = some v → W.cell? (ad.add (k * z + j)) = some v) → ∀ i u, (celV xs)[i]? = some u → W.cell? (ad.add i) = some u := by
  intro xs hs hc i u hi
  have hlt := (List.getElem?_eq_some_iff.1 hi).1
  rw [celV_len xs hs] at hlt
  have hk : i / z < xs.length := Nat.div_lt_of_lt_mul (by rw [Nat.mul_comm]; exact hlt)
  have hx : xs[i / z]? = some xs[i / z] := List.getElem?_eq_getElem hk
  have hsz := hs _ (List.getElem_mem hk)
  have hj : i % z < xs[i / z].size := by rw [hsz]; exact Nat.mod_lt _ hz
  have hv : xs[i / z][i % z]? = some xs[i / z][i % z] := Array.getElem?_eq_getElem hj
  have h2 := celV_get xs hs (i / z) (i % z) _ _ hx hv
  rw [Nat.div_add_mod' i z] at h2
  rw [hi] at h2
  injection h2 with h2
  have h3 := hc _ _ hx _ _ hv
  rw [Nat.div_add_mod' i z, ← h2] at h3
  exact h3
/-- Append of m elements onto a row of the call's own. -/
theorem run_apM {P : Program} (w : World) {t t' e' ty el : TypeId} {i : TypeInfo} {z y : Nat} {zv : Value} (ht : P.underlying t = some (.slice el)) (ht' : P.underlying t' = some (.slice e')) (hi : P.info? el = some i) (hz : i.zero = some zv) (hs : i.size = z) (hy : i.bytes = y) (hzs : zv.cells.size = z) (hz0 : 0 < z) (hy0 : y ≤ 1000)
    {base : Nat} {A : Option Addr} {ad : Addr} {n c m d : Nat} {l xs : List (Array Value)} (hown : OwnX el z base w A n c l) (hx : Szd z xs) (hm : xs.length = m) (h1 : ∀ x, x ∈ xs → ∀ u ∈ x.toList, u.oneCell' = true) (hr : ∀ k cs, xs[k]? = some cs → ∀ j v, cs[j]? = some v → w.cell? (ad.add (k * z + j)) = some v) (hsz : n + m ≤ 1000000000) (hbase : base ≤ w.heap.size) (hA : A ≠ none ∨ m ≠ 0) :
    ∃ A' c' w', (Builtin.append_ #[t, t'] ty #[.slice A n c, .slice (some ad) m d]).run P w = .ok (.slice A' (n + m) c') w' ∧ OwnX el z base w' A' (n + m) c' (l ++ xs) ∧ Below base w w' ∧ A' ≠ none ∧ (∀ x, x < w.heap.size → (∀ a, A = some a → a.block ≠ x) → w'.heap[x]? = w.heap[x]?) ∧ (A'.map (·.block) = A.map (·.block) ∨ A'.map (·.block) = some w.heap.size) := by
  obtain ⟨v', w', hrun, h2, h3, h4, h5⟩ := run_append_own_at (P := P) w base t ty el i zv z y ht hi hz hs hy hzs hz0 (.slice A n c) n (celV l) hown.1 ad m d (celV xs) (by rw [celV_len xs hx, hm]) (celV_src hz0 xs hx hr)
    (fun u hu => by
      obtain ⟨x, hx1, hx2⟩ := List.mem_flatMap.1 hu
      exact h1 x hx1 u hx2)
    (by unfold maxLen; omega) (Nat.le_trans (Nat.mul_le_mul (show n + m ≤ 1000000001 by omega) hy0) (by omega)) hbase
  have hb : Below base w w' := (Below.refl base w).grown h3 hbase (fun k hk => (World.ownsRow.lt hown.1 k hk).1)
  have hv : ∃ A' c', v' = .slice A' (n + m) c' ∧ A' ≠ none := by
    rcases h2.2 with ⟨e1, e2⟩ | ⟨g, cap, cur, e1, _⟩
    · exfalso
      have e3 := h4.1 e1
      injection e3.1 with e5
      rcases hA with h | h
      · exact h e5
      · exact h e3.2
    · exact ⟨_, _, e1, by simp⟩
  obtain ⟨A', c', rfl, hA'⟩ := hv
  refine ⟨A', c', w', by rw [run_append_tt w ht ht']; exact hrun, ⟨?_, ?_, ?_⟩, hb, hA', fun x hx hne => h3.block x hx fun e => by
    cases A with
    | none => cases e
    | some a => injection e with e; exact hne a rfl e.symm, ?_⟩
  · rw [show celV (l ++ xs) = celV l ++ celV xs by simp [celV]]
    exact h2
  · intro cs hc
    rcases List.mem_append.1 hc with h | h
    · exact hown.2.1 cs h
    · exact hx cs h
  · rw [List.length_append, hown.2.2, hm]
  · have e1 : ∀ (A : Option Addr) n c, (Value.slice A n c).ownBlock = A.map (·.block) := fun A n c => by cases A <;> rfl
    rw [e1, e1] at h5
    exact h5
theorem wp_apM {P : Program} {w : World} {t t' e' el : TypeId} {i : TypeInfo} {z y : Nat} {zv : Value} {base : Nat} {A : Option Addr} {ad : Addr} {n c m d : Nat} {l xs : List (Array Value)} {o : Oper} {a : Act} {Q : Exit → Act → World → Prop} {K : Act → World → Prop} (s x : Operand) (ho : o.op = .call { callee := .builtin .append, args := #[s, x], argTypes := #[t, t'] })
    (ht : P.underlying t = some (.slice el)) (ht' : P.underlying t' = some (.slice e')) (hi : P.info? el = some i) (hz : i.zero = some zv) (hs : i.size = z) (hy : i.bytes = y) (hzs : zv.cells.size = z) (hz0 : 0 < z) (hy0 : y ≤ 1000)
    (e1 : a.eval s = .slice A n c) (e2 : a.eval x = .slice (some ad) m d) (hown : OwnX el z base w A n c l) (hx : Szd z xs) (hm : xs.length = m) (h1 : ∀ x, x ∈ xs → ∀ u ∈ x.toList, u.oneCell' = true) (hr : ∀ k cs, xs[k]? = some cs → ∀ j v, cs[j]? = some v → w.cell? (ad.add (k * z + j)) = some v) (hsz : n + m ≤ 1000000000) (hbase : base ≤ w.heap.size) (hA : A ≠ none ∨ m ≠ 0)
    (h : ∀ A' c' w', OwnX el z base w' A' (n + m) c' (l ++ xs) → Below base w w' → A' ≠ none → (∀ x, x < w.heap.size → (∀ a, A = some a → a.block ≠ x) → w'.heap[x]? = w.heap[x]?) → (A'.map (·.block) = A.map (·.block) ∨ A'.map (·.block) = some w.heap.size) → K (a.put o.dst (.slice A' (n + m) c')) w') : o.wp P a w K Q := by
  obtain ⟨A', c', w', hrun, k1, k2, k3, k4, k5⟩ := run_apM (P := P) (ty := o.type) (d := d) w ht ht' hi hz hs hy hzs hz0 hy0 hown hx hm h1 hr hsz hbase hA
  unfold Oper.wp execOp
  simp only [ho, resolve, invoke, builtin, Sem.run_bind, Sem.run_pure, Result.andThen_ok, List.map_toArray, List.map_cons, List.map_nil, e1, e2, hrun]
  exact h A' c' w' k1 k2 k3 k4 k5
theorem wr_infoM : (Try.prog.info? 39).map (fun i => (i.zero, i.size, i.bytes)) = some (some (.agg (wrI 0 0 0 ⟨#[]⟩ 0 0 ⟨#[]⟩ 0 0 ⟨#[]⟩)), 10, 104) := by kernel_rfl
theorem wr_szd (ws : List Wr) : Szd 10 (ws.map Wr.cells) := fun cs hc => by
  obtain ⟨x, _, rfl⟩ := List.mem_map.1 hc
  rfl
theorem wr_ones (ws : List Wr) : ∀ x, x ∈ ws.map Wr.cells → ∀ u ∈ x.toList, u.oneCell' = true := fun cs hc u hu => by
  obtain ⟨x, _, rfl⟩ := List.mem_map.1 hc
  have h := wr_oneC x
  rw [Array.all_eq_true'] at h
  exact h u (Array.mem_toList_iff.1 hu)
theorem RdW.cells {B : Nat} {W : World} {ad : Addr} {ws : List Wr} (h : RdW B W (some ad) ws) : ∀ k cs, (ws.map Wr.cells)[k]? = some cs → ∀ j v, cs[j]? = some v → W.cell? (ad.add (k * 10 + j)) = some v := fun k cs hk j v hv => by
  rw [List.getElem?_map] at hk
  cases hx : ws[k]? with
  | none => rw [hx] at hk; cases hk
  | some x =>
    rw [hx] at hk
    injection hk with hk
    subst hk
    obtain ⟨ad2, e, _, hc⟩ := h k x hx
    injection e with e
    subst e
    exact hc j v hv
theorem OwnX.rdw {base n c : Nat} {W : World} {A : Option Addr} {ws : List Wr} (h : OwnX tWr 10 base W A n c (ws.map Wr.cells)) : RdW W.heap.size W A ws := fun k x hx => h.rd k x.cells (by rw [List.getElem?_map, hx]; rfl)
/-- Slices of writes, cut. -/
theorem run_wlo (W : World) (ad : Addr) (n c k : Nat) (h : k ≤ n) (hc : k < c) : (Instr.sliceAt 30 (.slice (some ad) n c) (some (.int .i64 (k : Int))) none none).run Try.prog W = .ok (.slice (some (ad.add (k * 10))) (n - k) (c - k)) W := by
  have h1 : (k : Int) ≤ (n : Int) := by omega
  have h2 : ¬ c = k := by omega
  go_simp
theorem run_whi (W : World) (A : Option Addr) (n c k : Nat) (h : k ≤ n) (hc : n ≤ c) : (Instr.sliceAt 30 (.slice A n c) none (some (.int .i64 (k : Int))) none).run Try.prog W = .ok (.slice A k c) W := by
  have h1 : (k : Int) ≤ (c : Int) := by omega
  go_simp
theorem RdW.lo {B : Nat} {W : World} {ad : Addr} {ws : List Wr} (h : RdW B W (some ad) ws) (k : Nat) : RdW B W (some (ad.add (k * 10))) (ws.drop k) := fun j x hx => by
  rw [List.getElem?_drop] at hx
  obtain ⟨ad2, e, hb, hc⟩ := h (k + j) x hx
  injection e with e
  subst e
  refine ⟨_, rfl, by rw [add_block]; exact hb, fun i v hv => ?_⟩
  rw [add_add', show k * 10 + (j * 10 + i) = (k + j) * 10 + i by omega]
  exact hc i v hv
theorem RdW.hi {B : Nat} {W : World} {A : Option Addr} {ws : List Wr} (h : RdW B W A ws) (k : Nat) : RdW B W A (ws.take k) := fun j x hx => h j x (by
  rw [List.getElem?_take] at hx
  split at hx
  · exact hx
  · cases hx)
section
variable {P : Program} {l : List Oper} {Q : Exit → Act → World → Prop} {S : World → Prop} {fuel : Nat} {listed : Array Bool} {rest : List Oper} {a0 : Act} {L : List (Nat × Bool × Value)} {w : World}
/-- An operation of a plain region, by what it does. -/
theorem fl_wp {o : Oper} {d n : Nat} {R : Value → World → Prop} (hn : a0.tmps.size = n) (hX : ∀ K : Act → World → Prop, (∀ v w2, R v w2 → K ((fr a0 L).put (some d) v) w2) → (∀ p, p ∈ L → p.1 < a0.tmps.size) → o.wp P (fr a0 L) w K Q)
    (h : ∀ v w2, R v w2 → FL P l Q rest a0 ((d, true, v) :: L) w2) (hd : Nat.blt d n = true) (hw : wtG l L o.guard = some true) : FL P l Q (o :: rest) a0 L w := by
  refine ⟨fun hk => ?_⟩
  refine wpList_step fun K hK => ?_
  rw [wt_is hk hw, if_pos rfl]
  exact hX K (fun v w2 hR => hK _ _ ((h v w2 hR).go (bd_more hn hd hk))) hk
end
def ApR (base : Nat) (A : Option Addr) (w : World) (n m : Nat) (l xs : List Wr) (v : Value) (w2 : World) : Prop := ∃ A' c', v = .slice A' (n + m) c' ∧ OwnX tWr 10 base w2 A' (n + m) c' ((l ++ xs).map Wr.cells) ∧ Below base w w2 ∧ A' ≠ none ∧ ∀ x, x < w.heap.size → (∀ a, A = some a → a.block ≠ x) → w2.heap[x]? = w.heap[x]?
section
variable {l : List Oper} {Q : Exit → Act → World → Prop} {S : World → Prop} {fuel : Nat} {listed : Array Bool} {rest : List Oper} {a0 : Act} {L : List (Nat × Bool × Value)} {w : World}
theorem wp_apW {a : Act} {o : Oper} {K : Act → World → Prop} {d : Nat} {base : Nat} {A : Option Addr} {ad : Addr} {n c m dd B : Nat} {ks xs : List Wr} (hd : o.dst = some d) (s x : Operand) (ho : o.op = .call { callee := .builtin .append, args := #[s, x], argTypes := #[30, 30] }) (e1 : a.eval s = .slice A n c) (e2 : a.eval x = .slice (some ad) m dd)
    (hown : OwnX tWr 10 base w A n c (ks.map Wr.cells)) (hsrc : RdW B w (some ad) xs) (hm : xs.length = m) (hsz : n + m ≤ 1000000000) (hbase : base ≤ w.heap.size) (hA : A ≠ none ∨ m ≠ 0) (hK : ∀ v w2, ApR base A w n m ks xs v w2 → K (a.put (some d) v) w2) : o.wp Try.prog a w K Q := by
  obtain ⟨i0, hi0, hz0, hs0, hb0⟩ := info_parts wr_infoM
  refine wp_apM s x ho Try.underlying30 Try.underlying30 hi0 hz0 hs0 hb0 (by rfl) (by omega) (by omega) e1 e2 hown (wr_szd xs) (by rw [List.length_map]; exact hm) (wr_ones xs) hsrc.cells hsz hbase hA fun A' c' w' k1 k2 k3 k4 _ => ?_
  rw [hd]
  exact hK _ _ ⟨A', c', rfl, by rw [List.map_append]; exact k1, k2, k3, k4⟩
theorem h_apW (k : Nat) {i j d nn : Nat} {base : Nat} {A : Option Addr} {ad : Addr} {n c m dd B : Nat} {ks xs : List Wr} {ty : TypeId} {p : String} {af : Array Edge} (hn : a0.tmps.size = nn)
    (hown : OwnX tWr 10 base w A n c (ks.map Wr.cells)) (hsrc : RdW B w (some ad) xs) (hm : xs.length = m) (hsz : n + m ≤ 1000000000) (hbase : base ≤ w.heap.size) (hA : A ≠ none ∨ m ≠ 0)
    (h : ∀ v w2, ApR base A w n m ks xs v w2 → S w2 ∧ FH Try.prog l Q S fuel (listed.setIfInBounds k true) a0 ((d, true, v) :: L) w2)
    (hi : l.toArray[k]? = some ⟨some d, .call { callee := .builtin .append, args := #[.tmp i, .tmp j], argTypes := #[30, 30] }, ty, p, af, none⟩ := by rfl) (h1 : lk L i = some (true, .slice A n c) := by rfl) (h2 : lk L j = some (true, .slice (some ad) m dd) := by rfl) (hd : Nat.blt d nn = true := by rfl) (hr : Region.ready .any l.toArray listed = [k] := by kernel_rfl) : FH Try.prog l Q S (fuel + 1) listed a0 L w :=
  fh_val k hn (R := ApR base A w n m ks xs) (fun K hK hk => wp_apW rfl (.tmp i) (.tmp j) rfl (lk_at hk h1 (fun _ => rfl) rfl) (lk_at hk h2 (fun _ => rfl) rfl) hown hsrc hm hsz hbase hA hK) h hi hd hr rfl
theorem g_apW {i j d nn : Nat} {base : Nat} {A : Option Addr} {ad : Addr} {n c m dd B : Nat} {ks xs : List Wr} {ty : TypeId} {p : String} {af : Array Edge} (hn : a0.tmps.size = nn)
    (hown : OwnX tWr 10 base w A n c (ks.map Wr.cells)) (hsrc : RdW B w (some ad) xs) (hm : xs.length = m) (hsz : n + m ≤ 1000000000) (hbase : base ≤ w.heap.size) (hA : A ≠ none ∨ m ≠ 0)
    (h : ∀ v w2, ApR base A w n m ks xs v w2 → FL Try.prog l Q rest a0 ((d, true, v) :: L) w2)
    (h1 : lk L i = some (true, .slice A n c) := by rfl) (h2 : lk L j = some (true, .slice (some ad) m dd) := by rfl) (hd : Nat.blt d nn = true := by rfl) : FL Try.prog l Q (⟨some d, .call { callee := .builtin .append, args := #[.tmp i, .tmp j], argTypes := #[30, 30] }, ty, p, af, none⟩ :: rest) a0 L w :=
  fl_wp hn (R := ApR base A w n m ks xs) (fun K hK hk => wp_apW rfl (.tmp i) (.tmp j) rfl (lk_at hk h1 (fun _ => rfl) rfl) (lk_at hk h2 (fun _ => rfl) rfl) hown hsrc hm hsz hbase hA hK) h hd rfl
end
theorem bs0W (w : World) : (Instr.buildSlice 30 0 #[]).run Try.prog w = .ok (.slice (some ⟨w.heap.size, 0, none⟩) 0 0) (w.alloc (.cells #[] tWr)) := by kernel_rfl
theorem x_bs0 {ρ : Operand → Value} {d : Option Tmp} {ty : TypeId} {p : String} {af : Array Edge} {gd : Option (Nat × Bool)} (w : World) : (execOp ρ ⟨d, .buildSlice 30 0 #[], ty, p, af, gd⟩).run Try.prog w = .ok (.value (.slice (some ⟨w.heap.size, 0, none⟩) 0 0)) (w.alloc (.cells #[] tWr)) := by
  unfold execOp
  dsimp only
  have e : (#[] : Array (Nat × Operand)).map (fun x => (x.fst, ρ x.snd)) = #[] := by simp
  have h := bs0W w
  rw [← e] at h
  rw [Sem.run_bind]
  refine (congrArg (fun r => Result.andThen r _) h).trans ?_
  rfl
theorem OwnX.onlyG {t : TypeId} {z base : Nat} {W W' : World} {A : Option Addr} {n c : Nat} {l : List (Array Value)} {g : Nat} (h : OwnX t z base W A n c l) (ho : Only1 g W W') (hg : g < base) : OwnX t z base W' A n c l := by
  refine ⟨⟨h.1.1, ?_⟩, h.2⟩
  rcases h.1.2 with h | ⟨g2, cap, cur, h1, h2, h3, h4⟩
  · exact .inl h
  · exact .inr ⟨g2, cap, cur, h1, h2, (ho.block g2 (by omega)).trans h3, h4⟩
theorem OwnX.blkLt {t : TypeId} {z base : Nat} {W : World} {A : Option Addr} {n c : Nat} {l : List (Array Value)} (h : OwnX t z base W A n c l) : ∀ a, A = some a → a.block < W.heap.size := fun a ha => (h.blk ha).2
theorem Blk.keep' {W W1 : World} {b B : Nat} {cs : Array Value} {t : TypeId} (h : Blk W b cs t) (hb : Below B W W1) (hB : b < B) : Blk W1 b cs t := (hb.block b hB).trans h
theorem own0W (w : World) (base : Nat) (h : base ≤ w.heap.size) : OwnX tWr 10 base (w.alloc (.cells #[] tWr)) (some ⟨w.heap.size, 0, none⟩) 0 0 (([] : List Wr).map Wr.cells) :=
  ⟨⟨rfl, .inr ⟨w.heap.size, 0, #[], rfl, h, blk_new w #[] tWr, Nat.le_refl _, Nat.zero_le _, rfl, rfl⟩⟩, fun _ h => by simp at h, rfl⟩
end Go.Proofs.Ytkfhkfddhijkcaa
