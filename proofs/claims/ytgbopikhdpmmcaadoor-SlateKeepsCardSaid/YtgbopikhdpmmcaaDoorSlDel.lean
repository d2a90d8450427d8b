/-
  WHAT IS PROVED: slices.DeleteFunc of writes, upon a row of one's own. Conditions: those typed in each theorem.
-/
import Derived.Test.YtgbopikhdpmmcaaDoorSlFn
namespace Go.Proofs.YtgbopikhdpmmcaaDoor
open Go.RowKit

section
variable {P : Program} {l : List Oper} {Q : Exit → Act → World → Prop} {rest : List Oper} {a0 : Act} {L : List (Nat × Bool × Value)} {w : World}
theorem fl_valn {o : Oper} {v : Value} {w2 : World} (ho : o.dst = none) (hw : wtG l L o.guard = some true)
    (hr : (∀ p, p ∈ L → p.1 < a0.tmps.size) → (execOp (fr a0 L).eval o).run P w = .ok (.value v) w2) (h : FL P l Q rest a0 L w2) : FL P l Q (o :: rest) a0 L w := by
  refine ⟨fun hk => ?_⟩
  refine wpList_step fun K hK => ?_
  rw [wt_is hk hw]
  show o.wp P (fr a0 L) w K Q
  unfold Oper.wp
  rw [hr hk]
  exact hK _ _ (by rw [ho]; exact h.go hk)
theorem x_clr {x : Operand} {ts : Array TypeId} {ty : TypeId} {p : String} {af : Array Edge} {gd : Option (Nat × Bool)} {ρ : Operand → Value} {v u : Value} {w2 : World} (h1 : ρ x = v) (hr : (Builtin.clear_ ts ty #[v]).run P w = .ok u w2) : (execOp ρ ⟨none, .call { callee := .builtin .clear, args := #[x], argTypes := ts }, ty, p, af, gd⟩).run P w = .ok (.value u) w2 := by
  unfold execOp
  dsimp only
  go_simp
theorem x_del {x y : Operand} {ts : Array TypeId} {ty : TypeId} {p : String} {af : Array Edge} {gd : Option (Nat × Bool)} {ρ : Operand → Value} {v m u : Value} {w2 : World} (h1 : ρ x = v) (h2 : ρ y = m) (hr : (Builtin.delete_ ts ty #[v, m]).run P w = .ok u w2) : (execOp ρ ⟨none, .call { callee := .builtin .delete, args := #[x, y], argTypes := ts }, ty, p, af, gd⟩).run P w = .ok (.value u) w2 := by
  unfold execOp
  dsimp only
  go_simp
theorem g_clr {i : Nat} {ts : Array TypeId} {ty : TypeId} {p : String} {af : Array Edge} {gd : Option (Nat × Bool)} {v u : Value} {w2 : World} (hr : (Builtin.clear_ ts ty #[v]).run P w = .ok u w2) (h : FL P l Q rest a0 L w2) (hw : wtG l L gd = some true := by rfl) (hi : lk L i = some (true, v) := by rfl) : FL P l Q (⟨none, .call { callee := .builtin .clear, args := #[.tmp i], argTypes := ts }, ty, p, af, gd⟩ :: rest) a0 L w :=
  fl_valn rfl hw (fun hh => x_clr (lk_at hh hi (fun _ => rfl) rfl) hr) h
theorem g_del {i j : Nat} {ts : Array TypeId} {ty : TypeId} {p : String} {af : Array Edge} {gd : Option (Nat × Bool)} {v m u : Value} {w2 : World} (hr : (Builtin.delete_ ts ty #[v, m]).run P w = .ok u w2) (h : FL P l Q rest a0 L w2) (hw : wtG l L gd = some true := by rfl) (hi : lk L i = some (true, v) := by rfl) (hj : lk L j = some (true, m) := by rfl) : FL P l Q (⟨none, .call { callee := .builtin .delete, args := #[.tmp i, .tmp j], argTypes := ts }, ty, p, af, gd⟩ :: rest) a0 L w :=
  fl_valn rfl hw (fun hh => x_del (lk_at hh hi (fun _ => rfl) rfl) (lk_at hh hj (fun _ => rfl) rfl) hr) h
end

theorem setL_size : ∀ (vs : List Value) (j : Nat) (cs : Array Value), (setL cs j vs).size = cs.size
  | [], _, _ => rfl
  | v :: r, j, cs => by
    show (setL (cs.setIfInBounds j v) (j + 1) r).size = _
    rw [setL_size r, Array.size_setIfInBounds]
theorem setL_out : ∀ (vs : List Value) (j : Nat) (cs : Array Value) (k : Nat), k < j ∨ j + vs.length ≤ k → (setL cs j vs)[k]? = cs[k]?
  | [], _, _, _, _ => rfl
  | v :: r, j, cs, k, h => by
    show (setL (cs.setIfInBounds j v) (j + 1) r)[k]? = _
    rw [List.length_cons] at h
    rw [setL_out r (j + 1) _ k (by omega), Array.getElem?_setIfInBounds_ne (by omega)]
theorem setL_in : ∀ (vs : List Value) (j : Nat) (cs : Array Value) (i : Nat) (v : Value), j + vs.length ≤ cs.size → vs[i]? = some v → (setL cs j vs)[j + i]? = some v
  | [], _, _, _, _, _, h => by simp at h
  | u :: r, j, cs, 0, v, hs, h => by
    have e : u = v := by simpa using h
    rw [List.length_cons] at hs
    show (setL (cs.setIfInBounds j u) (j + 1) r)[j + 0]? = _
    rw [setL_out r (j + 1) _ (j + 0) (by omega), Nat.add_zero, Array.getElem?_setIfInBounds_self, if_pos (by omega), e]
  | u :: r, j, cs, i + 1, v, hs, h => by
    have h2 : r[i]? = some v := by simpa using h
    rw [List.length_cons] at hs
    show (setL (cs.setIfInBounds j u) (j + 1) r)[j + (i + 1)]? = _
    rw [show j + (i + 1) = j + 1 + i by omega]
    exact setL_in r (j + 1) _ i v (by rw [Array.size_setIfInBounds]; omega) h2
/-- These cells read as these writes, and some room. -/
def RowC (cur : Array Value) (c : Nat) (m : List Pw) : Prop := cur.size = c * 66 ∧ m.length ≤ c ∧ ∀ k x, m[k]? = some x → ∀ j v, x.cells[j]? = some v → cur[k * 66 + j]? = some v
theorem RowC.take {cur : Array Value} {c : Nat} {m : List Pw} (h : RowC cur c m) (k : Nat) : RowC cur c (m.take k) := ⟨h.1, Nat.le_trans (by rw [List.length_take]; omega) h.2.1, fun i x hx => h.2.2 i x (by
  rw [List.getElem?_take] at hx
  split at hx
  · exact hx
  · cases hx)⟩
theorem RowC.put {cur : Array Value} {c : Nat} {m : List Pw} (h : RowC cur c m) {i : Nat} {y : Pw} (hi : i < m.length) (hy : y.l.length = 64) (h6 : ∀ x, x ∈ m → x.l.length = 64) : RowC (setL cur (i * 66) y.cells.toList) c (m.set i y) := by
  have hz : y.cells.toList.length = 66 := by rw [Array.length_toList, pw_size hy]
  have hc := h.2.1
  refine ⟨by rw [setL_size]; exact h.1, by rw [List.length_set]; exact h.2.1, fun k x hx j v hv => ?_⟩
  by_cases e : k = i
  · subst e
    have e2 : y = x := by simpa [List.getElem?_set_self hi] using hx
    subst e2
    exact setL_in _ _ _ j v (by rw [hz, h.1]; omega) (by rw [Array.getElem?_toList]; exact hv)
  · have hx2 : m[k]? = some x := by rwa [List.getElem?_set_ne (Ne.symm e)] at hx
    have hj := (Array.getElem?_eq_some_iff.1 hv).1
    rw [pw_size (h6 x (List.mem_of_getElem? hx2))] at hj
    rw [setL_out _ _ _ _ (by rw [hz]; omega)]
    exact h.2.2 k x hx2 j v hv
theorem RowC.behind {cur : Array Value} {c : Nat} {m : List Pw} (h : RowC cur c m) (k : Nat) (vs : List Value) (h6 : ∀ x, x ∈ m → x.l.length = 64) : RowC (setL cur (k * 66) vs) c (m.take k) := by
  refine ⟨by rw [setL_size]; exact h.1, (h.take k).2.1, fun i x hx j v hv => ?_⟩
  rw [List.getElem?_take] at hx
  split at hx
  · next hik =>
    have hj := (Array.getElem?_eq_some_iff.1 hv).1
    rw [pw_size (h6 x (List.mem_of_getElem? hx))] at hj
    rw [setL_out _ _ _ _ (by omega)]
    exact h.2.2 i x hx j v hv
  · cases hx
theorem szd_p {m : List Pw} (h6 : ∀ x, x ∈ m → x.l.length = 64) : Szd 66 (m.map Pw.cells) := fun cs hc => by
  obtain ⟨x, hx, rfl⟩ := List.mem_map.1 hc
  exact pw_size (h6 x hx)
theorem OwnX.rowc {base g n c : Nat} {W : World} {l : List Pw} (h : OwnX 87 66 base W (some ⟨g, 0, none⟩) n c (l.map Pw.cells)) : ∃ cur, Blk W g cur 87 ∧ RowC cur c l ∧ base ≤ g ∧ c ≤ maxLen := by
  have hl := h.len
  rw [List.length_map] at hl
  rcases h.1.2 with ⟨hv, _⟩ | ⟨g2, cap, cur, hv, h1, h2, h3, h4, h5, h6⟩
  · cases hv
  · injection hv with e1 _ e3
    injection e1 with e1
    injection e1 with e1 _ _
    subst e1 e3
    refine ⟨cur, h2, ⟨h5, by omega, fun k x hx j v hv => ?_⟩, h1, h4⟩
    have q := celV_get _ h.2.1 k j x.cells v (mapp_get hx) hv
    rw [← h6] at q
    rw [List.getElem?_take] at q
    split at q
    · rwa [Array.getElem?_toList] at q
    · cases q
theorem RowC.own {base g c n : Nat} {W : World} {cur : Array Value} {m : List Pw} (h : RowC cur c m) (hX : Blk W g cur 87) (hB : base ≤ g) (hm : c ≤ maxLen) (hn : m.length = n) (h6 : ∀ x, x ∈ m → x.l.length = 64) : OwnX 87 66 base W (some ⟨g, 0, none⟩) n c (m.map Pw.cells) := by
  have hz := szd_p h6
  have hlen : (celV (m.map Pw.cells)).length = n * 66 := by rw [celV_len _ hz, List.length_map, hn]
  have hc := h.2.1
  refine ⟨⟨hlen, .inr ⟨g, c, cur, rfl, hB, hX, by omega, hm, h.1, ?_⟩⟩, hz, by rw [List.length_map, hn]⟩
  have hle : n * 66 ≤ c * 66 := Nat.mul_le_mul_right _ (by omega)
  refine List.ext_getElem? fun i => ?_
  by_cases hi : i < n * 66
  · have hq : i / 66 < m.length := by omega
    have hx : m[i / 66]? = some m[i / 66] := List.getElem?_eq_getElem hq
    have hs : (m[i / 66]).cells.size = 66 := pw_size (h6 _ (List.getElem_mem hq))
    have hv : (m[i / 66]).cells[i % 66]? = some ((m[i / 66]).cells[i % 66]'(by omega)) := Array.getElem?_eq_getElem (by omega)
    have e1 := celV_get _ hz (i / 66) (i % 66) _ _ (mapp_get hx) hv
    have e2 := h.2.2 _ _ hx _ _ hv
    have e : i / 66 * 66 + i % 66 = i := by omega
    rw [e] at e1 e2
    rw [e1, List.getElem?_take, if_pos hi, Array.getElem?_toList, e2]
  · rw [List.getElem?_eq_none (by rw [List.length_take, Array.length_toList, h.1]; omega), List.getElem?_eq_none (by omega)]
/-- Clear of the last writes of a row. -/
theorem run_clrP (W : World) (g o n c : Nat) (cur : Array Value) (ty : TypeId) (hX : Blk W g cur 87) (hs : o + n * 66 ≤ cur.size) : ∃ (W2 : World) (vs : List Value), (Builtin.clear_ #[79] ty #[.slice (some ⟨g, o, none⟩) n c]).run Tryd.prog W = .ok (.tuple #[]) W2 ∧ Only1 g W W2 ∧ Blk W2 g (setL cur o vs) 87 := by
  have hu : Tryd.prog.underlying 79 = some (.slice 87) := by kernel_rfl
  cases n with
  | zero =>
    refine ⟨W, [], ?_, Only1.refl _ _, hX⟩
    simp [Builtin.clear_, run_underlying hu]
  | succ m =>
    have hv : ∀ w, (zeroValue 87).run Tryd.prog w = .ok (.agg (⟨0, 0, z64⟩ : Pw).cells) w := fun w => by kernel_rfl
    have hz : (Value.agg (⟨0, 0, z64⟩ : Pw).cells).cells = (⟨0, 0, z64⟩ : Pw).cells := rfl
    have h66 : (⟨0, 0, z64⟩ : Pw).cells.size = 66 := pw_size rfl
    have h1 := pw_one ⟨0, 0, z64⟩
    generalize (⟨0, 0, z64⟩ : Pw).cells = z at hv hz h66 h1
    have hl : (Builtin.zeroCells z (m + 1)).toList.length = (m + 1) * 66 := by simp [Builtin.zeroCells, h66]
    have h2 : ∀ v, v ∈ (Builtin.zeroCells z (m + 1)).toList → v.oneCell' = true := fun v hv2 => by
      simp only [Builtin.zeroCells, Array.toList_map, List.mem_map] at hv2
      obtain ⟨i, _, rfl⟩ := hv2
      have hi : i % z.size < z.size := Nat.mod_lt _ (by omega)
      rw [getElem!_pos z _ hi]
      exact (Array.all_eq_true_iff_forall_mem.1 h1) _ (Array.getElem_mem hi)
    have hst := run_storeCells_cells (P := Tryd.prog) g o (Builtin.zeroCells z (m + 1)).toList 0 W (fun j hj => by rw [hX.cell, Array.getElem?_eq_getElem (by omega)]; rfl) (fun j hj => hX.free _) h2
    simp only [Nat.add_zero] at hst
    refine ⟨W.setCells g o (Builtin.zeroCells z (m + 1)).toList, (Builtin.zeroCells z (m + 1)).toList, ?_, only_cells g _ _ W, Blk.cells _ _ W cur hX⟩
    simp [Builtin.clear_, run_underlying hu, hv, hz, hst]
end Go.Proofs.YtgbopikhdpmmcaaDoor
