/-
  WHAT IS PROVED: slices.Compact of texts, upon a row of the call's own. Conditions: those typed in each theorem.
-/
import Derived.Test.YtokkmofcijfmiabGQ14
import Derived.Test.YtokkmofcijfmiabBcB
import Derived.Laws.IdiomCopy
import Derived.Laws.Entries
namespace Go.Proofs.Ytokkmofcijfmiab
open Go.RowKit

/-- Texts without those that are like the one ahead. -/
def cmpTo (l : List ByteArray) : Nat → List ByteArray
  | 0 => []
  | m + 1 => match l[m]? with
    | none => cmpTo l m
    | some x => if 0 < m ∧ (l[m - 1]?).map (·.data.toList) = some x.data.toList then cmpTo l m else cmpTo l m ++ [x]
theorem cmpT_same {l : List ByteArray} {m : Nat} {x y : ByteArray} (hm : 0 < m) (hx : l[m]? = some x) (hy : l[m - 1]? = some y) (h : x.data.toList = y.data.toList) : cmpTo l (m + 1) = cmpTo l m := by
  show (match l[m]? with | none => _ | some x => _) = _
  rw [hx]
  dsimp only
  rw [if_pos ⟨hm, by rw [hy, h]; rfl⟩]
theorem cmpT_new {l : List ByteArray} {m : Nat} {x y : ByteArray} (hx : l[m]? = some x) (hy : l[m - 1]? = some y) (h : x.data.toList ≠ y.data.toList) : cmpTo l (m + 1) = cmpTo l m ++ [x] := by
  show (match l[m]? with | none => _ | some x => _) = _
  rw [hx]
  dsimp only
  rw [if_neg]
  rintro ⟨_, h2⟩
  rw [hy] at h2
  injection h2 with h2
  exact h h2.symm
theorem cmpT_one {l : List ByteArray} {x : ByteArray} (hx : l[0]? = some x) : cmpTo l 1 = [x] := by
  show (match l[0]? with | none => _ | some x => _) = _
  rw [hx]
  dsimp only
  rw [if_neg (by omega)]
  rfl
theorem cmpT_le (l : List ByteArray) : ∀ m, (cmpTo l m).length ≤ m
  | 0 => Nat.le_refl _
  | m + 1 => by
    have h := cmpT_le l m
    show (match l[m]? with | none => _ | some x => _ : List ByteArray).length ≤ _
    cases l[m]? with
    | none => dsimp only; omega
    | some x =>
      dsimp only
      split
      · omega
      · rw [List.length_append, List.length_singleton]; omega
/-- What Compact answers. -/
def CmpP (base : Nat) (A : Option Addr) (n : Nat) (l : List ByteArray) (w : World) (e : Ending) (w' : World) : Prop := (∃ k c' : Nat, e = .returned (.slice A k c') ∧ Hid ((cmpTo l n).length = k) ∧ RdS w'.heap.size w' A (cmpTo l n)) ∧ Below base w w'
theorem addz (g o j : Nat) : (⟨g, o, none⟩ : Addr).add j = ⟨g, o + j, none⟩ := by
  unfold Addr.add
  split <;> simp_all
theorem sixO (W : World) (g o n c i : Nat) (h : i < n) : (Instr.indexAt 24 (.slice (some ⟨g, o, none⟩) n c) (.int .i64 (i : Int))).run Try.prog W = .ok (.pointer (some ⟨g, o + i, none⟩)) W := by rw [six W _ n c i h, addz]
theorem six0 (W : World) (g n c i : Nat) (h : i < n) : (Instr.indexAt 24 (.slice (some ⟨g, 0, none⟩) n c) (.int .i64 (i : Int))).run Try.prog W = .ok (.pointer (some ⟨g, i, none⟩)) W := by rw [sixO W g 0 n c i h, Nat.zero_add]
theorem OwnS.cell {base : Nat} {W : World} {g n c : Nat} {l : List ByteArray} (h : OwnS base W (some ⟨g, 0, none⟩) n c l) {j : Nat} {x : ByteArray} (hx : l[j]? = some x) : W.cell? ⟨g, j, none⟩ = some (.string x) := by
  obtain ⟨ad, ha, _, hc⟩ := h.rd j x hx
  injection ha with ha
  subst ha
  rw [addz, Nat.zero_add] at hc
  exact hc
theorem OwnS.blkC {base : Nat} {W : World} {g n c : Nat} {l : List ByteArray} (h : OwnS base W (some ⟨g, 0, none⟩) n c l) : ∃ cs, Blk W g cs 9 ∧ n ≤ cs.size ∧ base ≤ g := by
  rcases h.2 with ⟨hv, _⟩ | ⟨g', cap, cur, hv, hb, hg, h1, h2, h3, h4⟩
  · cases hv
  · injection hv with hv1 hv2 hv3
    injection hv1 with hv1
    injection hv1 with hv1
    subst hv1
    exact ⟨cur, hg, by omega, hb⟩
set_option maxRecDepth 100000 in
theorem sub1 (i : Nat) (W : World) (k : Nat) (h : 1 ≤ k) (h2 : k ≤ 1000000000) : ((do eqGuard .sub 3 (.tmp i) (.const (.int .i64 1)) (.int .i64 (k : Int)) (.int .i64 1); binOp .sub 3 (.int .i64 (k : Int)) (.int .i64 1)) : Sem Value).run Try.prog W = .ok (.int .i64 ((k - 1 : Nat) : Int)) W := by
  have e : ((k - 1 : Nat) : Int) = (k : Int) - 1 := by omega
  have e2 : IntKind.i64.wrap ((k : Int) - 1) = (k : Int) - 1 := by rw [IntKind.wrap_i64]; omega
  rw [e]
  clear e h h2
  go_simp
  all_goals exact e2
theorem run_cutA (W : World) (a : Addr) (n c k : Nat) (h1 : k < n) (h2 : n ≤ c) : (Instr.sliceAt 24 (.slice (some a) n c) (some (.int .i64 (k : Int))) none none).run Try.prog W = .ok (.slice (some (a.add k)) (n - k) (c - k)) W := by
  have h3 : ¬ c = k := by omega
  have h4 : (k : Int) ≤ (n : Int) := by omega
  go_simp
theorem run_cutS (W : World) (g n c k : Nat) (_ : 0 < k) (h1 : k < n) (h2 : n ≤ c) : (Instr.sliceAt 24 (.slice (some ⟨g, 0, none⟩) n c) (some (.int .i64 (k : Int))) none none).run Try.prog W = .ok (.slice (some ⟨g, k, none⟩) (n - k) (c - k)) W := by
  have h := run_cutA W ⟨g, 0, none⟩ n c k h1 h2
  rw [addz, Nat.zero_add] at h
  exact h
theorem run_headS (W : World) (A : Option Addr) (n c k : Nat) (h1 : k ≤ n) (h2 : n ≤ c) : (Instr.sliceAt 24 (.slice A n c) none (some (.int .i64 (k : Int))) none).run Try.prog W = .ok (.slice A k c) W := by
  have h3 : (k : Int) ≤ (c : Int) := by omega
  go_simp
theorem setL_lo : ∀ (vs : List Value) (j : Nat) (cs : Array Value) (k : Nat), k < j → (setL cs j vs)[k]? = cs[k]?
  | [], _, _, _, _ => rfl
  | v :: vs, j, cs, k, h => by
    show (setL (cs.setIfInBounds j v) (j + 1) vs)[k]? = _
    rw [setL_lo vs (j + 1) _ k (by omega), Array.getElem?_setIfInBounds_ne (by omega)]
/-- Clear of a row's tail. -/
theorem run_clrS (W : World) (g o n c : Nat) (cur : Array Value) (hX : Blk W g cur 9) (hs : o + n ≤ cur.size) : ∃ W2 : World, (∀ ty, (Builtin.clear_ #[24] ty #[.slice (some ⟨g, o, none⟩) n c]).run Try.prog W = .ok (.tuple #[]) W2) ∧ Only1 g W W2 ∧ ∀ i, i < o → W2.cell? ⟨g, i, none⟩ = W.cell? ⟨g, i, none⟩ := by
  have hu : Try.prog.underlying 24 = some (.slice 9) := by kernel_rfl
  cases n with
  | zero =>
    refine ⟨W, fun ty => ?_, Only1.refl _ _, fun _ _ => rfl⟩
    simp [Builtin.clear_, run_underlying hu]
  | succ m =>
    have hv : ∀ w, (zeroValue 9).run Try.prog w = .ok (.string ⟨#[]⟩) w := fun w => by kernel_rfl
    have hz : (Value.string ⟨#[]⟩).cells = #[.string ⟨#[]⟩] := rfl
    have hl : (Builtin.zeroCells #[.string ⟨#[]⟩] (m + 1)).toList.length = m + 1 := by simp [Builtin.zeroCells]
    have h2 : ∀ v, v ∈ (Builtin.zeroCells #[.string ⟨#[]⟩] (m + 1)).toList → v.oneCell' = true := fun v hv2 => by
      simp only [Builtin.zeroCells, Array.toList_map, List.mem_map] at hv2
      obtain ⟨i, _, rfl⟩ := hv2
      simp [Value.oneCell', Nat.mod_one]
    have hst := run_storeCells_cells (P := Try.prog) g o (Builtin.zeroCells #[.string ⟨#[]⟩] (m + 1)).toList 0 W (fun j hj => by rw [hX.cell, Array.getElem?_eq_getElem (by omega)]; rfl) (fun j hj => hX.free _) h2
    simp only [Nat.add_zero] at hst
    have hXc := Blk.cells (Builtin.zeroCells #[.string ⟨#[]⟩] (m + 1)).toList o W cur hX
    refine ⟨W.setCells g o (Builtin.zeroCells #[.string ⟨#[]⟩] (m + 1)).toList, fun ty => ?_, only_cells g _ _ W, fun i hi => ?_⟩
    · simp [Builtin.clear_, run_underlying hu, hv, hz, hst]
    · rw [hXc.cell, hX.cell, setL_lo _ _ _ _ hi]
theorem x_clrS {P : Program} {x : Operand} {ts : Array TypeId} {ty : TypeId} {p : String} {af : Array Edge} {gd : Option (Nat × Bool)} {ρ : Operand → Value} {v u : Value} {w w2 : World} (h1 : ρ x = v) (hr : (Builtin.clear_ ts ty #[v]).run P w = .ok u w2) : (execOp ρ ⟨none, .call { callee := .builtin .clear, args := #[x], argTypes := ts }, ty, p, af, gd⟩).run P w = .ok (.value u) w2 := by
  unfold execOp
  simp only [resolve, invoke, builtin, Sem.run_bind, Sem.run_pure, Result.andThen_ok, List.map_toArray, List.map_cons, List.map_nil, h1, hr]
section
variable {P : Program} {l : List Oper} {Q : Exit → Act → World → Prop} {rest : List Oper} {a0 : Act} {L : List (Nat × Bool × Value)} {w : World}
theorem fl_valnS {o : Oper} {v : Value} {w2 : World} (ho : o.dst = none) (hw : wtG l L o.guard = some true)
    (hr : (∀ p, p ∈ L → p.1 < a0.tmps.size) → (execOp (fr a0 L).eval o).run P w = .ok (.value v) w2) (h : FL P l Q rest a0 L w2) : FL P l Q (o :: rest) a0 L w := by
  refine ⟨fun hk => ?_⟩
  refine wpList_step fun K hK => ?_
  rw [wt_is hk hw]
  show o.wp P (fr a0 L) w K Q
  unfold Oper.wp
  rw [hr hk]
  exact hK _ _ (by rw [ho]; exact h.go hk)
end
set_option maxRecDepth 100000 in
set_option maxHeartbeats 4000000 in
theorem compact_any (base : Nat) (A : Option Addr) (n c : Nat) (l : List ByteArray) (w : World) (hO0 : OwnS base w A n c l) (hb : base ≤ w.heap.size) (hm : n ≤ 1000000) : Calls Try.prog 27 #[.slice A n c] w (CmpP base A n l w) := by
  have hl := hO0.len
  by_cases hn2 : n < 2
  · have i1 : (n : Int) < 2 := by omega
    have hc : cmpTo l n = l := by
      match l, n, hl, hn2 with
      | [], 0, _, _ => rfl
      | [x], 1, _, _ => exact cmpT_one rfl
    have hR := hO0.rd
    clear hO0
    go_enter Try.func27, Try.ntmps27
    go_wp2_with fail
    go_ret
    refine ⟨⟨n, c, rfl, Lib.hid (by rw [hc]; exact hl), by rw [hc]; exact hR⟩, Below.refl _ _⟩
  · have i1 : ¬ (n : Int) < 2 := by omega
    obtain ⟨g, rfl, hbg, _⟩ := hO0.form (by omega)
    have hcap := hO0.cap
    have HL := Lib.hid hl
    have HC := Lib.hid hcap
    clear hl hcap
    go_enter Try.func27, Try.ntmps27
    go_wp2_with fail
    go_loopw [3] (fun a wr => ∃ k : Nat, 1 ≤ k ∧ k ≤ n ∧ a = .int .i64 k ∧ Hid (cmpTo l k = l.take k) ∧ OwnS base wr (some ⟨g, 0, none⟩) n c l ∧ Below base w wr) (fun a _ => n - (intOf a).toNat)
    case atStart =>
      refine ⟨1, Nat.le_refl _, by omega, rfl, ?_, hO0, Below.refl _ _⟩
      show _ = _
      obtain ⟨x, hx⟩ : ∃ x, l[0]? = some x := ⟨_, List.getElem?_eq_getElem (by have := HL.out; omega)⟩
      rw [cmpT_one hx, List.take_add_one, hx]
      rfl
    case round =>
      clear hO0
      obtain ⟨k, hk1, hk, rfl, hT, hO, hB⟩ := hrel
      by_cases hlt : k < n
      · obtain ⟨x, hx⟩ : ∃ x, l[k]? = some x := ⟨_, List.getElem?_eq_getElem (by have := HL.out; omega)⟩
        obtain ⟨y, hy⟩ : ∃ y, l[k - 1]? = some y := ⟨_, List.getElem?_eq_getElem (by have := HL.out; omega)⟩
        have i2 : (k : Int) < (n : Int) := by omega
        have f1 : ∀ W, (fun W => OwnS base W (some ⟨g, 0, none⟩) n c l ∧ Below base w W) W → _ := fun W _ => six0 W g n c k hlt
        have f2 : ∀ W, (fun W => OwnS base W (some ⟨g, 0, none⟩) n c l ∧ Below base w W) W → _ := fun W h => ld_str (h.1.cell hx)
        have f3 : ∀ W, (fun W => OwnS base W (some ⟨g, 0, none⟩) n c l ∧ Below base w W) W → _ := fun W _ => six0 W g n c (k - 1) (by omega)
        have f4 : ∀ W, (fun W => OwnS base W (some ⟨g, 0, none⟩) n c l ∧ Below base w W) W → _ := fun W h => ld_str (h.1.cell hy)
        by_cases he : x.data.toList = y.data.toList
        · have hd : decide (x.data.toList = y.data.toList) = true := by simpa using he
          have hT2 : Hid (cmpTo l (k + 1) = l.take k) := (cmpT_same hk1 hx hy he).trans hT.out
          go_upto_region 6 with fail
          refine fc_start (S := (fun W => OwnS base W (some ⟨g, 0, none⟩) n c l ∧ Below base w W)) (by kernel_rfl) (⟨hO, hB.drew⟩) ?_
          generalize ha : Act.mk _ _ = a0
          have hn : a0.tmps.size = 61 := by rw [← ha]; kernel_rfl
          have h0 : (fr a0 []).eval (.tmp 0) = .slice (some ⟨g, 0, none⟩) n c := by rw [← ha]; kernel_rfl
          refine fc_know hn rfl h0 ?_
          clear h0
          have h3 : (fr a0 [(0, true, .slice (some ⟨g, 0, none⟩) n c)]).eval (.tmp 3) = .int .i64 (k : Int) := by rw [← ha]; kernel_rfl
          refine fc_know hn rfl h3 ?_
          clear h3
          refine c_mv 0 hn ?_
          refine c_mv 1 hn ?_
          refine c_ix 2 hn ?_
          refine c_ld 3 hn ?_
          refine c_mv 4 hn ?_
          refine c_mv 5 hn ?_
          refine c_bc 6 hn ?_ (v := .int .i64 ((k - 1 : Nat) : Int)) (hx := fun W _ => sub1 _ W k hk1 (by omega))
          refine c_ix 7 hn ?_
          refine c_ld 8 hn ?_
          refine c_bn 9 hn ?_ (v := .bool true) (hx := fun W _ => q_eqv _ _ W _ _ hd)
          refine fc_end (fun w2 hS => ?_)
          clear hn f1 f2 f3 f4
          subst ha
          dsimp only [fr, cnd, Act.put, cond_true]
          simp only [List.setIfInBounds_toArray, List.set_cons_zero, List.set_cons_succ]
          obtain ⟨hO2, hB2⟩ := hS
          clear hO hB hT hd
          generalize hk0 : k = k0 at hk1 hk hlt i2 hx hy hT2 ⊢
          clear hk0
          have q1 : ∀ W : World, (Instr.sliceAt 24 (.slice (some ⟨g, 0, none⟩) n c) (some (.int .i64 (k0 : Int))) none none).run Try.prog W = .ok (.slice (some ⟨g, k0, none⟩) (n - k0) (c - k0)) W := fun W => run_cutS W g n c k0 (by omega) hlt HC.out.1
          go_upto_region 7 with fail
          refine wp_region_lit ?_
          refine fl_start ?_
          generalize ha : Act.mk _ _ = a0
          have hn : a0.tmps.size = 61 := by rw [← ha]; kernel_rfl
          have h0 : (fr a0 []).eval (.tmp 0) = .slice (some ⟨g, 0, none⟩) n c := by rw [← ha]; kernel_rfl
          refine fl_know hn rfl h0 ?_
          clear h0
          have h3 : (fr a0 [(0, true, .slice (some ⟨g, 0, none⟩) n c)]).eval (.tmp 3) = .int .i64 (k0 : Int) := by rw [← ha]; kernel_rfl
          refine fl_know hn rfl h3 ?_
          clear h3
          refine g_mv hn ?_
          refine g_mv hn ?_
          refine g_o2 (i := 26) (j := 27) (vi := .slice (some ⟨g, 0, none⟩) n c) (vj := .int .i64 (k0 : Int)) (v := .slice (some ⟨g, k0, none⟩) (n - k0) (c - k0)) hn (fun ρ h1 h2 _ => x_sloC h1 h2 (q1 _)) ?_
          refine g_as hn ?_
          refine fl_end ?_
          clear hn q1
          subst ha
          dsimp only [fr, cnd, Act.put, cond_true]
          simp only [List.setIfInBounds_toArray, List.set_cons_zero, List.set_cons_succ]
          go_wp2_with fail
          go_loopw [3, 5] (fun a b wr => ∃ k i : Nat, 1 ≤ i ∧ k0 + i ≤ n ∧ a = .int .i64 k ∧ b = .int .i64 i ∧ (cmpTo l (k0 + i)).length = k ∧ k < k0 + i ∧ OwnS base wr (some ⟨g, 0, none⟩) n c (cmpTo l (k0 + i) ++ l.drop k) ∧ Below base w wr) (fun _ b _ => n - k0 - (intOf b).toNat)
          case atStart =>
            refine ⟨k0, 1, Nat.le_refl _, by omega, rfl, rfl, ?_, by omega, ?_, hB2⟩
            · rw [hT2.out, List.length_take]
              have := HL.out
              omega
            · rw [hT2.out, List.take_append_drop]
              exact hO2
          case round =>
            clear hO2 hB2 hT2 hx hy he
            obtain ⟨k, i, hi1, hin, rfl, rfl, hkl, hki, hO, hB⟩ := hrel
            have hkk : k ≤ n := by omega
            by_cases hlt2 : k0 + i < n
            · obtain ⟨u, hu⟩ : ∃ u, l[k0 + i]? = some u := ⟨_, List.getElem?_eq_getElem (by have := HL.out; omega)⟩
              obtain ⟨v, hv⟩ : ∃ v, l[k0 + i - 1]? = some v := ⟨_, List.getElem?_eq_getElem (by have := HL.out; omega)⟩
              have hu2 : (cmpTo l (k0 + i) ++ l.drop k)[k0 + i]? = some u := by
                rw [List.getElem?_append_right (by omega), List.getElem?_drop, hkl, show k + (k0 + i - k) = k0 + i by omega]
                exact hu
              have hv2 : (cmpTo l (k0 + i) ++ l.drop k)[k0 + (i - 1)]? = some v := by
                rw [List.getElem?_append_right (by omega), List.getElem?_drop, hkl, show k + (k0 + (i - 1) - k) = k0 + i - 1 by omega]
                exact hv
              have i3 : (i : Int) < ((n - k0 : Nat) : Int) := by omega
              have f1 : ∀ W, (fun W => OwnS base W (some ⟨g, 0, none⟩) n c (cmpTo l (k0 + i) ++ l.drop k) ∧ Below base w W) W → _ := fun W _ => sixO W g k0 (n - k0) (c - k0) i (by omega)
              have f2 : ∀ W, (fun W => OwnS base W (some ⟨g, 0, none⟩) n c (cmpTo l (k0 + i) ++ l.drop k) ∧ Below base w W) W → _ := fun W h => ld_str (h.1.cell hu2)
              have f3 : ∀ W, (fun W => OwnS base W (some ⟨g, 0, none⟩) n c (cmpTo l (k0 + i) ++ l.drop k) ∧ Below base w W) W → _ := fun W _ => sixO W g k0 (n - k0) (c - k0) (i - 1) (by omega)
              have f4 : ∀ W, (fun W => OwnS base W (some ⟨g, 0, none⟩) n c (cmpTo l (k0 + i) ++ l.drop k) ∧ Below base w W) W → _ := fun W h => ld_str (h.1.cell hv2)
              by_cases he : u.data.toList = v.data.toList
              · have hd : (!decide (u.data.toList = v.data.toList)) = false := by simpa using he
                have hE : Hid (cmpTo l (k0 + (i + 1)) = cmpTo l (k0 + i)) := cmpT_same (m := k0 + i) (by omega) hu hv he
                go_upto_region 11 with fail
                refine fc_start (S := (fun W => OwnS base W (some ⟨g, 0, none⟩) n c (cmpTo l (k0 + i) ++ l.drop k) ∧ Below base w W)) (by kernel_rfl) (⟨hO, hB.drew⟩) ?_
                generalize ha : Act.mk _ _ = a0
                have hn : a0.tmps.size = 61 := by rw [← ha]; kernel_rfl
                have h4 : (fr a0 []).eval (.tmp 4) = .slice (some ⟨g, k0, none⟩) (n - k0) (c - k0) := by rw [← ha]; kernel_rfl
                refine fc_know hn rfl h4 ?_
                clear h4
                have h5 : (fr a0 [(4, true, .slice (some ⟨g, k0, none⟩) (n - k0) (c - k0))]).eval (.tmp 5) = .int .i64 (i : Int) := by rw [← ha]; kernel_rfl
                refine fc_know hn rfl h5 ?_
                clear h5
                refine c_mv 0 hn ?_
                refine c_mv 1 hn ?_
                refine c_ix 2 hn ?_
                refine c_ld 3 hn ?_
                refine c_mv 4 hn ?_
                refine c_mv 5 hn ?_
                refine c_bc 6 hn ?_ (v := .int .i64 ((i - 1 : Nat) : Int)) (hx := fun W _ => sub1 _ W i hi1 (by omega))
                refine c_ix 7 hn ?_
                refine c_ld 8 hn ?_
                refine c_bn 9 hn ?_ (v := .bool false) (hx := fun W _ => q_nev _ _ W _ _ hd)
                refine fc_end (fun w2 hS => ?_)
                clear hn f1 f2 f3 f4
                subst ha
                dsimp only [fr, cnd, Act.put, cond_true]
                simp only [List.setIfInBounds_toArray, List.set_cons_zero, List.set_cons_succ]
                obtain ⟨hO3, hB3⟩ := hS
                clear hO hB
                have hO4 : OwnS base w2 (some ⟨g, 0, none⟩) n c (cmpTo l (k0 + (i + 1)) ++ l.drop k) := by rw [hE.out]; exact hO3
                go_wp2_with fail
                refine ⟨?_, ?_⟩
                · first
                  | exact ⟨k, i + 1, by omega, by omega, rfl, by go_num, by rw [hE.out]; exact hkl, by omega, hO4, hB3⟩
                  | repeat apply Exists.intro
                    refine ⟨?_, rfl⟩
                    exact ⟨k, i + 1, by omega, by omega, rfl, by go_num, by rw [hE.out]; exact hkl, by omega, hO4, hB3⟩
                · simp [intOf]; omega
              · have hd : (!decide (u.data.toList = v.data.toList)) = true := by simpa using he
                have hE : Hid (cmpTo l (k0 + (i + 1)) = cmpTo l (k0 + i) ++ [u]) := cmpT_new hu hv he
                go_upto_region 11 with fail
                refine fc_start (S := (fun W => OwnS base W (some ⟨g, 0, none⟩) n c (cmpTo l (k0 + i) ++ l.drop k) ∧ Below base w W)) (by kernel_rfl) (⟨hO, hB.drew⟩) ?_
                generalize ha : Act.mk _ _ = a0
                have hn : a0.tmps.size = 61 := by rw [← ha]; kernel_rfl
                have h4 : (fr a0 []).eval (.tmp 4) = .slice (some ⟨g, k0, none⟩) (n - k0) (c - k0) := by rw [← ha]; kernel_rfl
                refine fc_know hn rfl h4 ?_
                clear h4
                have h5 : (fr a0 [(4, true, .slice (some ⟨g, k0, none⟩) (n - k0) (c - k0))]).eval (.tmp 5) = .int .i64 (i : Int) := by rw [← ha]; kernel_rfl
                refine fc_know hn rfl h5 ?_
                clear h5
                refine c_mv 0 hn ?_
                refine c_mv 1 hn ?_
                refine c_ix 2 hn ?_
                refine c_ld 3 hn ?_
                refine c_mv 4 hn ?_
                refine c_mv 5 hn ?_
                refine c_bc 6 hn ?_ (v := .int .i64 ((i - 1 : Nat) : Int)) (hx := fun W _ => sub1 _ W i hi1 (by omega))
                refine c_ix 7 hn ?_
                refine c_ld 8 hn ?_
                refine c_bn 9 hn ?_ (v := .bool true) (hx := fun W _ => q_nev _ _ W _ _ hd)
                refine fc_end (fun w2 hS => ?_)
                clear hn f1 f2 f3 f4
                subst ha
                dsimp only [fr, cnd, Act.put, cond_true]
                simp only [List.setIfInBounds_toArray, List.set_cons_zero, List.set_cons_succ]
                obtain ⟨hO3, hB3⟩ := hS
                clear hO hB
                obtain ⟨cs, hX, hcs, hbs⟩ := hO3.blkC
                have l1 := sixO w2 g k0 (n - k0) (c - k0) i (by omega)
                have l2 := ld_str (hO3.cell hu2)
                have l3 := six0 w2 g n c k (by omega)
                have hset := hO3.set k u
                have hlist : (cmpTo l (k0 + i) ++ l.drop k).set k u = cmpTo l (k0 + (i + 1)) ++ l.drop (k + 1) := by
                  rw [hE.out, List.set_append_right _ _ (by omega), hkl, Nat.sub_self, List.drop_eq_getElem_cons (by have := HL.out; omega), List.set_cons_zero, List.append_assoc]
                  rfl
                rw [hlist] at hset
                have ho2 := only_cell w2 g k (.string u)
                have hB4 := hB3.trans (ho2.below hbs)
                go_upto_region 12 with fail
                refine wp_region_lit ?_
                refine fl_start ?_
                generalize ha : Act.mk _ _ = a0
                have hn : a0.tmps.size = 61 := by rw [← ha]; kernel_rfl
                have h0 : (fr a0 []).eval (.tmp 0) = .slice (some ⟨g, 0, none⟩) n c := by rw [← ha]; kernel_rfl
                refine fl_know hn rfl h0 ?_
                clear h0
                have h3 : (fr a0 [(0, true, .slice (some ⟨g, 0, none⟩) n c)]).eval (.tmp 3) = .int .i64 (k : Int) := by rw [← ha]; kernel_rfl
                refine fl_know hn rfl h3 ?_
                clear h3
                have h4 : (fr a0 [(3, true, .int .i64 (k : Int)), (0, true, .slice (some ⟨g, 0, none⟩) n c)]).eval (.tmp 4) = .slice (some ⟨g, k0, none⟩) (n - k0) (c - k0) := by rw [← ha]; kernel_rfl
                refine fl_know hn rfl h4 ?_
                clear h4
                have h5 : (fr a0 [(4, true, .slice (some ⟨g, k0, none⟩) (n - k0) (c - k0)), (3, true, .int .i64 (k : Int)), (0, true, .slice (some ⟨g, 0, none⟩) n c)]).eval (.tmp 5) = .int .i64 (i : Int) := by rw [← ha]; kernel_rfl
                refine fl_know hn rfl h5 ?_
                clear h5
                refine g_mv hn ?_
                refine g_mv hn ?_
                refine g_mv hn ?_
                refine g_mv hn ?_
                refine g_ix hn ?_
                refine g_ld hn ?_
                refine g_ix hn ?_
                refine fl_skip rfl rfl (fun hk => run_st (lk_at hk (i := 51) rfl (fun _ => rfl) rfl) (lk_at hk (i := 50) rfl (fun _ => rfl) rfl) (st_str hX (by omega) u)) ?_
                refine fl_end ?_
                clear hn l1 l2 l3
                subst ha
                dsimp only [fr, cnd, Act.put, cond_true]
                simp only [List.setIfInBounds_toArray, List.set_cons_zero, List.set_cons_succ]
                clear hX ho2 hO3
                go_wp2_with fail
                refine ⟨?_, ?_⟩
                · first
                  | exact ⟨k + 1, i + 1, by omega, by omega, by go_num, by go_num, by rw [hE.out, List.length_append, hkl]; rfl, by omega, hset, hB4⟩
                  | repeat apply Exists.intro
                    refine ⟨?_, rfl⟩
                    exact ⟨k + 1, i + 1, by omega, by omega, by go_num, by go_num, by rw [hE.out, List.length_append, hkl]; rfl, by omega, hset, hB4⟩
                · simp [intOf]; omega
            · have i3 : ¬ (i : Int) < ((n - k0 : Nat) : Int) := by omega
              have hnn : k0 + i = n := by omega
              rw [hnn] at hO hkl hki
              obtain ⟨cs, hX, hcs, hbs⟩ := hO.blkC
              have hk1' : 0 < k := by
                rw [← hkl]
                have h0 : ∃ x, l[0]? = some x := ⟨_, List.getElem?_eq_getElem (by have := HL.out; omega)⟩
                obtain ⟨x0, hx0⟩ := h0
                have hpos : ∀ m, 0 < (cmpTo l (m + 1)).length := by
                  intro m
                  induction m with
                  | zero => rw [cmpT_one hx0]; simp
                  | succ m ih =>
                    show 0 < (match l[m + 1]? with | none => _ | some x => _ : List ByteArray).length
                    cases l[m + 1]? with
                    | none => exact ih
                    | some z =>
                      dsimp only
                      split
                      · exact ih
                      · rw [List.length_append]; omega
                have := hpos (n - 1)
                rwa [show n - 1 + 1 = n by omega] at this
              have q1 : ∀ W : World, (Instr.sliceAt 24 (.slice (some ⟨g, 0, none⟩) n c) (some (.int .i64 (k : Int))) none none).run Try.prog W = .ok (.slice (some ⟨g, k, none⟩) (n - k) (c - k)) W := fun W => run_cutS W g n c k hk1' hki HC.out.1
              have q2 : ∀ W : World, (Instr.sliceAt 24 (.slice (some ⟨g, 0, none⟩) n c) none (some (.int .i64 (k : Int))) none).run Try.prog W = .ok (.slice (some ⟨g, 0, none⟩) k c) W := fun W => run_headS W _ n c k (by omega) HC.out.1
              obtain ⟨w3, hclr, hon, hcel⟩ := run_clrS wr g k (n - k) (c - k) cs hX (by omega)
              have hB3 := hB.trans (hon.below hbs)
              have hgl := hX.lt
              have hR3 : RdS w3.heap.size w3 (some ⟨g, 0, none⟩) (cmpTo l n) := by
                intro j x hj
                have hjk : j < k := by rw [← hkl]; exact (List.getElem?_eq_some_iff.1 hj).1
                refine ⟨_, rfl, by show g < w3.heap.size; have := hon.size; omega, ?_⟩
                rw [addz, Nat.zero_add, hcel j hjk]
                exact hO.cell (by rw [List.getElem?_append_left (by omega)]; exact hj)
              clear hO hX hon hcel hB
              go_upto_region 14 with fail
              refine wp_region_lit ?_
              refine fl_start ?_
              generalize ha : Act.mk _ _ = a0
              have hn : a0.tmps.size = 61 := by rw [← ha]; kernel_rfl
              have h0 : (fr a0 []).eval (.tmp 0) = .slice (some ⟨g, 0, none⟩) n c := by rw [← ha]; kernel_rfl
              refine fl_know hn rfl h0 ?_
              clear h0
              have h3 : (fr a0 [(0, true, .slice (some ⟨g, 0, none⟩) n c)]).eval (.tmp 3) = .int .i64 (k : Int) := by rw [← ha]; kernel_rfl
              refine fl_know hn rfl h3 ?_
              clear h3
              refine g_mv hn ?_
              refine g_mv hn ?_
              refine g_o2 (i := 54) (j := 55) (vi := .slice (some ⟨g, 0, none⟩) n c) (vj := .int .i64 (k : Int)) (v := .slice (some ⟨g, k, none⟩) (n - k) (c - k)) hn (fun ρ h1 h2 _ => x_sloC h1 h2 (q1 _)) ?_
              refine fl_valnS rfl rfl (fun hk => x_clrS (lk_at hk (i := 56) rfl (fun _ => rfl) rfl) (hclr _)) ?_
              refine fl_end ?_
              clear hn q1 hclr
              subst ha
              dsimp only [fr, cnd, Act.put, cond_true]
              simp only [List.setIfInBounds_toArray, List.set_cons_zero, List.set_cons_succ]
              go_upto_region 15 with fail
              refine wp_region_lit ?_
              refine fl_start ?_
              generalize ha : Act.mk _ _ = a0
              have hn : a0.tmps.size = 61 := by rw [← ha]; kernel_rfl
              have h0 : (fr a0 []).eval (.tmp 0) = .slice (some ⟨g, 0, none⟩) n c := by rw [← ha]; kernel_rfl
              refine fl_know hn rfl h0 ?_
              clear h0
              have h3 : (fr a0 [(0, true, .slice (some ⟨g, 0, none⟩) n c)]).eval (.tmp 3) = .int .i64 (k : Int) := by rw [← ha]; kernel_rfl
              refine fl_know hn rfl h3 ?_
              clear h3
              refine g_mv hn ?_
              refine g_mv hn ?_
              refine g_o2 (i := 57) (j := 58) (vi := .slice (some ⟨g, 0, none⟩) n c) (vj := .int .i64 (k : Int)) (v := .slice (some ⟨g, 0, none⟩) k c) hn (fun ρ h1 h2 _ => x_shiC h1 h2 (q2 _)) ?_
              refine g_as hn ?_
              refine fl_end ?_
              clear hn q2
              subst ha
              dsimp only [fr, cnd, Act.put, cond_true]
              simp only [List.setIfInBounds_toArray, List.set_cons_zero, List.set_cons_succ]
              go_wp2_with fail
              go_ret
              exact ⟨⟨k, c, rfl, Lib.hid hkl, hR3⟩, hB3⟩
        · have hd : decide (x.data.toList = y.data.toList) = false := by simpa using he
          have hT2 : Hid (cmpTo l (k + 1) = l.take (k + 1)) := by
            show _ = _
            rw [cmpT_new hx hy he, hT.out, List.take_add_one, hx]
            rfl
          go_upto_region 6 with fail
          refine fc_start (S := (fun W => OwnS base W (some ⟨g, 0, none⟩) n c l ∧ Below base w W)) (by kernel_rfl) (⟨hO, hB.drew⟩) ?_
          generalize ha : Act.mk _ _ = a0
          have hn : a0.tmps.size = 61 := by rw [← ha]; kernel_rfl
          have h0 : (fr a0 []).eval (.tmp 0) = .slice (some ⟨g, 0, none⟩) n c := by rw [← ha]; kernel_rfl
          refine fc_know hn rfl h0 ?_
          clear h0
          have h3 : (fr a0 [(0, true, .slice (some ⟨g, 0, none⟩) n c)]).eval (.tmp 3) = .int .i64 (k : Int) := by rw [← ha]; kernel_rfl
          refine fc_know hn rfl h3 ?_
          clear h3
          refine c_mv 0 hn ?_
          refine c_mv 1 hn ?_
          refine c_ix 2 hn ?_
          refine c_ld 3 hn ?_
          refine c_mv 4 hn ?_
          refine c_mv 5 hn ?_
          refine c_bc 6 hn ?_ (v := .int .i64 ((k - 1 : Nat) : Int)) (hx := fun W _ => sub1 _ W k hk1 (by omega))
          refine c_ix 7 hn ?_
          refine c_ld 8 hn ?_
          refine c_bn 9 hn ?_ (v := .bool false) (hx := fun W _ => q_eqv _ _ W _ _ hd)
          refine fc_end (fun w2 hS => ?_)
          clear hn f1 f2 f3 f4
          subst ha
          dsimp only [fr, cnd, Act.put, cond_true]
          simp only [List.setIfInBounds_toArray, List.set_cons_zero, List.set_cons_succ]
          obtain ⟨hO2, hB2⟩ := hS
          clear hO hB hT
          go_wp2_with fail
          refine ⟨?_, ?_⟩
          · first
            | exact ⟨k + 1, by omega, by omega, by go_num, hT2, hO2, hB2⟩
            | repeat apply Exists.intro
              refine ⟨?_, rfl⟩
              exact ⟨k + 1, by omega, by omega, by go_num, hT2, hO2, hB2⟩
          · simp [intOf]; omega
      · have i2 : ¬ (k : Int) < (n : Int) := by omega
        have hkn : k = n := by omega
        subst hkn
        have hc : cmpTo l k = l := hT.out.trans (List.take_of_length_le (by have := HL.out; omega))
        have hR := hO.rd
        go_wp2_with fail
        go_ret
        refine ⟨⟨k, c, rfl, Lib.hid (by rw [hc]; exact HL.out), by rw [hc]; exact hR⟩, hB⟩
end Go.Proofs.Ytokkmofcijfmiab
