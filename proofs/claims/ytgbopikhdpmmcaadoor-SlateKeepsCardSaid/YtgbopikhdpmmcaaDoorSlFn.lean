/-
  WHAT IS PROVED: slices.IndexFunc and ContainsFunc of writes, and the two closures of slate that look at one. Conditions: those typed in each theorem.
-/
import Derived.Test.YtgbopikhdpmmcaaDoorSlArm
namespace Go.Proofs.YtgbopikhdpmmcaaDoor
open Go.RowKit

section
variable {l : List Oper} {Q : Exit → Act → World → Prop} {rest : List Oper} {a0 : Act} {L : List (Nat × Bool × Value)} {w : World}
theorem callf_is {f : FuncId} (he : ∀ args w, (callFunc f args).run Tryd.prog w = .ok (.enter f args) w) (d : Option Tmp) (x y : Operand) (ts : Array TypeId) (ty : TypeId) (p : String) (af : Array Edge) (gd : Option (Nat × Bool)) (ρ : Operand → Value) (v : Value) (lb : Array Value) (h0 : ρ x = .func (.func f) #[] lb) (h1 : ρ y = v) : (execOp ρ ⟨d, .call { callee := .value x, args := #[y], argTypes := ts }, ty, p, af, gd⟩).run Tryd.prog w = .ok (.enter f (#[v] ++ lb)) w := by
  unfold execOp
  dsimp only
  go_simp
theorem g_cf {f : FuncId} {i j d n : Nat} {v : Value} {lb : Array Value} {R : Value → World → Prop} {ts : Array TypeId} {ty : TypeId} {p : String} {af : Array Edge} {gd : Option (Nat × Bool)} (he : ∀ args w, (callFunc f args).run Tryd.prog w = .ok (.enter f args) w) (hn : a0.tmps.size = n) (hc : Calls Tryd.prog f (#[v] ++ lb) w fun e w' => ∃ v, e = .returned v ∧ R v w') (h : ∀ v w2, R v w2 → FL Tryd.prog l Q rest a0 ((d, true, v) :: L) w2) (hd : Nat.blt d n = true := by rfl) (hw : wtG l L gd = some true := by rfl) (hl : lk L i = some (true, .func (.func f) #[] lb) := by rfl) (hl2 : lk L j = some (true, v) := by rfl) : FL Tryd.prog l Q (⟨some d, .call { callee := .value (.tmp i), args := #[.tmp j], argTypes := ts }, ty, p, af, gd⟩ :: rest) a0 L w :=
  fl_callx hn rfl hd hw (fun hk => callf_is he _ _ _ _ _ _ _ _ _ v lb (lk_at hk hl (fun _ => rfl) rfl) (lk_at hk hl2 (fun _ => rfl) rfl)) hc h
end

/-- Whole numbers, each in a block of its own. -/
def CapK (q : List (Nat × Int)) (W : World) : Prop := ∀ p, p ∈ q → W.cell? ⟨p.1, 0, none⟩ = some (.int .i64 p.2)
theorem CapK.keep {q : List (Nat × Int)} {W W' : World} (h : CapK q W) (hb : Below W.heap.size W W') : CapK q W' := fun p hp => (hb.cell (World.block_lt_of_cell? W _ (h p hp))).trans (h p hp)
theorem CapK.only {q : List (Nat × Int)} {W W' : World} {g : Nat} (h : CapK q W) (ho : Only1 g W W') (hg : ∀ p, p ∈ q → p.1 ≠ g) : CapK q W' := fun p hp => by
  have := h p hp
  unfold World.cell? at *
  rw [ho.block _ (hg p hp)]
  exact this
/-- A function value that tells of each of these writes whether p holds, where those numbers lie. -/
def PredP (g : Nat) (lb : Array Value) (p : Pw → Bool) (q : List (Nat × Int)) : Prop :=
  ∀ x : Pw, x.l.length = 64 → ∀ W, CapK q W → Calls Tryd.prog g (#[.agg x.cells] ++ lb) W fun e W' => e = .returned (.bool (p x)) ∧ Below W.heap.size W W'
theorem mapp_get {l : List Pw} {k : Nat} {x : Pw} (h : l[k]? = some x) : (l.map Pw.cells)[k]? = some x.cells := by simp [h]
theorem add_g (g k : Nat) : (⟨g, 0, none⟩ : Addr).add k = ⟨g, k, none⟩ := by
  unfold Addr.add
  split
  · next h => rw [h]
  · simp
theorem ix_p (W : World) (g n c k : Nat) (h : k < n) : (Instr.indexAt 79 (.slice (some ⟨g, 0, none⟩) n c) (.int .i64 k)).run Tryd.prog W = .ok (.pointer (some ⟨g, k * 66, none⟩)) W := by
  have i1 : (0 : Int) ≤ (k : Int) := by omega
  have i2 : (k : Int) < (n : Int) := by omega
  have i3 := add_g g (k * 66)
  go_simp
theorem ld_p {W : World} {g k : Nat} {x : Pw} (hl : x.l.length = 64) (hc : ∀ j v, x.cells[j]? = some v → W.cell? ⟨g, k * 66 + j, none⟩ = some v) : (Instr.loadAt 87 (.pointer (some ⟨g, k * 66, none⟩))).run Tryd.prog W = .ok (.agg x.cells) W := by
  have hi : (Tryd.prog.info? 87).map (·.size) = some 66 := by kernel_rfl
  have := run_loadAt_mid (P := Tryd.prog) W g (k * 66) 87 x.cells.toList _ (fun j v hv => hc j v ((Array.getElem?_toList ..).symm.trans hv)) Tryd.underlying87 rfl (by rw [hi, Array.length_toList, pw_size hl])
  simpa using this
/-- The slice at A reads as these writes. -/
def RdP (W : World) (A : Option Addr) (l : List Pw) : Prop := ∀ k x, l[k]? = some x → ∃ g, A = some ⟨g, 0, none⟩ ∧ g < W.heap.size ∧ ∀ j v, x.cells[j]? = some v → W.cell? ⟨g, k * 66 + j, none⟩ = some v
theorem RdP.keep {W W' : World} {A : Option Addr} {l : List Pw} (h : RdP W A l) (hb : Below W.heap.size W W') : RdP W' A l := fun k x hx => by
  obtain ⟨g, e, hl, hc⟩ := h k x hx
  exact ⟨g, e, Nat.lt_of_lt_of_le hl hb.size, fun j v hv => (hb.cell hl).trans (hc j v hv)⟩
theorem OwnX.rdp {base n c : Nat} {W : World} {A : Option Addr} {l : List Pw} (h : OwnX 87 66 base W A n c (l.map Pw.cells)) : RdP W A l := fun k x hx => by
  have hx' : (l.map Pw.cells)[k]? = some x.cells := mapp_get hx
  have hk := (List.getElem?_eq_some_iff.1 hx').1
  have hl := h.len
  obtain ⟨g, cap, hv, _, hlt⟩ := World.ownsRow.form h.1 (by omega)
  injection hv with hv
  refine ⟨g, hv, hlt, fun j v hj => ?_⟩
  have := h.1.cells (g := g) (by rw [hv]; rfl) _ _ (celV_get _ h.2.1 k j x.cells v hx' hj)
  rwa [add_g] at this
/-- Where the first one is of which p holds. -/
def IdxR (p : Pw → Bool) (l : List Pw) (z : Int) : Prop := (z = -1 ∧ ∀ x, x ∈ l → p x = false) ∨ ∃ (k : Nat) (x : Pw), z = k ∧ l[k]? = some x ∧ p x = true ∧ ∀ y, y ∈ l.take k → p y = false
theorem takep_add {p : Pw → Bool} {l : List Pw} {k : Nat} {x : Pw} (h : ∀ y, y ∈ l.take k → p y = false) (hx : l[k]? = some x) (hb : p x = false) : ∀ y, y ∈ l.take (k + 1) → p y = false := fun y hy => by
  rw [List.take_add_one, hx] at hy
  rcases List.mem_append.1 hy with h' | h'
  · exact h y h'
  · have e : y = x := by simpa using h'
    rw [e]
    exact hb
set_option maxRecDepth 100000 in
set_option maxHeartbeats 4000000 in
theorem idxP_any (g : Nat) (lb : Array Value) (eg : ∀ args w, (callFunc g args).run Tryd.prog w = .ok (.enter g args) w) (p : Pw → Bool) (q : List (Nat × Int)) (A : Option Addr) (n c : Nat) (l : List Pw) (w : World) (hn : l.length = n) (hr : RdP w A l) (h64 : ∀ x, x ∈ l → x.l.length = 64) (hm : n ≤ maxLen) (hp : PredP g lb p q) (hq : CapK q w) :
    Calls Tryd.prog 53 #[.slice A n c, .func (.func g) #[] lb] w fun e w' => (∃ z : Int, e = .returned (.int .i64 z) ∧ IdxR p l z) ∧ Below w.heap.size w w' := by
  unfold maxLen at hm
  have HN := Lib.hid hn
  have HP := Lib.hid hp
  have HR := Lib.hid hr
  have HQ := Lib.hid hq
  have H6 := Lib.hid h64
  clear hn hp hr hq h64
  go_enter Tryd.func53, Tryd.ntmps53
  go_wp2_with fail
  go_loopw [5, 8] (fun _ i wr => ∃ k : Nat, k ≤ n ∧ i = .int .i64 k ∧ Hid (∀ x, x ∈ l.take k → p x = false) ∧ Below w.heap.size w wr) (fun _ i _ => n - (intOf i).toNat)
  case atStart => exact ⟨0, Nat.zero_le _, rfl, fun x hx => by simp at hx, Below.refl _ _⟩
  case round =>
    obtain ⟨k, hk, rfl, hA, hB⟩ := hrel
    by_cases hlt : k < n
    · obtain ⟨x, hx⟩ : ∃ x, l[k]? = some x := ⟨_, List.getElem?_eq_getElem (show k < l.length by have := HN.out; omega)⟩
      obtain ⟨b, rfl, hbl, hc⟩ := (HR.out.keep hB) k x hx
      have i1 : (0 : Int) ≤ (k : Int) := by omega
      have i2 : (k : Int) < (n : Int) := by omega
      have hx6 := H6.out x (List.mem_of_getElem? hx)
      have HX := Lib.hid hx
      have HG := Lib.hid (HP.out x hx6 wr (HQ.out.keep hB))
      have k1 := ix_p wr b n c k hlt
      have k2 := ld_p (k := k) hx6 hc
      clear hx hc hx6
      go_upto_region 4 with fail
      refine wp_region_lit ?_
      refine fl_start ?_
      generalize ha : Act.mk _ _ = a0
      have hn : a0.tmps.size = 19 := by rw [← ha]; kernel_rfl
      have h0 : (fr a0 []).eval (.tmp 0) = .slice (some ⟨b, 0, none⟩) n c := by rw [← ha]; kernel_rfl
      refine fl_know hn rfl h0 ?_
      clear h0
      have h1 : (fr a0 [(0, true, .slice (some ⟨b, 0, none⟩) n c)]).eval (.tmp 1) = .func (.func g) #[] lb := by rw [← ha]; kernel_rfl
      refine fl_know hn rfl h1 ?_
      clear h1
      have h5 : (fr a0 [(1, true, .func (.func g) #[] lb), (0, true, .slice (some ⟨b, 0, none⟩) n c)]).eval (.tmp 5) = .int .i64 k := by rw [← ha]; kernel_rfl
      refine fl_know hn rfl h5 ?_
      clear h5
      repeat first | refine g_mv hn ?_ | refine g_as hn ?_ | refine g_ix hn ?_ | refine g_fd hn ?_ | refine g_ld hn ?_ | refine g_nc hn ?_ | refine g_nt hn ?_ | refine g_an hn ?_ | refine g_or hn ?_ | refine g_ln hn ?_ | refine g_ex hn ?_ | refine g_neq2 hn ?_ | refine g_neq hn ?_ | refine g_eql2 hn ?_ | refine g_eql hn ?_ | refine g_leq2 hn ?_ | refine g_leq hn ?_ | refine g_lss2 hn ?_ | refine g_lss hn ?_ | refine g_gtr2 hn ?_ | refine g_gtr hn ?_ | refine g_geq2 hn ?_ | refine g_geq hn ?_ | refine g_b0 hn ?_ | refine g_bn hn ?_ | refine g_bc hn ?_ | refine g_cv hn ?_ | refine g_ac hn ?_ | refine g_mc hn ?_
      refine g_cf eg hn (R := fun v w2 => v = .bool (p x) ∧ Below wr.heap.size wr w2) (HG.out.mono fun _ _ ⟨he, hb⟩ => ⟨_, he, rfl, hb⟩) ?_
      rintro v w2 ⟨rfl, hb2⟩
      refine fl_end ?_
      clear hn
      subst ha
      dsimp only [fr, cnd, Act.put, cond_true]
      simp only [List.setIfInBounds_toArray, List.set_cons_zero, List.set_cons_succ]
      cases hb : p x with
      | true =>
        have R : Hid (IdxR p l k) := .inr ⟨k, x, rfl, HX.out, hb, hA.out⟩
        clear hb k1 k2
        go_wp2_with fail
        go_ret
        exact ⟨⟨_, rfl, R.out⟩, bt hB hb2⟩
      | false =>
        have HA2 := Lib.hid (takep_add hA.out HX.out hb)
        clear hb hA k1 k2
        go_wp2_with fail
        go_roundw
        case rel => exact ⟨k + 1, by omega, by go_num, HA2, bt hB hb2⟩
        case measure => simp [intOf]; omega
    · have hq : ¬ (k : Int) < (n : Int) := by omega
      have R : Hid (IdxR p l (-1)) := .inl ⟨rfl, fun x hx => hA.out x (by rw [List.take_of_length_le (by have := HN.out; omega)]; exact hx)⟩
      clear hA
      go_wp2_with fail
      go_ret
      exact ⟨⟨_, rfl, R.out⟩, hB⟩
theorem enters_Idx : ∀ args w, (callFunc 53 args).run Tryd.prog w = .ok (.enter 53 args) w := enters_of Tryd.func53 (by kernel_rfl) rfl
/-! The two closures. -/
theorem enters_fg1 : ∀ args w, (callFunc 47 args).run Tryd.prog w = .ok (.enter 47 args) w := enters_of Tryd.func47 (by kernel_rfl) rfl
set_option maxRecDepth 100000 in
set_option maxHeartbeats 4000000 in
theorem fg1_any (b : Nat) (f : Int) : PredP 47 #[.pointer (some ⟨b, 0, none⟩)] (fun x => x.f == f) [(b, f)] := by
  intro x hl W hq
  have hq1 := hq _ (List.mem_cons_self ..)
  clear hq
  dsimp only at hq1
  dsimp only
  show Calls Tryd.prog _ #[.agg x.cells, .pointer (some ⟨b, 0, none⟩)] W _
  go_enter Tryd.func47, Tryd.ntmps47
  go_upto_region 1 with fail
  have hY := blk_new W x.cells 87
  have hBel := b0 W (.cells x.cells 87)
  have hq2 := (hBel.cell (World.block_lt_of_cell? W _ hq1)).trans hq1
  clear hq1
  generalize W.alloc (.cells x.cells 87) = W1 at hY hBel hq2 ⊢
  generalize hb : W.heap.size = d at hY hBel ⊢
  have f0 := pw_f0 W1 d
  have l0 := pw_l0 hY
  have l1 := load_int hq2
  refine wp_region_lit ?_
  refine fl_start ?_
  generalize ha : Act.mk _ _ = a0
  have hn : a0.tmps.size = 8 := by rw [← ha]; kernel_rfl
  have h1 : (fr a0 []).eval (.tmp 1) = .pointer (some ⟨b, 0, none⟩) := by rw [← ha]; kernel_rfl
  refine fl_know hn rfl h1 ?_
  clear h1
  have h2 : (fr a0 [(1, true, .pointer (some ⟨b, 0, none⟩))]).eval (.tmp 2) = .pointer (some ⟨d, 0, none⟩) := by rw [← ha]; kernel_rfl
  refine fl_know hn rfl h2 ?_
  clear h2
  repeat first | refine g_mv hn ?_ | refine g_as hn ?_ | refine g_fd hn ?_ | refine g_ld hn ?_ | refine g_nc hn ?_ | refine g_nt hn ?_ | refine g_an hn ?_ | refine g_or hn ?_ | refine g_ln hn ?_ | refine g_ex hn ?_ | refine g_neq2 hn ?_ | refine g_neq hn ?_ | refine g_eql2 hn ?_ | refine g_eql hn ?_ | refine g_leq2 hn ?_ | refine g_leq hn ?_ | refine g_lss2 hn ?_ | refine g_lss hn ?_ | refine g_gtr2 hn ?_ | refine g_gtr hn ?_ | refine g_geq2 hn ?_ | refine g_geq hn ?_ | refine g_b0 hn ?_ | refine g_bn hn ?_ | refine g_bc hn ?_ | refine g_cv hn ?_ | refine g_ac hn ?_ | refine g_mc hn ?_
  refine fl_end ?_
  clear hn
  subst ha
  dsimp only [fr, cnd, Act.put, cond_true]
  simp only [List.setIfInBounds_toArray, List.set_cons_zero, List.set_cons_succ]
  clear f0 l0 l1 hY hq2
  go_wp2_with fail
  go_ret
  exact ⟨rfl, by rw [hb]; exact hBel⟩
end Go.Proofs.YtgbopikhdpmmcaaDoor
