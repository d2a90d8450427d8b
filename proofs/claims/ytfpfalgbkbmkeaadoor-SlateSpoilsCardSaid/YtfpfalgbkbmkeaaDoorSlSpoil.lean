/-
  WHAT IS PROVED: slate's Spoil. Conditions: those typed in each theorem.
-/
import Derived.Test.YtfpfalgbkbmkeaaDoorSlFlush
import Derived.Laws.BitsAllLaws
namespace Go.Proofs.YtfpfalgbkbmkeaaDoor
open Go.RowKit

theorem quo8 (W : World) (k : Nat) (h : k < 512) : ((do eqGuard .quo 3 (.tmp 34) (.const (.int .i64 8)) (.int .i64 k) (.int .i64 8); binOp .quo 3 (.int .i64 k) (.int .i64 8)) : Sem Value).run Tryd.prog W = .ok (.int .i64 ((k / 8 : Nat) : Int)) W := by
  have hw : IntKind.i64.wrap ((k / 8 : Nat) : Int) = ((k / 8 : Nat) : Int) := by unfold IntKind.wrap; simp [IntKind.bits, IntKind.signed]; omega
  have e : ((k / 8 : Nat) : Int) = (k : Int) / 8 := by omega
  rw [e] at hw ⊢
  clear e
  go_simp
theorem rem8 (W : World) (k : Nat) (h : k < 512) : ((do eqGuard .rem 3 (.tmp 39) (.const (.int .i64 8)) (.int .i64 k) (.int .i64 8); binOp .rem 3 (.int .i64 k) (.int .i64 8)) : Sem Value).run Tryd.prog W = .ok (.int .i64 ((k % 8 : Nat) : Int)) W := by
  have e : ((k % 8 : Nat) : Int) = (k : Int) % 8 := by omega
  have e2 : (k : Int).tmod 8 = (k : Int) % 8 := Int.tmod_eq_emod_of_nonneg (by omega)
  rw [e]
  clear e
  go_simp
/-- A byte of which one bit is set. -/
def bitU (k : Nat) : UInt8 := UInt8.ofNat (2 ^ (k % 8))
theorem shl8 (W : World) (k : Nat) (h : k < 8) : ((do eqGuard .shl 5 (.const (.int .u8 1)) (.tmp 40) (.int .u8 1) (.int .i64 k); binOp .shl 5 (.int .u8 1) (.int .i64 k)) : Sem Value).run Tryd.prog W = .ok (.int .u8 ((bitU k).toNat : Int)) W := by
  rcases (by omega : k = 0 ∨ k = 1 ∨ k = 2 ∨ k = 3 ∨ k = 4 ∨ k = 5 ∨ k = 6 ∨ k = 7) with rfl | rfl | rfl | rfl | rfl | rfl | rfl | rfl <;> kernel_rfl
theorem xor8 (W : World) (a b : UInt8) : ((do eqGuard .xor 5 (.tmp 38) (.tmp 41) (.int .u8 (a.toNat : Int)) (.int .u8 (b.toNat : Int)); binOp .xor 5 (.int .u8 (a.toNat : Int)) (.int .u8 (b.toNat : Int))) : Sem Value).run Tryd.prog W = .ok (.int .u8 ((a ^^^ b).toNat : Int)) W := by
  have e := u8_xor_nat a.toNat b.toNat a.toNat_lt b.toNat_lt
  have e2 : (a ^^^ b).toNat = a.toNat ^^^ b.toNat := UInt8.toNat_xor a b
  rw [e2]
  clear e2
  go_simp
/-- 64 bytes, of which one bit is turned. -/
def flipL (l : List UInt8) (k : Nat) : List UInt8 := l.set (k / 8) ((l[k / 8]?).getD 0 ^^^ bitU (k % 8))
theorem flipL_len (l : List UInt8) (k : Nat) : (flipL l k).length = l.length := by unfold flipL; rw [List.length_set]
theorem bk_set (l : List UInt8) (j : Nat) (u : UInt8) : (bkA l).setIfInBounds j (.int .u8 (u.toNat : Int)) = bkA (l.set j u) := by
  unfold bkA
  rw [List.setIfInBounds_toArray, List.map_set]
theorem pw_set (f b : Int) (l : List UInt8) (j : Nat) (u : UInt8) : (Pw.cells ⟨f, b, l⟩).setIfInBounds (2 + j) (.int .u8 (u.toNat : Int)) = Pw.cells ⟨f, b, l.set j u⟩ := by
  unfold Pw.cells
  rw [← bk_set, Array.setIfInBounds_append_right (by simp)]
  simp
section
variable {P : Program} {l : List Oper} {Q : Exit → Act → World → Prop} {S : World → Prop} {fuel : Nat} {listed : Array Bool} {a0 : Act} {L : List (Nat × Bool × Value)} {w : World}
/-- Any operation that reads. -/
theorem h_o (k : Nat) {oi : Oper} {d n : Nat} {v : Value} (hn : a0.tmps.size = n) (hS : S w) (hr : ∀ W, S W → (∀ p, p ∈ L → p.1 < a0.tmps.size) → (execOp (fr a0 L).eval oi).run P W = .ok (.value v) W) (h : FH P l Q S fuel (listed.setIfInBounds k true) a0 ((d, true, v) :: L) w) (hi : l.toArray[k]? = some oi := by rfl) (ho : oi.dst = some d := by rfl) (hd : Nat.blt d n = true := by rfl) (hw : wtG l L oi.guard = some true := by rfl) (hs : Region.noSelect l.toArray = true := by kernel_rfl) (hf : Region.free .any l.toArray listed k = true := by kernel_rfl) (hr2 : (Region.ready .any l.toArray listed).contains k = true := by kernel_rfl) (hQ : ∀ c a w, Q (.panic c) (a.put oi.dst (cnd true v)) w → Q (.panic c) a w := by exact fun _ _ _ h => h) : FH P l Q S (fuel + 1) listed a0 L w :=
  fh_op k hn hS h ho hi hd hs hf hr2 hQ hw (fun hk _ w hw => hr w hw hk)
end
theorem l64 {l : List UInt8} (hl : l.length = 64) : l = (List.range 64).map fun i => (l[i]?).getD 0 := by
  refine List.ext_getElem? fun i => ?_
  by_cases h : i < 64
  · rw [List.getElem?_map, List.getElem?_range h, List.getElem?_eq_getElem (by omega), Option.map_some, List.getElem?_eq_getElem (by omega)]
    rfl
  · rw [List.getElem?_eq_none (by omega), List.getElem?_eq_none (by simp; omega)]
theorem bd_w (f b : Int) (l : List UInt8) (hl : l.length = 64) (W : World) : (Instr.build 65 #[(0, .int .i64 f), (1, .int .i64 b), (2, .agg (bkA l))]).run Tryd.prog W = .ok (.agg (Pw.cells ⟨f, b, l⟩)) W := by
  rw [l64 hl]
  generalize (fun i : Nat => (l[i]?).getD (0 : UInt8)) = u
  kernel_rfl
/-- As it was, blocks ahead. -/
def SameB (H W : World) : Prop := H.heap.size ≤ W.heap.size ∧ ∀ x, x < H.heap.size → W.heap[x]? = H.heap[x]?
theorem SameB.refl (H : World) : SameB H H := ⟨Nat.le_refl _, fun _ _ => rfl⟩
theorem SameB.cell {H W : World} (h : SameB H W) {a : Addr} {v : Value} (hc : H.cell? a = some v) : W.cell? a = some v := by
  have := World.block_lt_of_cell? H _ hc
  unfold World.cell? at *
  rw [h.2 _ this]
  exact hc
theorem SameB.blk {H W : World} (h : SameB H W) {b : Nat} {cs : Array Value} {t : TypeId} (hX : Blk H b cs t) : Blk W b cs t := (h.2 b hX.lt).trans hX
theorem SameB.dk {H W : World} (h : SameB H W) {B : Nat} {tg : Nat → Nat × Int} {k d : Nat} {D : Dk} {f : Int → Option Value} (hD : DkR B tg k H d D f) : DkR B tg k W d D f := hD.keep (fun _ _ => rfl) fun x hx _ => h.2 x hx
theorem look2v {B : Nat} {tg : Nat → Nat × Int} {k : Nat} {W : World} {d : Nat} {D : Dk} {f : Int → Option Value} (h : DkR B tg k W d D f) (a b : Int) : (Instr.lookup 55 (.map (some d)) (.int .i64 a) false).run Tryd.prog W = .ok ((f a).getD (.map none)) W ∧ (Instr.lookup 67 ((f a).getD (.map none)) (.int .i64 b) false).run Tryd.prog W = .ok (.agg (bkA (blkD D a b))) W := by
  obtain ⟨v, h1, h2⟩ := look2 h a b
  have h3 := run_lookI (P := Tryd.prog) mUnd iUnd (zM W) h.mp a
  rw [h3] at h1
  injection h1 with h1
  subst h1
  exact ⟨h3, h2⟩
/-- May a bit be spoilt? -/
def okS (f b bit : Int) : Bool := placeB f b && (decide (0 ≤ bit) && decide (bit < 512))
theorem okS_of (f b bit : Int) (p : Bool) (hp : p = placeB f b) : (bif (bif !p then true else decide (bit < 0)) then true else decide (512 ≤ bit)) = !okS f b bit := by
  subst hp
  unfold okS
  cases placeB f b <;> by_cases h1 : bit < 0 <;> by_cases h2 : 512 ≤ bit <;> simp [h1, h2] <;> omega
def spotX (M : Sl) (f b : Int) (k : Nat) : Pw := ⟨f, b, flipL (blkD M.kept f b) k⟩
def isFB (f b : Int) : Pw → Bool := fun x => x.f == f && x.b == b
def Sl.spoils (M : Sl) (f b : Int) (k : Nat) : Sl := bif M.pend.any (isFB f b) then M.doK (spotX M f b k) else (M.doK (spotX M f b k)).doS (spotX M f b k)
def spM (M : Sl) (f b bit : Int) : Sl := bif okS f b bit then M.spoils f b bit.toNat else M
theorem x_alW {d : Option Tmp} {ty : TypeId} {p : String} {af : Array Edge} {gd : Option (Nat × Bool)} {ρ : Operand → Value} (w : World) : (execOp ρ ⟨d, .alloc 65, ty, p, af, gd⟩).run Tryd.prog w = .ok (.value (.pointer (some ⟨w.heap.size, 0, none⟩))) (w.alloc (.cells (⟨0, 0, z64⟩ : Pw).cells 65)) := by
  unfold execOp
  dsimp only
  rw [Sem.run_bind, run_alW]
  rfl
theorem ld_u8 {W : World} {a : Addr} {c : Int} (h : W.cell? a = some (.int .u8 c)) : (Instr.loadAt 5 (.pointer (some a))).run Tryd.prog W = .ok (.int .u8 c) W := by
  go_simp
theorem st_u8 {W : World} {b j : Nat} {cs : Array Value} {T : TypeId} (hX : Blk W b cs T) (hj : j < cs.size) (u : UInt8) : (Instr.storeAt 5 (.pointer (some ⟨b, j, none⟩)) (.int .u8 (u.toNat : Int))).run Tryd.prog W = .ok () (W.setCell ⟨b, j, none⟩ (.int .u8 (u.toNat : Int))) := by
  obtain ⟨v, hv⟩ := blk_some hX hj
  have hf := hX.free j
  clear hX
  go_simp
theorem x_cb {P : Program} {w : World} {op : BinOp} {i : Nat} {t ty2 ty : TypeId} {d : Option Tmp} {p : String} {af : Array Edge} {gd : Option (Nat × Bool)} {ρ : Operand → Value} {c vi v : Value} (h : ρ (.tmp i) = vi) (hc : ρ (.const c) = c) (hr : ((do eqGuard op t (.const c) (.tmp i) c vi; binOp op t c vi) : Sem Value).run P w = .ok v w) : (execOp ρ ⟨d, .binOp op t (.const c) (.tmp i) ty2, ty, p, af, gd⟩).run P w = .ok (.value v) w := by
  unfold execOp
  dsimp only
  rw [h, hc, Sem.run_bind, hr]
  rfl
theorem x_bb {P : Program} {w : World} {op : BinOp} {i j : Nat} {t ty2 ty : TypeId} {d : Option Tmp} {p : String} {af : Array Edge} {gd : Option (Nat × Bool)} {ρ : Operand → Value} {vi vj v : Value} (h : ρ (.tmp i) = vi) (h2 : ρ (.tmp j) = vj) (hr : ((do eqGuard op t (.tmp i) (.tmp j) vi vj; binOp op t vi vj) : Sem Value).run P w = .ok v w) : (execOp ρ ⟨d, .binOp op t (.tmp i) (.tmp j) ty2, ty, p, af, gd⟩).run P w = .ok (.value v) w := by
  unfold execOp
  dsimp only
  rw [h, h2, Sem.run_bind, hr]
  rfl
theorem st_rowW {w : World} {b : Nat} {cs c : Array Value} (hX : Blk w b cs 65) (hs : cs.size = c.size) (h66 : c.size = 66) (h1 : c.all (·.oneCell') = true) : (Instr.storeAt 65 (.pointer (some ⟨b, 0, none⟩)) (.agg c)).run Tryd.prog w = .ok () (w.setRow b c) := by
  have hi : (Tryd.prog.info? 65).map (·.size) = some c.size := by rw [h66]; kernel_rfl
  simp only [Instr.storeAt, Instr.sureAddr, Sem.run_bind, Sem.run_pure, Result.andThen_ok]
  exact run_storeVar_row w b 65 65 cs c hX hi hs h1
theorem bel_undrew {a : Nat} {w w' : World} {b : Nat} (h : Below b w.drew w') (hab : a ≤ b) : Below a w w' := (show Below b w w' from ⟨h.os, h.tape, h.output, h.size, h.block⟩).mono hab
theorem ix_a (W : World) (g j : Nat) (h : j < 64) : (Instr.indexAt 63 (.pointer (some ⟨g, 2, none⟩)) (.int .i64 (j : Int))).run Tryd.prog W = .ok (.pointer (some ⟨g, 2 + j, none⟩)) W := by
  have hz : Tryd.prog.arrayLen 63 = 64 := by kernel_rfl
  have i1 : (0 : Int) ≤ (j : Int) := by omega
  have i2 : (j : Int) < 64 := by omega
  have e : (⟨g, 2, none⟩ : Addr).add j = ⟨g, 2 + j, none⟩ := by
    unfold Addr.add
    split
    · next h => rw [h]
    · rfl
  go_simp
theorem enters_Spoil : ∀ args w, (callFunc 18 args).run Tryd.prog w = .ok (.enter 18 args) w := enters_of Tryd.func18 (by kernel_rfl) rfl
theorem enters_Cont : ∀ args w, (callFunc 36 args).run Tryd.prog w = .ok (.enter 36 args) w := enters_of Tryd.func36 (by kernel_rfl) rfl

set_option maxRecDepth 100000 in
set_option maxHeartbeats 4000000 in
theorem spoil_any (B s : Nat) (M : Sl) (f b bit : Int) (W : World) (hR : SlR B W s M) :
    Calls Tryd.prog 18 #[.pointer (some ⟨s, 0, none⟩), .int .i64 f, .int .i64 b, .int .i64 bit] W fun e W' => e = .returned (.int .i64 (bif okS f b bit then 0 else 1)) ∧ SlR B W' s (spM M f b bit) ∧ StK B W W' := by
  obtain ⟨d1, d2, A, n, c, hX0⟩ := hR.slx
  clear hR
  go_enter Tryd.func18, Tryd.ntmps18
  go_upto_region 1 with fail
  have hc5 := blk_new W #[.int .i64 f] 3
  have hB1 := b0 W (.cells #[.int .i64 f] 3)
  have hX1 := hX0.below hB1
  have hK1 := hX0.stk hB1
  have hlt5 : W.heap.size < (W.alloc (.cells #[.int .i64 f] 3)).heap.size := by simp
  have e6 : (W.alloc (.cells #[.int .i64 f] 3)).heap.size = W.heap.size + 1 := by simp
  generalize W.alloc (.cells #[.int .i64 f] 3) = W1 at hc5 hX1 hK1 hlt5 e6 ⊢
  clear hB1
  have hc6 := blk_new W1 #[.int .i64 b] 3
  have hB2 := b0 W1 (.cells #[.int .i64 b] 3)
  have hX2 := Lib.hid (hX1.below hB2)
  have hK2 := Lib.hid (hK1.trans (hX1.stk hB2))
  have hc52 := hc5.keep hB2
  clear hK1 hX1 hc5 hB2
  generalize W1.alloc (.cells #[.int .i64 b] 3) = W2 at hc6 hX2 hK2 hc52 ⊢
  rw [e6] at hc6
  clear e6
  generalize hp5 : W.heap.size = p5 at hc52 hc6 ⊢
  generalize hp6 : p5 + 1 = p6 at hc6 ⊢
  have l5 := load_int (hc52.cell 0)
  have l6 := load_int (hc6.cell 0)
  clear hp5 hp6 hlt5
  refine wp_region_lit ?_
  refine fl_start ?_
  generalize ha : Act.mk _ _ = a0
  have hn : a0.tmps.size = 65 := by rw [← ha]; kernel_rfl
  have h3 : (fr a0 []).eval (.tmp 3) = .int .i64 bit := by rw [← ha]; kernel_rfl
  refine fl_know hn rfl h3 ?_
  clear h3
  have h5 : (fr a0 [(3, true, .int .i64 bit)]).eval (.tmp 5) = .pointer (some ⟨p5, 0, none⟩) := by rw [← ha]; kernel_rfl
  refine fl_know hn rfl h5 ?_
  clear h5
  have h6 : (fr a0 [(5, true, .pointer (some ⟨p5, 0, none⟩)), (3, true, .int .i64 bit)]).eval (.tmp 6) = .pointer (some ⟨p6, 0, none⟩) := by rw [← ha]; kernel_rfl
  refine fl_know hn rfl h6 ?_
  clear h6
  repeat first | refine g_mv hn ?_ | refine g_as hn ?_ | refine g_fd hn ?_ | refine g_ld hn ?_ | refine g_nc hn ?_ | refine g_nt hn ?_ | refine g_an hn ?_ | refine g_or hn ?_ | refine g_ln hn ?_ | refine g_ex hn ?_ | refine g_neq2 hn ?_ | refine g_neq hn ?_ | refine g_eql2 hn ?_ | refine g_eql hn ?_ | refine g_leq2 hn ?_ | refine g_leq hn ?_ | refine g_lss2 hn ?_ | refine g_lss hn ?_ | refine g_gtr2 hn ?_ | refine g_gtr hn ?_ | refine g_geq2 hn ?_ | refine g_geq hn ?_ | refine g_b0 hn ?_ | refine g_bn hn ?_ | refine g_bc hn ?_ | refine g_cv hn ?_ | refine g_ac hn ?_ | refine g_mc hn ?_
  refine g_c2x enters_isBlock hn (R := fun v w2 => v = .bool (placeB f b) ∧ w2 = W2) ((isBlock_any f b W2).mono fun _ _ ⟨he, hw⟩ => ⟨_, he, rfl, hw⟩) ?_
  rintro v w2 ⟨rfl, rfl⟩
  repeat first | refine g_mv hn ?_ | refine g_as hn ?_ | refine g_fd hn ?_ | refine g_ld hn ?_ | refine g_nc hn ?_ | refine g_nt hn ?_ | refine g_an hn ?_ | refine g_or hn ?_ | refine g_ln hn ?_ | refine g_ex hn ?_ | refine g_neq2 hn ?_ | refine g_neq hn ?_ | refine g_eql2 hn ?_ | refine g_eql hn ?_ | refine g_leq2 hn ?_ | refine g_leq hn ?_ | refine g_lss2 hn ?_ | refine g_lss hn ?_ | refine g_gtr2 hn ?_ | refine g_gtr hn ?_ | refine g_geq2 hn ?_ | refine g_geq hn ?_ | refine g_b0 hn ?_ | refine g_bn hn ?_ | refine g_bc hn ?_ | refine g_cv hn ?_ | refine g_ac hn ?_ | refine g_mc hn ?_
  refine fl_endb (c := !okS f b bit) (okS_of f b bit _ rfl) ?_
  clear hn 
  subst ha
  dsimp only [fr, cnd, Act.put, cond_true]
  simp only [List.setIfInBounds_toArray, List.set_cons_zero, List.set_cons_succ]
  clear l5 l6
  cases hok : okS f b bit with
  | false =>
    have R : Hid (Ending.returned (.int .i64 1) = Ending.returned (.int .i64 (bif okS f b bit then 0 else 1)) ∧ SlR B w2 s (spM M f b bit) ∧ StK B W w2) := by
      show _ ∧ _ ∧ _
      unfold spM
      rw [hok]
      exact ⟨rfl, hX2.out.slr, hK2.out⟩
    clear hok
    go_wp2_with fail
    go_ret
    exact R.out
  | true =>
  have hbit : 0 ≤ bit ∧ bit < 512 := by
    unfold okS at hok
    simp only [Bool.and_eq_true, decide_eq_true_eq] at hok
    exact hok.2
  obtain ⟨k, rfl⟩ : ∃ k : Nat, bit = (k : Int) := ⟨bit.toNat, by omega⟩
  have hk : k < 512 := by omega
  have hFin : Hid (∀ w9, SlR B w9 s (M.spoils f b k) ∧ StK B w2 w9 → Ending.returned (.int .i64 0) = Ending.returned (.int .i64 (bif okS f b (k : Int) then 0 else 1)) ∧ SlR B w9 s (spM M f b (k : Int)) ∧ StK B W w9) := by
    intro w9 h
    unfold spM
    rw [hok, Int.toNat_natCast]
    exact ⟨rfl, h.1, hK2.out.trans h.2⟩
  clear hok hK2 hbit
  obtain ⟨tg, f1, f2, hX, hsB, hD1, hrest⟩ := id hX2.out
  clear hrest
  have hl64 : (blkD M.kept f b).length = 64 := blkD_len hD1 f b
  have c1 : ∀ W, SameB w2 W → (Instr.loadAt 3 (.pointer (some ⟨p5, 0, none⟩))).run Tryd.prog W = .ok (.int .i64 f) W := fun W h => load_int ((h.blk hc52).cell 0)
  have c2 : ∀ W, SameB w2 W → (Instr.loadAt 3 (.pointer (some ⟨p6, 0, none⟩))).run Tryd.prog W = .ok (.int .i64 b) W := fun W h => load_int ((h.blk hc6).cell 0)
  have c3 : ∀ W, SameB w2 W → (Instr.fieldAt 58 (.pointer (some ⟨s, 0, none⟩)) 0).run Tryd.prog W = .ok (.pointer (some ⟨s, 0, none⟩)) W := fun W _ => sl_a0 W s
  have c4 : ∀ W, SameB w2 W → (Instr.loadAt 55 (.pointer (some ⟨s, 0, none⟩))).run Tryd.prog W = .ok (.map (some d1)) W := fun W h => sl_l0 (h.blk hX)
  have c5 : ∀ W, SameB w2 W → (Instr.lookup 55 (.map (some d1)) (.int .i64 f) false).run Tryd.prog W = .ok ((f1 f).getD (.map none)) W := fun W h => (look2v (h.dk hD1) f b).1
  have c6 : ∀ W, SameB w2 W → (Instr.lookup 67 ((f1 f).getD (.map none)) (.int .i64 b) false).run Tryd.prog W = .ok (.agg (bkA (blkD M.kept f b))) W := fun W h => (look2v (h.dk hD1) f b).2
  have c7 : ∀ W, SameB w2 W → (Instr.build 65 #[(0, .int .i64 f), (1, .int .i64 b), (2, .agg (bkA (blkD M.kept f b)))]).run Tryd.prog W = .ok (.agg (Pw.cells ⟨f, b, blkD M.kept f b⟩)) W := fun W _ => bd_w f b _ hl64 W
  generalize (f1 f).getD (.map none) = vm at c5 c6
  go_upto_region 3 with fail
  refine fh_start (S := (fun W => SameB w2 W)) (by kernel_rfl) (⟨Nat.le_refl _, fun _ _ => rfl⟩) (fun hS => ?_)
  generalize ha : Act.mk _ _ = a0
  have hn : a0.tmps.size = 65 := by rw [← ha]; kernel_rfl
  have h0 : (fr a0 []).eval (.tmp 0) = .pointer (some ⟨s, 0, none⟩) := by rw [← ha]; kernel_rfl
  refine fh_know hn rfl h0 ?_
  clear h0
  have h5 : (fr a0 [(0, true, .pointer (some ⟨s, 0, none⟩))]).eval (.tmp 5) = .pointer (some ⟨p5, 0, none⟩) := by rw [← ha]; kernel_rfl
  refine fh_know hn rfl h5 ?_
  clear h5
  have h6 : (fr a0 [(5, true, .pointer (some ⟨p5, 0, none⟩)), (0, true, .pointer (some ⟨s, 0, none⟩))]).eval (.tmp 6) = .pointer (some ⟨p6, 0, none⟩) := by rw [← ha]; kernel_rfl
  refine fh_know hn rfl h6 ?_
  clear h6
  first | refine h_mv 0 hn hS ?_ | refine h_as 0 hn hS ?_ | refine h_fd 0 hn hS ?_ | refine h_ld 0 hn hS ?_ | refine h_nc 0 hn hS ?_ | refine h_cv 0 hn hS ?_ | refine h_ex 0 hn hS ?_ | refine h_nt 0 hn hS ?_ | refine h_ix 0 hn hS ?_ | refine h_lk 0 hn hS ?_
  first | refine h_mv 1 hn hS ?_ | refine h_as 1 hn hS ?_ | refine h_fd 1 hn hS ?_ | refine h_ld 1 hn hS ?_ | refine h_nc 1 hn hS ?_ | refine h_cv 1 hn hS ?_ | refine h_ex 1 hn hS ?_ | refine h_nt 1 hn hS ?_ | refine h_ix 1 hn hS ?_ | refine h_lk 1 hn hS ?_
  first | refine h_mv 2 hn hS ?_ | refine h_as 2 hn hS ?_ | refine h_fd 2 hn hS ?_ | refine h_ld 2 hn hS ?_ | refine h_nc 2 hn hS ?_ | refine h_cv 2 hn hS ?_ | refine h_ex 2 hn hS ?_ | refine h_nt 2 hn hS ?_ | refine h_ix 2 hn hS ?_ | refine h_lk 2 hn hS ?_
  first | refine h_mv 3 hn hS ?_ | refine h_as 3 hn hS ?_ | refine h_fd 3 hn hS ?_ | refine h_ld 3 hn hS ?_ | refine h_nc 3 hn hS ?_ | refine h_cv 3 hn hS ?_ | refine h_ex 3 hn hS ?_ | refine h_nt 3 hn hS ?_ | refine h_ix 3 hn hS ?_ | refine h_lk 3 hn hS ?_
  first | refine h_mv 4 hn hS ?_ | refine h_as 4 hn hS ?_ | refine h_fd 4 hn hS ?_ | refine h_ld 4 hn hS ?_ | refine h_nc 4 hn hS ?_ | refine h_cv 4 hn hS ?_ | refine h_ex 4 hn hS ?_ | refine h_nt 4 hn hS ?_ | refine h_ix 4 hn hS ?_ | refine h_lk 4 hn hS ?_
  first | refine h_mv 5 hn hS ?_ | refine h_as 5 hn hS ?_ | refine h_fd 5 hn hS ?_ | refine h_ld 5 hn hS ?_ | refine h_nc 5 hn hS ?_ | refine h_cv 5 hn hS ?_ | refine h_ex 5 hn hS ?_ | refine h_nt 5 hn hS ?_ | refine h_ix 5 hn hS ?_ | refine h_lk 5 hn hS ?_
  first | refine h_mv 6 hn hS ?_ | refine h_as 6 hn hS ?_ | refine h_fd 6 hn hS ?_ | refine h_ld 6 hn hS ?_ | refine h_nc 6 hn hS ?_ | refine h_cv 6 hn hS ?_ | refine h_ex 6 hn hS ?_ | refine h_nt 6 hn hS ?_ | refine h_ix 6 hn hS ?_ | refine h_lk 6 hn hS ?_
  first | refine h_mv 7 hn hS ?_ | refine h_as 7 hn hS ?_ | refine h_fd 7 hn hS ?_ | refine h_ld 7 hn hS ?_ | refine h_nc 7 hn hS ?_ | refine h_cv 7 hn hS ?_ | refine h_ex 7 hn hS ?_ | refine h_nt 7 hn hS ?_ | refine h_ix 7 hn hS ?_ | refine h_lk 7 hn hS ?_
  first | refine h_mv 8 hn hS ?_ | refine h_as 8 hn hS ?_ | refine h_fd 8 hn hS ?_ | refine h_ld 8 hn hS ?_ | refine h_nc 8 hn hS ?_ | refine h_cv 8 hn hS ?_ | refine h_ex 8 hn hS ?_ | refine h_nt 8 hn hS ?_ | refine h_ix 8 hn hS ?_ | refine h_lk 8 hn hS ?_
  first | refine h_mv 9 hn hS ?_ | refine h_as 9 hn hS ?_ | refine h_fd 9 hn hS ?_ | refine h_ld 9 hn hS ?_ | refine h_nc 9 hn hS ?_ | refine h_cv 9 hn hS ?_ | refine h_ex 9 hn hS ?_ | refine h_nt 9 hn hS ?_ | refine h_ix 9 hn hS ?_ | refine h_lk 9 hn hS ?_
  refine h_bd 10 hn hS ?_ (qs := #[(0, .int .i64 f), (1, .int .i64 b), (2, .agg (bkA (blkD M.kept f b)))]) (v := .agg (Pw.cells ⟨f, b, blkD M.kept f b⟩)) (hp := fun hk _ => by simp only [List.map_toArray, List.map_cons, List.map_nil, lk_at hk (i := 23) rfl (fun _ => rfl) rfl, lk_at hk (i := 24) rfl (fun _ => rfl) rfl, lk_at hk (i := 32) rfl (fun _ => rfl) rfl])
  have hXd := hX2.out.drew
  have hY := blk_new (World.drew w2) (⟨0, 0, z64⟩ : Pw).cells 65
  have hB := b0 (World.drew w2) (.cells (⟨0, 0, z64⟩ : Pw).cells 65)
  refine fh_valx 11 hn (d := 9) (v := .pointer (some ⟨(World.drew w2).heap.size, 0, none⟩)) (w2 := (World.drew w2).alloc (.cells (⟨0, 0, z64⟩ : Pw).cells 65)) rfl (fun _ => x_alW _) ⟨hB.size, fun x hx => hB.block x hx⟩ ?_ rfl rfl (by kernel_rfl) rfl
  have hSg : SameB w2 ((World.drew w2).alloc (.cells (⟨0, 0, z64⟩ : Pw).cells 65)) := ⟨hB.size, fun x hx => hB.block x hx⟩
  have hgl : w2.heap.size = (World.drew w2).heap.size := rfl
  generalize (World.drew w2).alloc (.cells (⟨0, 0, z64⟩ : Pw).cells 65) = w4 at hY hB hSg ⊢
  generalize hgg : (World.drew w2).heap.size = g at hY hB hgl ⊢
  have hor := only_row w4 g (Pw.cells ⟨f, b, blkD M.kept f b⟩)
  have hS5 : SameB w2 (w4.setRow g (Pw.cells ⟨f, b, blkD M.kept f b⟩)) := ⟨by rw [hor.size]; exact hSg.1, fun x hx => (hor.block x (by omega)).trans (hSg.2 x hx)⟩
  refine fh_skip 12 rfl (fun hk => run_st (lk_at hk (i := 9) rfl (fun _ => rfl) rfl) (lk_at hk (i := 33) rfl (fun _ => rfl) rfl) (st_rowW hY ((pw_size (x := ⟨0, 0, z64⟩) rfl).trans (pw_size (x := ⟨f, b, blkD M.kept f b⟩) hl64).symm) (pw_size hl64) (pw_one _))) hS5 ?_ rfl (by kernel_rfl) rfl
  have hY5 := hY.row (Pw.cells ⟨f, b, blkD M.kept f b⟩)
  have hB5 : Below w2.heap.size w2 (w4.setRow g (Pw.cells ⟨f, b, blkD M.kept f b⟩)) := bel_undrew (hB.trans (hor.below (Nat.le_refl g))) (by omega)
  generalize w4.setRow g (Pw.cells ⟨f, b, blkD M.kept f b⟩) = w5 at hY5 hB5 hS5 ⊢
  refine fh_end (by kernel_rfl) ?_
  clear hn c1 c2 c3 c4 c5 c6 c7
  subst ha
  dsimp only [fr, cnd, Act.put, cond_true]
  simp only [List.setIfInBounds_toArray, List.set_cons_zero, List.set_cons_succ]
  clear hS hS5 hSg hor hY hB hXd hgg hsB hD1
  obtain ⟨u, hu⟩ : ∃ u, (blkD M.kept f b)[k / 8]? = some u := ⟨_, List.getElem?_eq_getElem (by omega)⟩
  have hcu : w5.cell? ⟨g, 2 + k / 8, none⟩ = some (.int .u8 (u.toNat : Int)) := (hY5.cell (2 + k / 8)).trans ((pw_at _ _).trans (by
    unfold bkA
    rw [List.getElem?_toArray, List.getElem?_map, hu]
    rfl))
  have c0 : ∀ W, True → ((do eqGuard .quo 3 (.tmp 34) (.const (.int .i64 8)) (.int .i64 (k : Int)) (.int .i64 8); binOp .quo 3 (.int .i64 (k : Int)) (.int .i64 8)) : Sem Value).run Tryd.prog W = .ok (.int .i64 ((k / 8 : Nat) : Int)) W := fun W _ => quo8 W k hk
  have c1 : ∀ W, True → ((do eqGuard .rem 3 (.tmp 39) (.const (.int .i64 8)) (.int .i64 (k : Int)) (.int .i64 8); binOp .rem 3 (.int .i64 (k : Int)) (.int .i64 8)) : Sem Value).run Tryd.prog W = .ok (.int .i64 ((k % 8 : Nat) : Int)) W := fun W _ => rem8 W k hk
  have c2 : ∀ W, True → (Instr.fieldAt 65 (.pointer (some ⟨g, 0, none⟩)) 2).run Tryd.prog W = .ok (.pointer (some ⟨g, 2, none⟩)) W := fun W _ => pw_f2 W g
  have c3 : ∀ W, True → (Instr.indexAt 63 (.pointer (some ⟨g, 2, none⟩)) (.int .i64 ((k / 8 : Nat) : Int))).run Tryd.prog W = .ok (.pointer (some ⟨g, 2 + k / 8, none⟩)) W := fun W _ => ix_a W g (k / 8) (by omega)
  have hY5d : Blk (World.drew w5) g (Pw.cells ⟨f, b, blkD M.kept f b⟩) 65 := hY5
  go_upto_region 4 with fail
  refine fh_start (S := (fun _ => True)) (by kernel_rfl) (trivial) (fun hS => ?_)
  generalize ha : Act.mk _ _ = a0
  have hn : a0.tmps.size = 65 := by rw [← ha]; kernel_rfl
  have h3 : (fr a0 []).eval (.tmp 3) = .int .i64 (k : Int) := by rw [← ha]; kernel_rfl
  refine fh_know hn rfl h3 ?_
  clear h3
  have h9 : (fr a0 [(3, true, .int .i64 (k : Int))]).eval (.tmp 9) = .pointer (some ⟨g, 0, none⟩) := by rw [← ha]; kernel_rfl
  refine fh_know hn rfl h9 ?_
  clear h9
  refine h_mv 0 hn hS ?_
  refine h_bc 1 hn hS ?_
  refine h_fd 2 hn hS ?_
  refine h_ix 3 hn hS ?_
  refine h_mv 5 hn hS ?_
  refine h_bc 6 hn hS ?_
  refine h_o 7 hn hS (fun W _ hk => x_cb (lk_at hk (i := 40) rfl (fun _ => rfl) rfl) rfl (shl8 W (k % 8) (by omega))) ?_
  refine h_fd 9 hn hS ?_
  refine fh_valx 4 hn (d := 38) (v := .int .u8 (u.toNat : Int)) rfl (fun hk => x_ld (lk_at hk (i := 37) rfl (fun _ => rfl) rfl) (ld_u8 hcu)) trivial ?_ rfl rfl (by kernel_rfl) rfl
  refine h_o 8 hn hS (fun W _ hk => x_bb (lk_at hk (i := 38) rfl (fun _ => rfl) rfl) (lk_at hk (i := 41) rfl (fun _ => rfl) rfl) (xor8 W u (bitU (k % 8)))) ?_
  refine h_ix 10 hn hS ?_
  refine fh_skip 11 rfl (fun hk => run_st (lk_at hk (i := 44) rfl (fun _ => rfl) rfl) (lk_at hk (i := 42) rfl (fun _ => rfl) rfl) (st_u8 (W := World.drew w5) (j := 2 + k / 8) hY5d (by rw [pw_size hl64]; omega) (u ^^^ bitU (k % 8)))) trivial ?_ rfl (by kernel_rfl) rfl
  have hcell := only_cell (World.drew w5) g (2 + k / 8) (.int .u8 ((u ^^^ bitU (k % 8)).toNat : Int))
  have hY6 := hY5d.set (2 + k / 8) (.int .u8 ((u ^^^ bitU (k % 8)).toNat : Int))
  have hx : (Pw.cells ⟨f, b, blkD M.kept f b⟩).setIfInBounds (2 + k / 8) (.int .u8 ((u ^^^ bitU (k % 8)).toNat : Int)) = (spotX M f b k).cells := by
    rw [pw_set]
    unfold spotX flipL
    rw [hu, Option.getD_some]
  rw [hx] at hY6
  have hx6 : (spotX M f b k).l.length = 64 := (flipL_len _ _).trans hl64
  have hB6 : Below w2.heap.size w2 ((World.drew w5).setCell ⟨g, 2 + k / 8, none⟩ (.int .u8 ((u ^^^ bitU (k % 8)).toNat : Int))) := hB5.trans (bel_undrew (hcell.below (Nat.le_refl g)) (by rw [← hgl]; exact Nat.le_refl _))
  refine fh_end (by kernel_rfl) ?_
  clear hn c0 c1 c2 c3
  subst ha
  dsimp only [fr, cnd, Act.put, cond_true]
  simp only [List.setIfInBounds_toArray, List.set_cons_zero, List.set_cons_succ]
  generalize (World.drew w5).setCell ⟨g, 2 + k / 8, none⟩ (.int .u8 ((u ^^^ bitU (k % 8)).toNat : Int)) = w6 at hY6 hB6 ⊢
  clear hcell hx hcu hu hY5 hY5d hB5 hgl
  generalize hxx : spotX M f b k = x at hY6 hx6
  have hX6 := hX2.out.below hB6
  have hK6 := hX2.out.stk hB6
  have hp5 := hc52.keep hB6
  have hp6 := hc6.keep hB6
  clear hX hX2 hB6 hc52 hc6
  have q1 : ∀ W, (Blk W s (slI d1 d2 A n c M.armed M.budget M.dead) 58 ∧ Blk W g x.cells 65) → (Instr.fieldAt 58 (.pointer (some ⟨s, 0, none⟩)) 0).run Tryd.prog W = .ok (.pointer (some ⟨s, 0, none⟩)) W := fun W _ => sl_a0 W s
  have q3 : ∀ W, (Blk W s (slI d1 d2 A n c M.armed M.budget M.dead) 58 ∧ Blk W g x.cells 65) → (Instr.loadAt 55 (.pointer (some ⟨s, 0, none⟩))).run Tryd.prog W = .ok (.map (some d1)) W := fun W h => sl_l0 h.1
  have q4 : ∀ W, (Blk W s (slI d1 d2 A n c M.armed M.budget M.dead) 58 ∧ Blk W g x.cells 65) → (Instr.loadAt 65 (.pointer (some ⟨g, 0, none⟩))).run Tryd.prog W = .ok (.agg x.cells) W := fun W h => pw_la h.2 hx6
  go_upto_region 5 with fail
  refine fh_start (S := (fun W => Blk W s (slI d1 d2 A n c M.armed M.budget M.dead) 58 ∧ Blk W g x.cells 65)) (by kernel_rfl) (⟨hX6.blk, hY6⟩) (fun hS => ?_)
  generalize ha : Act.mk _ _ = a0
  have hn : a0.tmps.size = 65 := by rw [← ha]; kernel_rfl
  have h0 : (fr a0 []).eval (.tmp 0) = .pointer (some ⟨s, 0, none⟩) := by rw [← ha]; kernel_rfl
  refine fh_know hn rfl h0 ?_
  clear h0
  have h9 : (fr a0 [(0, true, .pointer (some ⟨s, 0, none⟩))]).eval (.tmp 9) = .pointer (some ⟨g, 0, none⟩) := by rw [← ha]; kernel_rfl
  refine fh_know hn rfl h9 ?_
  clear h9
  first | refine h_mv 0 hn hS ?_ | refine h_as 0 hn hS ?_ | refine h_fd 0 hn hS ?_ | refine h_ld 0 hn hS ?_ | refine h_nc 0 hn hS ?_ | refine h_cv 0 hn hS ?_ | refine h_ex 0 hn hS ?_ | refine h_nt 0 hn hS ?_ | refine h_ix 0 hn hS ?_ | refine h_lk 0 hn hS ?_
  first | refine h_mv 1 hn hS ?_ | refine h_as 1 hn hS ?_ | refine h_fd 1 hn hS ?_ | refine h_ld 1 hn hS ?_ | refine h_nc 1 hn hS ?_ | refine h_cv 1 hn hS ?_ | refine h_ex 1 hn hS ?_ | refine h_nt 1 hn hS ?_ | refine h_ix 1 hn hS ?_ | refine h_lk 1 hn hS ?_
  first | refine h_mv 2 hn hS ?_ | refine h_as 2 hn hS ?_ | refine h_fd 2 hn hS ?_ | refine h_ld 2 hn hS ?_ | refine h_nc 2 hn hS ?_ | refine h_cv 2 hn hS ?_ | refine h_ex 2 hn hS ?_ | refine h_nt 2 hn hS ?_ | refine h_ix 2 hn hS ?_ | refine h_lk 2 hn hS ?_
  first | refine h_mv 3 hn hS ?_ | refine h_as 3 hn hS ?_ | refine h_fd 3 hn hS ?_ | refine h_ld 3 hn hS ?_ | refine h_nc 3 hn hS ?_ | refine h_cv 3 hn hS ?_ | refine h_ex 3 hn hS ?_ | refine h_nt 3 hn hS ?_ | refine h_ix 3 hn hS ?_ | refine h_lk 3 hn hS ?_
  first | refine h_mv 4 hn hS ?_ | refine h_as 4 hn hS ?_ | refine h_fd 4 hn hS ?_ | refine h_ld 4 hn hS ?_ | refine h_nc 4 hn hS ?_ | refine h_cv 4 hn hS ?_ | refine h_ex 4 hn hS ?_ | refine h_nt 4 hn hS ?_ | refine h_ix 4 hn hS ?_ | refine h_lk 4 hn hS ?_
  refine h_c2 5 enters_do hn (doK_any B s M d1 d2 A n c x (World.drew w6) hX6.drew hx6) ?_
  rintro v w7 ⟨rfl, hXw7, hKw7, hbw7⟩
  refine ⟨⟨hXw7.blk, hbw7 _ _ _ hY6⟩, ?_⟩
  refine fh_end (by kernel_rfl) ?_
  clear hn q1 q3 q4
  subst ha
  dsimp only [fr, cnd, Act.put, cond_true]
  simp only [List.setIfInBounds_toArray, List.set_cons_zero, List.set_cons_succ]
  have hK7 := hK6.trans hKw7.undrew
  have hp57 := hbw7 _ _ _ hp5
  have hp67 := hbw7 _ _ _ hp6
  have hY7 := hbw7 _ _ _ hY6
  clear hbw7 hKw7 hK6 hp5 hp6 hY6 hX6 hS
  have a2 := sl_a2 w7 s
  have l2 := sl_l2 hXw7.blk
  have hqk : CapK [(p5, f), (p6, b)] w7 := fun p hp => by
    rcases List.mem_cons.1 hp with e | e
    · rw [e]
      exact hp57.cell 0
    · have e : p = (p6, b) := by simpa using e
      rw [e]
      exact hp67.cell 0
  have hCo := contP_any 35 #[.pointer (some ⟨p5, 0, none⟩), .pointer (some ⟨p6, 0, none⟩)] enters_sp1 (isFB f b) [(p5, f), (p6, b)] A n c M.pend w7 hXw7.len hXw7.own.rdp hXw7.p6 (Nat.le_trans hXw7.own.cap.1 hXw7.own.cap.2) (sp1_any p5 p6 f b) hqk
  clear hqk hp57 hp67
  go_upto_region 7 with fail
  refine wp_region_lit ?_
  refine fl_start ?_
  generalize ha : Act.mk _ _ = a0
  have hn : a0.tmps.size = 65 := by rw [← ha]; kernel_rfl
  have h0 : (fr a0 []).eval (.tmp 0) = .pointer (some ⟨s, 0, none⟩) := by rw [← ha]; kernel_rfl
  refine fl_know hn rfl h0 ?_
  clear h0
  have h10 : (fr a0 [(0, true, .pointer (some ⟨s, 0, none⟩))]).eval (.tmp 10) = .func (.func 35) #[] #[.pointer (some ⟨p5, 0, none⟩), .pointer (some ⟨p6, 0, none⟩)] := by rw [← ha]; kernel_rfl
  refine fl_know hn rfl h10 ?_
  clear h10
  repeat first | refine g_mv hn ?_ | refine g_as hn ?_ | refine g_fd hn ?_ | refine g_ld hn ?_ | refine g_nc hn ?_ | refine g_nt hn ?_ | refine g_an hn ?_ | refine g_or hn ?_ | refine g_ln hn ?_ | refine g_ex hn ?_ | refine g_neq2 hn ?_ | refine g_neq hn ?_ | refine g_eql2 hn ?_ | refine g_eql hn ?_ | refine g_leq2 hn ?_ | refine g_leq hn ?_ | refine g_lss2 hn ?_ | refine g_lss hn ?_ | refine g_gtr2 hn ?_ | refine g_gtr hn ?_ | refine g_geq2 hn ?_ | refine g_geq hn ?_ | refine g_b0 hn ?_ | refine g_bn hn ?_ | refine g_bc hn ?_ | refine g_cv hn ?_ | refine g_ac hn ?_ | refine g_mc hn ?_
  refine g_c2x enters_Cont hn (R := fun v w2 => v = .bool (M.pend.any (isFB f b)) ∧ Below w7.heap.size w7 w2) (hCo.mono fun _ _ ⟨he, hb⟩ => ⟨_, he, rfl, hb⟩) ?_
  rintro v w9 ⟨rfl, hb9⟩
  repeat first | refine g_mv hn ?_ | refine g_as hn ?_ | refine g_fd hn ?_ | refine g_ld hn ?_ | refine g_nc hn ?_ | refine g_nt hn ?_ | refine g_an hn ?_ | refine g_or hn ?_ | refine g_ln hn ?_ | refine g_ex hn ?_ | refine g_neq2 hn ?_ | refine g_neq hn ?_ | refine g_eql2 hn ?_ | refine g_eql hn ?_ | refine g_leq2 hn ?_ | refine g_leq hn ?_ | refine g_lss2 hn ?_ | refine g_lss hn ?_ | refine g_gtr2 hn ?_ | refine g_gtr hn ?_ | refine g_geq2 hn ?_ | refine g_geq hn ?_ | refine g_b0 hn ?_ | refine g_bn hn ?_ | refine g_bc hn ?_ | refine g_cv hn ?_ | refine g_ac hn ?_ | refine g_mc hn ?_
  refine fl_end ?_
  clear hn
  subst ha
  dsimp only [fr, cnd, Act.put, cond_true]
  simp only [List.setIfInBounds_toArray, List.set_cons_zero, List.set_cons_succ]
  have hX9 := hXw7.below hb9
  have hK9 := hK7.trans (hXw7.stk hb9)
  have hY9 := hY7.keep hb9
  clear hCo a2 l2 hXw7 hK7 hY7 hb9
  cases hany : M.pend.any (isFB f b) with
  | true =>
    have R := Lib.hid (hFin.out w9 ⟨by unfold Sl.spoils; rw [hany, hxx]; exact hX9.slr, hK9⟩)
    clear hany hX9 hK9 hY9
    go_wp2_with fail
    go_ret
    exact R.out
  | false =>
    have q1 : ∀ W, (Blk W s (slI d1 d2 A n c M.armed M.budget M.dead) 58 ∧ Blk W g x.cells 65) → (Instr.fieldAt 58 (.pointer (some ⟨s, 0, none⟩)) 1).run Tryd.prog W = .ok (.pointer (some ⟨s, 1, none⟩)) W := fun W _ => sl_a1 W s
    have q3 : ∀ W, (Blk W s (slI d1 d2 A n c M.armed M.budget M.dead) 58 ∧ Blk W g x.cells 65) → (Instr.loadAt 55 (.pointer (some ⟨s, 1, none⟩))).run Tryd.prog W = .ok (.map (some d2)) W := fun W h => sl_l1 h.1
    have q4 : ∀ W, (Blk W s (slI d1 d2 A n c M.armed M.budget M.dead) 58 ∧ Blk W g x.cells 65) → (Instr.loadAt 65 (.pointer (some ⟨g, 0, none⟩))).run Tryd.prog W = .ok (.agg x.cells) W := fun W h => pw_la h.2 hx6
    go_upto_region 8 with fail
    refine fh_start (S := (fun W => Blk W s (slI d1 d2 A n c M.armed M.budget M.dead) 58 ∧ Blk W g x.cells 65)) (by kernel_rfl) (⟨hX9.blk, hY9⟩) (fun hS => ?_)
    generalize ha : Act.mk _ _ = a0
    have hn : a0.tmps.size = 65 := by rw [← ha]; kernel_rfl
    have h0 : (fr a0 []).eval (.tmp 0) = .pointer (some ⟨s, 0, none⟩) := by rw [← ha]; kernel_rfl
    refine fh_know hn rfl h0 ?_
    clear h0
    have h9 : (fr a0 [(0, true, .pointer (some ⟨s, 0, none⟩))]).eval (.tmp 9) = .pointer (some ⟨g, 0, none⟩) := by rw [← ha]; kernel_rfl
    refine fh_know hn rfl h9 ?_
    clear h9
    first | refine h_mv 0 hn hS ?_ | refine h_as 0 hn hS ?_ | refine h_fd 0 hn hS ?_ | refine h_ld 0 hn hS ?_ | refine h_nc 0 hn hS ?_ | refine h_cv 0 hn hS ?_ | refine h_ex 0 hn hS ?_ | refine h_nt 0 hn hS ?_ | refine h_ix 0 hn hS ?_ | refine h_lk 0 hn hS ?_
    first | refine h_mv 1 hn hS ?_ | refine h_as 1 hn hS ?_ | refine h_fd 1 hn hS ?_ | refine h_ld 1 hn hS ?_ | refine h_nc 1 hn hS ?_ | refine h_cv 1 hn hS ?_ | refine h_ex 1 hn hS ?_ | refine h_nt 1 hn hS ?_ | refine h_ix 1 hn hS ?_ | refine h_lk 1 hn hS ?_
    first | refine h_mv 2 hn hS ?_ | refine h_as 2 hn hS ?_ | refine h_fd 2 hn hS ?_ | refine h_ld 2 hn hS ?_ | refine h_nc 2 hn hS ?_ | refine h_cv 2 hn hS ?_ | refine h_ex 2 hn hS ?_ | refine h_nt 2 hn hS ?_ | refine h_ix 2 hn hS ?_ | refine h_lk 2 hn hS ?_
    first | refine h_mv 3 hn hS ?_ | refine h_as 3 hn hS ?_ | refine h_fd 3 hn hS ?_ | refine h_ld 3 hn hS ?_ | refine h_nc 3 hn hS ?_ | refine h_cv 3 hn hS ?_ | refine h_ex 3 hn hS ?_ | refine h_nt 3 hn hS ?_ | refine h_ix 3 hn hS ?_ | refine h_lk 3 hn hS ?_
    first | refine h_mv 4 hn hS ?_ | refine h_as 4 hn hS ?_ | refine h_fd 4 hn hS ?_ | refine h_ld 4 hn hS ?_ | refine h_nc 4 hn hS ?_ | refine h_cv 4 hn hS ?_ | refine h_ex 4 hn hS ?_ | refine h_nt 4 hn hS ?_ | refine h_ix 4 hn hS ?_ | refine h_lk 4 hn hS ?_
    refine h_c2 5 enters_do hn (doS_any B s (M.doK x) d1 d2 A n c x (World.drew w9) hX9.drew hx6) ?_
    rintro v w10 ⟨rfl, hXw10, hKw10, hbw10⟩
    refine ⟨⟨hXw10.blk, hbw10 _ _ _ hY9⟩, ?_⟩
    refine fh_end (by kernel_rfl) ?_
    clear hn q1 q3 q4
    subst ha
    dsimp only [fr, cnd, Act.put, cond_true]
    simp only [List.setIfInBounds_toArray, List.set_cons_zero, List.set_cons_succ]
    have R := Lib.hid (hFin.out w10 ⟨by unfold Sl.spoils; rw [hany, hxx]; exact hXw10.slr, hK9.trans hKw10.undrew⟩)
    clear hany hX9 hK9 hY9 hXw10 hKw10 hbw10 hS
    go_wp2_with fail
    go_ret
    exact R.out
end Go.Proofs.YtfpfalgbkbmkeaaDoor
