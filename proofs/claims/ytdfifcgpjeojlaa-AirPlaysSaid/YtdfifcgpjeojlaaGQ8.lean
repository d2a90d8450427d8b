/-
  WHAT IS PROVED: the law's same and parcel. Conditions: those typed in each theorem. · what holds, call by call, of the program's air and the document's, side by side in memory. Conditions: those typed in each theorem. · words for the law AirPlays: its acts' parcels, bytes of the law's own, what Parcels answered. Conditions: those typed in each theorem. · an argument that is a slice of chapter 22's acts, their bytes read, too: opened (own work, over any program that bears the types named). · a block of a function's code, by its number. Conditions: those typed in each theorem.
-/
import Derived.Test.YtdfifcgpjeojlaaArT
import Derived.Test.YtdfifcgpjeojlaaGQ5
import Derived.Test.YtdfifcgpjeojlaaGQ6
namespace Go.Proofs.Ytdfifcgpjeojlaa
open Go.RowKit

theorem strEqA (W : World) (i j : Nat) (x : ByteArray) : ((do eqGuard .eql 9 (.tmp i) (.tmp j) (.string x) (.string x); binOp .eql 9 (.string x) (.string x)) : Sem Value).run Try.prog W = .ok (.bool true) W := by
  go_simp
theorem bdRf (W : World) (x : Fl) : (Instr.build 45 #[(0, .int .i64 x.f), (1, .int .i64 x.t), (2, .slice x.A x.n x.c)]).run Try.prog W = .ok (.agg (⟨x.f, x.t, x.A, x.n, x.c, false, x.b⟩ : Fl).cells) W := by
  obtain ⟨f, t, A, n, c, u, b⟩ := x
  first
    | kernel_rfl
    | go_simp
set_option maxRecDepth 100000 in
set_option maxHeartbeats 4000000 in
theorem parcel_any (x : Fl) (w : World) : Calls Try.prog 14 #[.agg x.parcel] w fun e w' => e = .returned (.agg (⟨x.f, x.t, x.A, x.n, x.c, false, x.b⟩ : Fl).cells) ∧ Below w.heap.size w w' := by
  have hX0 := blk_new w x.parcel 29
  replace hX0 := hX0.alloc (.cells zFl 45)
  have hz1 : (w.alloc (.cells x.parcel 29)).heap.size = w.heap.size + 1 := by simp
  have hX1 := blk_new (w.alloc (.cells x.parcel 29)) zFl 45
  rw [hz1] at hX1
  have hB := ba (b0 w (.cells x.parcel 29)) (.cells zFl 45)
  have hzz : ((w.alloc (.cells x.parcel 29)).alloc (.cells zFl 45)).heap.size = w.heap.size + 2 := by simp
  go_enter Try.func14, Try.ntmps14
  go_upto_region 1 with fail
  generalize ((w.alloc (.cells x.parcel 29)).alloc (.cells zFl 45)) = W0 at hX0 hX1 hB hzz ⊢
  (try simp only [hz1])
  clear hz1
  generalize hb : w.heap.size = b at hX0 hX1 hB hzz ⊢
  have f0 := pf0 W0 b
  have f1 := pf1 W0 b
  have f2 := pp2 W0 b
  have l0 := ld_in (hX0.cell 0)
  have l1 := ld_in (hX0.cell 1)
  have l2 := ld_sl (hX0.cell 2)
  have bd := bdRf W0 x
  refine wp_region_lit ?_
  refine fl_start ?_
  generalize ha : Act.mk _ _ = a0
  have hn : a0.tmps.size = 10 := by rw [← ha]; kernel_rfl
  have h1 : (fr a0 []).eval (.tmp 1) = .pointer (some ⟨b, 0, none⟩) := by rw [← ha]; kernel_rfl
  refine fl_know hn rfl h1 ?_
  clear h1
  have h2 : (fr a0 [(1, true, .pointer (some ⟨b, 0, none⟩))]).eval (.tmp 2) = .pointer (some ⟨b + 1, 0, none⟩) := by rw [← ha]; kernel_rfl
  refine fl_know hn rfl h2 ?_
  clear h2
  refine g_fd hn ?_
  refine g_ld hn ?_
  refine g_fd hn ?_
  refine g_ld hn ?_
  refine g_fd hn ?_
  refine g_ld hn ?_
  refine g_bd hn ?_ bd (hp := fun hk hg => by
    have e1 := lk_at hk (i := 4) rfl (fun _ => rfl) hg
    have e2 := lk_at hk (i := 6) rfl (fun _ => rfl) hg
    have e3 := lk_at hk (i := 8) rfl (fun _ => rfl) hg
    simp only [List.map_toArray, List.map_cons, List.map_nil]
    rw [e1, e2, e3])
  refine g_str hX1 ?_ (h1 := fl_oneC _)
  intro w2 ho2 hX2
  refine fl_end ?_
  clear hn f0 f1 f2 l0 l1 l2 bd
  subst ha
  dsimp only [fr, cnd, Act.put, cond_true]
  simp only [List.setIfInBounds_toArray, List.set_cons_zero, List.set_cons_succ]
  have hB2 := hB.trans (ho2.below (by omega))
  go_wp2_with fail
  refine bodyPost_ret (results_cell_row Try.results14 _ _ (b + 1) 45 (⟨x.f, x.t, x.A, x.n, x.c, false, x.b⟩ : Fl).cells (0, 0) _ (by rfl) hX2 Try.underlying45 (by rfl) (by kernel_rfl)) rfl ?_
  exact ⟨rfl, by first | exact hB2 | (rw [hb]; exact hB2)⟩
set_option maxRecDepth 100000 in
set_option maxHeartbeats 4000000 in
theorem same_any {C C2 : Nat} (x y : Fl) (w : World) (hf : x.f = y.f) (ht : x.t = y.t) (hb0 : x.b = y.b) (hx : RdB C w x.A x.b) (hxn : x.b.length = x.n) (hy : RdB C2 w y.A y.b) (hyn : y.b.length = y.n) (hC : C ≤ w.heap.size) (hC2 : C2 ≤ w.heap.size) : Calls Try.prog 17 #[.agg x.parcel, .agg y.cells] w fun e w' => e = .returned (.bool true) ∧ Below w.heap.size w w' := by
  have hX0 := blk_new w x.parcel 29
  replace hX0 := hX0.alloc (.cells y.cells 45)
  have hz1 : (w.alloc (.cells x.parcel 29)).heap.size = w.heap.size + 1 := by simp
  have hX1 := blk_new (w.alloc (.cells x.parcel 29)) y.cells 45
  rw [hz1] at hX1
  have hB := ba (b0 w (.cells x.parcel 29)) (.cells y.cells 45)
  have hzz : ((w.alloc (.cells x.parcel 29)).alloc (.cells y.cells 45)).heap.size = w.heap.size + 2 := by simp
  have hx0 := hx.keep hB hC
  have hy0 := hy.keep hB hC2
  go_enter Try.func17, Try.ntmps17
  go_upto_region 1 with fail
  generalize ((w.alloc (.cells x.parcel 29)).alloc (.cells y.cells 45)) = W0 at hX0 hX1 hB hzz hx0 hy0 ⊢
  (try simp only [hz1])
  clear hz1
  generalize hb : w.heap.size = b at hX0 hX1 hB hzz ⊢
  have f0 := pf0 W0 b
  have f1 := pf1 W0 b
  have f2 := pp2 W0 b
  have k0 := rff0 W0 (b + 1)
  have k1 := rff1 W0 (b + 1)
  have k2 := rff2 W0 (b + 1)
  have l0 := ld_in (hX0.cell 0)
  have l1 := ld_in (hX0.cell 1)
  have l2 := ld_sl (hX0.cell 2)
  have m0 := ld_in (hX1.cell 0)
  have m1 := ld_in (hX1.cell 1)
  have m2 := ld_sl (hX1.cell 2)
  have v1 := conv_rd W0 x.A x.n x.c x.b hxn hx0
  have v2 := conv_rd W0 y.A y.n y.c y.b hyn hy0
  rw [hb0] at v1
  have q1 := strEqA W0 20 23 ⟨y.b.toArray⟩
  refine wp_region_lit ?_
  refine fl_start ?_
  generalize ha : Act.mk _ _ = a0
  have hn : a0.tmps.size = 26 := by rw [← ha]; kernel_rfl
  have h2 : (fr a0 []).eval (.tmp 2) = .pointer (some ⟨b, 0, none⟩) := by rw [← ha]; kernel_rfl
  refine fl_know hn rfl h2 ?_
  clear h2
  have h3 : (fr a0 [(2, true, .pointer (some ⟨b, 0, none⟩))]).eval (.tmp 3) = .pointer (some ⟨b + 1, 0, none⟩) := by rw [← ha]; kernel_rfl
  refine fl_know hn rfl h3 ?_
  clear h3
  refine g_fd hn ?_
  refine g_ld hn ?_
  refine g_fd hn ?_
  refine g_ld hn ?_
  refine g_eql2 hn ?_
  refine g_mv hn ?_
  refine g_fd hn ?_
  refine g_ld hn ?_
  refine g_fd hn ?_
  refine g_ld hn ?_
  refine g_eql2 hn ?_
  refine g_an hn ?_
  refine g_mv hn ?_
  refine g_fd hn ?_
  refine g_ld hn ?_
  refine g_cv hn ?_ (hr := v1)
  refine g_fd hn ?_
  refine g_ld hn ?_
  refine g_cv hn ?_ (hr := v2)
  refine g_bn hn ?_ (hr := q1)
  refine g_an hn ?_
  refine g_as hn ?_
  refine fl_end ?_
  clear hn f0 f1 f2 k0 k1 k2 l0 l1 l2 m0 m1 m2 v1 v2 q1
  subst ha
  dsimp only [fr, cnd, Act.put, cond_true]
  simp only [List.setIfInBounds_toArray, List.set_cons_zero, List.set_cons_succ]
  go_wp2_with fail
  go_ret
  refine ⟨?_, by first | exact hB | (rw [hb]; exact hB)⟩
  first
    | (simp only [hf, ht, beq_self_eq_true, Bool.and_true]; done)
    | (show Ending.returned (.bool ((x.f == y.f && x.t == y.t) && true)) = _
       rw [hf, ht, beq_self_eq_true, beq_self_eq_true]
       rfl)
end Go.Proofs.Ytdfifcgpjeojlaa

namespace Go.Proofs.Ytdfifcgpjeojlaa
open Go.RowKit

/-- What every parcel on its way is. -/
structure OkL (a : List Pc) : Prop where
  few : a.length ≤ 400
  ok : ∀ x, x ∈ a → x.ok = true ∧ x.b.length ≤ 100
theorem OkL.nil : OkL [] := ⟨Nat.zero_le _, fun x h => nomatch h⟩
theorem OkL.snd {a : List Pc} (h : OkL a) {x : Pc} (hx : x.b.length ≤ 100) : OkL (sndP a x).1 := by
  unfold sndP
  by_cases h1 : x.ok = true
  · rw [if_pos h1]
    by_cases h2 : a.length < 400
    · rw [if_pos h2]
      refine ⟨by rw [List.length_append, List.length_singleton]; omega, fun y hy => ?_⟩
      rcases List.mem_append.1 hy with hy | hy
      · exact h.ok y hy
      · rw [List.mem_singleton] at hy
        subst hy
        exact ⟨h1, hx⟩
    · rw [if_neg h2]
      exact h
  · rw [if_neg h1]
    exact h
theorem OkL.tk {a : List Pc} (h : OkL a) (i : Int) : OkL (tkP a i).1 := by
  unfold tkP
  split
  · exact h
  · exact ⟨Nat.le_trans (List.length_eraseIdx_le ..) h.few, fun y hy => h.ok y (List.mem_of_mem_eraseIdx hy)⟩
theorem OkL.dbl {a : List Pc} (h : OkL a) (i : Int) : OkL (dblP a i).1 := by
  unfold dblP
  split
  · exact h
  · next x hx => exact h.snd (h.ok x (List.mem_of_getElem? hx)).2
theorem OkL.trn {a : List Pc} (h : OkL a) (i bit : Int) : OkL (trnP a i bit).1 := by
  unfold trnP
  split
  · exact h
  · next x hx =>
    have hx' := h.ok x (List.mem_of_getElem? hx)
    split
    · exact h
    · split
      · exact h
      · refine ⟨by rw [List.length_set]; exact h.few, fun y hy => ?_⟩
        rcases List.mem_or_eq_of_mem_set hy with hy | rfl
        · exact h.ok y hy
        · exact ⟨hx'.1, by show (List.set _ _ _).length ≤ 100; rw [List.length_set]; exact hx'.2⟩
theorem RfM.lt {W : World} {B : Option Addr} {m d : Nat} {ds : List Fl} (h : RfM W B m d ds) {k : Nat} (hk : RfO B ds k) : k < W.heap.size := by
  rcases hk with ⟨hne, a, ha, rfl⟩ | ⟨y, hy, hne, a, ha, rfl⟩
  · cases ds with
    | nil => exact absurd rfl hne
    | cons x r =>
      obtain ⟨ad, he, hl, _⟩ := h.rd 0 x.cells rfl
      rw [ha] at he
      injection he with he
      subst he
      exact hl
  · have h1 := (h.byt y hy).rd
    cases hb : y.b with
    | nil => exact absurd hb hne
    | cons x r =>
      rw [hb] at h1
      obtain ⟨ad, he, hl, _⟩ := h1 0 x rfl
      rw [ha] at he
      injection he with he
      subst he
      exact hl
theorem cell_eq {W W' : World} {a : Addr} (e : W'.heap[a.block]? = W.heap[a.block]?) (k : Nat) : W'.cell? (a.add k) = W.cell? (a.add k) := by
  unfold World.cell?
  rw [add_block, e]
theorem FlIn.far {W W' : World} {y : Fl} (h : FlIn W y) (hs : W.heap.size ≤ W'.heap.size) (e : y.b ≠ [] → ∀ a, y.A = some a → W'.heap[a.block]? = W.heap[a.block]?) : FlIn W' y := by
  refine ⟨fun k x hx => ?_, h.len, h.nil, h.few⟩
  obtain ⟨ad, hA, hl, hc⟩ := h.rd k x hx
  refine ⟨ad, hA, by omega, ?_⟩
  rw [cell_eq (e (fun h0 => by rw [h0] at hx; cases hx) ad hA)]
  exact hc
/-- The document's parcels stay, where their blocks do. -/
theorem RfM.far {W W' : World} {B : Option Addr} {m d : Nat} {ds : List Fl} (h : RfM W B m d ds) (hs : W.heap.size ≤ W'.heap.size) (e : ∀ k, RfO B ds k → W'.heap[k]? = W.heap[k]?) : RfM W' B m d ds := by
  refine ⟨fun k x hx => ?_, h.len, h.cap, fun y hy => (h.byt y hy).far hs fun hne a ha => e a.block (.inr ⟨y, hy, hne, a, ha, rfl⟩)⟩
  obtain ⟨ad, hA, hl, hc⟩ := h.rd k x hx
  refine ⟨ad, hA, by omega, fun j v hv => ?_⟩
  rw [cell_eq (e ad.block (.inl ⟨(fun h0 => by rw [h0] at hx; cases hx), ad, hA, rfl⟩))]
  exact hc j v hv
/-- The two airs, and blocks that are neither's: X may be read, Y may be written. -/
structure KA (base p : Nat) (W : World) (A : Option Addr) (n c : Nat) (l : List Fl) (B : Option Addr) (m d : Nat) (ds : List Fl) (X Y : List Nat) : Prop where
  air : AirM base p W A n c l
  ref : RfM W B m d ds
  off : ∀ k, RfO B ds k → ¬ AirO p A l k
  okA : OkL (l.map Fl.pc)
  okR : OkL (ds.map Fl.pc)
  hp : base ≤ p
  hb : base ≤ W.heap.size
  hX : ∀ k, k ∈ X → k < W.heap.size ∧ ¬ AirO p A l k
  hY : ∀ k, k ∈ Y → base ≤ k ∧ k < W.heap.size ∧ ¬ AirO p A l k ∧ ¬ RfO B ds k
/-- What is told of the blocks beside. -/
structure KeepX (X Y : List Nat) (W W' : World) : Prop where
  size : W.heap.size ≤ W'.heap.size
  eq : ∀ k, k ∈ X ∨ k ∈ Y → W'.heap[k]? = W.heap[k]?
theorem KeepX.refl (X Y : List Nat) (W : World) : KeepX X Y W W := ⟨Nat.le_refl _, fun _ _ => rfl⟩
theorem KeepX.trans {X Y : List Nat} {W W1 W2 : World} (h : KeepX X Y W W1) (k : KeepX X Y W1 W2) : KeepX X Y W W2 := ⟨Nat.le_trans h.size k.size, fun i hi => (k.eq i hi).trans (h.eq i hi)⟩
section
variable {base p : Nat} {W W' : World} {A A' : Option Addr} {n n' c c' : Nat} {l l' : List Fl} {B B' : Option Addr} {m m' d d' : Nat} {ds ds' xs : List Fl} {X Y : List Nat}
theorem KA.lenA (h : KA base p W A n c l B m d ds X Y) : l.length = n := by
  have := h.air.row.len
  simpa using this
theorem KA.n4 (h : KA base p W A n c l B m d ds X Y) : n ≤ 400 := by
  have h1 := h.okA.few
  rw [List.length_map, h.lenA] at h1
  exact h1
theorem KA.m4 (h : KA base p W A n c l B m d ds X Y) : m ≤ 400 := by
  have h1 := h.okR.few
  rw [List.length_map, h.ref.len] at h1
  exact h1
theorem KA.fl (h : KA base p W A n c l B m d ds X Y) {x : Fl} (hx : x ∈ l) : x.pc.ok = true ∧ x.n ≤ 100 := by
  have h1 := h.okA.ok x.pc (List.mem_map_of_mem hx)
  have h2 := (h.air.byt x hx).len
  exact ⟨h1.1, by rw [← h2]; exact h1.2⟩
theorem KA.rf (h : KA base p W A n c l B m d ds X Y) {x : Fl} (hx : x ∈ ds) : x.pc.ok = true ∧ x.n ≤ 100 := by
  have h1 := h.okR.ok x.pc (List.mem_map_of_mem hx)
  have h2 := (h.ref.byt x hx).len
  exact ⟨h1.1, by rw [← h2]; exact h1.2⟩
/-- The program's air does a step. -/
theorem KA.step (h : KA base p W A n c l B m d ds X Y) (hS : AirS base p A l W A' n' c' l' W') (ho : OkL (l'.map Fl.pc)) : KA base p W' A' n' c' l' B m d ds X Y :=
  ⟨hS.m, h.ref.far hS.size (fun k hk => hS.stay k (h.ref.lt hk) (h.off k hk)), fun k hk hA => h.off k hk (hS.new k (h.ref.lt hk) hA), ho, h.okR, h.hp, Nat.le_trans h.hb hS.size,
    fun k hk => ⟨Nat.lt_of_lt_of_le (h.hX k hk).1 hS.size, fun hA => (h.hX k hk).2 (hS.new k (h.hX k hk).1 hA)⟩,
    fun k hk => ⟨(h.hY k hk).1, Nat.lt_of_lt_of_le (h.hY k hk).2.1 hS.size, fun hA => (h.hY k hk).2.2.1 (hS.new k (h.hY k hk).2.1 hA), (h.hY k hk).2.2.2⟩⟩
theorem KA.stepK (h : KA base p W A n c l B m d ds X Y) (hS : AirS base p A l W A' n' c' l' W') : KeepX X Y W W' := ⟨hS.size, fun k hk => by
  rcases hk with hk | hk
  · exact hS.stay k (h.hX k hk).1 (h.hX k hk).2
  · exact hS.stay k (h.hY k hk).2.1 (h.hY k hk).2.2.1⟩
theorem KA.keep (h : KA base p W A n c l B m d ds X Y) (hb : Below W.heap.size W W') : KA base p W' A n c l B m d ds X Y := h.step (AirS.same h.air hb) h.okA
theorem KA.keepK (h : KA base p W A n c l B m d ds X Y) (hb : Below W.heap.size W W') : KeepX X Y W W' := h.stepK (AirS.same h.air hb)
theorem KA.below (h : KA base p W A n c l B m d ds X Y) (hS : AirS base p A l W A' n' c' l' W') : Below base W W' := hS.below h.air h.hp h.hb
/-- The document's does one. -/
theorem KA.rstep (h : KA base p W A n c l B m d ds X Y) (hR : RfR W W' B ds xs B' m' d' ds') (ho : OkL (ds'.map Fl.pc)) (hx : ∀ k, RfO none xs k → k < base) : KA base p W' A n c l B' m' d' ds' X Y := by
  have h2 := h.keep hR.bel
  refine ⟨h2.air, hR.m, fun k hk hA => ?_, h2.okA, ho, h2.hp, h2.hb, h2.hX, fun k hk => ⟨(h2.hY k hk).1, (h2.hY k hk).2.1, (h2.hY k hk).2.2.1, fun hr => ?_⟩⟩
  · rcases hR.new k hk with h3 | h3 | h3
    · exact h.off k h3 hA
    · have := hx k h3
      have := h.air.own_ge h.hp hA
      omega
    · have := h.air.own_lt hA
      omega
  · rcases hR.new k hr with h3 | h3 | h3
    · exact (h.hY k hk).2.2.2 h3
    · have := hx k h3
      have := (h.hY k hk).1
      omega
    · have := (h.hY k hk).2.1
      omega
/-- New blocks beside. -/
theorem KA.addY (h : KA base p W A n c l B m d ds X Y) (hb : Below W.heap.size W W') {k : Nat} (h1 : W.heap.size ≤ k) (h2 : k < W'.heap.size) : KA base p W' A n c l B m d ds X (k :: Y) := by
  have h3 := h.keep hb
  refine ⟨h3.air, h3.ref, h3.off, h3.okA, h3.okR, h3.hp, h3.hb, h3.hX, fun j hj => ?_⟩
  rcases List.mem_cons.1 hj with rfl | hj
  · have := h.hb
    exact ⟨by omega, h2, fun hA => by have := h.air.own_lt hA; omega, fun hr => by have := h.ref.lt hr; omega⟩
  · exact h3.hY j hj
/-- A block of the document's is told beside: it isn't the air's. -/
theorem KA.addX (h : KA base p W A n c l B m d ds X Y) {Z : List Nat} (hz : ∀ k, k ∈ Z → k < W.heap.size ∧ ¬ AirO p A l k) : KA base p W A n c l B m d ds (Z ++ X) Y :=
  ⟨h.air, h.ref, h.off, h.okA, h.okR, h.hp, h.hb, fun k hk => by
    rcases List.mem_append.1 hk with hk | hk
    · exact hz k hk
    · exact h.hX k hk, h.hY⟩
/-- A block of one's own is written. -/
theorem KA.write (h : KA base p W A n c l B m d ds X Y) {k : Nat} (hk : k ∈ Y) (ho : Only1 k W W') : KA base p W' A n c l B m d ds X Y := by
  obtain ⟨h1, h2, h3, h4⟩ := h.hY k hk
  have e := ho.size
  exact ⟨h.air.off (only_grown ho) (fun j hj => by injection hj with hj; rw [← hj]; exact h3), h.ref.far (by omega) (fun j hj => ho.block j (fun e2 => h4 (e2 ▸ hj))), h.off, h.okA, h.okR, h.hp, by rw [e]; exact h.hb, fun j hj => by rw [e]; exact h.hX j hj, fun j hj => by rw [e]; exact h.hY j hj⟩
end
/-- What holds: the program's air is the list a, the document's the list b. -/
def KX (base p : Nat) (w wr : World) (a : List Pc) (B : Option Addr) (m d : Nat) (b : List Pc) (X Y : List Nat) : Prop := ∃ (A : Option Addr) (n c : Nat) (l ds : List Fl), KA base p wr A n c l B m d ds X Y ∧ l.map Fl.pc = a ∧ ds.map Fl.pc = b ∧ Below base w wr
section
variable {base p : Nat} {w wr w2 : World} {a b : List Pc} {B : Option Addr} {m d : Nat} {X Y : List Nat}
theorem KX.below (h : KX base p w wr a B m d b X Y) : Below base w wr := by
  obtain ⟨A, n, c, l, ds, h, ea, eb, hB⟩ := h
  exact hB
theorem KX.sz (h : KX base p w wr a B m d b X Y) : base ≤ wr.heap.size := by
  obtain ⟨A, n, c, l, ds, h, ea, eb, hB⟩ := h
  exact h.hb
theorem KX.lenB (h : KX base p w wr a B m d b X Y) : b.length = m := by
  obtain ⟨A, n, c, l, ds, h, ea, eb, hB⟩ := h
  rw [← eb, List.length_map]
  exact h.ref.len
theorem KX.few (h : KX base p w wr a B m d b X Y) : m ≤ 400 ∧ OkL a ∧ OkL b := by
  obtain ⟨A, n, c, l, ds, h, ea, eb, hB⟩ := h
  exact ⟨h.m4, ea ▸ h.okA, eb ▸ h.okR⟩
theorem KX.keep (h : KX base p w wr a B m d b X Y) (hb : Below wr.heap.size wr w2) : KX base p w w2 a B m d b X Y := by
  obtain ⟨A, n, c, l, ds, h, ea, eb, hB⟩ := h
  exact ⟨A, n, c, l, ds, h.keep hb, ea, eb, hB.trans (hb.mono h.hb)⟩
theorem KX.keepK (h : KX base p w wr a B m d b X Y) (hb : Below wr.heap.size wr w2) : KeepX X Y wr w2 := by
  obtain ⟨A, n, c, l, ds, h, ea, eb, hB⟩ := h
  exact h.keepK hb
theorem KX.addY (h : KX base p w wr a B m d b X Y) (hb : Below wr.heap.size wr w2) {k : Nat} (h1 : wr.heap.size ≤ k) (h2 : k < w2.heap.size) : KX base p w w2 a B m d b X (k :: Y) := by
  obtain ⟨A, n, c, l, ds, h, ea, eb, hB⟩ := h
  exact ⟨A, n, c, l, ds, h.addY hb h1 h2, ea, eb, hB.trans (hb.mono h.hb)⟩
theorem KX.less (h : KX base p w wr a B m d b X Y) : KX base p w wr a B m d b [] [] := by
  obtain ⟨A, n, c, l, ds, h, ea, eb, hB⟩ := h
  exact ⟨A, n, c, l, ds, ⟨h.air, h.ref, h.off, h.okA, h.okR, h.hp, h.hb, (fun _ h => nomatch h), (fun _ h => nomatch h)⟩, ea, eb, hB⟩
theorem KX.write (h : KX base p w wr a B m d b X Y) {k : Nat} (hk : k ∈ Y) (ho : Only1 k wr w2) : KX base p w w2 a B m d b X Y := by
  obtain ⟨A, n, c, l, ds, h, ea, eb, hB⟩ := h
  exact ⟨A, n, c, l, ds, h.write hk ho, ea, eb, hB.trans (ho.below (h.hY k hk).1)⟩
theorem kx_len (h : KX base p w wr a B m d b X Y) : Calls Try.prog 10 #[.pointer (some ⟨p, 0, none⟩)] wr fun e w' => e = .returned (.int .i64 (a.length : Nat)) ∧ w' = wr := by
  obtain ⟨A, n, c, l, ds, h, ea, eb, hB⟩ := h
  have e : a.length = n := by rw [← ea, List.length_map, h.lenA]
  rw [e]
  exact airLen_any base p A n c l wr h.air
theorem sndP_bad {a : List Pc} {x : Pc} (h : x.ok = false) : sndP a x = (a, 1) := by
  unfold sndP
  rw [h]
  rfl
theorem kx_send (h : KX base p w wr a B m d b X Y) (x : Fl) (hx : FlIn wr x) (hn : x.n ≤ 100) : Calls Try.prog 7 #[.pointer (some ⟨p, 0, none⟩), .agg x.parcel] wr fun e w' => e = .returned (.int .i64 (sndP a ⟨x.f, x.t, false, x.b⟩).2) ∧ KX base p w w' (sndP a ⟨x.f, x.t, false, x.b⟩).1 B m d b X Y ∧ KeepX X Y wr w' := by
  have hkx := h
  obtain ⟨A, n, c, l, ds, h, ea, eb, hB⟩ := h
  have hl : a.length = n := by rw [← ea, List.length_map, h.lenA]
  have bad : ∀ (e : Ending) (w' : World), Pc.ok ⟨x.f, x.t, false, x.b⟩ = false → e = .returned (.int .i64 1) ∧ Below wr.heap.size wr w' → e = .returned (.int .i64 (sndP a ⟨x.f, x.t, false, x.b⟩).2) ∧ KX base p w w' (sndP a ⟨x.f, x.t, false, x.b⟩).1 B m d b X Y ∧ KeepX X Y wr w' := fun e w' ho ⟨he, hb⟩ => by
    rw [sndP_bad ho]
    exact ⟨he, hkx.keep hb, hkx.keepK hb⟩
  cases hf : nodeB x.f with
  | false => exact (sn_bad1 p x wr hf).mono fun e w' hh => bad e w' (by unfold Pc.ok; rw [hf]; rfl) hh
  | true =>
    cases ht : nodeB x.t with
    | false => exact (sn_bad2 p x wr hf ht).mono fun e w' hh => bad e w' (by unfold Pc.ok; rw [hf, ht]; rfl) hh
    | true =>
      by_cases hs : x.f = x.t
      · exact (sn_bad3 p x wr hf ht hs).mono fun e w' hh => bad e w' (by unfold Pc.ok; simp [hs]) hh
      · have ho : Pc.ok ⟨x.f, x.t, false, x.b⟩ = true := by unfold Pc.ok; rw [hf, ht]; simp [hs]
        refine (sn_good base p A n c l x wr hf ht hs h.air h.n4 hx h.hb).mono fun e w' ⟨h1, h2⟩ => ?_
        by_cases h4 : n < 400
        · obtain ⟨A1, c1, A2, c2, he, hS⟩ := h2 h4
          have e1 : sndP a ⟨x.f, x.t, false, x.b⟩ = (a ++ [⟨x.f, x.t, false, x.b⟩], 0) := by unfold sndP; rw [if_pos ho, if_pos (by omega)]
          have e2 : (l ++ [(⟨x.f, x.t, A2, x.n, c2, false, x.b⟩ : Fl)]).map Fl.pc = a ++ [⟨x.f, x.t, false, x.b⟩] := by rw [List.map_append, ea]; rfl
          have hok : OkL (a ++ [⟨x.f, x.t, false, x.b⟩]) := by
            have := (hkx.few.2.1).snd (x := ⟨x.f, x.t, false, x.b⟩) (by show x.b.length ≤ 100; rw [hx.len]; exact hn)
            rw [e1] at this
            exact this
          rw [e1]
          exact ⟨he, ⟨A1, n + 1, c1, _, ds, h.step hS (by rw [e2]; exact hok), e2, eb, hB.trans (h.below hS)⟩, h.stepK hS⟩
        · obtain ⟨he, hb⟩ := h1 (by have := h.n4; omega)
          have e1 : sndP a ⟨x.f, x.t, false, x.b⟩ = (a, 3) := by unfold sndP; rw [if_pos ho, if_neg (by omega)]
          rw [e1]
          exact ⟨he, hkx.keep hb, hkx.keepK hb⟩
theorem kx_take (h : KX base p w wr a B m d b X Y) (i : Int) : Calls Try.prog 11 #[.pointer (some ⟨p, 0, none⟩), .int .i64 i] wr fun e w' => ∃ x : Fl, e = .returned (.tuple #[.agg x.parcel, .int .i64 (tkP a i).2]) ∧ x.pc = wantP a i ∧ FlIn w' x ∧ KX base p w w' (tkP a i).1 B m d b X Y ∧ KeepX X Y wr w' := by
  have hkx := h
  obtain ⟨A, n, c, l, ds, h, ea, eb, hB⟩ := h
  have hl : a.length = n := by rw [← ea, List.length_map, h.lenA]
  by_cases h0 : n = 0
  · subst h0
    have e1 : tkP a i = (a, 5) := by unfold tkP; rw [nilP hl]
    have e2 : wantP a i = ⟨0, 0, false, []⟩ := by unfold wantP; rw [nilP hl]; rfl
    refine (take_none base p A c l i wr h.air).mono fun e w' ⟨he, hb⟩ => ?_
    rw [e1, e2]
    exact ⟨⟨0, 0, none, 0, 0, false, []⟩, he, rfl, FlIn.zero _, hkx.keep hb, hkx.keepK hb⟩
  · obtain ⟨ad, x0, rfl, -, -⟩ := h.air.at (k := 0) (by omega)
    refine (take_any base p ad n c l i wr h.air (by omega) h.n4 h.hb).mono fun e w' ⟨x, hx, he, hS, hO⟩ => ?_
    have e0 : a[modA i a.length]? = some x.pc := by rw [hl, ← ea, List.getElem?_map, hx]; rfl
    have e1 : tkP a i = (a.eraseIdx (modA i n), 0) := by unfold tkP; rw [e0, hl]
    have e2 : wantP a i = x.pc := by unfold wantP; rw [e0]; rfl
    have e3 : (l.eraseIdx (modA i n)).map Fl.pc = a.eraseIdx (modA i n) := by rw [map_eraseA, ea]
    have hok := hkx.few.2.1.tk i
    rw [e1] at hok
    rw [e1, e2]
    have hxm := h.fl (List.mem_of_getElem? hx)
    exact ⟨x, he, rfl, ⟨hO.rd, hO.len, (fun e => by rw [e] at hO; exact hO.nilOf), by omega⟩, ⟨some ad, n - 1, c, _, ds, h.step hS (by rw [e3]; exact hok), e3, eb, hB.trans (h.below hS)⟩, h.stepK hS⟩
theorem kx_lose (h : KX base p w wr a B m d b X Y) (i : Int) : Calls Try.prog 16 #[.pointer (some ⟨p, 0, none⟩), .int .i64 i] wr fun e w' => e = .returned (.int .i64 (tkP a i).2) ∧ KX base p w w' (tkP a i).1 B m d b X Y ∧ KeepX X Y wr w' := by
  have hkx := h
  obtain ⟨A, n, c, l, ds, h, ea, eb, hB⟩ := h
  have hl : a.length = n := by rw [← ea, List.length_map, h.lenA]
  by_cases h0 : n = 0
  · subst h0
    have e1 : tkP a i = (a, 5) := by unfold tkP; rw [nilP hl]
    refine (lose_none base p A c l i wr h.air).mono fun e w' ⟨he, hb⟩ => ?_
    rw [e1]
    exact ⟨he, hkx.keep hb, hkx.keepK hb⟩
  · obtain ⟨ad, x0, rfl, -, -⟩ := h.air.at (k := 0) (by omega)
    refine (lose_any base p ad n c l i wr h.air (by omega) h.n4 h.hb).mono fun e w' ⟨he, hS⟩ => ?_
    obtain ⟨x, hx⟩ : ∃ x, l[modA i n]? = some x := ⟨_, List.getElem?_eq_getElem (show modA i n < l.length by rw [h.lenA]; exact modA_lt i (by omega))⟩
    have e0 : a[modA i a.length]? = some x.pc := by rw [hl, ← ea, List.getElem?_map, hx]; rfl
    have e1 : tkP a i = (a.eraseIdx (modA i n), 0) := by unfold tkP; rw [e0, hl]
    have e3 : (l.eraseIdx (modA i n)).map Fl.pc = a.eraseIdx (modA i n) := by rw [map_eraseA, ea]
    have hok := hkx.few.2.1.tk i
    rw [e1] at hok
    rw [e1]
    exact ⟨he, ⟨some ad, n - 1, c, _, ds, h.step hS (by rw [e3]; exact hok), e3, eb, hB.trans (h.below hS)⟩, h.stepK hS⟩
theorem kx_double (h : KX base p w wr a B m d b X Y) (i : Int) : Calls Try.prog 8 #[.pointer (some ⟨p, 0, none⟩), .int .i64 i] wr fun e w' => e = .returned (.int .i64 (dblP a i).2) ∧ KX base p w w' (dblP a i).1 B m d b X Y ∧ KeepX X Y wr w' := by
  have hkx := h
  obtain ⟨A, n, c, l, ds, h, ea, eb, hB⟩ := h
  have hl : a.length = n := by rw [← ea, List.length_map, h.lenA]
  by_cases h0 : n = 0
  · subst h0
    have e1 : dblP a i = (a, 5) := by unfold dblP; rw [nilP hl]
    refine (airDouble_none base p A c l i wr h.air).mono fun e w' ⟨he, hw⟩ => ?_
    rw [e1, hw]
    exact ⟨he, hkx, KeepX.refl _ _ _⟩
  · refine (airDouble_any base p A n c l i wr h.air (by omega) h.n4 (fun x hx => by have := (h.fl hx).2; omega) h.hb).mono fun e w' ⟨x, hx, h1, h2⟩ => ?_
    have e0 : a[modA i a.length]? = some x.pc := by rw [hl, ← ea, List.getElem?_map, hx]; rfl
    have hxm := h.fl (List.mem_of_getElem? hx)
    by_cases h4 : n < 400
    · obtain ⟨A1, c1, A2, c2, he, hS⟩ := h2 h4
      have e1 : dblP a i = (a ++ [x.pc], 0) := by unfold dblP; rw [e0]; dsimp only; unfold sndP; rw [if_pos hxm.1, if_pos (by omega)]
      have e2 : (l ++ [(⟨x.f, x.t, A2, x.n, c2, x.u, x.b⟩ : Fl)]).map Fl.pc = a ++ [x.pc] := by rw [List.map_append, ea]; rfl
      have hok := hkx.few.2.1.dbl i
      rw [e1] at hok
      rw [e1]
      exact ⟨he, ⟨A1, n + 1, c1, _, ds, h.step hS (by rw [e2]; exact hok), e2, eb, hB.trans (h.below hS)⟩, h.stepK hS⟩
    · obtain ⟨he, hb⟩ := h1 (by have := h.n4; omega)
      have e1 : dblP a i = (a, 3) := by unfold dblP; rw [e0]; dsimp only; unfold sndP; rw [if_pos hxm.1, if_neg (by omega)]
      rw [e1]
      exact ⟨he, hkx.keep hb, hkx.keepK hb⟩
theorem kx_turn (h : KX base p w wr a B m d b X Y) (i bit : Int) : Calls Try.prog 9 #[.pointer (some ⟨p, 0, none⟩), .int .i64 i, .int .i64 bit] wr fun e w' => e = .returned (.int .i64 (trnP a i bit).2) ∧ KX base p w w' (trnP a i bit).1 B m d b X Y ∧ KeepX X Y wr w' := by
  have hkx := h
  obtain ⟨A, n, c, l, ds, h, ea, eb, hB⟩ := h
  have hl : a.length = n := by rw [← ea, List.length_map, h.lenA]
  by_cases h0 : n = 0
  · subst h0
    have e1 : trnP a i bit = (a, 5) := by unfold trnP; rw [nilP hl]
    refine (turn_none base p A c l i bit wr h.air).mono fun e w' ⟨he, hw⟩ => ?_
    rw [e1, hw]
    exact ⟨he, hkx, KeepX.refl _ _ _⟩
  · obtain ⟨ad, x0, rfl, -, -⟩ := h.air.at (k := 0) (by omega)
    obtain ⟨g, rfl⟩ := h.air.row.atZero
    obtain ⟨x, hx⟩ : ∃ x, l[modA i n]? = some x := ⟨_, List.getElem?_eq_getElem (show modA i n < l.length by rw [h.lenA]; exact modA_lt i (by omega))⟩
    have e0 : a[modA i a.length]? = some x.pc := by rw [hl, ← ea, List.getElem?_map, hx]; rfl
    have hxm := List.mem_of_getElem? hx
    have hln : x.pc.b.length = x.n := (h.air.byt x hxm).len
    have hx4 := h.fl hxm
    cases hu : x.u with
    | true =>
      have e1 : trnP a i bit = (a, 6) := by unfold trnP; rw [e0]; dsimp only; rw [if_pos hu]
      refine (turn_twice base p g n c l i bit x wr h.air (by omega) h.n4 hx hu).mono fun e w' ⟨he, hw⟩ => ?_
      rw [e1, hw]
      exact ⟨he, hkx, KeepX.refl _ _ _⟩
    | false =>
      have hu' : ¬ x.pc.u = true := by show ¬ x.u = true; rw [hu]; decide
      by_cases hn0 : x.n = 0
      · have e1 : trnP a i bit = (a, 1) := by unfold trnP; rw [e0]; dsimp only; rw [if_neg hu', if_pos (by rw [hln]; exact hn0)]
        refine (turn_empty base p g n c l i bit x wr h.air (by omega) h.n4 hx hu hn0).mono fun e w' ⟨he, hw⟩ => ?_
        rw [e1, hw]
        exact ⟨he, hkx, KeepX.refl _ _ _⟩
      · have e1 : trnP a i bit = (a.set (modA i n) (x.pc.turn (modA bit (8 * x.n))), 0) := by unfold trnP; rw [e0]; dsimp only; rw [if_neg hu', if_neg (by rw [hln]; exact hn0), hl, hln]
        refine (turn_good base p g n c l i bit x wr h.air (by omega) h.n4 hx hu (by omega) (by omega)).mono fun e w' ⟨he, hS⟩ => ?_
        have e3 : (l.set (modA i n) (x.turn (modA bit (8 * x.n)))).map Fl.pc = a.set (modA i n) (x.pc.turn (modA bit (8 * x.n))) := by rw [List.map_set, ea]; rfl
        have hok := hkx.few.2.1.trn i bit
        rw [e1] at hok
        rw [e1]
        exact ⟨he, ⟨_, n, c, _, ds, h.step hS (by rw [e3]; exact hok), e3, eb, hB.trans (h.below hS)⟩, h.stepK hS⟩
/-- .. the document's. -/
def KR (base p : Nat) (w wr : World) (a : List Pc) (r : List Pc × Int) (X Y : List Nat) (e : Ending) (w' : World) : Prop := ∃ (B' : Option Addr) (m' d' : Nat), e = .returned (.tuple #[.slice B' m' d', .int .i64 r.2]) ∧ KX base p w w' a B' m' d' r.1 X Y ∧ KeepX X Y wr w'
theorem kr_of {ds xs : List Fl} {A : Option Addr} {n c : Nat} {l : List Fl} {r : List Pc × Int} {e : Ending} {w' : World} (h : KA base p wr A n c l B m d ds X Y) (hB : Below base w wr) (ho : OkL r.1) (hx : ∀ k, RfO none xs k → k < base) (hr : RfA wr B ds xs r e w') : KR base p w wr (l.map Fl.pc) r X Y e w' := by
  obtain ⟨B', m', d', ds', he, hR, hp⟩ := hr
  exact ⟨B', m', d', he, ⟨A, n, c, l, ds', h.rstep hR (by rw [hp]; exact ho) hx, rfl, hp, hB.trans (hR.bel.mono h.hb)⟩, h.keepK hR.bel⟩
theorem noneO (k : Nat) : ¬ RfO none [] k := fun h => by
  rcases h with ⟨h, _⟩ | ⟨y, hy, _⟩
  · exact h rfl
  · cases hy
theorem kr_send (h : KX base p w wr a B m d b X Y) (x : Fl) (hx : FlIn wr x) (hn : x.n ≤ 100) (hxb : x.b ≠ [] → ∀ ad, x.A = some ad → ad.block < base) : Calls Try.prog 13 #[.slice B m d, .agg x.cells] wr (KR base p w wr a (sndP b x.pc) X Y) := by
  have hkx := h
  obtain ⟨A, n, c, l, ds, h, rfl, rfl, hB⟩ := h
  exact (rfSend_any B m d ds x wr h.ref hx).mono fun e w' hr => kr_of h hB (hkx.few.2.2.snd (by show x.b.length ≤ 100; rw [hx.len]; exact hn)) (fun k hk => by
    rcases hk with ⟨_, ad, ha, rfl⟩ | ⟨y, hy, hne, ad, ha, rfl⟩
    · cases ha
    · rw [List.mem_singleton] at hy
      subst hy
      exact hxb hne ad ha) hr
theorem kr_double (h : KX base p w wr a B m d b X Y) (i : Int) : Calls Try.prog 18 #[.slice B m d, .int .i64 i] wr (KR base p w wr a (dblP b i) X Y) := by
  have hkx := h
  obtain ⟨A, n, c, l, ds, h, rfl, rfl, hB⟩ := h
  exact (rfDouble_any B m d ds i wr h.ref (by have := h.m4; omega)).mono fun e w' hr => kr_of h hB (hkx.few.2.2.dbl i) (fun k hk => absurd hk (noneO k)) hr
theorem kr_turn (h : KX base p w wr a B m d b X Y) (i bit : Int) : Calls Try.prog 19 #[.slice B m d, .int .i64 i, .int .i64 bit] wr (KR base p w wr a (trnP b i bit) X Y) := by
  have hkx := h
  obtain ⟨A, n, c, l, ds, h, rfl, rfl, hB⟩ := h
  exact (rfTurn_any B m d ds i bit wr h.ref (by have := h.m4; omega) (fun y hy => by have := (h.rf hy).2; omega)).mono fun e w' hr => kr_of h hB (hkx.few.2.2.trn i bit) (fun k hk => absurd hk (noneO k)) hr
/-- The block of a parcel's bytes, if there are any. -/
def wX (y : Fl) : List Nat := match y.A with | some ad => if y.b = [] then [] else [ad.block] | none => []
theorem wX_mem {y : Fl} {k : Nat} (h : k ∈ wX y) : y.b ≠ [] ∧ ∃ ad, y.A = some ad ∧ ad.block = k := by
  unfold wX at h
  cases hA : y.A with
  | none => rw [hA] at h; cases h
  | some ad =>
    rw [hA] at h
    dsimp only at h
    by_cases hb : y.b = []
    · rw [if_pos hb] at h
      cases h
    · rw [if_neg hb, List.mem_singleton] at h
      exact ⟨hb, ad, rfl, h.symm⟩
theorem FlIn.keepX {y : Fl} {W W' : World} (h : FlIn W y) (hK : KeepX (wX y ++ X) Y W W') : FlIn W' y := h.far hK.size fun hne ad ha => hK.eq ad.block (.inl (List.mem_append_left _ (by
  unfold wX
  rw [ha]
  dsimp only
  rw [if_neg hne]
  exact List.mem_singleton_self _)))
theorem kr_take (h : KX base p w wr a B m d b X Y) (i : Int) : Calls Try.prog 15 #[.slice B m d, .int .i64 i] wr fun e w' => ∃ (B' : Option Addr) (m' d' : Nat) (y : Fl), e = .returned (.tuple #[.slice B' m' d', .agg y.cells, .int .i64 (tkP b i).2]) ∧ y.pc = wantP b i ∧ FlIn w' y ∧ KX base p w w' a B' m' d' (tkP b i).1 (wX y ++ X) Y ∧ KeepX X Y wr w' := by
  have hkx := h
  obtain ⟨A, n, c, l, ds, h, rfl, rfl, hB⟩ := h
  refine (rfTake_any B m d ds i wr h.ref (by have := h.m4; omega)).mono fun e w' ⟨B', m', d', ds', y, he, hR, hp, hy, hF, hO⟩ => ?_
  have h2 := h.rstep hR (by rw [hp]; exact hkx.few.2.2.tk i) (fun k hk => absurd hk (noneO k))
  refine ⟨B', m', d', y, he, hy, hF, ⟨A, n, c, l, ds', h2.addX (fun k hk => ?_), rfl, hp, hB.trans (hR.bel.mono h.hb)⟩, h.keepK hR.bel⟩
  obtain ⟨hne, ad, ha, rfl⟩ := wX_mem hk
  have h3 := hO ad hne ha
  exact ⟨Nat.lt_of_lt_of_le (h.ref.lt h3) hR.bel.size, h.off _ h3⟩
theorem kx_parcels (h : KX base p w wr a B m d b X Y) : Calls Try.prog 20 #[.pointer (some ⟨p, 0, none⟩)] wr fun e w' => ∃ (g n : Nat) (zs : List Fl), e = .returned (.slice (some ⟨g, 0, none⟩) n n) ∧ OwnX 29 3 wr.heap.size w' (some ⟨g, 0, none⟩) n n (zs.map Fl.parcel) ∧ (∀ z, z ∈ zs → OwnB wr.heap.size w' z.A z.n z.c z.b ∧ z.n ≤ 100) ∧ zs.Pairwise Apt ∧ zs.map Fl.pc = a ∧ Below wr.heap.size wr w' := by
  have hkx := h
  obtain ⟨A, n, c, l, ds, h, rfl, rfl, hB⟩ := h
  refine (parcels_any base p A n c l wr h.air h.n4 (fun x hx => by have := (h.fl hx).2; omega)).mono fun e w' ⟨g, k, zs, he, hO, hY, hD, hp, hb⟩ => ⟨g, k, zs, he, hO, fun z hz => ⟨hY z hz, ?_⟩, hD, hp, hb⟩
  have h1 : z.pc ∈ l.map Fl.pc := by rw [← hp]; exact List.mem_map_of_mem hz
  have h2 := (hkx.few.2.1.ok _ h1).2
  rw [← (hY z hz).len]
  exact h2
/-- The document's i-th parcel, in memory. -/
theorem KX.refAt (h : KX base p w wr a B m d b X Y) {k : Nat} (hk : k < m) : ∃ ad y, B = some ad ∧ b[k]? = some y.pc ∧ (∀ j v, y.cells[j]? = some v → wr.cell? (ad.add (k * 4 + j)) = some v) ∧ FlIn wr y := by
  obtain ⟨A, n, c, l, ds, h, rfl, rfl, hB⟩ := h
  obtain ⟨ad, y, hA, hy, hl, hc⟩ := h.ref.at hk
  exact ⟨ad, y, hA, by rw [List.getElem?_map, hy]; rfl, hc, h.ref.byt y (List.mem_of_getElem? hy)⟩
end
end Go.Proofs.Ytdfifcgpjeojlaa

namespace Go.Proofs.Ytdfifcgpjeojlaa
open Go.RowKit

theorem KeepX.blk {X Y : List Nat} {W W' : World} (h : KeepX X Y W W') {k : Nat} (hk : k ∈ Y) {cs : Array Value} {t : TypeId} (hX : Blk W k cs t) : Blk W' k cs t := (h.eq k (.inr hk)).trans hX
theorem neI (W : World) (i j : Nat) (z : Int) : ((do eqGuard .neq 3 (.tmp i) (.tmp j) (.int .i64 z) (.int .i64 z); binOp .neq 3 (.int .i64 z) (.int .i64 z)) : Sem Value).run Try.prog W = .ok (.bool false) W := by
  go_simp
theorem eqII (W : World) (i j : Nat) (z : Int) : ((do eqGuard .eql 3 (.tmp i) (.tmp j) (.int .i64 z) (.int .i64 z); binOp .eql 3 (.int .i64 z) (.int .i64 z)) : Sem Value).run Try.prog W = .ok (.bool true) W := by
  go_simp
/-- An act, its parcel's bytes told beside it. -/
structure Ap where
  a : Ac
  b : List UInt8
abbrev Ap.cells (x : Ap) : Array Value := x.a.cells
abbrev Ap.fl (x : Ap) : Fl := ⟨x.a.f, x.a.t, x.a.A, x.a.n, x.a.c, false, x.b⟩
/-- .. and in memory. -/
def ApF (W : World) (x : Ap) : Prop := RdB W.heap.size W x.a.A x.b ∧ x.b.length = x.a.n ∧ (x.a.A = none → x.a.n = 0 ∧ x.a.c = 0)
theorem ApF.fl {W W' : World} {x : Ap} (h : ApF W x) (hb : Below W.heap.size W W') (hn : x.a.n ≤ 100) : FlIn W' x.fl := ⟨(h.1.keep hb (Nat.le_refl _)).more hb.size, h.2.1, h.2.2, by show x.a.n ≤ 1000000; omega⟩
theorem ApF.far {W : World} {x : Ap} (h : ApF W x) : x.fl.b ≠ [] → ∀ ad, x.fl.A = some ad → ad.block < W.heap.size := fun hne ad ha => by
  have h1 := h.1
  cases hb : x.b with
  | nil => exact absurd hb hne
  | cons y r =>
    rw [hb] at h1
    obtain ⟨ad2, he, hl, _⟩ := h1 0 y rfl
    rw [show x.a.A = some ad from ha] at he
    injection he with he
    subst he
    exact hl
theorem ldPQ {W : World} {q : Nat} {a : Ac} {t : TypeId} (h : Blk W q a.cells t) : (Instr.loadAt 29 (.pointer (some ⟨q, 3, none⟩))).run Try.prog W = .ok (.agg #[.int .i64 a.f, .int .i64 a.t, .slice a.A a.n a.c]) W := by
  have c3 := h.cell 3
  have c4 := h.cell 4
  have c5 := h.cell 5
  clear h
  go_simp
theorem pf2Q (W : World) (q : Nat) : (Instr.fieldAt 29 (.pointer (some ⟨q, 3, none⟩)) 2).run Try.prog W = .ok (.pointer (some ⟨q, 5, none⟩)) W := pf2A W q 3
theorem cvUA (W : World) (i : Int) : (convert 3 52 (.int .i64 i)).run Try.prog W = .ok (.int .u64 (((i % 18446744073709551616).toNat : Nat) : Int)) W := by
  rw [Int.toNat_of_nonneg (Int.emod_nonneg _ (by decide)), ← IntKind.wrap_u64]
  go_simp
theorem remUA (W : World) (t z : Nat) (hz : z < 18446744073709551616) : ((do eqGuard .rem 52 (.tmp t) (.const (.int .u64 250)) (.int .u64 (z : Int)) (.int .u64 250); binOp .rem 52 (.int .u64 (z : Int)) (.int .u64 250)) : Sem Value).run Try.prog W = .ok (.int .u64 ((z % 250 : Nat) : Int)) W := by
  have e : ((z % 250 : Nat) : Int) = (z : Int) % 250 := by omega
  have e2 : (z : Int).tmod 250 = (z : Int) % 250 := Int.tmod_eq_emod_of_nonneg (by omega)
  have e3 : IntKind.u64.wrap ((z : Int) % 250) = (z : Int) % 250 := by rw [IntKind.wrap_u64]; omega
  rw [e]
  clear e
  go_simp
theorem cvUI (W : World) (z : Nat) (h : z ≤ 1000) : (convert 52 3 (.int .u64 (z : Int))).run Try.prog W = .ok (.int .i64 (z : Int)) W := by
  have hw : IntKind.i64.wrap (z : Int) = z := by unfold IntKind.wrap; simp [IntKind.bits, IntKind.signed]; omega
  go_simp
/-- The block of a row that isn't empty. -/
def oB (A : Option Addr) (n : Nat) : List Nat := match A with | some a => if n = 0 then [] else [a.block] | none => []
/-- Bytes of the law's own. -/
def OB (Y : List Nat) (W : World) (A : Option Addr) (n c : Nat) (bs : List UInt8) : Prop := 0 < n → ∃ g, A = some ⟨g, 0, none⟩ ∧ g ∈ Y ∧ OwnB 0 W (some ⟨g, 0, none⟩) n c bs
section
variable {base p : Nat} {w wr w2 : World} {a b : List Pc} {B : Option Addr} {m d : Nat} {X Y : List Nat}
theorem KX.addYs (h : KX base p w wr a B m d b X Y) (hb : Below wr.heap.size wr w2) {Z : List Nat} (hz : ∀ k, k ∈ Z → wr.heap.size ≤ k ∧ k < w2.heap.size) : KX base p w w2 a B m d b X (Z ++ Y) := by
  induction Z with
  | nil => exact h.keep hb
  | cons k r ih =>
    have h1 := ih (fun j hj => hz j (List.mem_cons_of_mem _ hj))
    obtain ⟨A, n, c, l, ds, h2, ea, eb, hB⟩ := h1
    have h3 := hz k (List.mem_cons_self ..)
    have hh := h
    obtain ⟨A0, n0, c0, l0, ds0, g2, ga, gb, gB⟩ := hh
    have g3 := (g2.addY hb h3.1 h3.2)
    refine ⟨A0, n0, c0, l0, ds0, ⟨g3.air, g3.ref, g3.off, g3.okA, g3.okR, g3.hp, g3.hb, g3.hX, fun j hj => ?_⟩, ga, gb, gB.trans (hb.mono g2.hb)⟩
    rcases List.mem_append.1 hj with hj | hj
    · have h4 := hz j hj
      have := (g2.addY hb h4.1 h4.2).hY j (List.mem_cons_self ..)
      exact this
    · exact g3.hY j (List.mem_cons_of_mem _ hj)
theorem oB_mem {A : Option Addr} {n k : Nat} (h : k ∈ oB A n) : 0 < n ∧ ∃ a, A = some a ∧ a.block = k := by
  unfold oB at h
  cases hA : A with
  | none => rw [hA] at h; cases h
  | some ad =>
    rw [hA] at h
    dsimp only at h
    by_cases hb : n = 0
    · rw [if_pos hb] at h
      cases h
    · rw [if_neg hb, List.mem_singleton] at h
      exact ⟨by omega, ad, rfl, h.symm⟩
/-- A new row of bytes stands beside. -/
theorem KX.own (h : KX base p w wr a B m d b X Y) (hb : Below wr.heap.size wr w2) {A : Option Addr} {n c : Nat} {bs : List UInt8} (hO : OwnB wr.heap.size w2 A n c bs) : KX base p w w2 a B m d b X (oB A n ++ Y) ∧ OB (oB A n ++ Y) w2 A n c bs := by
  refine ⟨h.addYs hb (fun k hk => ?_), fun hn => ?_⟩
  · obtain ⟨_, ad, hA, rfl⟩ := oB_mem hk
    exact hO.blk hA
  · obtain ⟨g, rfl, h1, h2⟩ := hO.form hn
    refine ⟨g, rfl, List.mem_append_left _ ?_, hO.less (Nat.zero_le _)⟩
    unfold oB
    dsimp only
    rw [if_neg (by omega)]
    exact List.mem_singleton_self _
theorem OB.keep {W W' : World} {A : Option Addr} {n c : Nat} {bs : List UInt8} (h : OB Y W A n c bs) (hK : KeepX X Y W W') : OB Y W' A n c bs := fun hn => by
  obtain ⟨g, hA, hg, hO⟩ := h hn
  exact ⟨g, hA, hg, own_blkA hO (hK.eq g (.inr hg))⟩
theorem KX.writeK (h : KX base p w wr a B m d b X Y) {k : Nat} (hk : k ∈ Y) (ho : Only1 k wr w2) {j : Nat} (hj : j ≠ k) : w2.heap[j]? = wr.heap[j]? := ho.block j hj
end
theorem OB.only {Y : List Nat} {W W' : World} {A : Option Addr} {n c k : Nat} {bs : List UInt8} {cs : Array Value} {t : TypeId} (h : OB Y W A n c bs) (hX : Blk W k cs t) (ht : t ≠ 5) (ho : Only1 k W W') : OB Y W' A n c bs := fun hn => by
  obtain ⟨g, hA, hg, hO⟩ := h hn
  obtain ⟨cs2, h2⟩ := hO.blkT rfl
  exact ⟨g, hA, hg, own_blkA hO (ho.block g (h2.neT hX (fun e => ht e.symm)))⟩
theorem OB.fl {Y : List Nat} {W : World} {A : Option Addr} {n c : Nat} {bs : List UInt8} (h : OB Y W A n c bs) (hl : bs.length = n) (hz : A = none → n = 0 ∧ c = 0) (hn : n ≤ 100) (f t : Int) : FlIn W ⟨f, t, A, n, c, false, bs⟩ := by
  refine ⟨?_, hl, hz, by show n ≤ 1000000; omega⟩
  by_cases h0 : 0 < n
  · obtain ⟨g, hA, hg, hO⟩ := h h0
    show RdB W.heap.size W A bs
    rw [hA]
    exact hO.rd
  · have e : bs = [] := List.length_eq_zero_iff.1 (by omega)
    subst e
    exact RdB.nil _ _ _
theorem OwnB.nilOr {base n c : Nat} {W : World} {A : Option Addr} {l : List UInt8} (h : OwnB base W A n c l) : A = none → n = 0 ∧ c = 0 := fun e => by
  subst e
  exact h.nilOf
theorem pldP {W : World} {ad : Addr} {k : Nat} {x : Fl} (hc : ∀ j v, x.parcel[j]? = some v → W.cell? (ad.add (k * 3 + j)) = some v) : (Instr.loadAt 29 (.pointer (some (ad.add (k * 3))))).run Try.prog W = .ok (.agg x.parcel) W := by
  have c0 := hc 0 (.int .i64 x.f) rfl
  rw [Nat.add_zero] at c0
  have c1 := hc 1 (.int .i64 x.t) rfl
  have c2 := hc 2 (.slice x.A x.n x.c) rfl
  rw [addX_at] at c1 c2
  clear hc
  go_simp
theorem blk_of_setB {base g n c : Nat} {W W' : World} {l : List UInt8} {cs : Array Value} (h : OwnB base W (some ⟨g, 0, none⟩) n c l) (hX : Blk W g cs 5) (j : Nat) (x : UInt8) (hX' : Blk W' g (cs.setIfInBounds j (.int .u8 (x.toNat : Int))) 5) : OwnB base W' (some ⟨g, 0, none⟩) n c (l.set j x) :=
  own_blkA (h.set j x) (hX'.trans (blk_of_set hX j (.int .u8 (x.toNat : Int))).symm)
/-- What Parcels answered, from the i-th on as it was. -/
structure LI (s0 gl m : Nat) (zs : List Fl) (i : Nat) (wT wr : World) : Prop where
  row : OwnX 29 3 s0 wr (some ⟨gl, 0, none⟩) m m (zs.map Fl.parcel)
  byt : ∀ j z, i ≤ j → zs[j]? = some z → OwnB s0 wr z.A z.n z.c z.b
  bel : Below s0 wT wr
theorem LI.keep {s0 gl m i : Nat} {zs : List Fl} {wT wr w2 : World} (h : LI s0 gl m zs i wT wr) (hs : s0 ≤ wr.heap.size) (hb : Below wr.heap.size wr w2) : LI s0 gl m zs i wT w2 :=
  ⟨h.row.keep hb, fun j z hj hz => (h.byt j z hj hz).keep hb, h.bel.trans (hb.mono hs)⟩
theorem LI.next {s0 gl m i : Nat} {zs : List Fl} {wT wr : World} (h : LI s0 gl m zs i wT wr) : LI s0 gl m zs (i + 1) wT wr := ⟨h.row, fun j z hj hz => h.byt j z (by omega) hz, h.bel⟩
theorem LI.write {s0 gl m i g : Nat} {zs : List Fl} {wT wr w2 : World} (h : LI s0 gl m zs (i + 1) wT wr) (hD : zs.Pairwise Apt) {z : Fl} (hz : zs[i]? = some z) (hA : z.A = some ⟨g, 0, none⟩) (hg : s0 ≤ g) {cs : Array Value} (hX : Blk wr g cs 5) (ho : Only1 g wr w2) : LI s0 gl m zs (i + 1) wT w2 := by
  refine ⟨⟨own_blkA h.row.1 (ho.block gl ?_), h.row.2⟩, fun j z' hj hz' => ?_, h.bel.trans (ho.below hg)⟩
  · obtain ⟨cs2, hcs2⟩ := h.row.blkT rfl
    exact hcs2.neT hX (by decide)
  · refine World.ownsRow.kept (h.byt j z' hj hz') (only_grown ho) ?_
    have ha := apt_at hD hz' hz (by omega)
    cases hA2 : z'.A with
    | none => simp [Value.ownBlock]
    | some a =>
      right
      intro e
      simp only [Value.ownBlock, Option.some.injEq] at e
      exact ha a ⟨g, 0, none⟩ hA2 hA e
end Go.Proofs.Ytdfifcgpjeojlaa

namespace Go.Proofs.Ytdfifcgpjeojlaa
open Go.RowKit Go.WideShapes Go.ChangeShapes

section
open Go.Joins Go.Deep
variable {H : Type} {enc : TypeId × Value → H}
set_option maxRecDepth 100000 in
theorem open_byA {t : TypeId} (ht : Try.prog.underlying t = some (.slice 5)) {W : World} {base : Nat} {spare : Nat → Bool} {held : Bool} {fuel : Nat} {v : Value} {y : DataW H × List MemPlace} (hf : DataW.trod enc Try.prog W base spare held fuel t [v] = some y) :
    ∃ (A : Option Addr) (n c : Nat) (l : List UInt8), v = .slice A n c ∧ l.length = n ∧ RdB W.heap.size W A l ∧ (A = none → n = 0 ∧ c = 0) := by
  rcases open_ints ht Try.underlying5 cellsB1 hf with ⟨hcs, _⟩ | ⟨a, n, c, zs, hcs, _, hl, hm, hmm, _, hcell, hwf⟩
  · simp at hcs
    subst hcs
    exact ⟨none, 0, 0, [], rfl, rfl, RdB.nil _ _ _, fun _ => ⟨rfl, rfl⟩⟩
  · simp at hcs
    subst hcs
    have hle : n ≤ zs.length := by
      rw [hmm]
      first
        | omega
        | (split <;> omega)
    refine ⟨some a, n, c, (zs.take n).map (fun z => UInt8.ofNat z.toNat), rfl, by rw [List.length_map, List.length_take]; omega, fun k x hx => ?_, fun h => nomatch h⟩
    have hk : k < n := by
      have := (List.getElem?_eq_some_iff.1 hx).1
      rw [List.length_map, List.length_take] at this
      omega
    have hkz : k < zs.length := by omega
    have hc := hcell k hkz
    have e : zs.getD k 0 = zs[k] := by rw [List.getD_eq_getElem?_getD, List.getElem?_eq_getElem hkz]; rfl
    rw [List.getElem?_map, List.getElem?_take, if_pos hk, List.getElem?_eq_getElem hkz] at hx
    injection hx with hx
    subst hx
    have hb := World.block_lt_of_cell? W _ hc
    rw [add_block] at hb
    refine ⟨a, rfl, hb, ?_⟩
    rw [hc, e]
    have := wf_u8 (hwf zs[k] (List.getElem_mem hkz))
    rw [← this]
set_option maxRecDepth 100000 in
theorem open_apK {W : World} {base : Nat} {spare : Nat → Bool} {held : Bool} {fuel : Nat} {cs : List Value} {y : DataW H × List MemPlace} (hl : cs.length = 6) (h : DataW.trod enc Try.prog W base spare held fuel 31 cs = some y) : ∃ x : Ap, cs = x.cells.toList ∧ ApF W x :=
  match cs, hl with
  | [c0, c1, c2, c3, c4, c5], _ => by
    obtain ⟨m, ⟨y0, h0⟩, ⟨y1, h1⟩, ⟨y2, h2⟩, ⟨y3, h3⟩⟩ := trod_struct4K Try.underlying31 h
    simp only [cellsIK, cellsPK, List.drop_zero, List.drop_succ_cons, List.take_succ_cons, List.take_zero] at h0 h1 h2 h3
    obtain ⟨k0, q0, _, _⟩ := DataW.trod_int Try.underlying3 h0
    obtain ⟨k1, q1, _, _⟩ := DataW.trod_int Try.underlying3 h1
    obtain ⟨k2, q2, _, _⟩ := DataW.trod_int Try.underlying3 h2
    obtain ⟨m2, ⟨z0, g0⟩, ⟨z1, g1⟩, ⟨z2, g2⟩⟩ := trod_struct3K Try.underlying29 h3
    simp only [cellsIK, cellsBK, List.drop_zero, List.drop_succ_cons, List.take_succ_cons, List.take_zero] at g0 g1 g2
    obtain ⟨k3, q3, _, _⟩ := DataW.trod_int Try.underlying3 g0
    obtain ⟨k4, q4, _, _⟩ := DataW.trod_int Try.underlying3 g1
    simp at q0 q1 q2 q3 q4
    subst q0 q1 q2 q3 q4
    obtain ⟨A, n, c, l, rfl, hn, hr, hz⟩ := open_byA Try.underlying27 g2
    exact ⟨⟨⟨k0, k1, k2, k3, k4, A, n, c⟩, l⟩, rfl, hr, hn, hz⟩
set_option maxRecDepth 100000 in
theorem open_actsP {t : TypeId} (ht : Try.prog.underlying t = some (.slice 31)) {W : World} {r : Reach} {b0 : Nat} {v : Value} {d : DataW H} {p : List MemPlace} (hv : Value.okWide Try.prog W r b0 t v) (h : DataW.Trod enc Try.prog W 0 (fun _ => true) true t v d p) :
    ∃ (A : Option Addr) (n c : Nat) (l : List Ap), v = .slice A n c ∧ l.length = n ∧ RdX 6 W.heap.size W A (l.map Ap.cells) ∧ ∀ x, x ∈ l → ApF W x := by
  obtain ⟨A, n, c, l, h1, h2, h3, _, h4⟩ := open_rowK Ap.cells (ApF W) ⟨⟨0, 0, 0, 0, 0, none, 0, 0⟩, []⟩ (by omega) (fun _ => rfl) ht cellsAcK (fun hl h => open_apK hl h) hv h
  exact ⟨A, n, c, l, h1, h2, h3, h4⟩
end
end Go.Proofs.Ytdfifcgpjeojlaa

namespace Go.Proofs.Ytdfifcgpjeojlaa
open Go.RowKit

theorem en_spinney_air_Air_Lose : ∀ args w, (callFunc 16 args).run Try.prog w = .ok (.enter 16 args) w := enters_of Try.func16 (by kernel_rfl) rfl
theorem en_spinney_air_Air_Parcels : ∀ args w, (callFunc 20 args).run Try.prog w = .ok (.enter 20 args) w := enters_of Try.func20 (by kernel_rfl) rfl
theorem en_spinney_spinneyref22_Take : ∀ args w, (callFunc 15 args).run Try.prog w = .ok (.enter 15 args) w := enters_of Try.func15 (by kernel_rfl) rfl
theorem en_spinney_spinneyref22_Double : ∀ args w, (callFunc 18 args).run Try.prog w = .ok (.enter 18 args) w := enters_of Try.func18 (by kernel_rfl) rfl
theorem en_spinney_spinneyref22_Turn : ∀ args w, (callFunc 19 args).run Try.prog w = .ok (.enter 19 args) w := enters_of Try.func19 (by kernel_rfl) rfl
theorem en_spinney_spinneylaw22_same : ∀ args w, (callFunc 17 args).run Try.prog w = .ok (.enter 17 args) w := enters_of Try.func17 (by kernel_rfl) rfl
theorem en_spinney_spinneylaw22_parcel : ∀ args w, (callFunc 14 args).run Try.prog w = .ok (.enter 14 args) w := enters_of Try.func14 (by kernel_rfl) rfl
/-- The block of a number. -/
def blkOf (n : Nat) : Code → Option Code
  | .block i b => if i = n then some (.block i b) else blkOf n b
  | .seq a b => match blkOf n a with | some c => some c | none => blkOf n b
  | .cond _ a b => match blkOf n a with | some c => some c | none => blkOf n b
  | .loop b => blkOf n b
  | _ => none
end Go.Proofs.Ytdfifcgpjeojlaa
