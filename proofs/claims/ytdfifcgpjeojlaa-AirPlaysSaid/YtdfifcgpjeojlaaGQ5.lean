/-
  WHAT IS PROVED: words for package air's Turn: bits of a byte, a cell of a row set, the air with one flight turned. Conditions: those typed in each theorem. · package air's Turn: what it answers and leaves. Conditions: those typed in each theorem. · the law's bits counts the bits in which two rows of bytes differ. Conditions: those typed in each theorem. · string(..) of bytes that are read (own work); over any program that bears the types named. · the law's awake answers true. Conditions: those typed in each theorem.
-/
import Derived.Test.YtdfifcgpjeojlaaGQ4
import Derived.Test.YtdfifcgpjeojlaaGQ0
import Derived.Lib.SmallJoins
namespace Go.Proofs.Ytdfifcgpjeojlaa
open Go.RowKit

/-- The k-th bit alone. -/
def bitA (k : Nat) : UInt8 := UInt8.ofNat (2 ^ k)
theorem quoA (W : World) (t k : Nat) (h : k ≤ 1000000) : ((do eqGuard .quo 3 (.tmp t) (.const (.int .i64 8)) (.int .i64 k) (.int .i64 8); binOp .quo 3 (.int .i64 k) (.int .i64 8)) : Sem Value).run Try.prog W = .ok (.int .i64 ((k / 8 : Nat) : Int)) W := by
  have hw : IntKind.i64.wrap ((k / 8 : Nat) : Int) = ((k / 8 : Nat) : Int) := by unfold IntKind.wrap; simp [IntKind.bits, IntKind.signed]; omega
  have e : ((k / 8 : Nat) : Int) = (k : Int) / 8 := by omega
  rw [e] at hw ⊢
  clear e
  go_simp
theorem remA (W : World) (t k : Nat) : ((do eqGuard .rem 3 (.tmp t) (.const (.int .i64 8)) (.int .i64 k) (.int .i64 8); binOp .rem 3 (.int .i64 k) (.int .i64 8)) : Sem Value).run Try.prog W = .ok (.int .i64 ((k % 8 : Nat) : Int)) W := by
  have e : ((k % 8 : Nat) : Int) = (k : Int) % 8 := by omega
  have e2 : (k : Int).tmod 8 = (k : Int) % 8 := Int.tmod_eq_emod_of_nonneg (by omega)
  rw [e]
  clear e
  go_simp
theorem mulA (W : World) (t n : Nat) (h : n ≤ 1000000) : ((do eqGuard .mul 3 (.const (.int .i64 8)) (.tmp t) (.int .i64 8) (.int .i64 (n : Int)); binOp .mul 3 (.int .i64 8) (.int .i64 (n : Int))) : Sem Value).run Try.prog W = .ok (.int .i64 ((8 * n : Nat) : Int)) W := by
  have e : IntKind.i64.wrap (8 * (n : Int)) = ((8 * n : Nat) : Int) := by rw [IntKind.wrap_i64]; omega
  have e2 : wrap64 (8 * (n : Int)) = ((8 * n : Nat) : Int) := by
    unfold wrap64
    omega
  first
    | (simp [eqGuard, binOp, go_sem, e, e2]; done)
    | (go_simp; simp [e, e2])
theorem shlA (W : World) (t k : Nat) (h : k < 8) : ((do eqGuard .shl 5 (.const (.int .u8 1)) (.tmp t) (.int .u8 1) (.int .i64 k); binOp .shl 5 (.int .u8 1) (.int .i64 k)) : Sem Value).run Try.prog W = .ok (.int .u8 ((bitA k).toNat : Int)) W := by
  rcases (by omega : k = 0 ∨ k = 1 ∨ k = 2 ∨ k = 3 ∨ k = 4 ∨ k = 5 ∨ k = 6 ∨ k = 7) with rfl | rfl | rfl | rfl | rfl | rfl | rfl | rfl <;> kernel_rfl
theorem xorA (W : World) (t t2 : Nat) (a b : UInt8) : ((do eqGuard .xor 5 (.tmp t) (.tmp t2) (.int .u8 (a.toNat : Int)) (.int .u8 (b.toNat : Int)); binOp .xor 5 (.int .u8 (a.toNat : Int)) (.int .u8 (b.toNat : Int))) : Sem Value).run Try.prog W = .ok (.int .u8 ((a ^^^ b).toNat : Int)) W := by
  have e := u8_xor_nat a.toNat b.toNat a.toNat_lt b.toNat_lt
  have e2 : (a ^^^ b).toNat = a.toNat ^^^ b.toNat := UInt8.toNat_xor a b
  rw [e2]
  clear e2
  go_simp
theorem bixA (W : World) (g n c k : Nat) (h : k < n) : (Instr.indexAt 27 (.slice (some ⟨g, 0, none⟩) n c) (.int .i64 (k : Int))).run Try.prog W = .ok (.pointer (some ⟨g, k, none⟩)) W := by
  have i1 : (0 : Int) ≤ (k : Int) := by omega
  have i2 : (k : Int) < (n : Int) := by omega
  have e : (⟨g, 0, none⟩ : Addr).add k = ⟨g, k, none⟩ := addA g k
  go_simp
theorem ld_u8A {W : World} {a : Addr} {c : Int} (h : W.cell? a = some (.int .u8 c)) : (Instr.loadAt 5 (.pointer (some a))).run Try.prog W = .ok (.int .u8 c) W := by
  go_simp
theorem ld_boA {W : World} {a : Addr} {c : Bool} (h : W.cell? a = some (.bool c)) : (Instr.loadAt 4 (.pointer (some a))).run Try.prog W = .ok (.bool c) W := by
  go_simp
theorem st_u8A {W : World} {b j : Nat} {u : Value} (hu : W.cell? ⟨b, j, none⟩ = some u) (hf : W.frozen? ⟨b, j, none⟩ = false) (n : Int) : (Instr.storeAt 5 (.pointer (some ⟨b, j, none⟩)) (.int .u8 n)).run Try.prog W = .ok () (W.setCell ⟨b, j, none⟩ (.int .u8 n)) := by
  go_simp
theorem st_boA {W : World} {b j : Nat} {cs : Array Value} {T : TypeId} (hX : Blk W b cs T) (hj : j < cs.size) (c : Bool) : (Instr.storeAt 4 (.pointer (some ⟨b, j, none⟩)) (.bool c)).run Try.prog W = .ok () (W.setCell ⟨b, j, none⟩ (.bool c)) := by
  obtain ⟨u, hu⟩ := blk_some hX hj
  have hf := hX.free j
  clear hX
  go_simp
theorem ff3A (W : World) (g o : Nat) : (Instr.fieldAt 62 (.pointer (some ⟨g, o, none⟩)) 1).run Try.prog W = .ok (.pointer (some ⟨g, o + 3, none⟩)) W := by
  first
    | kernel_rfl
    | go_simp
theorem pf2A (W : World) (g o : Nat) : (Instr.fieldAt 29 (.pointer (some ⟨g, o, none⟩)) 2).run Try.prog W = .ok (.pointer (some ⟨g, o + 2, none⟩)) W := by
  first
    | kernel_rfl
    | go_simp
theorem celV_set {z : Nat} : ∀ (l : List (Array Value)), Szd z l → ∀ (k j : Nat) (cs : Array Value) (v : Value), l[k]? = some cs → j < z → (celV l).set (k * z + j) v = celV (l.set k (cs.setIfInBounds j v))
  | [], _, k, j, cs, v, h, _ => by simp at h
  | a :: t, hs, 0, j, cs, v, h, hj => by
    have e : a = cs := by simpa using h
    subst e
    have h1 := hs a (List.mem_cons_self ..)
    show (a.toList ++ celV t).set (0 * z + j) v = (a.setIfInBounds j v).toList ++ celV t
    rw [Nat.zero_mul, Nat.zero_add, List.set_append_left _ _ (by rw [Array.length_toList]; omega), Array.toList_setIfInBounds]
  | a :: t, hs, k + 1, j, cs, v, h, hj => by
    have h1 := hs a (List.mem_cons_self ..)
    have h2 : t[k]? = some cs := by simpa using h
    have ih := celV_set t (fun cs hc => hs cs (List.mem_cons_of_mem _ hc)) k j cs v h2 hj
    show (a.toList ++ celV t).set ((k + 1) * z + j) v = a.toList ++ celV (t.set k (cs.setIfInBounds j v))
    rw [Nat.succ_mul, List.set_append_right _ _ (by rw [Array.length_toList, h1]; omega), Array.length_toList, h1, show k * z + z + j - z = k * z + j by omega, ih]
/-- A flight turned at a bit. -/
abbrev Fl.turn (x : Fl) (q : Nat) : Fl := ⟨x.f, x.t, x.A, x.n, x.c, true, x.b.set (q / 8) ((x.b.getD (q / 8) 0) ^^^ bitA (q % 8))⟩
theorem Fl.turn_cells (x : Fl) (q : Nat) : (x.turn q).cells = x.cells.setIfInBounds 3 (.bool true) := rfl
theorem apt_set {l : List Fl} (h : l.Pairwise Apt) {k : Nat} {x y : Fl} (hx : l[k]? = some x) (he : y.A = x.A) : (l.set k y).Pairwise Apt := by
  have e : (l.set k y).map Fl.A = l.map Fl.A := by
    rw [List.map_set, he]
    apply List.ext_getElem?
    intro i
    by_cases hi : k = i
    · subst hi
      have h1 : k < l.length := (List.getElem?_eq_some_iff.1 hx).1
      rw [List.getElem?_set_self (by simpa using h1), List.getElem?_map, hx]
      rfl
    · rw [List.getElem?_set_ne hi]
  have h2 : (l.map Fl.A).Pairwise (fun A B => ∀ a a', A = some a → B = some a' → a.block ≠ a'.block) := List.pairwise_map.2 h
  rw [← e] at h2
  have h3 := (List.pairwise_map (R := fun A B : Option Addr => ∀ a a', A = some a → B = some a' → a.block ≠ a'.block) (f := Fl.A)).1 h2
  exact h3
theorem apt_at {l : List Fl} (h : l.Pairwise Apt) {i j : Nat} {x y : Fl} (hx : l[i]? = some x) (hy : l[j]? = some y) (hne : i ≠ j) : Apt x y := by
  obtain ⟨hi, ei⟩ := List.getElem?_eq_some_iff.1 hx
  obtain ⟨hj, ej⟩ := List.getElem?_eq_some_iff.1 hy
  have hp := List.pairwise_iff_getElem.1 h
  rcases Nat.lt_or_gt_of_ne hne with g | g
  · have := hp i j hi hj g
    rwa [ei, ej] at this
  · have h2 := hp j i hj hi g
    rw [ei, ej] at h2
    exact fun a a' ha ha' e => h2 a' a ha' ha e.symm
end Go.Proofs.Ytdfifcgpjeojlaa

namespace Go.Proofs.Ytdfifcgpjeojlaa
open Go.RowKit

theorem own_blkA {t : TypeId} {z base g n c : Nat} {W W' : World} {xs : List Value} (h : W.ownsRow base t z (.slice (some ⟨g, 0, none⟩) n c) n xs) (e : W'.heap[g]? = W.heap[g]?) : W'.ownsRow base t z (.slice (some ⟨g, 0, none⟩) n c) n xs := by
  refine ⟨h.1, ?_⟩
  rcases h.2 with ⟨hv, _⟩ | ⟨g', cap, cur, hv, hb, hg, h1, h2, h3, h4⟩
  · cases hv
  · injection hv with e1 _ e2
    injection e1 with e1
    injection e1 with e1
    subst e1 e2
    exact .inr ⟨g, c, cur, rfl, hb, e.trans hg, h1, h2, h3, h4⟩
theorem own_cur {t : TypeId} {z base g n c : Nat} {W : World} {xs : List Value} (h : W.ownsRow base t z (.slice (some ⟨g, 0, none⟩) n c) n xs) : ∃ cur, Blk W g cur t ∧ cur.size = c * z := by
  rcases h.2 with ⟨hv, _⟩ | ⟨g', cap, cur, hv, hb, hg, h1, h2, h3, h4⟩
  · cases hv
  · injection hv with e1 _ e2
    injection e1 with e1
    injection e1 with e1
    subst e1 e2
    exact ⟨cur, hg, h3⟩
set_option maxRecDepth 100000 in
set_option maxHeartbeats 4000000 in
theorem turn_none (base p : Nat) (A : Option Addr) (c : Nat) (l : List Fl) (i bit : Int) (w : World) (h : AirM base p w A 0 c l) : Calls Try.prog 9 #[.pointer (some ⟨p, 0, none⟩), .int .i64 i, .int .i64 bit] w fun e w' => e = .returned (.int .i64 5) ∧ w' = w := by
  have cP := place_none base p A c l i w h
  clear h
  go_enter Try.func9, Try.ntmps9
  go_wp2_with fail
  refine cP.mono ?_
  rintro e w2 ⟨rfl, rfl⟩
  go_wp2_with fail
  go_ret
  exact ⟨rfl, rfl⟩
set_option maxRecDepth 100000 in
set_option maxHeartbeats 4000000 in
theorem turn_twice (base p g n c : Nat) (l : List Fl) (i bit : Int) (x : Fl) (w : World) (h : AirM base p w (some ⟨g, 0, none⟩) n c l) (h0 : 0 < n) (h4 : n ≤ 400) (hx : l[modA i n]? = some x) (hu : x.u = true) : Calls Try.prog 9 #[.pointer (some ⟨p, 0, none⟩), .int .i64 i, .int .i64 bit] w fun e w' => e = .returned (.int .i64 6) ∧ w' = w := by
  have hlt := modA_lt i h0
  have hc' : ∀ j v, x.cells[j]? = some v → w.cell? ⟨g, modA i n * 4 + j, none⟩ = some v := by
    obtain ⟨ad', x', hA', hx', hc⟩ := h.at hlt
    injection hA' with hA'
    subst hA'
    have ex : x' = x := by
      rw [hx] at hx'
      injection hx' with hx'
      exact hx'.symm
    subst ex
    intro j v hv
    have := hc j v hv
    rwa [addA] at this
  have cP := place_some base p (some ⟨g, 0, none⟩) n c l i w h h0 (by omega)
  have l0 := ld_air h.blk
  have f0 := far0 w p
  have x1 := fix w ⟨g, 0, none⟩ n c _ hlt
  rw [addA] at x1
  have f1 := ff3A w g (modA i n * 4)
  have l1 := ld_boA (c := true) (show w.cell? ⟨g, modA i n * 4 + 3, none⟩ = some (.bool true) by
    have h3 := hc' 3 (.bool x.u) rfl
    rw [hu] at h3
    exact h3)
  go_enter Try.func9, Try.ntmps9
  go_upto_region 1 with fail
  refine wp_region_lit ?_
  refine fl_start ?_
  generalize ha : Act.mk _ _ = a0
  have hn : a0.tmps.size = 65 := by rw [← ha]; kernel_rfl
  have h0 : (fr a0 []).eval (.tmp 0) = .pointer (some ⟨p, 0, none⟩) := by rw [← ha]; kernel_rfl
  refine fl_know hn rfl h0 ?_
  clear h0
  have h1 : (fr a0 [(0, true, .pointer (some ⟨p, 0, none⟩))]).eval (.tmp 1) = .int .i64 i := by rw [← ha]; kernel_rfl
  refine fl_know hn rfl h1 ?_
  clear h1
  refine g_mv hn ?_
  refine g_mv hn ?_
  refine g_c2x en_spinney_air_Air_place hn (R := fun v w2 => v = .tuple #[.int .i64 (modA i n : Nat), .int .i64 0] ∧ w = w2) (cP.mono fun _ _ ⟨he, hw⟩ => ⟨_, he, rfl, hw.symm⟩) ?_
  rintro v w2 ⟨rfl, hw2⟩
  subst hw2
  refine g_mv hn ?_
  refine g_ex hn ?_
  refine g_ex hn ?_
  refine g_as hn ?_
  refine g_as hn ?_
  refine fl_end ?_
  clear hn cP
  subst ha
  dsimp only [fr, cnd, Act.put, cond_true]
  simp only [List.setIfInBounds_toArray, List.set_cons_zero, List.set_cons_succ]
  go_upto_region 4 with fail
  refine wp_region_lit ?_
  refine fl_start ?_
  generalize ha : Act.mk _ _ = a0
  have hn : a0.tmps.size = 65 := by rw [← ha]; kernel_rfl
  have h0 : (fr a0 []).eval (.tmp 0) = .pointer (some ⟨p, 0, none⟩) := by rw [← ha]; kernel_rfl
  refine fl_know hn rfl h0 ?_
  clear h0
  have h7 : (fr a0 [(0, true, .pointer (some ⟨p, 0, none⟩))]).eval (.tmp 7) = .int .i64 (modA i n : Nat) := by rw [← ha]; kernel_rfl
  refine fl_know hn rfl h7 ?_
  clear h7
  refine g_mv hn ?_
  refine g_nc hn ?_
  refine g_fd hn ?_
  refine g_ld hn ?_
  refine g_mv hn ?_
  refine g_ix hn ?_
  refine g_as hn ?_
  refine fl_end ?_
  clear hn l0 f0 x1
  subst ha
  dsimp only [fr, cnd, Act.put, cond_true]
  simp only [List.setIfInBounds_toArray, List.set_cons_zero, List.set_cons_succ]
  go_upto_region 5 with fail
  refine wp_region_lit ?_
  refine fl_start ?_
  generalize ha : Act.mk _ _ = a0
  have hn : a0.tmps.size = 65 := by rw [← ha]; kernel_rfl
  have h9 : (fr a0 []).eval (.tmp 9) = .pointer (some ⟨g, modA i n * 4, none⟩) := by rw [← ha]; kernel_rfl
  refine fl_know hn rfl h9 ?_
  clear h9
  refine g_mv hn ?_
  refine g_nc hn ?_
  refine g_fd hn ?_
  refine g_ld hn ?_
  refine g_as hn ?_
  refine fl_end ?_
  clear hn f1 l1
  subst ha
  dsimp only [fr, cnd, Act.put, cond_true]
  simp only [List.setIfInBounds_toArray, List.set_cons_zero, List.set_cons_succ]
  go_wp2_with fail
  go_ret
  exact ⟨rfl, rfl⟩
set_option maxRecDepth 100000 in
set_option maxHeartbeats 4000000 in
theorem turn_empty (base p g n c : Nat) (l : List Fl) (i bit : Int) (x : Fl) (w : World) (h : AirM base p w (some ⟨g, 0, none⟩) n c l) (h0 : 0 < n) (h4 : n ≤ 400) (hx : l[modA i n]? = some x) (hu : x.u = false) (hx0 : x.n = 0) : Calls Try.prog 9 #[.pointer (some ⟨p, 0, none⟩), .int .i64 i, .int .i64 bit] w fun e w' => e = .returned (.int .i64 1) ∧ w' = w := by
  have e0 : ((x.n : Int) == 0) = true := by rw [beq_iff_eq]; omega
  have hlt := modA_lt i h0
  have hc' : ∀ j v, x.cells[j]? = some v → w.cell? ⟨g, modA i n * 4 + j, none⟩ = some v := by
    obtain ⟨ad', x', hA', hx', hc⟩ := h.at hlt
    injection hA' with hA'
    subst hA'
    have ex : x' = x := by
      rw [hx] at hx'
      injection hx' with hx'
      exact hx'.symm
    subst ex
    intro j v hv
    have := hc j v hv
    rwa [addA] at this
  have cP := place_some base p (some ⟨g, 0, none⟩) n c l i w h h0 (by omega)
  have l0 := ld_air h.blk
  have f0 := far0 w p
  have x1 := fix w ⟨g, 0, none⟩ n c _ hlt
  rw [addA] at x1
  have f1 := ff3A w g (modA i n * 4)
  have l1 := ld_boA (c := false) (show w.cell? ⟨g, modA i n * 4 + 3, none⟩ = some (.bool false) by
    have h3 := hc' 3 (.bool x.u) rfl
    rw [hu] at h3
    exact h3)
  go_enter Try.func9, Try.ntmps9
  go_upto_region 1 with fail
  refine wp_region_lit ?_
  refine fl_start ?_
  generalize ha : Act.mk _ _ = a0
  have hn : a0.tmps.size = 65 := by rw [← ha]; kernel_rfl
  have h0 : (fr a0 []).eval (.tmp 0) = .pointer (some ⟨p, 0, none⟩) := by rw [← ha]; kernel_rfl
  refine fl_know hn rfl h0 ?_
  clear h0
  have h1 : (fr a0 [(0, true, .pointer (some ⟨p, 0, none⟩))]).eval (.tmp 1) = .int .i64 i := by rw [← ha]; kernel_rfl
  refine fl_know hn rfl h1 ?_
  clear h1
  refine g_mv hn ?_
  refine g_mv hn ?_
  refine g_c2x en_spinney_air_Air_place hn (R := fun v w2 => v = .tuple #[.int .i64 (modA i n : Nat), .int .i64 0] ∧ w = w2) (cP.mono fun _ _ ⟨he, hw⟩ => ⟨_, he, rfl, hw.symm⟩) ?_
  rintro v w2 ⟨rfl, hw2⟩
  subst hw2
  refine g_mv hn ?_
  refine g_ex hn ?_
  refine g_ex hn ?_
  refine g_as hn ?_
  refine g_as hn ?_
  refine fl_end ?_
  clear hn cP
  subst ha
  dsimp only [fr, cnd, Act.put, cond_true]
  simp only [List.setIfInBounds_toArray, List.set_cons_zero, List.set_cons_succ]
  go_upto_region 4 with fail
  refine wp_region_lit ?_
  refine fl_start ?_
  generalize ha : Act.mk _ _ = a0
  have hn : a0.tmps.size = 65 := by rw [← ha]; kernel_rfl
  have h0 : (fr a0 []).eval (.tmp 0) = .pointer (some ⟨p, 0, none⟩) := by rw [← ha]; kernel_rfl
  refine fl_know hn rfl h0 ?_
  clear h0
  have h7 : (fr a0 [(0, true, .pointer (some ⟨p, 0, none⟩))]).eval (.tmp 7) = .int .i64 (modA i n : Nat) := by rw [← ha]; kernel_rfl
  refine fl_know hn rfl h7 ?_
  clear h7
  refine g_mv hn ?_
  refine g_nc hn ?_
  refine g_fd hn ?_
  refine g_ld hn ?_
  refine g_mv hn ?_
  refine g_ix hn ?_
  refine g_as hn ?_
  refine fl_end ?_
  clear hn l0 f0 x1
  subst ha
  dsimp only [fr, cnd, Act.put, cond_true]
  simp only [List.setIfInBounds_toArray, List.set_cons_zero, List.set_cons_succ]
  go_upto_region 5 with fail
  refine wp_region_lit ?_
  refine fl_start ?_
  generalize ha : Act.mk _ _ = a0
  have hn : a0.tmps.size = 65 := by rw [← ha]; kernel_rfl
  have h9 : (fr a0 []).eval (.tmp 9) = .pointer (some ⟨g, modA i n * 4, none⟩) := by rw [← ha]; kernel_rfl
  refine fl_know hn rfl h9 ?_
  clear h9
  refine g_mv hn ?_
  refine g_nc hn ?_
  refine g_fd hn ?_
  refine g_ld hn ?_
  refine g_as hn ?_
  refine fl_end ?_
  clear hn f1 l1
  subst ha
  dsimp only [fr, cnd, Act.put, cond_true]
  simp only [List.setIfInBounds_toArray, List.set_cons_zero, List.set_cons_succ]
  have f2 := ffA w g (modA i n * 4)
  have f3 := pf2A w g (modA i n * 4)
  have l2 := ld_sl (hc' 2 (.slice x.A x.n x.c) rfl)
  go_upto_region 7 with fail
  refine wp_region_lit ?_
  refine fl_start ?_
  generalize ha : Act.mk _ _ = a0
  have hn : a0.tmps.size = 65 := by rw [← ha]; kernel_rfl
  have h9 : (fr a0 []).eval (.tmp 9) = .pointer (some ⟨g, modA i n * 4, none⟩) := by rw [← ha]; kernel_rfl
  refine fl_know hn rfl h9 ?_
  clear h9
  refine g_mv hn ?_
  refine g_nc hn ?_
  refine g_fd hn ?_
  refine g_fd hn ?_
  refine g_ld hn ?_
  refine g_ln hn ?_
  refine g_eql hn ?_
  refine g_as hn ?_
  refine fl_end ?_
  clear hn
  subst ha
  dsimp only [fr, cnd, Act.put, cond_true]
  simp only [List.setIfInBounds_toArray, List.set_cons_zero, List.set_cons_succ]
  simp only [e0]
  go_wp2_with fail
  go_ret
  exact ⟨rfl, rfl⟩
set_option maxRecDepth 100000 in
set_option maxHeartbeats 4000000 in
theorem turn_good (base p g n c : Nat) (l : List Fl) (i bit : Int) (x : Fl) (w : World) (h : AirM base p w (some ⟨g, 0, none⟩) n c l) (h0 : 0 < n) (h4 : n ≤ 400) (hx : l[modA i n]? = some x) (hu : x.u = false) (hx0 : 0 < x.n) (hxm : x.n ≤ 100000) : Calls Try.prog 9 #[.pointer (some ⟨p, 0, none⟩), .int .i64 i, .int .i64 bit] w fun e w' => e = .returned (.int .i64 0) ∧ AirS base p (some ⟨g, 0, none⟩) l w (some ⟨g, 0, none⟩) n c (l.set (modA i n) (x.turn (modA bit (8 * x.n)))) w' := by
  have e0 : ((x.n : Int) == 0) = false := by rw [beq_eq_false_iff_ne]; omega
  have hq := modA_lt bit (n := 8 * x.n) (by omega)
  have cM := modulo_any bit (8 * x.n) w (by omega) (by omega)
  have hmem := List.mem_of_getElem? hx
  have hO := h.byt x hmem
  obtain ⟨gb, hAb, hbb, hbl⟩ := hO.form hx0
  rw [hAb] at hO
  have hlt := modA_lt i h0
  have hc' : ∀ j v, x.cells[j]? = some v → w.cell? ⟨g, modA i n * 4 + j, none⟩ = some v := by
    obtain ⟨ad', x', hA', hx', hc⟩ := h.at hlt
    injection hA' with hA'
    subst hA'
    have ex : x' = x := by
      rw [hx] at hx'
      injection hx' with hx'
      exact hx'.symm
    subst ex
    intro j v hv
    have := hc j v hv
    rwa [addA] at this
  have cP := place_some base p (some ⟨g, 0, none⟩) n c l i w h h0 (by omega)
  have l0 := ld_air h.blk
  have f0 := far0 w p
  have x1 := fix w ⟨g, 0, none⟩ n c _ hlt
  rw [addA] at x1
  have f1 := ff3A w g (modA i n * 4)
  have l1 := ld_boA (c := false) (show w.cell? ⟨g, modA i n * 4 + 3, none⟩ = some (.bool false) by
    have h3 := hc' 3 (.bool x.u) rfl
    rw [hu] at h3
    exact h3)
  go_enter Try.func9, Try.ntmps9
  go_upto_region 1 with fail
  refine wp_region_lit ?_
  refine fl_start ?_
  generalize ha : Act.mk _ _ = a0
  have hn : a0.tmps.size = 65 := by rw [← ha]; kernel_rfl
  have h0 : (fr a0 []).eval (.tmp 0) = .pointer (some ⟨p, 0, none⟩) := by rw [← ha]; kernel_rfl
  refine fl_know hn rfl h0 ?_
  clear h0
  have h1 : (fr a0 [(0, true, .pointer (some ⟨p, 0, none⟩))]).eval (.tmp 1) = .int .i64 i := by rw [← ha]; kernel_rfl
  refine fl_know hn rfl h1 ?_
  clear h1
  refine g_mv hn ?_
  refine g_mv hn ?_
  refine g_c2x en_spinney_air_Air_place hn (R := fun v w2 => v = .tuple #[.int .i64 (modA i n : Nat), .int .i64 0] ∧ w = w2) (cP.mono fun _ _ ⟨he, hw⟩ => ⟨_, he, rfl, hw.symm⟩) ?_
  rintro v w2 ⟨rfl, hw2⟩
  subst hw2
  refine g_mv hn ?_
  refine g_ex hn ?_
  refine g_ex hn ?_
  refine g_as hn ?_
  refine g_as hn ?_
  refine fl_end ?_
  clear hn cP
  subst ha
  dsimp only [fr, cnd, Act.put, cond_true]
  simp only [List.setIfInBounds_toArray, List.set_cons_zero, List.set_cons_succ]
  go_upto_region 4 with fail
  refine wp_region_lit ?_
  refine fl_start ?_
  generalize ha : Act.mk _ _ = a0
  have hn : a0.tmps.size = 65 := by rw [← ha]; kernel_rfl
  have h0 : (fr a0 []).eval (.tmp 0) = .pointer (some ⟨p, 0, none⟩) := by rw [← ha]; kernel_rfl
  refine fl_know hn rfl h0 ?_
  clear h0
  have h7 : (fr a0 [(0, true, .pointer (some ⟨p, 0, none⟩))]).eval (.tmp 7) = .int .i64 (modA i n : Nat) := by rw [← ha]; kernel_rfl
  refine fl_know hn rfl h7 ?_
  clear h7
  refine g_mv hn ?_
  refine g_nc hn ?_
  refine g_fd hn ?_
  refine g_ld hn ?_
  refine g_mv hn ?_
  refine g_ix hn ?_
  refine g_as hn ?_
  refine fl_end ?_
  clear hn l0 f0 x1
  subst ha
  dsimp only [fr, cnd, Act.put, cond_true]
  simp only [List.setIfInBounds_toArray, List.set_cons_zero, List.set_cons_succ]
  go_upto_region 5 with fail
  refine wp_region_lit ?_
  refine fl_start ?_
  generalize ha : Act.mk _ _ = a0
  have hn : a0.tmps.size = 65 := by rw [← ha]; kernel_rfl
  have h9 : (fr a0 []).eval (.tmp 9) = .pointer (some ⟨g, modA i n * 4, none⟩) := by rw [← ha]; kernel_rfl
  refine fl_know hn rfl h9 ?_
  clear h9
  refine g_mv hn ?_
  refine g_nc hn ?_
  refine g_fd hn ?_
  refine g_ld hn ?_
  refine g_as hn ?_
  refine fl_end ?_
  clear hn f1 l1
  subst ha
  dsimp only [fr, cnd, Act.put, cond_true]
  simp only [List.setIfInBounds_toArray, List.set_cons_zero, List.set_cons_succ]
  have f2 := ffA w g (modA i n * 4)
  have f3 := pf2A w g (modA i n * 4)
  have l2 := ld_sl (hc' 2 (.slice x.A x.n x.c) rfl)
  rw [hAb] at l2
  go_upto_region 7 with fail
  refine wp_region_lit ?_
  refine fl_start ?_
  generalize ha : Act.mk _ _ = a0
  have hn : a0.tmps.size = 65 := by rw [← ha]; kernel_rfl
  have h9 : (fr a0 []).eval (.tmp 9) = .pointer (some ⟨g, modA i n * 4, none⟩) := by rw [← ha]; kernel_rfl
  refine fl_know hn rfl h9 ?_
  clear h9
  refine g_mv hn ?_
  refine g_nc hn ?_
  refine g_fd hn ?_
  refine g_fd hn ?_
  refine g_ld hn ?_
  refine g_ln hn ?_
  refine g_eql hn ?_
  refine g_as hn ?_
  refine fl_end ?_
  clear hn
  subst ha
  dsimp only [fr, cnd, Act.put, cond_true]
  simp only [List.setIfInBounds_toArray, List.set_cons_zero, List.set_cons_succ]
  simp only [e0]
  go_upto_region 9 with fail
  refine wp_region_lit ?_
  refine fl_start ?_
  generalize ha : Act.mk _ _ = a0
  have hn : a0.tmps.size = 65 := by rw [← ha]; kernel_rfl
  have h2 : (fr a0 []).eval (.tmp 2) = .int .i64 bit := by rw [← ha]; kernel_rfl
  refine fl_know hn rfl h2 ?_
  clear h2
  have h9 : (fr a0 [(2, true, .int .i64 bit)]).eval (.tmp 9) = .pointer (some ⟨g, modA i n * 4, none⟩) := by rw [← ha]; kernel_rfl
  refine fl_know hn rfl h9 ?_
  clear h9
  refine g_mv hn ?_
  refine g_mv hn ?_
  refine g_nc hn ?_
  refine g_fd hn ?_
  refine g_fd hn ?_
  refine g_ld hn ?_
  refine g_ln hn ?_
  refine g_o1 (i := 45) (vi := .int .i64 (x.n : Nat)) (v := .int .i64 ((8 * x.n : Nat) : Int)) hn (fun ρ h1 hc => x_cbC h1 (hc _) (mulA w 45 x.n (by omega))) ?_
  refine g_c2x en_spinney_air_modulo hn (R := fun v w2 => v = .int .i64 (modA bit (8 * x.n) : Nat) ∧ w = w2) (cM.mono fun _ _ ⟨he, hw⟩ => ⟨_, he, rfl, hw.symm⟩) ?_
  rintro v w2 ⟨rfl, hw2⟩
  subst hw2
  refine g_as hn ?_
  refine fl_end ?_
  clear hn cM f2 f3 l2
  subst ha
  dsimp only [fr, cnd, Act.put, cond_true]
  simp only [List.setIfInBounds_toArray, List.set_cons_zero, List.set_cons_succ]
  generalize hqe : modA bit (8 * x.n) = q at hq ⊢
  have hq8 : q / 8 < x.n := by omega
  have hlb : q / 8 < x.b.length := by rw [hO.len]; exact hq8
  have hy : x.b[q / 8]? = some (x.b.getD (q / 8) 0) := by
    rw [List.getD_eq_getElem?_getD, List.getElem?_eq_getElem hlb]
    rfl
  have c8 := hO.cellAt hy
  have hfr := hO.free (q / 8)
  have hN5 := hO.set (q / 8) ((x.b.getD (q / 8) 0) ^^^ bitA (q % 8))
  have hcs := hc' 2 (.slice x.A x.n x.c) rfl
  rw [hAb] at hcs
  have hggb : g ≠ gb := by
    obtain ⟨cs, hcs⟩ := h.row.blkT rfl
    obtain ⟨ds, hds⟩ := hO.blkT rfl
    exact hcs.neT hds (by decide)
  have hpgb : p ≠ gb := by
    obtain ⟨ds, hds⟩ := hO.blkT rfl
    exact h.blk.neT hds (by decide)
  have hpg : p ≠ g := by
    obtain ⟨cs, hcs⟩ := h.row.blkT rfl
    exact h.blk.neT hcs (by decide)
  have hS5 : (fun W : World => W.cell? ⟨g, modA i n * 4 + 2, none⟩ = some (.slice (some ⟨gb, 0, none⟩) x.n x.c)) (w.drew.setCell ⟨gb, q / 8, none⟩ (.int .u8 ((((x.b.getD (q / 8) 0) ^^^ bitA (q % 8)).toNat : Nat) : Int))) := ((only_grown (only_cell w.drew gb (q / 8) (.int .u8 ((((x.b.getD (q / 8) 0) ^^^ bitA (q % 8)).toNat : Nat) : Int)))).cell_far ⟨g, modA i n * 4 + 2, none⟩ (h.row.blk rfl).2 (fun e => hggb (by injection e))).trans hcs
  have F0 : ∀ W : World, (fun W : World => W.cell? ⟨g, modA i n * 4 + 2, none⟩ = some (.slice (some ⟨gb, 0, none⟩) x.n x.c)) W → _ := fun W _ => ffA W g (modA i n * 4)
  have F1 : ∀ W : World, (fun W : World => W.cell? ⟨g, modA i n * 4 + 2, none⟩ = some (.slice (some ⟨gb, 0, none⟩) x.n x.c)) W → _ := fun W _ => pf2A W g (modA i n * 4)
  have F2 : ∀ W : World, (fun W : World => W.cell? ⟨g, modA i n * 4 + 2, none⟩ = some (.slice (some ⟨gb, 0, none⟩) x.n x.c)) W → _ := fun W h => ld_sl h
  have F3 : ∀ W : World, (fun W : World => W.cell? ⟨g, modA i n * 4 + 2, none⟩ = some (.slice (some ⟨gb, 0, none⟩) x.n x.c)) W → _ := fun W _ => quoA W 53 q (by omega)
  have F4 : ∀ W : World, (fun W : World => W.cell? ⟨g, modA i n * 4 + 2, none⟩ = some (.slice (some ⟨gb, 0, none⟩) x.n x.c)) W → _ := fun W _ => bixA W gb x.n x.c (q / 8) hq8
  have F5 : ∀ W : World, (fun W : World => W.cell? ⟨g, modA i n * 4 + 2, none⟩ = some (.slice (some ⟨gb, 0, none⟩) x.n x.c)) W → _ := fun W _ => remA W 57 q
  go_upto_region 10 with fail
  refine fh_start (S := (fun W : World => W.cell? ⟨g, modA i n * 4 + 2, none⟩ = some (.slice (some ⟨gb, 0, none⟩) x.n x.c))) (by kernel_rfl) (hcs) (fun hS => ?_)
  generalize ha : Act.mk _ _ = a0
  have hn : a0.tmps.size = 65 := by rw [← ha]; kernel_rfl
  have h9 : (fr a0 []).eval (.tmp 9) = .pointer (some ⟨g, modA i n * 4, none⟩) := by rw [← ha]; kernel_rfl
  refine fh_know hn rfl h9 ?_
  clear h9
  have h10 : (fr a0 [(9, true, .pointer (some ⟨g, modA i n * 4, none⟩))]).eval (.tmp 10) = .int .i64 (q : Nat) := by rw [← ha]; kernel_rfl
  refine fh_know hn rfl h10 ?_
  clear h10
  refine h_mv 0 hn hS ?_
  refine h_nc 1 hn hS ?_
  refine h_fd 2 hn hS ?_
  refine h_fd 3 hn hS ?_
  refine h_ld 4 hn hS ?_
  refine h_mv 5 hn hS ?_
  refine h_bc 6 hn hS ?_
  refine h_ix 7 hn hS ?_
  refine h_mv 9 hn hS ?_
  refine h_bc 10 hn hS ?_
  refine h_op 11 (v := .int .u8 ((bitA (q % 8)).toNat : Int)) hn hS (fun W _ hk => x_cbC (lk_at hk (i := 58) rfl (fun _ => rfl) rfl) rfl (shlA W 58 (q % 8) (by omega))) ?_
  refine h_one 8 (v := .int .u8 ((x.b.getD (q / 8) 0).toNat : Int)) hn hS (fun hk => x_ld (lk_at hk (i := 55) rfl (fun _ => rfl) rfl) (ld_u8A c8)) ?_
  refine h_op 12 (v := .int .u8 (((x.b.getD (q / 8) 0) ^^^ bitA (q % 8)).toNat : Int)) hn hS (fun W _ hk => x_bn (lk_at hk (i := 56) rfl (fun _ => rfl) rfl) (lk_at hk (i := 59) rfl (fun _ => rfl) rfl) (xorA W 56 59 _ _)) ?_
  refine h_ix 13 hn hS ?_
  refine h_st 14 (st_u8A (W := w.drew) c8 hfr _) hS5 ?_
  refine fh_end (by kernel_rfl) ?_
  clear hn F0 F1 F2 F3 F4 F5 c8 hfr hS5
  subst ha
  dsimp only [fr, cnd, Act.put, cond_true]
  simp only [List.setIfInBounds_toArray, List.set_cons_zero, List.set_cons_succ]
  have hN5' : OwnB base (w.setCell ⟨gb, q / 8, none⟩ (.int .u8 ((((x.b.getD (q / 8) 0) ^^^ bitA (q % 8)).toNat : Nat) : Int))) (some ⟨gb, 0, none⟩) x.n x.c (x.b.set (q / 8) ((x.b.getD (q / 8) 0) ^^^ bitA (q % 8))) := hN5
  have ho5' : Only1 gb w (w.drew.setCell ⟨gb, q / 8, none⟩ (.int .u8 ((((x.b.getD (q / 8) 0) ^^^ bitA (q % 8)).toNat : Nat) : Int))) :=
    let a := only_cell w.drew gb (q / 8) (.int .u8 ((((x.b.getD (q / 8) 0) ^^^ bitA (q % 8)).toNat : Nat) : Int))
    ⟨a.os, a.tape, a.output, a.size, a.block⟩
  have hN5'' : OwnB base (w.drew.setCell ⟨gb, q / 8, none⟩ (.int .u8 ((((x.b.getD (q / 8) 0) ^^^ bitA (q % 8)).toNat : Nat) : Int))) (some ⟨gb, 0, none⟩) x.n x.c (x.b.set (q / 8) ((x.b.getD (q / 8) 0) ^^^ bitA (q % 8))) := hN5'
  clear hN5 hN5'
  generalize w.drew.setCell ⟨gb, q / 8, none⟩ (.int .u8 ((((x.b.getD (q / 8) 0) ^^^ bitA (q % 8)).toNat : Nat) : Int)) = w5 at ho5' hN5'' ⊢
  have hg5 := only_grown ho5'
  have hR5 := own_blkA h.row.1 (ho5'.block g hggb)
  obtain ⟨cur, hX5, hsz⟩ := own_cur hR5
  have hcap := h.row.cap
  have hj : modA i n * 4 + 3 < cur.size := by omega
  have f5 := ff3A w5 g (modA i n * 4)
  go_upto_region 11 with fail
  refine wp_region_lit ?_
  refine fl_start ?_
  generalize ha : Act.mk _ _ = a0
  have hn : a0.tmps.size = 65 := by rw [← ha]; kernel_rfl
  have h9 : (fr a0 []).eval (.tmp 9) = .pointer (some ⟨g, modA i n * 4, none⟩) := by rw [← ha]; kernel_rfl
  refine fl_know hn rfl h9 ?_
  clear h9
  refine g_mv hn ?_
  refine g_nc hn ?_
  refine g_fd hn ?_
  refine g_stc hX5 (hr := st_boA (j := modA i n * 4 + 3) hX5 hj true) ?_
  intro w6 ho6 hX6
  refine fl_end ?_
  clear hn f5
  subst ha
  dsimp only [fr, cnd, Act.put, cond_true]
  simp only [List.setIfInBounds_toArray, List.set_cons_zero, List.set_cons_succ]
  have hg6 := only_grown ho6
  have hR6 := own_blkA (W' := w6) (hR5.stored (modA i n * 4 + 3) (.bool true)).1 (hX6.trans (hX5.set (modA i n * 4 + 3) (.bool true)).symm)
  have ev : (celV (l.map Fl.cells)).set (modA i n * 4 + 3) (.bool true) = celV ((l.set (modA i n) (x.turn q)).map Fl.cells) := by
    rw [List.map_set]
    exact celV_set (z := 4) (l.map Fl.cells) (flEl_szd l) (modA i n) 3 x.cells (.bool true) (by rw [List.getElem?_map, hx]; rfl) (by decide)
  rw [ev] at hR6
  have hg6r : ∀ k, some g = some k → ∃ cs t, Blk w5 k cs t ∧ t ≠ 5 := fun k hk => by
    injection hk with hk
    exact ⟨cur, tFl, by rw [← hk]; exact hX5, by decide⟩
  have hP6 : Blk w6 p #[.slice (some ⟨g, 0, none⟩) n c] tAir := (h.blk.only ho5' hpgb).only ho6 hpg
  have hlen := h.row.len
  have hM6 : AirM base p w6 (some ⟨g, 0, none⟩) n c (l.set (modA i n) (x.turn q)) := by
    refine ⟨hP6, ⟨hR6, flEl_szd _, by rw [List.length_map, List.length_set]; simpa using hlen⟩, fun y hy => ?_, apt_set h.dis hx rfl⟩
    obtain ⟨m, hm⟩ := List.mem_iff_getElem?.1 hy
    by_cases e : modA i n = m
    · subst e
      have hml : modA i n < l.length := (List.getElem?_eq_some_iff.1 hx).1
      rw [List.getElem?_set_self hml] at hm
      injection hm with hm
      subst hm
      have h7 := byt_grown (base := base) (l := [x.turn q]) (W := w5) (fun z hz => by
        rw [List.mem_singleton] at hz
        subst hz
        show OwnB base w5 x.A x.n x.c _
        rw [hAb]
        exact hN5'') hg6 hg6r
      exact h7 _ (List.mem_singleton_self _)
    · rw [List.getElem?_set_ne e] at hm
      have hyO := h.byt y (List.mem_of_getElem? hm)
      have ha := apt_at h.dis hm hx (fun e2 => e e2.symm)
      have h5 : OwnB base w5 y.A y.n y.c y.b := by
        refine World.ownsRow.kept hyO hg5 ?_
        cases hA : y.A with
        | none => simp [Value.ownBlock]
        | some a =>
          right
          intro e
          simp only [Value.ownBlock, Option.some.injEq] at e
          exact ha a ⟨gb, 0, none⟩ hA hAb e
      have h7 := byt_grown (base := base) (l := [y]) (W := w5) (fun z hz => by
        rw [List.mem_singleton] at hz
        subst hz
        exact h5) hg6 hg6r
      exact h7 _ (List.mem_singleton_self _)
  have hfin : AirS base p (some ⟨g, 0, none⟩) l w (some ⟨g, 0, none⟩) n c (l.set (modA i n) (x.turn q)) w6 := by
    refine ⟨hM6, ho6.os.trans ho5'.os, ho6.tape.trans ho5'.tape, ho6.output.trans ho5'.output, by have := ho6.size; have := ho5'.size; omega, fun k hk hno => ?_, fun k hk ho => ?_⟩
    · rw [ho6.block k (fun e => hno (.inr (.inl ⟨_, rfl, e.symm⟩)))]
      exact ho5'.block k (fun e => hno (.inr (.inr ⟨x, hmem, _, hAb, e.symm⟩)))
    · rcases ho with ho | ho | ⟨y, hy, a, ha, e⟩
      · exact .inl ho
      · exact .inr (.inl ho)
      · rcases List.mem_or_eq_of_mem_set hy with hy | hy
        · exact .inr (.inr ⟨y, hy, a, ha, e⟩)
        · subst hy
          exact .inr (.inr ⟨x, hmem, a, ha, e⟩)
  go_wp2_with fail
  go_ret
  exact ⟨rfl, by rw [hqe]; exact hfin⟩
end Go.Proofs.Ytdfifcgpjeojlaa

namespace Go.Proofs.Ytdfifcgpjeojlaa
open Go.RowKit

def popN : Nat → Nat → Nat
  | 0, _ => 0
  | f + 1, v => v % 2 + popN f (v / 2)
/-- How many ones has a byte? -/
def pw (v : Nat) : Nat := popN 8 v
theorem pw_all : ∀ v : Fin 256, pw v.val = v.val % 2 + pw (v.val / 2) ∧ pw v.val ≤ 8 := by decide +kernel
theorem pw_step {v : Nat} (h : v < 256) : pw v = v % 2 + pw (v / 2) := (pw_all ⟨v, h⟩).1
theorem pw_le {v : Nat} (h : v < 256) : pw v ≤ 8 := (pw_all ⟨v, h⟩).2
/-- In how many bits do the first k bytes differ? -/
def popT (l l2 : List UInt8) : Nat → Nat
  | 0 => 0
  | k + 1 => popT l l2 k + pw (l.getD k 0 ^^^ l2.getD k 0).toNat
theorem popT_le (l l2 : List UInt8) : ∀ k, popT l l2 k ≤ 8 * k
  | 0 => Nat.le_refl _
  | k + 1 => by
    have := popT_le l l2 k
    have := pw_le (l.getD k 0 ^^^ l2.getD k 0).toNat_lt
    show popT l l2 k + pw _ ≤ _
    omega
theorem gt8A (W : World) (t v : Nat) (h : 0 < v) : ((do eqGuard .gtr 5 (.tmp t) (.const (.int .u8 0)) (.int .u8 (v : Int)) (.int .u8 0); binOp .gtr 5 (.int .u8 (v : Int)) (.int .u8 0)) : Sem Value).run Try.prog W = .ok (.bool true) W := by
  have e : (0 : Int) < (v : Int) := by omega
  go_simp
theorem gt8B (W : World) (t : Nat) : ((do eqGuard .gtr 5 (.tmp t) (.const (.int .u8 0)) (.int .u8 ((0 : Nat) : Int)) (.int .u8 0); binOp .gtr 5 (.int .u8 ((0 : Nat) : Int)) (.int .u8 0)) : Sem Value).run Try.prog W = .ok (.bool false) W := by
  kernel_rfl
theorem and_bits : ∀ v : Fin 256, bits .and .u8 (v.val : Int) 1 = ((v.val % 2 : Nat) : Int) := by decide +kernel
theorem and8A (W : World) (t v : Nat) (h : v < 256) : ((do eqGuard .and 5 (.tmp t) (.const (.int .u8 1)) (.int .u8 (v : Int)) (.int .u8 1); binOp .and 5 (.int .u8 (v : Int)) (.int .u8 1)) : Sem Value).run Try.prog W = .ok (.int .u8 ((v % 2 : Nat) : Int)) W := by
  have e := and_bits ⟨v, h⟩
  dsimp only at e
  go_simp
theorem shr8A (W : World) (t v : Nat) (h : v < 256) : ((do eqGuard .shr 5 (.tmp t) (.const (.int .u64 1)) (.int .u8 (v : Int)) (.int .u64 1); binOp .shr 5 (.int .u8 (v : Int)) (.int .u64 1)) : Sem Value).run Try.prog W = .ok (.int .u8 ((v / 2 : Nat) : Int)) W := by
  have e : ((v / 2 : Nat) : Int) = (v : Int) / 2 := by omega
  have e2 : IntKind.u8.wrap ((v : Int) / 2) = (v : Int) / 2 := by unfold IntKind.wrap; simp [IntKind.bits, IntKind.signed]; omega
  rw [e]
  clear e
  go_simp
theorem cv8A (W : World) (v : Nat) (h : v < 256) : (convert 5 3 (.int .u8 (v : Int))).run Try.prog W = .ok (.int .i64 (v : Int)) W := by
  have hw : IntKind.i64.wrap (v : Int) = v := by unfold IntKind.wrap; simp [IntKind.bits, IntKind.signed]; omega
  go_simp
theorem addA2 (W : World) (i j c m : Nat) (h : c + m ≤ 1000000) : ((do eqGuard .add 3 (.tmp i) (.tmp j) (.int .i64 (c : Int)) (.int .i64 (m : Int)); binOp .add 3 (.int .i64 (c : Int)) (.int .i64 (m : Int))) : Sem Value).run Try.prog W = .ok (.int .i64 ((c + m : Nat) : Int)) W := by
  have e : IntKind.i64.wrap ((c : Int) + (m : Int)) = ((c + m : Nat) : Int) := by rw [IntKind.wrap_i64]; omega
  have e2 : wrap64 ((c : Int) + (m : Int)) = ((c + m : Nat) : Int) := by
    unfold wrap64
    omega
  first
    | (simp [eqGuard, binOp, go_sem, e, e2]; done)
    | (go_simp; simp [e, e2])
theorem bixG (W : World) (ad : Addr) (n c k : Nat) (h : k < n) : (Instr.indexAt 27 (.slice (some ad) n c) (.int .i64 (k : Int))).run Try.prog W = .ok (.pointer (some (ad.add k))) W := by
  have i1 : (0 : Int) ≤ (k : Int) := by omega
  have i2 : (k : Int) < (n : Int) := by omega
  go_simp
set_option maxRecDepth 100000 in
set_option maxHeartbeats 4000000 in
theorem bits_off (A : Option Addr) (n c : Nat) (A2 : Option Addr) (m c2 : Nat) (w : World) (hne : n ≠ m) : Calls Try.prog 12 #[.slice A n c, .slice A2 m c2] w fun e w' => e = .returned (.int .i64 (-1)) ∧ w' = w := by
  have e0 : ((n : Int) == (m : Int)) = false := by rw [beq_eq_false_iff_ne]; omega
  have e1 : (n : Int) ≠ (m : Int) := by omega
  go_enter Try.func12, Try.ntmps12
  go_wp2_with fail
  go_ret
  exact ⟨rfl, rfl⟩
set_option maxRecDepth 100000 in
set_option maxHeartbeats 4000000 in
theorem bits_any {C C2 : Nat} (A : Option Addr) (n c : Nat) (A2 : Option Addr) (c2 : Nat) (l l2 : List UInt8) (w : World) (hn0 : l.length = n) (hn2 : l2.length = n) (hr : RdB C w A l) (hr2 : RdB C2 w A2 l2) (hC : C ≤ w.heap.size) (hC2 : C2 ≤ w.heap.size) (hm : n ≤ 1000) : Calls Try.prog 12 #[.slice A n c, .slice A2 n c2] w fun e w' => e = .returned (.int .i64 (popT l l2 n : Nat)) ∧ Below w.heap.size w w' := by
  have HN := Lib.hid hn0
  have HN2 := Lib.hid hn2
  have HR := Lib.hid (fun W (h : Kp w W) => hr.keep (W' := W) h.below hC)
  have HR2 := Lib.hid (fun W (h : Kp w W) => hr2.keep (W' := W) h.below hC2)
  clear hn0 hn2 hr hr2
  go_enter Try.func12, Try.ntmps12
  go_wp2_with fail
  go_loopw [5, 15] (fun t5 i wr => ∃ k : Nat, k ≤ n ∧ i = .int .i64 k ∧ t5 = .int .i64 (popT l l2 k : Nat) ∧ Kp w wr) (fun _ i _ => n - (intOf i).toNat)
  case atStart => exact ⟨0, Nat.zero_le _, rfl, rfl, Kp.refl _⟩
  case round =>
    obtain ⟨k, hk, rfl, rfl, hK⟩ := hrel
    by_cases hlt : k < n
    · obtain ⟨x, hx⟩ : ∃ x, l[k]? = some x := ⟨_, List.getElem?_eq_getElem (show k < l.length by have := HN.out; omega)⟩
      obtain ⟨y, hy⟩ : ∃ y, l2[k]? = some y := ⟨_, List.getElem?_eq_getElem (show k < l2.length by have := HN2.out; omega)⟩
      obtain ⟨ad, rfl, hb1, hc1⟩ := HR.out wr hK k x hx
      obtain ⟨ad2, rfl, hb2, hc2⟩ := HR2.out wr hK k y hy
      have hT : Hid (popT l l2 (k + 1) = popT l l2 k + pw (x ^^^ y).toNat ∧ popT l l2 k ≤ 8 * k) := by
        refine ⟨?_, popT_le _ _ _⟩
        show popT l l2 k + pw _ = _
        rw [List.getD_eq_getElem?_getD, List.getD_eq_getElem?_getD, hx, hy]
        rfl
      have i2 : (k : Int) < (n : Int) := by omega
      have ix1 : ∀ W : World, Kp wr W → _ := fun W _ => bixG W ad n c k hlt
      have ix2 : ∀ W : World, Kp wr W → _ := fun W _ => bixG W ad2 n c2 k hlt
      have hl1 : (ad.add k).block < wr.heap.size := World.block_lt_of_cell? wr _ hc1
      have hl2 : (ad2.add k).block < wr.heap.size := World.block_lt_of_cell? wr _ hc2
      have l1 : ∀ W : World, Kp wr W → _ := fun W h => ld_u8A ((h.below.cell hl1).trans hc1)
      have l2' : ∀ W : World, Kp wr W → _ := fun W h => ld_u8A ((h.below.cell hl2).trans hc2)
      have e1 : ∀ W : World, Kp wr W → _ := fun W _ => xorA W 21 25 x y
      clear hx hy
      go_upto_region 7 with fail
      refine fc_start (S := Kp wr) (by kernel_rfl) (Kp.drew _) ?_
      generalize ha : Act.mk _ _ = a0
      have hn : a0.tmps.size = 38 := by rw [← ha]; kernel_rfl
      have h0 : (fr a0 []).eval (.tmp 0) = .slice (some ad) n c := by rw [← ha]; kernel_rfl
      refine fc_know hn rfl h0 ?_
      clear h0
      have h1 : (fr a0 [(0, true, .slice (some ad) n c)]).eval (.tmp 1) = .slice (some ad2) n c2 := by rw [← ha]; kernel_rfl
      refine fc_know hn rfl h1 ?_
      clear h1
      have h6 : (fr a0 [(1, true, .slice (some ad2) n c2), (0, true, .slice (some ad) n c)]).eval (.tmp 6) = .int .i64 (k : Int) := by rw [← ha]; kernel_rfl
      refine fc_know hn rfl h6 ?_
      clear h6
      refine c_mv 0 hn ?_
      refine c_mv 1 hn ?_
      refine c_ix 2 hn ?_
      refine c_ld 3 hn ?_
      refine c_mv 4 hn ?_
      refine c_mv 5 hn ?_
      refine c_ix 6 hn ?_
      refine c_ld 7 hn ?_
      refine c_bn 8 hn ?_
      refine c_as 9 hn ?_
      refine fc_end (fun w3 hS => ?_)
      clear hn
      subst ha
      dsimp only [fr, cnd, Act.put, cond_true]
      simp only [List.setIfInBounds_toArray, List.set_cons_zero, List.set_cons_succ]
      have hK2 := Kp.trans hK hS.below
      clear ix1 ix2 hl1 hl2 l1 l2' e1 hS hc1 hc2
      have hv0 : (x ^^^ y).toNat < 256 := (x ^^^ y).toNat_lt
      generalize (x ^^^ y).toNat = v0 at hT hv0 ⊢
      generalize hP : popT l l2 k = P at hT ⊢
      have hPl : Hid (P + pw v0 ≤ 8008) := show P + pw v0 ≤ 8008 from by have := hT.out.2; have := pw_le hv0; omega
      go_wp2_with fail
      go_loopw [5, 7] (fun u5 u7 wr3 => ∃ a v : Nat, u5 = .int .i64 a ∧ u7 = .int .u8 v ∧ Hid (v < 256) ∧ Hid (a + pw v = P + pw v0) ∧ w3 = wr3) (fun _ u7 _ => (intOf u7).toNat)
      case atStart => exact ⟨P, v0, rfl, rfl, hv0, rfl, rfl⟩
      case round =>
        obtain ⟨a, v, rfl, rfl, hv, ha, rfl⟩ := hrel
        by_cases h0 : 0 < v
        · have hs := pw_step hv.out
          have hal : a + v % 2 ≤ 1000000 := by have := ha.out; have := hPl.out; omega
          have q1 := gt8A w3 27 v h0
          have q2 := and8A w3 32 v hv.out
          have q3 := cv8A w3 (v % 2) (by omega)
          have q4 := addA2 w3 31 34 a (v % 2) hal
          have q5 := shr8A w3 29 v hv.out
          go_upto_region 8 with fail
          refine wp_region_lit ?_
          refine fl_start ?_
          generalize ha : Act.mk _ _ = a0
          have hn : a0.tmps.size = 38 := by rw [← ha]; kernel_rfl
          have h7 : (fr a0 []).eval (.tmp 7) = .int .u8 (v : Nat) := by rw [← ha]; kernel_rfl
          refine fl_know hn rfl h7 ?_
          clear h7
          refine g_mv hn ?_
          refine g_bc hn ?_ (hr := q1)
          refine fl_end ?_
          clear hn
          subst ha
          dsimp only [fr, cnd, Act.put, cond_true]
          simp only [List.setIfInBounds_toArray, List.set_cons_zero, List.set_cons_succ]
          go_upto_region 10 with fail
          refine wp_region_lit ?_
          refine fl_start ?_
          generalize ha : Act.mk _ _ = a0
          have hn : a0.tmps.size = 38 := by rw [← ha]; kernel_rfl
          have h5 : (fr a0 []).eval (.tmp 5) = .int .i64 (a : Nat) := by rw [← ha]; kernel_rfl
          refine fl_know hn rfl h5 ?_
          clear h5
          have h7 : (fr a0 [(5, true, .int .i64 (a : Nat))]).eval (.tmp 7) = .int .u8 (v : Nat) := by rw [← ha]; kernel_rfl
          refine fl_know hn rfl h7 ?_
          clear h7
          refine g_mv hn ?_
          refine g_mv hn ?_
          refine g_bc hn ?_ (hr := q2)
          refine g_cv hn ?_ (hr := q3)
          refine g_bn hn ?_ (hr := q4)
          refine g_as hn ?_
          refine fl_end ?_
          clear hn
          subst ha
          dsimp only [fr, cnd, Act.put, cond_true]
          simp only [List.setIfInBounds_toArray, List.set_cons_zero, List.set_cons_succ]
          go_upto_region 9 with fail
          refine wp_region_lit ?_
          refine fl_start ?_
          generalize ha : Act.mk _ _ = a0
          have hn : a0.tmps.size = 38 := by rw [← ha]; kernel_rfl
          have h7 : (fr a0 []).eval (.tmp 7) = .int .u8 (v : Nat) := by rw [← ha]; kernel_rfl
          refine fl_know hn rfl h7 ?_
          clear h7
          refine g_mv hn ?_
          refine g_bc hn ?_ (hr := q5)
          refine g_as hn ?_
          refine fl_end ?_
          clear hn q1 q2 q3 q4 q5
          subst ha
          dsimp only [fr, cnd, Act.put, cond_true]
          simp only [List.setIfInBounds_toArray, List.set_cons_zero, List.set_cons_succ]
          go_wp2_with fail
          go_roundw
          case rel => exact ⟨a + v % 2, v / 2, rfl, rfl, (show v / 2 < 256 by have := hv.out; omega), (show a + v % 2 + pw (v / 2) = P + pw v0 by have := ha.out; omega), by first | rfl | trivial⟩
          case measure => simp [intOf]; omega
        · have e : v = 0 := by omega
          subst e
          have q1 := gt8B w3 27
          go_upto_region 8 with fail
          refine wp_region_lit ?_
          refine fl_start ?_
          generalize ha : Act.mk _ _ = a0
          have hn : a0.tmps.size = 38 := by rw [← ha]; kernel_rfl
          have h7 : (fr a0 []).eval (.tmp 7) = .int .u8 ((0 : Nat) : Int) := by rw [← ha]; kernel_rfl
          refine fl_know hn rfl h7 ?_
          clear h7
          refine g_mv hn ?_
          refine g_bc hn ?_ (hr := q1)
          refine fl_end ?_
          clear hn q1
          subst ha
          dsimp only [fr, cnd, Act.put, cond_true]
          simp only [List.setIfInBounds_toArray, List.set_cons_zero, List.set_cons_succ]
          go_wp2_with fail
          go_roundw
          case rel => exact ⟨k + 1, by omega, by go_num, by rw [hT.out.1, ← ha.out]; rfl, hK2⟩
          case measure => simp [intOf]; omega
    · have e : k = n := by omega
      subst e
      have i2 : ¬ (k : Int) < (k : Int) := by omega
      go_wp2_with fail
      go_ret
      exact ⟨rfl, hK.below⟩
end Go.Proofs.Ytdfifcgpjeojlaa

namespace Go.Proofs.Ytdfifcgpjeojlaa
open Go.RowKit

/-- string(..) of bytes that are read. -/
theorem conv_rd {B : Nat} (W : World) (A : Option Addr) (n c : Nat) (l : List UInt8) (hn : l.length = n) (h : RdB B W A l) : (convert 27 9 (.slice A n c)).run Try.prog W = .ok (.string ⟨l.toArray⟩) W := by
  subst hn
  cases l with
  | nil =>
    cases A with
    | none => exact run_convert_bytes_nil W 27 5 Try.underlying27 Try.underlying5 0 c 9 Try.underlying9
    | some ad => exact run_convert_bytes_back W 27 9 5 ad c [] Try.underlying27 Try.underlying5 Try.underlying9 (fun j hj => absurd hj (by simp))
  | cons x t =>
    obtain ⟨ad, rfl, _, _⟩ := h 0 x rfl
    refine run_convert_bytes_back W 27 9 5 ad c (x :: t) Try.underlying27 Try.underlying5 Try.underlying9 ?_
    intro j hj
    obtain ⟨a2, e, _, hc⟩ := h j _ (List.getElem?_eq_getElem hj)
    injection e with e
    subst e
    exact hc
end Go.Proofs.Ytdfifcgpjeojlaa

namespace Go.Proofs.Ytdfifcgpjeojlaa
open Go.RowKit

theorem en_spinney_air_Air_Take : ∀ args w, (callFunc 11 args).run Try.prog w = .ok (.enter 11 args) w := enters_of Try.func11 (by kernel_rfl) rfl
theorem en_spinney_air_Air_Turn : ∀ args w, (callFunc 9 args).run Try.prog w = .ok (.enter 9 args) w := enters_of Try.func9 (by kernel_rfl) rfl

theorem conv_sbA (s : ByteArray) (w : World) : ∃ c W', (convert 9 27 (.string s)).run Try.prog w = .ok (.slice (some ⟨w.heap.size, 0, none⟩) s.size c) W' ∧ RdB W'.heap.size W' (some ⟨w.heap.size, 0, none⟩) s.data.toList ∧ Below w.heap.size w W' := by
  have hr := run_bytes_of_string (P := Try.prog) w 9 27 5 s (by kernel_rfl) Try.underlying27 Try.underlying5
  refine ⟨_, _, hr, fun k x hx => ?_, ((Below.refl w.heap.size w).drew).alloc (Nat.le_refl _) _⟩
  have hk : k < s.data.size := by
    have := (List.getElem?_eq_some_iff.1 hx).1
    simpa using this
  have e : (⟨w.heap.size, 0, none⟩ : Addr).add k = ⟨w.heap.size, k, none⟩ := by unfold Addr.add; split <;> simp_all
  refine ⟨_, rfl, by simp, ?_⟩
  rw [e, Joins.cell_alloc_mark_at w.drew _ _ _ w.heap.size k rfl, bytesRow_at s _ k hk]
  have h2 : s.data[k] = x := by
    rw [Array.getElem?_toList, Array.getElem?_eq_getElem hk] at hx
    injection hx
  rw [h2]
theorem g_cvwA {P : Program} {l : List Oper} {Q : Exit → Act → World → Prop} {rest : List Oper} {a0 : Act} {L : List (Nat × Bool × Value)} {w w2 : World} {d n i : Nat} {t t2 : TypeId} {vi v : Value} {ty : TypeId} {p : String} {af : Array Edge} (hn : a0.tmps.size = n) (hr : (convert t t2 vi).run P w = .ok v w2) (h : FL P l Q rest a0 ((d, true, v) :: L) w2) (hd : Nat.blt d n = true := by rfl) (hl : lk L i = some (true, vi) := by rfl) : FL P l Q (⟨some d, .convert t t2 (.tmp i), ty, p, af, none⟩ :: rest) a0 L w :=
  g_w hn (w2 := w2) (v := v) (fun hk => by
    unfold execOp
    dsimp only
    rw [lk_at hk hl (fun _ => rfl) rfl, Sem.run_bind, hr]
    rfl) h rfl hd rfl
theorem bdPq (W : World) (A : Option Addr) (n c : Nat) : (Instr.build 29 #[(1, .int .i64 1), (2, .slice A n c)]).run Try.prog W = .ok (.agg #[.int .i64 0, .int .i64 1, .slice A n c]) W := by
  first
    | kernel_rfl
    | go_simp
theorem bd3 (W : World) : (Instr.build 58 #[(0, .string ⟨#[97]⟩), (1, .string ⟨#[98]⟩), (2, .string ⟨#[99]⟩)]).run Try.prog W = .ok (.agg #[.string ⟨#[97]⟩, .string ⟨#[98]⟩, .string ⟨#[99]⟩]) W := by kernel_rfl
/-- The k-th letter. -/
def chA (k : Nat) : UInt8 := UInt8.ofNat (97 + k)
theorem ix3 (W : World) (k : Nat) (h : k < 3) : (Instr.index 58 (.agg #[.string ⟨#[97]⟩, .string ⟨#[98]⟩, .string ⟨#[99]⟩]) (.int .i64 (k : Int))).run Try.prog W = .ok (.string ⟨#[chA k]⟩) W := by
  rcases (by omega : k = 0 ∨ k = 1 ∨ k = 2) with rfl | rfl | rfl <;> kernel_rfl
/-- What a flight is, its place aside. -/
abbrev Fl.is (x : Fl) : Int × Int × Nat × Bool × List UInt8 := (x.f, x.t, x.n, x.u, x.b)
abbrev abc (k : Nat) : Int × Int × Nat × Bool × List UInt8 := (0, 1, 1, false, [chA k])
set_option maxRecDepth 100000 in
set_option maxHeartbeats 4000000 in
theorem awake_any (w : World) : Calls Try.prog 6 #[] w fun e w' => e = .returned (.bool true) ∧ Below w.heap.size w w' := by
  have cN := airNew_any w
  go_enter Try.func6, Try.ntmps6
  go_wp2_with fail
  refine cN.mono ?_
  rintro e w1 ⟨p, rfl, hp, hM1, hB1⟩
  obtain ⟨base, hbs⟩ : ∃ base, base = w.heap.size := ⟨_, rfl⟩
  rw [← hbs] at hM1 hB1 hp
  have hpb : base ≤ p := by omega
  have HB := Lib.hid hbs
  have hb1 : base ≤ w1.heap.size := by have := hB1.size; have := HB.out; omega
  clear cN hp hbs
  go_wp2_with fail
  go_loopw [0, 10] (fun _ i wr => ∃ (k : Nat) (A : Option Addr) (c : Nat) (l : List Fl), k ≤ 3 ∧ i = .int .i64 k ∧ AirM base p wr A k c l ∧ Hid (l.map Fl.is = (List.range k).map abc) ∧ Below base w wr) (fun _ i _ => 3 - (intOf i).toNat)
  case atStart => exact ⟨0, none, 0, [], Nat.zero_le _, rfl, hM1, rfl, hB1⟩
  case round =>
    obtain ⟨k, A, c, l, hk, rfl, hM, hL, hB⟩ := hrel
    by_cases hlt : k < 3
    · have i2 : (k : Int) < 3 := by omega
      have q0 := ix3 wr k hlt
      obtain ⟨c2, w2, hcv, hrd, hb2⟩ := conv_sbA ⟨#[chA k]⟩ wr
      have hM2 := hM.keep hb2
      have hB2 : Below base w w2 := hB.trans (hb2.mono (by have := hB.size; have := HB.out; omega))
      have hx : FlIn w2 ⟨0, 1, some ⟨wr.heap.size, 0, none⟩, 1, c2, false, [chA k]⟩ := ⟨hrd, rfl, (fun e => nomatch e), (by decide : 1 ≤ 1000000)⟩
      have hb2s : base ≤ w2.heap.size := by have := hB2.size; have := HB.out; omega
      have cS := sn_good base p A k c l ⟨0, 1, some ⟨wr.heap.size, 0, none⟩, 1, c2, false, [chA k]⟩ w2 (show nodeB 0 = true by decide) (show nodeB 1 = true by decide) (show ¬ (0 : Int) = 1 by decide) hM2 (by omega) hx hb2s
      have q1 := bdPq w2 (some ⟨wr.heap.size, 0, none⟩) 1 c2
      go_upto_region 6 with fail
      refine wp_region_lit ?_
      refine fl_start ?_
      generalize ha : Act.mk _ _ = a0
      have hn : a0.tmps.size = 48 := by rw [← ha]; kernel_rfl
      have h9 : (fr a0 []).eval (.tmp 9) = .agg #[.string ⟨#[97]⟩, .string ⟨#[98]⟩, .string ⟨#[99]⟩] := by rw [← ha]; kernel_rfl
      refine fl_know hn rfl h9 ?_
      clear h9
      have h10 : (fr a0 [(9, true, .agg #[.string ⟨#[97]⟩, .string ⟨#[98]⟩, .string ⟨#[99]⟩])]).eval (.tmp 10) = .int .i64 (k : Int) := by rw [← ha]; kernel_rfl
      refine fl_know hn rfl h10 ?_
      clear h10
      refine fl_op (v := .string ⟨#[chA k]⟩) (g := true) hn rfl rfl rfl (fun hk _ => x_in (lk_at hk (i := 9) rfl (fun _ => rfl) rfl) (lk_at hk (i := 10) rfl (fun _ => rfl) rfl) q0) ?_
      refine g_as hn ?_
      refine fl_end ?_
      clear hn
      subst ha
      dsimp only [fr, cnd, Act.put, cond_true]
      simp only [List.setIfInBounds_toArray, List.set_cons_zero, List.set_cons_succ]
      go_upto_region 7 with fail
      refine wp_region_lit ?_
      refine fl_start ?_
      generalize ha : Act.mk _ _ = a0
      have hn : a0.tmps.size = 48 := by rw [← ha]; kernel_rfl
      have h1 : (fr a0 []).eval (.tmp 1) = .pointer (some ⟨p, 0, none⟩) := by rw [← ha]; kernel_rfl
      refine fl_know hn rfl h1 ?_
      clear h1
      have h3 : (fr a0 [(1, true, .pointer (some ⟨p, 0, none⟩))]).eval (.tmp 3) = .string ⟨#[chA k]⟩ := by rw [← ha]; kernel_rfl
      refine fl_know hn rfl h3 ?_
      clear h3
      refine g_mv hn ?_
      refine g_mv hn ?_
      refine g_cvwA hn hcv ?_
      refine g_bd hn ?_ q1 (hp := fun hk hg => by
        have e := lk_at hk (i := 15) rfl (fun _ => rfl) hg
        simp only [List.map_toArray, List.map_cons, List.map_nil]
        rw [e]
        try rfl)
      refine g_c2x en_spinney_air_Air_Send hn (R := fun v w3 => ∃ (A1 : Option Addr) (c1 : Nat) (A2 : Option Addr) (c3 : Nat), v = .int .i64 0 ∧ AirS base p A l w2 A1 (k + 1) c1 (l ++ [⟨0, 1, A2, 1, c3, false, [chA k]⟩]) w3) (cS.mono fun e w' hh => by
        obtain ⟨A1, c1, A2, c3, he, hS⟩ := hh.2 (by omega)
        exact ⟨_, he, A1, c1, A2, c3, rfl, hS⟩) ?_
      rintro v w3 ⟨A1, c1, A2, c3, rfl, hS⟩
      refine g_bc hn ?_ (hr := er_neq 17 0 0 w3)
      refine fl_end ?_
      clear hn q0 q1 cS hcv
      subst ha
      dsimp only [fr, cnd, Act.put, cond_true]
      simp only [List.setIfInBounds_toArray, List.set_cons_zero, List.set_cons_succ]
      have hL2 : Hid ((l ++ [(⟨0, 1, A2, 1, c3, false, [chA k]⟩ : Fl)]).map Fl.is = (List.range (k + 1)).map abc) := by
        show (l ++ [(⟨0, 1, A2, 1, c3, false, [chA k]⟩ : Fl)]).map Fl.is = _
        rw [List.map_append, hL.out, List.range_succ, List.map_append]
        rfl
      have hB3 := hB2.trans (hS.below hM2 hpb hb2s)
      have hM3 := hS.m
      clear hS hx hrd
      go_wp2_with fail
      go_roundw
      case rel => exact ⟨k + 1, A1, c1, _, by omega, by go_num, hM3, hL2, hB3⟩
      case measure => simp [intOf]; omega
    · have e : k = 3 := by omega
      subst e
      have hl3 := hM.row.len
      obtain ⟨x0, x1, x2, rfl⟩ : ∃ x0 x1 x2, l = [x0, x1, x2] := by
        match l, hl3 with
        | [x0, x1, x2], _ => exact ⟨x0, x1, x2, rfl⟩
      obtain ⟨f0, t0, A0, n0, c0, u0, b0⟩ := x0
      obtain ⟨f1, t1, A1, n1, c1, u1, b1⟩ := x1
      obtain ⟨f2, t2, A2, n2, c2, u2, b2⟩ := x2
      have hL2 := hL.out
      simp only [List.map_cons, List.map_nil, show List.range 3 = [0, 1, 2] from rfl, List.cons.injEq, Prod.mk.injEq, and_true] at hL2
      obtain ⟨⟨rfl, rfl, rfl, rfl, rfl⟩, ⟨rfl, rfl, rfl, rfl, rfl⟩, rfl, rfl, rfl, rfl, rfl⟩ := hL2
      clear hL hl3
      obtain ⟨ad, -, rfl, -, -⟩ := hM.at (k := 0) (by omega)
      obtain ⟨g, rfl⟩ := hM.row.atZero
      have hbr : base ≤ wr.heap.size := by have := hB.size; have := HB.out; omega
      have cT := take_any base p ⟨g, 0, none⟩ 3 c _ 5 wr hM (by omega) (by omega) hbr
      rw [show modA 5 3 = 2 by decide] at cT
      have i2 : ¬ ((3 : Nat) : Int) < 3 := by omega
      go_upto_region 10 with fail
      refine wp_region_lit ?_
      refine fl_start ?_
      generalize ha : Act.mk _ _ = a0
      have hn : a0.tmps.size = 48 := by rw [← ha]; kernel_rfl
      have h1 : (fr a0 []).eval (.tmp 1) = .pointer (some ⟨p, 0, none⟩) := by rw [← ha]; kernel_rfl
      refine fl_know hn rfl h1 ?_
      clear h1
      refine g_mv hn ?_
      refine fl_callx (R := fun v w2 => v = .tuple #[.agg #[.int .i64 0, .int .i64 1, .slice A2 1 c2], .int .i64 0] ∧ AirS base p (some ⟨g, 0, none⟩) [⟨0, 1, A0, 1, c0, false, [chA 0]⟩, ⟨0, 1, A1, 1, c1, false, [chA 1]⟩, ⟨0, 1, A2, 1, c2, false, [chA 2]⟩] wr (some ⟨g, 0, none⟩) 2 c [⟨0, 1, A0, 1, c0, false, [chA 0]⟩, ⟨0, 1, A1, 1, c1, false, [chA 1]⟩] w2 ∧ OwnB base w2 A2 1 c2 [chA 2]) hn rfl rfl rfl (fun hk => call2_is en_spinney_air_Air_Take _ _ _ _ _ _ _ _ _ (.pointer (some ⟨p, 0, none⟩)) (.int .i64 5) (lk_at hk (i := 21) rfl (fun _ => rfl) rfl) rfl rfl) (cT.mono fun e w' hh => by
        obtain ⟨x, hx, he, hS, hO⟩ := hh
        injection hx with hx
        subst hx
        exact ⟨_, he, rfl, hS, hO⟩) ?_
      rintro v w2 ⟨rfl, hS2, hO2⟩
      have hM2 := hS2.m
      have hB2 : Below base w w2 := hB.trans (hS2.below hM hpb hbr)
      refine g_mv hn ?_
      refine g_ex hn ?_
      refine g_ex hn ?_
      refine g_w (v := .pointer (some ⟨w2.heap.size, 0, none⟩)) (w2 := w2.alloc (.cells #[.int .i64 0, .int .i64 0, .slice none 0 0] 29)) hn (fun _ => x_alPc) ?_
      have hX3 := blk_new w2 #[.int .i64 0, .int .i64 0, .slice none 0 0] 29
      have hb3 := b0 w2 (.cells #[.int .i64 0, .int .i64 0, .slice none 0 0] 29)
      generalize w2.alloc (.cells #[.int .i64 0, .int .i64 0, .slice none 0 0] 29) = w3 at hX3 hb3 ⊢
      generalize hq : w2.heap.size = q at hX3 ⊢
      refine g_str hX3 ?_ (h1 := by simp [Value.oneCell'])
      intro w4 ho4 hX4
      refine g_as hn ?_
      refine fl_end ?_
      clear hn cT
      subst ha
      dsimp only [fr, cnd, Act.put, cond_true]
      simp only [List.setIfInBounds_toArray, List.set_cons_zero, List.set_cons_succ]
      have hb4 : Below w2.heap.size w2 w4 := hb3.trans (ho4.below (by omega))
      have hM4 := hM2.keep hb4
      have hO4 := hO2.keep hb4
      have hB4 : Below base w w4 := hB2.trans (hb4.mono (by have := hB2.size; have := HB.out; omega))
      clear hM hM2 hO2 hS2 hX3 hb3 ho4 hb4
      have m02 : modA 0 2 = 0 := by decide
      have cU := turn_good base p g 2 c [⟨0, 1, A0, 1, c0, false, [chA 0]⟩, ⟨0, 1, A1, 1, c1, false, [chA 1]⟩] 0 3 ⟨0, 1, A0, 1, c0, false, [chA 0]⟩ w4 hM4 (by omega) (by omega) (by rw [m02]; rfl) rfl (by decide : 0 < 1) (by decide : 1 ≤ 100000)
      have f2 := pp2 w4 q
      have l2 := ld_sl (hX4.cell 2)
      have v2 := conv_rd w4 A2 1 c2 [chA 2] rfl hO4.rd
      have s2 : ((do eqGuard .eql 9 (.tmp 30) (.const (.string ⟨#[99]⟩)) (.string ⟨[chA 2].toArray⟩) (.string ⟨#[99]⟩); binOp .eql 9 (.string ⟨[chA 2].toArray⟩) (.string ⟨#[99]⟩)) : Sem Value).run Try.prog w4 = .ok (.bool true) w4 := by kernel_rfl
      go_upto_region 11 with fail
      refine wp_region_lit ?_
      refine fl_start ?_
      generalize ha : Act.mk _ _ = a0
      have hn : a0.tmps.size = 48 := by rw [← ha]; kernel_rfl
      have h1 : (fr a0 []).eval (.tmp 1) = .pointer (some ⟨p, 0, none⟩) := by rw [← ha]; kernel_rfl
      refine fl_know hn rfl h1 ?_
      clear h1
      have h4 : (fr a0 [(1, true, .pointer (some ⟨p, 0, none⟩))]).eval (.tmp 4) = .pointer (some ⟨q, 0, none⟩) := by rw [← ha]; kernel_rfl
      refine fl_know hn rfl h4 ?_
      clear h4
      have h5 : (fr a0 [(4, true, .pointer (some ⟨q, 0, none⟩)), (1, true, .pointer (some ⟨p, 0, none⟩))]).eval (.tmp 5) = .int .i64 0 := by rw [← ha]; kernel_rfl
      refine fl_know hn rfl h5 ?_
      clear h5
      refine g_mv hn ?_
      refine g_bc hn ?_ (hr := er_eql 25 0 0 w4)
      refine g_mv hn ?_
      refine g_fd hn ?_
      refine g_ld hn ?_
      refine g_cv hn ?_ (hr := v2)
      refine g_bc hn ?_ (hr := s2)
      refine g_an hn ?_
      refine g_mv hn ?_
      refine g_mv hn ?_
      refine fl_callx (R := fun v w5 => v = .int .i64 0 ∧ AirS base p (some ⟨g, 0, none⟩) [⟨0, 1, A0, 1, c0, false, [chA 0]⟩, ⟨0, 1, A1, 1, c1, false, [chA 1]⟩] w4 (some ⟨g, 0, none⟩) 2 c (([⟨0, 1, A0, 1, c0, false, [chA 0]⟩, ⟨0, 1, A1, 1, c1, false, [chA 1]⟩] : List Fl).set (modA 0 2) ((⟨0, 1, A0, 1, c0, false, [chA 0]⟩ : Fl).turn (modA 3 (8 * 1)))) w5) hn rfl rfl rfl (fun hk => call3_is en_spinney_air_Air_Turn _ _ _ _ _ _ _ _ _ _ (.pointer (some ⟨p, 0, none⟩)) (.int .i64 0) (.int .i64 3) (lk_at hk (i := 34) rfl (fun _ => rfl) rfl) rfl rfl rfl) (cU.mono fun _ _ ⟨he, hS⟩ => ⟨_, he, rfl, hS⟩) ?_
      rintro v w5 ⟨rfl, hS5⟩
      have hM5 := hS5.m
      have hB5 : Below base w w5 := hB4.trans (hS5.below hM4 hpb (by have := hB4.size; have := HB.out; omega))
      have cV := turn_twice base p g 2 c _ 0 3 ((⟨0, 1, A0, 1, c0, false, [chA 0]⟩ : Fl).turn (modA 3 (8 * 1))) w5 hM5 (by omega) (by omega) (by rw [m02]; rfl) rfl
      have cW := airLen_any base p (some ⟨g, 0, none⟩) 2 c _ w5 hM5
      refine g_bc hn ?_ (hr := er_eql 35 0 0 w5)
      refine g_an hn ?_
      refine g_mv hn ?_
      refine g_mv hn ?_
      refine fl_callx (R := fun v w6 => v = .int .i64 6 ∧ w5 = w6) hn rfl rfl rfl (fun hk => call3_is en_spinney_air_Air_Turn _ _ _ _ _ _ _ _ _ _ (.pointer (some ⟨p, 0, none⟩)) (.int .i64 0) (.int .i64 3) (lk_at hk (i := 39) rfl (fun _ => rfl) rfl) rfl rfl rfl) (cV.mono fun _ _ ⟨he, hw⟩ => ⟨_, he, rfl, hw.symm⟩) ?_
      rintro v w6 ⟨rfl, hw6⟩
      subst hw6
      refine g_bc hn ?_ (hr := er_eql 40 6 6 w5)
      refine g_an hn ?_
      refine g_mv hn ?_
      refine g_mv hn ?_
      refine g_c1x en_spinney_air_Air_Len hn (R := fun v w6 => v = .int .i64 ((2 : Nat) : Int) ∧ w5 = w6) (cW.mono fun _ _ ⟨he, hw⟩ => ⟨_, he, rfl, hw.symm⟩) ?_
      rintro v w6 ⟨rfl, hw6⟩
      subst hw6
      refine g_eql hn ?_
      refine g_an hn ?_
      refine g_as hn ?_
      refine fl_end ?_
      clear hn cU cV cW f2 l2 v2 s2
      subst ha
      dsimp only [fr, cnd, Act.put, cond_true]
      simp only [List.setIfInBounds_toArray, List.set_cons_zero, List.set_cons_succ]
      go_wp2_with fail
      go_ret
      exact ⟨rfl, by rw [← HB.out]; exact hB5⟩
end Go.Proofs.Ytdfifcgpjeojlaa
