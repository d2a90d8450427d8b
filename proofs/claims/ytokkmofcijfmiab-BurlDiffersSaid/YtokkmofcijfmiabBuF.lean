/-
  WHAT IS PROVED: the burl of cells (of). Conditions: those typed in each theorem.
-/
import Derived.Test.YtokkmofcijfmiabGQ12
import Derived.Test.YtokkmofcijfmiabGQ13
namespace Go.Proofs.Ytokkmofcijfmiab
open Go.RowKit

theorem en_spinney_burl_of : ∀ args w, (callFunc 23 args).run Try.prog w = .ok (.enter 23 args) w := enters_of Try.func23 (by kernel_rfl) rfl

/-- What a cell adds. -/
def shrC (c : Cl) : Nat := shr28 c.ky c.k c.x c.s
def addL (L : List Nat) (j x : Nat) : List Nat := L.set j ((L.getD j 0 + x) % 18446744073709551616)
/-- The leaves of cells. -/
def lvTo (l : List Cl) : List Nat := l.foldl (fun L c => addL L (leafL c.ky.data.toList) (shrC c)) (List.replicate 16 0)
theorem addL_len (L : List Nat) (j x : Nat) : (addL L j x).length = L.length := by simp [addL]
theorem addL_lt {L : List Nat} (h : ∀ x, x ∈ L → x < 18446744073709551616) (j y : Nat) : ∀ x, x ∈ addL L j y → x < 18446744073709551616 := by
  intro x hx
  rcases List.mem_or_eq_of_mem_set hx with h1 | h1
  · exact h x h1
  · rw [h1]; exact Nat.mod_lt _ (by decide)
theorem lvTo_zero : lvTo [] = List.replicate 16 0 := rfl
theorem lvTo_snoc (l : List Cl) (c : Cl) : lvTo (l ++ [c]) = addL (lvTo l) (leafL c.ky.data.toList) (shrC c) := by unfold lvTo; rw [List.foldl_append, List.foldl_cons, List.foldl_nil]
theorem lvTo_next {l : List Cl} {k : Nat} {c : Cl} (h : l[k]? = some c) : lvTo (l.take (k + 1)) = addL (lvTo (l.take k)) (leafL c.ky.data.toList) (shrC c) := by
  rw [List.take_add_one, h]
  exact lvTo_snoc _ _
theorem lvFold_ok (l : List Cl) : ∀ L : List Nat, L.length = 16 → (∀ x, x ∈ L → x < 18446744073709551616) → (l.foldl (fun L c => addL L (leafL c.ky.data.toList) (shrC c)) L).length = 16 ∧ ∀ x, x ∈ l.foldl (fun L c => addL L (leafL c.ky.data.toList) (shrC c)) L → x < 18446744073709551616 := by
  induction l with
  | nil => exact fun L h h2 => ⟨h, h2⟩
  | cons c r ih => exact fun L h h2 => ih _ ((addL_len _ _ _).trans h) (addL_lt h2 _ _)
theorem lvTo_len (l : List Cl) : (lvTo l).length = 16 := (lvFold_ok l _ (by simp) (by intro x hx; rw [(List.mem_replicate.1 hx).2]; decide)).1
theorem lvTo_lt (l : List Cl) : ∀ x, x ∈ lvTo l → x < 18446744073709551616 := (lvFold_ok l _ (by simp) (by intro x hx; rw [(List.mem_replicate.1 hx).2]; decide)).2
/-- The burl of cells. -/
def burlC (l : List Cl) : Array Value := buC (rootL (lvTo l)) (lvTo l)
theorem add_uu (i j : Nat) (W : World) (x y : Nat) : ((do eqGuard .add 36 (.tmp i) (.tmp j) (.int .u64 (x : Int)) (.int .u64 (y : Int)); binOp .add 36 (.int .u64 (x : Int)) (.int .u64 (y : Int))) : Sem Value).run Try.prog W = .ok (.int .u64 (((x + y) % 18446744073709551616 : Nat) : Int)) W := by
  have e : IntKind.u64.wrap ((x : Int) + (y : Int)) = (((x + y) % 18446744073709551616 : Nat) : Int) := by
    rw [← wrapN]
    congr 1
  rw [← e]
  clear e
  unfold binOp
  simp only [eqGuard, go_sem]
  simp
theorem buC_set (r : Nat) (L : List Nat) (j x : Nat) : (buC r L).setIfInBounds (1 + j) (.int .u64 (x : Int)) = buC r (L.set j x) := by
  rw [Nat.add_comm]
  simp [buC]
set_option maxRecDepth 100000 in
set_option maxHeartbeats 4000000 in
theorem buOf_any (A : Option Addr) (n c : Nat) (l : List Cl) (w : World) (hn : l.length = n) (hr : RdX 4 w.heap.size w A (l.map Cl.cells)) (hm : n ≤ 1000000) (hf : ∀ x, x ∈ l → x.fits) (hg : ∀ x, x ∈ l → x.good = true) : Calls Try.prog 23 #[.slice A n c] w fun e w' => e = .returned (.agg (burlC l)) ∧ Below w.heap.size w w' := by
  have HN := Lib.hid hn
  have HR := Lib.hid (fun W (h : Below w.heap.size w W) => hr.keep (W' := W) h (Nat.le_refl _))
  clear hn hr
  have hX0 := blk_new w #[.int .u64 0, .int .u64 0, .int .u64 0, .int .u64 0, .int .u64 0, .int .u64 0, .int .u64 0, .int .u64 0, .int .u64 0, .int .u64 0, .int .u64 0, .int .u64 0, .int .u64 0, .int .u64 0, .int .u64 0, .int .u64 0, .int .u64 0] 39
  replace hX0 := hX0.alloc (.cells #[.int .u64 0, .int .u64 0, .int .u64 0, .int .u64 0, .int .u64 0, .int .u64 0, .int .u64 0, .int .u64 0, .int .u64 0, .int .u64 0, .int .u64 0, .int .u64 0, .int .u64 0, .int .u64 0, .int .u64 0, .int .u64 0, .int .u64 0] 39)
  have hz1 : (w.alloc (.cells #[.int .u64 0, .int .u64 0, .int .u64 0, .int .u64 0, .int .u64 0, .int .u64 0, .int .u64 0, .int .u64 0, .int .u64 0, .int .u64 0, .int .u64 0, .int .u64 0, .int .u64 0, .int .u64 0, .int .u64 0, .int .u64 0, .int .u64 0] 39)).heap.size = w.heap.size + 1 := by simp
  have hX1 := blk_new (w.alloc (.cells #[.int .u64 0, .int .u64 0, .int .u64 0, .int .u64 0, .int .u64 0, .int .u64 0, .int .u64 0, .int .u64 0, .int .u64 0, .int .u64 0, .int .u64 0, .int .u64 0, .int .u64 0, .int .u64 0, .int .u64 0, .int .u64 0, .int .u64 0] 39)) #[.int .u64 0, .int .u64 0, .int .u64 0, .int .u64 0, .int .u64 0, .int .u64 0, .int .u64 0, .int .u64 0, .int .u64 0, .int .u64 0, .int .u64 0, .int .u64 0, .int .u64 0, .int .u64 0, .int .u64 0, .int .u64 0, .int .u64 0] 39
  rw [hz1] at hX1
  have hB := ba (b0 w (.cells #[.int .u64 0, .int .u64 0, .int .u64 0, .int .u64 0, .int .u64 0, .int .u64 0, .int .u64 0, .int .u64 0, .int .u64 0, .int .u64 0, .int .u64 0, .int .u64 0, .int .u64 0, .int .u64 0, .int .u64 0, .int .u64 0, .int .u64 0] 39)) (.cells #[.int .u64 0, .int .u64 0, .int .u64 0, .int .u64 0, .int .u64 0, .int .u64 0, .int .u64 0, .int .u64 0, .int .u64 0, .int .u64 0, .int .u64 0, .int .u64 0, .int .u64 0, .int .u64 0, .int .u64 0, .int .u64 0, .int .u64 0] 39)
  have hzz : ((w.alloc (.cells #[.int .u64 0, .int .u64 0, .int .u64 0, .int .u64 0, .int .u64 0, .int .u64 0, .int .u64 0, .int .u64 0, .int .u64 0, .int .u64 0, .int .u64 0, .int .u64 0, .int .u64 0, .int .u64 0, .int .u64 0, .int .u64 0, .int .u64 0] 39)).alloc (.cells #[.int .u64 0, .int .u64 0, .int .u64 0, .int .u64 0, .int .u64 0, .int .u64 0, .int .u64 0, .int .u64 0, .int .u64 0, .int .u64 0, .int .u64 0, .int .u64 0, .int .u64 0, .int .u64 0, .int .u64 0, .int .u64 0, .int .u64 0] 39)).heap.size = w.heap.size + 2 := by simp
  go_enter Try.func23, Try.ntmps23
  go_upto_region 2 with fail
  generalize ((w.alloc (.cells #[.int .u64 0, .int .u64 0, .int .u64 0, .int .u64 0, .int .u64 0, .int .u64 0, .int .u64 0, .int .u64 0, .int .u64 0, .int .u64 0, .int .u64 0, .int .u64 0, .int .u64 0, .int .u64 0, .int .u64 0, .int .u64 0, .int .u64 0] 39)).alloc (.cells #[.int .u64 0, .int .u64 0, .int .u64 0, .int .u64 0, .int .u64 0, .int .u64 0, .int .u64 0, .int .u64 0, .int .u64 0, .int .u64 0, .int .u64 0, .int .u64 0, .int .u64 0, .int .u64 0, .int .u64 0, .int .u64 0, .int .u64 0] 39)) = W0 at hX0 hX1 hB hzz HR ⊢
  (try simp only [hz1])
  clear hz1
  generalize hb : w.heap.size = b at hX0 hX1 hB hzz HR ⊢
  have e0 : #[.int .u64 0, .int .u64 0, .int .u64 0, .int .u64 0, .int .u64 0, .int .u64 0, .int .u64 0, .int .u64 0, .int .u64 0, .int .u64 0, .int .u64 0, .int .u64 0, .int .u64 0, .int .u64 0, .int .u64 0, .int .u64 0, .int .u64 0] = buC 0 (lvTo (l.take 0)) := by kernel_rfl
  rw [e0] at hX1
  clear e0
  go_wp2_with fail
  go_loopw [5, 8] (fun _ i wr => ∃ (k : Nat), k ≤ n ∧ i = .int .i64 k ∧ Blk wr b #[.int .u64 0, .int .u64 0, .int .u64 0, .int .u64 0, .int .u64 0, .int .u64 0, .int .u64 0, .int .u64 0, .int .u64 0, .int .u64 0, .int .u64 0, .int .u64 0, .int .u64 0, .int .u64 0, .int .u64 0, .int .u64 0, .int .u64 0] 39 ∧ Blk wr (b + 1) (buC 0 (lvTo (l.take k))) 39 ∧ Below b w wr) (fun _ i _ => n - (intOf i).toNat)
  case atStart => exact ⟨0, Nat.zero_le _, rfl, hX0, hX1, hB⟩
  case round =>
    clear hX0 hX1 hB
    obtain ⟨k, hk, rfl, hX0, hX1, hB⟩ := hrel
    by_cases hlt : k < n
    · obtain ⟨x, hx⟩ : ∃ x, l[k]? = some x := ⟨_, List.getElem?_eq_getElem (show k < l.length by have := HN.out; omega)⟩
      obtain ⟨ad, rfl, _, hc⟩ := HR.out wr hB k x.cells (by rw [List.getElem?_map, hx]; rfl)
      have i2 : (k : Int) < (n : Int) := by omega
      have hxf := hf x (List.mem_of_getElem? hx)
      have hxg := hg x (List.mem_of_getElem? hx)
      have HX : Hid (lvTo (l.take (k + 1)) = addL (lvTo (l.take k)) (leafL x.ky.data.toList) (shrC x)) := lvTo_next hx
      have ix := cix wr ad n c k hlt
      have ld := cld hc
      clear hc
      have hLl := lvTo_len (l.take k)
      go_upto_region 4 with fail
      refine wp_region_lit ?_
      refine fl_start ?_
      generalize ha : Act.mk _ _ = a0
      have hn : a0.tmps.size = 29 := by rw [← ha]; kernel_rfl
      have h6 : (fr a0 []).eval (.tmp 6) = .slice (some ad) n c := by rw [← ha]; kernel_rfl
      refine fl_know hn rfl h6 ?_
      clear h6
      have h8 : (fr a0 [(6, true, .slice (some ad) n c)]).eval (.tmp 8) = .int .i64 (k : Int) := by rw [← ha]; kernel_rfl
      refine fl_know hn rfl h8 ?_
      clear h8
      refine g_ix hn ?_
      refine g_ld hn ?_
      refine al_row hn (alC wr) ?_
      intro q w2 hq hY hB2
      refine g_str hY ?_ (h1 := cl_oneC x)
      intro w3 ho hY3
      refine fl_end ?_
      clear hn
      subst ha
      dsimp only [fr, cnd, Act.put, cond_true]
      simp only [List.setIfInBounds_toArray, List.set_cons_zero, List.set_cons_succ]
      have hW3 : Below wr.heap.size wr w3 := hB2.trans (ho.below (by omega))
      have hZ0 := hX0.keep hW3
      have hZ1 := hX1.keep hW3
      have hq1 : b + 1 < q := by have := hX1.lt; omega
      have hB3 : Below b w w3 := hB.trans (hW3.mono (by have := hX1.lt; omega))
      clear ix ld hY hB2 ho hW3 hX0 hX1
      obtain ⟨y, hy⟩ := at16 hLl (leafL_lt x.ky.data.toList)
      have f0 : ∀ W, (fun W => (∃ L', Blk W (b + 1) (buC 0 L') 39) ∧ Blk W q x.cells tCl) W → _ := fun W _ => fcl0 W q
      have f1 : ∀ W, (fun W => (∃ L', Blk W (b + 1) (buC 0 L') 39) ∧ Blk W q x.cells tCl) W → _ := fun W _ => fcl1 W q
      have f2 : ∀ W, (fun W => (∃ L', Blk W (b + 1) (buC 0 L') 39) ∧ Blk W q x.cells tCl) W → _ := fun W _ => fbu1 W (b + 1)
      have f3 : ∀ W, (fun W => (∃ L', Blk W (b + 1) (buC 0 L') 39) ∧ Blk W q x.cells tCl) W → _ := fun W h => ld_ky h.2
      have f4 : ∀ W, (fun W => (∃ L', Blk W (b + 1) (buC 0 L') 39) ∧ Blk W q x.cells tCl) W → _ := fun W h => ld_cv h.2
      have f5 : ∀ W, (fun W => (∃ L', Blk W (b + 1) (buC 0 L') 39) ∧ Blk W q x.cells tCl) W → _ := fun W _ => ix_bu W (b + 1) (leafL x.ky.data.toList) (leafL_lt _)
      go_upto_region 5 with fail
      refine fh_start (S := (fun W => (∃ L', Blk W (b + 1) (buC 0 L') 39) ∧ Blk W q x.cells tCl)) (by kernel_rfl) (⟨⟨_, hZ1⟩, hY3⟩) (fun hS => ?_)
      generalize ha : Act.mk _ _ = a0
      have hn : a0.tmps.size = 29 := by rw [← ha]; kernel_rfl
      have h3 : (fr a0 []).eval (.tmp 3) = .pointer (some ⟨b + 1, 0, none⟩) := by rw [← ha]; kernel_rfl
      refine fh_know hn rfl h3 ?_
      clear h3
      have h5 : (fr a0 [(3, true, .pointer (some ⟨b + 1, 0, none⟩))]).eval (.tmp 5) = .pointer (some ⟨q, 0, none⟩) := by rw [← ha]; kernel_rfl
      refine fh_know hn rfl h5 ?_
      clear h5
      refine h_fd 0 hn hS ?_
      refine h_ld 1 hn hS ?_
      refine h_fd 3 hn hS ?_
      refine h_fd 6 hn hS ?_
      refine h_ld 7 hn hS ?_
      refine h_fd 8 hn hS ?_
      refine h_ld 9 hn hS ?_
      refine h_fd 12 hn hS ?_
      refine fh_callx 2 (d := 14) (R := fun v w2 => v = .int .i64 (leafL x.ky.data.toList : Nat) ∧ Below w3.drew.heap.size w3.drew w2) hn rfl (fun hk => call1_is en_spinney_burl_Leaf _ _ _ _ _ _ _ _ (.string x.ky) (lk_at hk (i := 13) rfl (fun _ => rfl) rfl) rfl) ((leaf_any x.ky _ (by have := (cl_in hxg).1; omega)).mono fun _ _ ⟨he, hb2⟩ => ⟨_, he, rfl, hb2⟩) ?_ rfl rfl (by kernel_rfl) rfl
      rintro v v1 ⟨rfl, hb1⟩
      have hX1 := hZ1.keep (bel_un29 hb1)
      replace hZ1 := hZ0.keep (bel_un29 hb1)
      have hB1 : Below b w v1 := hB3.trans ((bel_un29 hb1).mono (show b ≤ w3.drew.heap.size from Nat.le_of_lt hZ0.lt))
      have hS1 : (fun W => (∃ L', Blk W (b + 1) (buC 0 L') 39) ∧ Blk W q x.cells tCl) v1 := ⟨⟨_, hX1⟩, hS.2.keep hb1⟩
      have HE : Hid (lvTo (l.take (k + 1)) = (lvTo (l.take k)).set (leafL x.ky.data.toList) ((y + shrC x) % 18446744073709551616)) := by
        show _ = _
        rw [HX.out]
        unfold addL
        rw [List.getD_eq_getElem?_getD, hy]
        rfl
      clear hS
      refine ⟨hS1, ?_⟩
      refine h_ix 4 hn hS1 ?_
      refine fh_two (i := 5) (j := 10) (by kernel_rfl) ?_ ?_
      · refine one_valx (d := 17) (v := .int .u64 (y : Int)) (w2 := v1) hn rfl (fun hk => x_ld (lk_at hk (i := 16) rfl (fun _ => rfl) rfl) (ld_u ((hX1.cell _).trans (buC_at _ _ _ _ hy)))) hS1 ?_ rfl rfl rfl
        refine fh_callx 10 (d := 22) (R := fun v w2 => v = .int .u64 (shrC x : Nat) ∧ Below v1.heap.size v1 w2) hn rfl (fun hk => call2_is en_spinney_burl_share _ _ _ _ _ _ _ _ _ (.string x.ky) (.agg #[.int .i64 x.k, .int .i64 x.x, .string x.s]) (lk_at hk (i := 19) rfl (fun _ => rfl) rfl) (lk_at hk (i := 21) rfl (fun _ => rfl) rfl) rfl) ((share_any x.ky x.k x.x x.s v1 (by have := (cl_in hxg).1; omega) (cl_in hxg).2.2.2.2 hxf.2.2.1 hxf.2.2.2).mono fun _ _ ⟨he, hb2⟩ => ⟨_, he, rfl, hb2⟩) ?_ rfl rfl (by kernel_rfl) rfl
        rintro v v2 ⟨rfl, hb2⟩
        have hX2 := hX1.keep hb2
        have hZ2 := hZ1.keep hb2
        have hS2 : (fun W => (∃ L', Blk W (b + 1) (buC 0 L') 39) ∧ Blk W q x.cells tCl) v2 := ⟨⟨_, hX2⟩, hS1.2.keep hb2⟩
        have hB2 : Below b w v2 := hB1.trans (hb2.mono (by have := hX1.lt; omega))
        have hX3' := hX2.set (1 + leafL x.ky.data.toList) (.int .u64 (((y + shrC x) % 18446744073709551616 : Nat) : Int))
        have hX3 := hX3'
        rw [buC_set] at hX3
        clear hX3'
        have ho3 := only_cell v2 (b + 1) (1 + leafL x.ky.data.toList) (.int .u64 (((y + shrC x) % 18446744073709551616 : Nat) : Int))
        refine ⟨hS2, ?_⟩
        refine h_op 11 hn hS2 (fun W _ hk => x_bn (lk_at hk (i := 17) rfl (fun _ => rfl) rfl) (lk_at hk (i := 22) rfl (fun _ => rfl) rfl) (add_uu _ _ W y (shrC x))) ?_
        refine h_ix 13 hn hS2 ?_
        refine h_st 14 (st_u (j := 1 + leafL x.ky.data.toList) hX2 (by rw [buC_size, hLl]; have := leafL_lt x.ky.data.toList; omega) _) ⟨⟨_, hX3⟩, hS2.2.only ho3 (by omega)⟩ ?_
        refine fh_end (by kernel_rfl) ?_
        clear hn
        subst ha
        dsimp only [fr, cnd, Act.put, cond_true]
        simp only [List.setIfInBounds_toArray, List.set_cons_zero, List.set_cons_succ]
        have hX4 : Blk (v2.setCell ⟨b + 1, 1 + leafL x.ky.data.toList, none⟩ (.int .u64 (((y + shrC x) % 18446744073709551616 : Nat) : Int))) (b + 1) (buC 0 (lvTo (l.take (k + 1)))) 39 := by rw [HE.out]; exact hX3
        have hZ3 := hZ2.only ho3 (by omega)
        have hB4 := hB2.trans (ho3.below (by omega))
        go_wp2_with fail
        refine ⟨?_, ?_⟩
        · first
          | exact ⟨k + 1, by omega, by go_num, hZ3, hX4, hB4⟩
          | repeat apply Exists.intro
            refine ⟨?_, rfl⟩
            exact ⟨k + 1, by omega, by go_num, hZ3, hX4, hB4⟩
        · simp [intOf]; omega
      · refine one_callx29 (d := 22) (R := fun v w2 => v = .int .u64 (shrC x : Nat) ∧ Below v1.heap.size v1 w2) hn rfl (fun hk => call2_is en_spinney_burl_share _ _ _ _ _ _ _ _ _ (.string x.ky) (.agg #[.int .i64 x.k, .int .i64 x.x, .string x.s]) (lk_at hk (i := 19) rfl (fun _ => rfl) rfl) (lk_at hk (i := 21) rfl (fun _ => rfl) rfl) rfl) ((share_any x.ky x.k x.x x.s v1 (by have := (cl_in hxg).1; omega) (cl_in hxg).2.2.2.2 hxf.2.2.1 hxf.2.2.2).mono fun _ _ ⟨he, hb2⟩ => ⟨_, he, rfl, hb2⟩) ?_ rfl rfl rfl
        rintro v v2 ⟨rfl, hb2⟩
        have hX2 := hX1.keep hb2
        have hZ2 := hZ1.keep hb2
        have hS2 : (fun W => (∃ L', Blk W (b + 1) (buC 0 L') 39) ∧ Blk W q x.cells tCl) v2 := ⟨⟨_, hX2⟩, hS1.2.keep hb2⟩
        have hB2 : Below b w v2 := hB1.trans (hb2.mono (by have := hX1.lt; omega))
        have hX3' := hX2.set (1 + leafL x.ky.data.toList) (.int .u64 (((y + shrC x) % 18446744073709551616 : Nat) : Int))
        have hX3 := hX3'
        rw [buC_set] at hX3
        clear hX3'
        have ho3 := only_cell v2 (b + 1) (1 + leafL x.ky.data.toList) (.int .u64 (((y + shrC x) % 18446744073709551616 : Nat) : Int))
        refine ⟨hS2, ?_⟩
        refine h_one 5 (v := .int .u64 (y : Int)) hn hS2 (fun hk => x_ld (lk_at hk (i := 16) rfl (fun _ => rfl) rfl) (ld_u ((hX2.cell _).trans (buC_at _ _ _ _ hy)))) ?_
        refine h_op 11 hn hS2 (fun W _ hk => x_bn (lk_at hk (i := 17) rfl (fun _ => rfl) rfl) (lk_at hk (i := 22) rfl (fun _ => rfl) rfl) (add_uu _ _ W y (shrC x))) ?_
        refine h_ix 13 hn hS2 ?_
        refine h_st 14 (st_u (j := 1 + leafL x.ky.data.toList) hX2 (by rw [buC_size, hLl]; have := leafL_lt x.ky.data.toList; omega) _) ⟨⟨_, hX3⟩, hS2.2.only ho3 (by omega)⟩ ?_
        refine fh_end (by kernel_rfl) ?_
        clear hn
        subst ha
        dsimp only [fr, cnd, Act.put, cond_true]
        simp only [List.setIfInBounds_toArray, List.set_cons_zero, List.set_cons_succ]
        have hX4 : Blk (v2.setCell ⟨b + 1, 1 + leafL x.ky.data.toList, none⟩ (.int .u64 (((y + shrC x) % 18446744073709551616 : Nat) : Int))) (b + 1) (buC 0 (lvTo (l.take (k + 1)))) 39 := by rw [HE.out]; exact hX3
        have hZ3 := hZ2.only ho3 (by omega)
        have hB4 := hB2.trans (ho3.below (by omega))
        go_wp2_with fail
        refine ⟨?_, ?_⟩
        · first
          | exact ⟨k + 1, by omega, by go_num, hZ3, hX4, hB4⟩
          | repeat apply Exists.intro
            refine ⟨?_, rfl⟩
            exact ⟨k + 1, by omega, by go_num, hZ3, hX4, hB4⟩
        · simp [intOf]; omega
    · have i2 : ¬ (k : Int) < (n : Int) := by omega
      have e : l.take k = l := List.take_of_length_le (by have := HN.out; omega)
      rw [e] at hX1
      have hLl := lvTo_len l
      have l1 := ld_bu hX1 hLl
      have cR := rooted_any 0 (lvTo l) wr hLl (lvTo_lt l)
      go_upto_region 7 with fail
      refine wp_region_lit ?_
      refine fl_start ?_
      generalize ha : Act.mk _ _ = a0
      have hn : a0.tmps.size = 29 := by rw [← ha]; kernel_rfl
      have h2 : (fr a0 []).eval (.tmp 2) = .pointer (some ⟨b, 0, none⟩) := by rw [← ha]; kernel_rfl
      refine fl_know hn rfl h2 ?_
      clear h2
      have h3 : (fr a0 [(2, true, .pointer (some ⟨b, 0, none⟩))]).eval (.tmp 3) = .pointer (some ⟨b + 1, 0, none⟩) := by rw [← ha]; kernel_rfl
      refine fl_know hn rfl h3 ?_
      clear h3
      refine g_ld hn ?_
      refine g_c1x en_spinney_burl_rooted hn (R := fun v w2 => v = .agg (burlC l) ∧ Below wr.heap.size wr w2) (cR.mono fun _ _ ⟨he, hb2⟩ => ⟨_, he, rfl, hb2⟩) ?_
      rintro v w2 ⟨rfl, hb2⟩
      have hZ2 := hX0.keep hb2
      have hbs : (burlC l).size = 17 := by unfold burlC; rw [buC_size, hLl]
      refine g_str (c := burlC l) hZ2 ?_ (hs := by rw [hbs]; rfl) (hi := by rw [hbs]; kernel_rfl) (h1 := bu_one _ _)
      intro w4 ho4 hX6
      refine fl_end ?_
      clear hn l1 cR
      subst ha
      dsimp only [fr, cnd, Act.put, cond_true]
      simp only [List.setIfInBounds_toArray, List.set_cons_zero, List.set_cons_succ]
      have hB4 := (hB.trans (hb2.mono (by have := hX0.lt; omega))).trans (ho4.below (Nat.le_refl _))
      go_wp2_with fail
      refine bodyPost_ret (results_cell_row Try.results23 _ _ (b) 39 (burlC l) (0, 0) _ (by rfl) hX6 Try.underlying39 (by rfl) (by rw [hbs]; kernel_rfl)) rfl ?_
      exact ⟨rfl, by first | exact hB4 | (rw [hb]; exact hB4)⟩
end Go.Proofs.Ytokkmofcijfmiab
