/-
  WHAT IS PROVED: the document's At and Set (spinneyref12): what stands at a key among cells, and cells with a value set at a key. Conditions: those typed in each theorem.
-/
import Derived.Test.YtokkmofcijfmiabBcMath
import Derived.Test.YtokkmofcijfmiabBuG
import Derived.Test.YtokkmofcijfmiabGQ12
import Derived.Test.YtokkmofcijfmiabGQ6
namespace Go.Proofs.Ytokkmofcijfmiab
open Go.RowKit

theorem en_spinney_spinneyref12_At : ∀ args w, (callFunc 9 args).run Try.prog w = .ok (.enter 9 args) w := enters_of Try.func9 (by kernel_rfl) rfl
theorem en_spinney_spinneyref12_Set : ∀ args w, (callFunc 18 args).run Try.prog w = .ok (.enter 18 args) w := enters_of Try.func18 (by kernel_rfl) rfl
theorem en_spinney_spinneyref01_Texts : ∀ args w, (callFunc 30 args).run Try.prog w = .ok (.enter 30 args) w := enters_of Try.func30 (by kernel_rfl) rfl

theorem ba_eq (a b : ByteArray) : (a.toList == b.toList) = decide (a.data.toList = b.data.toList) := by
  rw [ByteArray.toList_eq, ByteArray.toList_eq]
  by_cases h : a.data.toList = b.data.toList
  · rw [h]; simp
  · rw [beq_eq_false_iff_ne.2 h]; simp [h]
theorem q_eql (i j : Nat) (W : World) (a b : ByteArray) : ((do eqGuard .eql 9 (.tmp i) (.tmp j) (.string a) (.string b); binOp .eql 9 (.string a) (.string b)) : Sem Value).run Try.prog W = .ok (.bool (decide (a.data.toList = b.data.toList))) W := by
  rw [← ba_eq]
  go_simp
theorem q_neq (i j : Nat) (W : World) (a b : ByteArray) : ((do eqGuard .neq 9 (.tmp i) (.tmp j) (.string a) (.string b); binOp .neq 9 (.string a) (.string b)) : Sem Value).run Try.prog W = .ok (.bool (!decide (a.data.toList = b.data.toList))) W := by
  rw [← ba_eq]
  go_simp
theorem q_eqv (i j : Nat) (W : World) (a b : ByteArray) {v : Bool} (h : decide (a.data.toList = b.data.toList) = v) : ((do eqGuard .eql 9 (.tmp i) (.tmp j) (.string a) (.string b); binOp .eql 9 (.string a) (.string b)) : Sem Value).run Try.prog W = .ok (.bool v) W := by rw [← h]; exact q_eql i j W a b
theorem q_nev (i j : Nat) (W : World) (a b : ByteArray) {v : Bool} (h : (!decide (a.data.toList = b.data.toList)) = v) : ((do eqGuard .neq 9 (.tmp i) (.tmp j) (.string a) (.string b); binOp .neq 9 (.string a) (.string b)) : Sem Value).run Try.prog W = .ok (.bool v) W := by rw [← h]; exact q_neq i j W a b
theorem k_eqc (i : Nat) (W : World) (k : Int) : ((do eqGuard .eql 29 (.tmp i) (.const (.int .i64 0)) (.int .i64 k) (.int .i64 0); binOp .eql 29 (.int .i64 k) (.int .i64 0)) : Sem Value).run Try.prog W = .ok (.bool (decide (k = 0))) W := by
  by_cases h : k = 0
  · subst h; go_simp
  · have h2 : (k == 0) = false := by simpa using h
    have h3 : decide (k = 0) = false := by simpa using h
    rw [h3]
    go_simp
theorem fix0 (W : World) (a : Addr) : (Instr.fieldAt 54 (.pointer (some a)) 0).run Try.prog W = .ok (.pointer (some a)) W := by go_simp
theorem cl_key {W : World} {ad : Addr} {k : Nat} {x : Cl} (hc : ∀ j v, x.cells[j]? = some v → W.cell? (ad.add (k * 4 + j)) = some v) : (Instr.loadAt 9 (.pointer (some (ad.add (k * 4))))).run Try.prog W = .ok (.string x.ky) W := ld_str (hc 0 _ rfl)
theorem le_lt (a b : List UInt8) : decide (Lib.compareBytes a b ≤ 0) = !(ltB b a) := by
  unfold ltB
  rw [cmpB_swap a b]
  rcases cmpB_cases a b with h | h | h <;> rw [h] <;> rfl
theorem fixv (W : World) (a : Addr) : (Instr.fieldAt 54 (.pointer (some a)) 1).run Try.prog W = .ok (.pointer (some ⟨a.block, a.off + 1, none⟩)) W := by go_simp
theorem cl_val {W : World} {ad : Addr} {k : Nat} {x : Cl} (hc : ∀ j v, x.cells[j]? = some v → W.cell? (ad.add (k * 4 + j)) = some v) : (Instr.loadAt 31 (.pointer (some ⟨(ad.add (k * 4)).block, (ad.add (k * 4)).off + 1, none⟩))).run Try.prog W = .ok (.agg #[.int .i64 x.k, .int .i64 x.x, .string x.s]) W := by
  obtain ⟨_, h1⟩ := celX hc
  exact vld (h1 0 _ rfl) (h1 1 _ rfl) (h1 2 _ rfl)
theorem alVt (w : World) : (Instr.alloc 31 true (.tuple #[])).run Try.prog w = .ok (.pointer (some ⟨w.heap.size, 0, none⟩)) (w.alloc (.cells #[.int .i64 0, .int .i64 0, .string ⟨#[]⟩] 31)) := by kernel_rfl
theorem bdVt (W : World) : (Instr.build 31 #[]).run Try.prog W = .ok (.agg #[.int .i64 0, .int .i64 0, .string ⟨#[]⟩]) W := by kernel_rfl
theorem atV_yes {ky : ByteArray} {l : List Cl} {k : Nat} {x : Cl} (hx : l[k]? = some x) (h : x.ky.data.toList = ky.data.toList) : atV ky (l.drop k) = (x.k, x.x, x.s) := by
  obtain ⟨hk, rfl⟩ := List.getElem?_eq_some_iff.1 hx
  rw [List.drop_eq_getElem_cons hk]
  show (if _ then _ else _) = _
  rw [if_pos h]
theorem atV_no {ky : ByteArray} {l : List Cl} {k : Nat} {x : Cl} (hx : l[k]? = some x) (h : ¬ x.ky.data.toList = ky.data.toList) : atV ky (l.drop k) = atV ky (l.drop (k + 1)) := by
  obtain ⟨hk, rfl⟩ := List.getElem?_eq_some_iff.1 hx
  rw [List.drop_eq_getElem_cons hk]
  show (if _ then _ else _) = _
  rw [if_neg h]
set_option maxRecDepth 100000 in
set_option maxHeartbeats 4000000 in
theorem refAt_any (A : Option Addr) (n c : Nat) (l : List Cl) (ky : ByteArray) (w : World) (hn : l.length = n) (hr : RdX 4 w.heap.size w A (l.map Cl.cells)) (hm : n ≤ 1000000) : Calls Try.prog 9 #[.slice A n c, .string ky] w fun e w' => e = .returned (.agg #[.int .i64 (atV ky l).1, .int .i64 (atV ky l).2.1, .string (atV ky l).2.2]) ∧ Below w.heap.size w w' := by
  have HN := Lib.hid hn
  have HR := Lib.hid (fun W (h : Below w.heap.size w W) => hr.keep (W' := W) h (Nat.le_refl _))
  have hB0 := b0 w (.cells #[.int .i64 0, .int .i64 0, .string ⟨#[]⟩] 31)
  have hX0 := blk_new w #[.int .i64 0, .int .i64 0, .string ⟨#[]⟩] 31
  clear hn hr
  go_enter Try.func9, Try.ntmps9
  go_wp2_with fail
  go_loopw [5, 8] (fun _ i wr => ∃ (k : Nat), k ≤ n ∧ i = .int .i64 k ∧ Hid (atV ky l = atV ky (l.drop k)) ∧ Blk wr w.heap.size #[.int .i64 0, .int .i64 0, .string ⟨#[]⟩] 31 ∧ Below w.heap.size w wr) (fun _ i _ => n - (intOf i).toNat)
  case atStart => exact ⟨0, Nat.zero_le _, rfl, rfl, hX0, hB0⟩
  case round =>
    clear hX0 hB0
    obtain ⟨k, hk, rfl, hA, hX, hB⟩ := hrel
    by_cases hlt : k < n
    · obtain ⟨x, hx⟩ : ∃ x, l[k]? = some x := ⟨_, List.getElem?_eq_getElem (show k < l.length by have := HN.out; omega)⟩
      obtain ⟨ad, rfl, _, hc⟩ := HR.out wr hB k x.cells (by rw [List.getElem?_map, hx]; rfl)
      have i2 : (k : Int) < (n : Int) := by omega
      have ix := cix wr ad n c k hlt
      have f0 := fix0 wr (ad.add (k * 4))
      have l0 := cl_key hc
      have f1 := fixv wr (ad.add (k * 4))
      have l1 := cl_val hc
      by_cases he : x.ky.data.toList = ky.data.toList
      · have HA : Hid (atV ky l = (x.k, x.x, x.s)) := hA.out.trans (atV_yes hx he)
        have hd : decide (x.ky.data.toList = ky.data.toList) = true := by simpa using he
        go_upto_region 4 with fail
        refine wp_region_lit ?_
        refine fl_start ?_
        generalize ha : Act.mk _ _ = a0
        have hn : a0.tmps.size = 25 := by rw [← ha]; kernel_rfl
        have h0 : (fr a0 []).eval (.tmp 0) = .slice (some ad) n c := by rw [← ha]; kernel_rfl
        refine fl_know hn rfl h0 ?_
        clear h0
        have h1 : (fr a0 [(0, true, .slice (some ad) n c)]).eval (.tmp 1) = .string ky := by rw [← ha]; kernel_rfl
        refine fl_know hn rfl h1 ?_
        clear h1
        have h5 : (fr a0 [(1, true, .string ky), (0, true, .slice (some ad) n c)]).eval (.tmp 5) = .int .i64 (k : Int) := by rw [← ha]; kernel_rfl
        refine fl_know hn rfl h5 ?_
        clear h5
        refine g_mv hn ?_
        refine g_mv hn ?_
        refine g_ix hn ?_
        refine g_fd hn ?_
        refine g_ld hn ?_
        refine g_mv hn ?_
        refine g_bn hn (hr := q_eqv _ _ _ _ _ hd) ?_
        refine fl_end ?_
        clear hn
        subst ha
        dsimp only [fr, cnd, Act.put, cond_true]
        simp only [List.setIfInBounds_toArray, List.set_cons_zero, List.set_cons_succ]
        go_upto_region 5 with fail
        refine wp_region_lit ?_
        refine fl_start ?_
        generalize ha : Act.mk _ _ = a0
        have hn : a0.tmps.size = 25 := by rw [← ha]; kernel_rfl
        have h0 : (fr a0 []).eval (.tmp 0) = .slice (some ad) n c := by rw [← ha]; kernel_rfl
        refine fl_know hn rfl h0 ?_
        clear h0
        have h4 : (fr a0 [(0, true, .slice (some ad) n c)]).eval (.tmp 4) = .pointer (some ⟨w.heap.size, 0, none⟩) := by rw [← ha]; kernel_rfl
        refine fl_know hn rfl h4 ?_
        clear h4
        have h5 : (fr a0 [(4, true, .pointer (some ⟨w.heap.size, 0, none⟩)), (0, true, .slice (some ad) n c)]).eval (.tmp 5) = .int .i64 (k : Int) := by rw [← ha]; kernel_rfl
        refine fl_know hn rfl h5 ?_
        clear h5
        refine g_mv hn ?_
        refine g_mv hn ?_
        refine g_ix hn ?_
        refine g_fd hn ?_
        refine g_ld hn ?_
        refine g_str hX ?_ (h1 := va_oneC x.k x.x x.s)
        intro w3 ho hX3
        refine fl_end ?_
        clear hn
        subst ha
        dsimp only [fr, cnd, Act.put, cond_true]
        simp only [List.setIfInBounds_toArray, List.set_cons_zero, List.set_cons_succ]
        have hB3 := hB.trans (ho.below (Nat.le_refl _))
        go_wp2_with fail
        refine bodyPost_ret (results_cell_row Try.results9 _ _ (w.heap.size) 31 #[.int .i64 x.k, .int .i64 x.x, .string x.s] (0, 0) _ (by rfl) hX3 Try.underlying31 (by rfl) (by kernel_rfl)) rfl ?_
        rw [HA.out]
        exact ⟨rfl, hB3⟩
      · have HA : Hid (atV ky l = atV ky (l.drop (k + 1))) := hA.out.trans (atV_no hx he)
        have hd : decide (x.ky.data.toList = ky.data.toList) = false := by simpa using he
        go_upto_region 4 with fail
        refine wp_region_lit ?_
        refine fl_start ?_
        generalize ha : Act.mk _ _ = a0
        have hn : a0.tmps.size = 25 := by rw [← ha]; kernel_rfl
        have h0 : (fr a0 []).eval (.tmp 0) = .slice (some ad) n c := by rw [← ha]; kernel_rfl
        refine fl_know hn rfl h0 ?_
        clear h0
        have h1 : (fr a0 [(0, true, .slice (some ad) n c)]).eval (.tmp 1) = .string ky := by rw [← ha]; kernel_rfl
        refine fl_know hn rfl h1 ?_
        clear h1
        have h5 : (fr a0 [(1, true, .string ky), (0, true, .slice (some ad) n c)]).eval (.tmp 5) = .int .i64 (k : Int) := by rw [← ha]; kernel_rfl
        refine fl_know hn rfl h5 ?_
        clear h5
        refine g_mv hn ?_
        refine g_mv hn ?_
        refine g_ix hn ?_
        refine g_fd hn ?_
        refine g_ld hn ?_
        refine g_mv hn ?_
        refine g_bn hn (hr := q_eqv _ _ _ _ _ hd) ?_
        refine fl_end ?_
        clear hn ix f0 l0 f1 l1
        subst ha
        dsimp only [fr, cnd, Act.put, cond_true]
        simp only [List.setIfInBounds_toArray, List.set_cons_zero, List.set_cons_succ]
        go_wp2_with fail
        refine ⟨?_, ?_⟩
        · first
          | exact ⟨k + 1, by omega, by go_num, HA, hX, hB⟩
          | repeat apply Exists.intro
            refine ⟨?_, rfl⟩
            exact ⟨k + 1, by omega, by go_num, HA, hX, hB⟩
        · simp [intOf]; omega
    · have i2 : ¬ (k : Int) < (n : Int) := by omega
      have HA : Hid (atV ky l = noV) := by
        show _ = _
        rw [hA.out, List.drop_eq_nil_of_le (by have := HN.out; omega)]
        rfl
      go_upto_region 7 with fail
      refine wp_region_lit ?_
      refine fl_start ?_
      generalize ha : Act.mk _ _ = a0
      have hn : a0.tmps.size = 25 := by rw [← ha]; kernel_rfl
      have h4 : (fr a0 []).eval (.tmp 4) = .pointer (some ⟨w.heap.size, 0, none⟩) := by rw [← ha]; kernel_rfl
      refine fl_know hn rfl h4 ?_
      clear h4
      refine g_bd hn ?_ (qs := #[]) (v := .agg #[.int .i64 0, .int .i64 0, .string ⟨#[]⟩]) (g := true) (hp := fun _ _ => by simp) (hx := bdVt _)
      refine g_str hX ?_ (h1 := va_oneC 0 0 ⟨#[]⟩)
      intro w3 ho hX3
      refine fl_end ?_
      clear hn
      subst ha
      dsimp only [fr, cnd, Act.put, cond_true]
      simp only [List.setIfInBounds_toArray, List.set_cons_zero, List.set_cons_succ]
      have hB3 := hB.trans (ho.below (Nat.le_refl _))
      go_wp2_with fail
      refine bodyPost_ret (results_cell_row Try.results9 _ _ (w.heap.size) 31 #[.int .i64 0, .int .i64 0, .string ⟨#[]⟩] (0, 0) _ (by rfl) hX3 Try.underlying31 (by rfl) (by kernel_rfl)) rfl ?_
      rw [HA.out]
      exact ⟨rfl, hB3⟩
theorem bdCl (ky : ByteArray) (v : Vl) (W : World) : (Instr.build 54 #[(0, .string ky), (1, .agg #[.int .i64 v.1, .int .i64 v.2.1, .string v.2.2])]).run Try.prog W = .ok (.agg #[.string ky, .int .i64 v.1, .int .i64 v.2.1, .string v.2.2]) W := by kernel_rfl
theorem ld_kd {W : World} {a : Addr} {k : Int} (h : W.cell? a = some (.int .i64 k)) : (Instr.loadAt 29 (.pointer (some a))).run Try.prog W = .ok (.int .i64 k) W := by go_simp
theorem fv0 (W : World) (a : Addr) : (Instr.fieldAt 31 (.pointer (some a)) 0).run Try.prog W = .ok (.pointer (some a)) W := by go_simp
theorem mk_cells (ky : ByteArray) (v : Vl) : (mkC ky v).cells = #[.string ky, .int .i64 v.1, .int .i64 v.2.1, .string v.2.2] := rfl
set_option maxRecDepth 100000 in
set_option maxHeartbeats 4000000 in
theorem refSet_any (A : Option Addr) (n c : Nat) (l : List Cl) (ky : ByteArray) (v : Vl) (w : World) (hn : l.length = n) (hr : RdX 4 w.heap.size w A (l.map Cl.cells)) (hm : n ≤ 100000) (hk : ky.size ≤ maxLen) (hf : ∀ x, x ∈ l → x.ky.size ≤ maxLen) : Calls Try.prog 18 #[.slice A n c, .string ky, .agg #[.int .i64 v.1, .int .i64 v.2.1, .string v.2.2]] w fun e w' => ∃ (A2 : Option Addr) (n2 c2 : Nat), e = .returned (.slice A2 n2 c2) ∧ OwnX tCl 4 w.heap.size w' A2 n2 c2 ((setK ky v l).map Cl.cells) ∧ Below w.heap.size w w' := by
  have HN := Lib.hid hn
  have HR := Lib.hid (fun W (h : Below w.heap.size w W) => hr.keep (W' := W) h (Nat.le_refl _))
  clear hn hr
  have hX0 := blk_new w #[.int .i64 v.1, .int .i64 v.2.1, .string v.2.2] 31
  have hB := b0 w (.cells #[.int .i64 v.1, .int .i64 v.2.1, .string v.2.2] 31)
  have hzz : (w.alloc (.cells #[.int .i64 v.1, .int .i64 v.2.1, .string v.2.2] 31)).heap.size = w.heap.size + 1 := by simp
  go_enter Try.func18, Try.ntmps18
  go_upto_region 2 with fail
  generalize (w.alloc (.cells #[.int .i64 v.1, .int .i64 v.2.1, .string v.2.2] 31)) = W0 at hX0 hB hzz HR ⊢
  generalize hb : w.heap.size = b at hX0 hB hzz HR ⊢
  have f1 := fv0 W0 ⟨b, 0, none⟩
  have l1 := ld_kd (hX0.cell 0)
  refine wp_region_lit ?_
  refine fl_start ?_
  generalize ha : Act.mk _ _ = a0
  have hn : a0.tmps.size = 60 := by rw [← ha]; kernel_rfl
  have h5 : (fr a0 []).eval (.tmp 5) = .pointer (some ⟨b, 0, none⟩) := by rw [← ha]; kernel_rfl
  refine fl_know hn rfl h5 ?_
  clear h5
  refine g_fd hn ?_
  refine g_ld hn ?_
  refine g_bc hn (hr := k_eqc _ _ _) ?_
  refine g_as hn ?_
  refine fl_end ?_
  clear hn f1 l1
  subst ha
  dsimp only [fr, cnd, Act.put, cond_true]
  simp only [List.setIfInBounds_toArray, List.set_cons_zero, List.set_cons_succ]
  go_wp2_with fail
  go_loopw [7, 8, 9, 15] (fun h7 d8 _ i wr => ∃ (k : Nat) (A7 : Option Addr) (n7 c7 : Nat), k ≤ n ∧ i = .int .i64 k ∧ h7 = .slice A7 n7 c7 ∧ d8 = .bool (setTo ky v (l.take k)).2 ∧ OwnX tCl 4 (b + 1) wr A7 n7 c7 ((setTo ky v (l.take k)).1.map Cl.cells) ∧ Blk wr b #[.int .i64 v.1, .int .i64 v.2.1, .string v.2.2] 31 ∧ Below b w wr) (fun _ _ _ i _ => n - (intOf i).toNat)
  case atStart => exact ⟨0, none, 0, 0, Nat.zero_le _, rfl, rfl, rfl, OwnX.nil _ _ _ _, hX0, hB⟩
  case round =>
    clear hX0 hB
    obtain ⟨k, A7, n7, c7, hk2, rfl, rfl, rfl, hO, hX, hB⟩ := hrel
    have hn7 : n7 ≤ 2 * n := by
      have h := hO.len
      have h2 := setTo_len ky v (l.take k)
      rw [List.length_map] at h
      rw [List.length_take] at h2
      omega
    by_cases hlt : k < n
    · obtain ⟨x, hx⟩ : ∃ x, l[k]? = some x := ⟨_, List.getElem?_eq_getElem (show k < l.length by have := HN.out; omega)⟩
      have hcc : ∃ ad, A = some ad ∧ ∀ W, Below b w W → ∀ j v, x.cells[j]? = some v → W.cell? (ad.add (k * 4 + j)) = some v := by
        obtain ⟨ad, e, _, _⟩ := HR.out wr hB k x.cells (by rw [List.getElem?_map, hx]; rfl)
        refine ⟨ad, e, fun W hW => ?_⟩
        obtain ⟨ad2, e2, _, h2⟩ := HR.out W hW k x.cells (by rw [List.getElem?_map, hx]; rfl)
        rw [e] at e2
        injection e2 with e2
        rw [e2]
        exact h2
      obtain ⟨ad, rfl, hcW⟩ := hcc
      have i2 : (k : Int) < (n : Int) := by omega
      have hkx := hf x (List.mem_of_getElem? hx)
      cases hdn : (setTo ky v (l.take k)).2 with
      | true =>
        have hlt2 : True := trivial
        go_upto_region 9 with fail
        have hcw := hcW wr hB
        have ix2 := cix wr ad n c k hlt
        have f02 := fix0 wr (ad.add (k * 4))
        have l02 := cl_key hcw
        have l12 := cld hcw
        by_cases he : x.ky.data.toList = ky.data.toList
        · have hd2 : (!decide (x.ky.data.toList = ky.data.toList)) = false := by simpa using he
          have HZ : Hid (setTo ky v (l.take (k + 1)) = ((setTo ky v (l.take k)).1, true)) := by show _ = _; rw [setTo_next hx]; unfold setStep; rw [hdn, if_neg (by simp)]; rw [if_pos he]; simp [hdn, hlt2]
          go_upto_region 9 with fail
          refine wp_region_lit ?_
          refine fl_start ?_
          generalize ha : Act.mk _ _ = a0
          have hn : a0.tmps.size = 60 := by rw [← ha]; kernel_rfl
          have h0 : (fr a0 []).eval (.tmp 0) = .slice (some ad) n c := by rw [← ha]; kernel_rfl
          refine fl_know hn rfl h0 ?_
          clear h0
          have h1 : (fr a0 [(0, true, .slice (some ad) n c)]).eval (.tmp 1) = .string ky := by rw [← ha]; kernel_rfl
          refine fl_know hn rfl h1 ?_
          clear h1
          have h9 : (fr a0 [(1, true, .string ky), (0, true, .slice (some ad) n c)]).eval (.tmp 9) = .int .i64 (k : Int) := by rw [← ha]; kernel_rfl
          refine fl_know hn rfl h9 ?_
          clear h9
          refine g_mv hn ?_
          refine g_mv hn ?_
          refine g_ix hn ?_
          refine g_fd hn ?_
          refine g_ld hn ?_
          refine g_mv hn ?_
          refine g_bn hn (hr := q_nev _ _ _ _ _ hd2) ?_
          refine fl_end ?_
          clear hn ix2 f02 l02 l12
          subst ha
          dsimp only [fr, cnd, Act.put, cond_true]
          simp only [List.setIfInBounds_toArray, List.set_cons_zero, List.set_cons_succ]
          go_wp2_with fail
          refine ⟨?_, ?_⟩
          · first
            | exact ⟨k + 1, A7, n7, c7, by omega, by go_num, rfl, by rw [HZ.out], by rw [HZ.out]; exact hO, hX, hB⟩
            | repeat apply Exists.intro
              refine ⟨?_, rfl⟩
              exact ⟨k + 1, A7, n7, c7, by omega, by go_num, rfl, by rw [HZ.out], by rw [HZ.out]; exact hO, hX, hB⟩
          · simp [intOf]; omega
        · have hd2 : (!decide (x.ky.data.toList = ky.data.toList)) = true := by simpa using he
          have HZ : Hid (setTo ky v (l.take (k + 1)) = ((setTo ky v (l.take k)).1 ++ [x], true)) := by show _ = _; rw [setTo_next hx]; unfold setStep; rw [hdn, if_neg (by simp)]; rw [if_neg he]; simp [hdn, hlt2]
          go_upto_region 9 with fail
          refine wp_region_lit ?_
          refine fl_start ?_
          generalize ha : Act.mk _ _ = a0
          have hn : a0.tmps.size = 60 := by rw [← ha]; kernel_rfl
          have h0 : (fr a0 []).eval (.tmp 0) = .slice (some ad) n c := by rw [← ha]; kernel_rfl
          refine fl_know hn rfl h0 ?_
          clear h0
          have h1 : (fr a0 [(0, true, .slice (some ad) n c)]).eval (.tmp 1) = .string ky := by rw [← ha]; kernel_rfl
          refine fl_know hn rfl h1 ?_
          clear h1
          have h9 : (fr a0 [(1, true, .string ky), (0, true, .slice (some ad) n c)]).eval (.tmp 9) = .int .i64 (k : Int) := by rw [← ha]; kernel_rfl
          refine fl_know hn rfl h9 ?_
          clear h9
          refine g_mv hn ?_
          refine g_mv hn ?_
          refine g_ix hn ?_
          refine g_fd hn ?_
          refine g_ld hn ?_
          refine g_mv hn ?_
          refine g_bn hn (hr := q_nev _ _ _ _ _ hd2) ?_
          refine fl_end ?_
          clear hn f02 l02
          subst ha
          dsimp only [fr, cnd, Act.put, cond_true]
          simp only [List.setIfInBounds_toArray, List.set_cons_zero, List.set_cons_succ]
          go_upto_region 10 with fail
          refine wp_region_lit ?_
          refine fl_start ?_
          generalize ha : Act.mk _ _ = a0
          have hn : a0.tmps.size = 60 := by rw [← ha]; kernel_rfl
          have h0 : (fr a0 []).eval (.tmp 0) = .slice (some ad) n c := by rw [← ha]; kernel_rfl
          refine fl_know hn rfl h0 ?_
          clear h0
          have h7 : (fr a0 [(0, true, .slice (some ad) n c)]).eval (.tmp 7) = .slice A7 n7 c7 := by rw [← ha]; kernel_rfl
          refine fl_know hn rfl h7 ?_
          clear h7
          have h9 : (fr a0 [(7, true, .slice A7 n7 c7), (0, true, .slice (some ad) n c)]).eval (.tmp 9) = .int .i64 (k : Int) := by rw [← ha]; kernel_rfl
          refine fl_know hn rfl h9 ?_
          clear h9
          refine g_mv hn ?_
          refine g_mv hn ?_
          refine g_mv hn ?_
          refine g_ix hn ?_
          refine g_ld hn ?_
          refine g_bsX hn Try.underlying22 clEl_info (by decide) (by decide) rfl (bsCl x) ?_
          intro gq w7q hgq hGq hb7q
          have hO7q := hO.keep hb7q
          refine g_apX (base := b + 1) (m := 1) (xs := [Cl.cells x]) hn Try.underlying22 clEl_info rfl (by decide) (by decide) hO7q (clEl_szd [x]) rfl (fun y hy u hu => ?_) (blk_rdC hGq) (by omega) (by have := hX.lt; have := hb7q.size; omega) (.inr (by decide)) ?_
          · rw [List.mem_singleton] at hy
            subst hy
            have h := cl_oneC x
            rw [Array.all_eq_true'] at h
            exact h u (by simpa using hu)
          rintro v8 w8q ⟨A8q, c8q, rfl, hO8q, hB8q, _⟩
          refine g_as hn ?_
          refine fl_end ?_
          clear hn ix2 l12
          subst ha
          dsimp only [fr, cnd, Act.put, cond_true]
          simp only [List.setIfInBounds_toArray, List.set_cons_zero, List.set_cons_succ]
          have hO9q : OwnX tCl 4 (b + 1) w8q A8q (n7 + 1) c8q (((setTo ky v (l.take k)).1 ++ [x]).map Cl.cells) := by rw [List.map_append]; exact hO8q
          have hW9q : Below (b + 1) wr w8q := (hb7q.mono (by have := hX.lt; omega)).trans hB8q
          have hX9q : Blk w8q b #[.int .i64 v.1, .int .i64 v.2.1, .string v.2.2] 31 := (hW9q.block b (by omega)).trans hX
          have hB9q : Below b w w8q := hB.trans (hW9q.mono (by omega))
          clear hO7q hO8q hGq hgq hb7q hB8q
          go_wp2_with fail
          refine ⟨?_, ?_⟩
          · first
            | exact ⟨k + 1, A8q, n7 + 1, c8q, by omega, by go_num, rfl, by rw [HZ.out], by rw [HZ.out]; exact hO9q, hX9q, hB9q⟩
            | repeat apply Exists.intro
              refine ⟨?_, rfl⟩
              exact ⟨k + 1, A8q, n7 + 1, c8q, by omega, by go_num, rfl, by rw [HZ.out], by rw [HZ.out]; exact hO9q, hX9q, hB9q⟩
          · simp [intOf]; omega
      | false =>
        have ix := cix wr ad n c k hlt
        have f0 := fix0 wr (ad.add (k * 4))
        have l0 := cl_key (hcW wr hB)
        have cT := texts_any ky x.ky wr hk hkx
        have hle := le_lt ky.data.toList x.ky.data.toList
        cases hlt2 : ltB x.ky.data.toList ky.data.toList with
        | true =>
          rw [hlt2] at hle
          go_upto_region 6 with fail
          refine wp_region_lit ?_
          refine fl_start ?_
          generalize ha : Act.mk _ _ = a0
          have hn : a0.tmps.size = 60 := by rw [← ha]; kernel_rfl
          have h0 : (fr a0 []).eval (.tmp 0) = .slice (some ad) n c := by rw [← ha]; kernel_rfl
          refine fl_know hn rfl h0 ?_
          clear h0
          have h1 : (fr a0 [(0, true, .slice (some ad) n c)]).eval (.tmp 1) = .string ky := by rw [← ha]; kernel_rfl
          refine fl_know hn rfl h1 ?_
          clear h1
          have h8 : (fr a0 [(1, true, .string ky), (0, true, .slice (some ad) n c)]).eval (.tmp 8) = .bool false := by rw [← ha]; kernel_rfl
          refine fl_know hn rfl h8 ?_
          clear h8
          have h9 : (fr a0 [(8, true, .bool false), (1, true, .string ky), (0, true, .slice (some ad) n c)]).eval (.tmp 9) = .int .i64 (k : Int) := by rw [← ha]; kernel_rfl
          refine fl_know hn rfl h9 ?_
          clear h9
          refine g_mv hn ?_
          refine g_nt hn ?_
          refine g_mv hn ?_
          refine g_mv hn ?_
          refine g_mv hn ?_
          refine g_mv hn ?_
          refine g_ix hn ?_
          refine g_fd hn ?_
          refine g_ld hn ?_
          refine g_c2x en_spinney_spinneyref01_Texts hn (R := fun u wz => u = .int .i64 (Lib.compareBytes ky.data.toList x.ky.data.toList) ∧ Below wr.heap.size wr wz) (cT.mono fun _ _ ⟨h1, h2⟩ => ⟨_, h1, rfl, h2⟩) ?_
          rintro u w5 ⟨rfl, hb5⟩
          refine g_leq hn ?_
          refine g_an hn ?_
          refine fl_end ?_
          clear hn ix f0 l0 cT
          subst ha
          dsimp only [fr, cnd, Act.put, cond_true]
          simp only [List.setIfInBounds_toArray, List.set_cons_zero, List.set_cons_succ]
          have hO5 := hO.keep hb5
          have hX5 := hX.keep hb5
          have hB5 : Below b w w5 := hB.trans (hb5.mono (by have := hX.lt; omega))
          rw [show (!false && decide (Lib.compareBytes ky.data.toList x.ky.data.toList ≤ 0)) = false from hle]
          clear hO hX hB hle
          go_upto_region 9 with fail
          have hcw := hcW w5 hB5
          have ix2 := cix w5 ad n c k hlt
          have f02 := fix0 w5 (ad.add (k * 4))
          have l02 := cl_key hcw
          have l12 := cld hcw
          by_cases he : x.ky.data.toList = ky.data.toList
          · have hd2 : (!decide (x.ky.data.toList = ky.data.toList)) = false := by simpa using he
            have HZ : Hid (setTo ky v (l.take (k + 1)) = ((setTo ky v (l.take k)).1, false)) := by show _ = _; rw [setTo_next hx]; unfold setStep; rw [hdn, hlt2, if_neg (by simp)]; rw [if_pos he]; simp [hdn, hlt2]
            go_upto_region 9 with fail
            refine wp_region_lit ?_
            refine fl_start ?_
            generalize ha : Act.mk _ _ = a0
            have hn : a0.tmps.size = 60 := by rw [← ha]; kernel_rfl
            have h0 : (fr a0 []).eval (.tmp 0) = .slice (some ad) n c := by rw [← ha]; kernel_rfl
            refine fl_know hn rfl h0 ?_
            clear h0
            have h1 : (fr a0 [(0, true, .slice (some ad) n c)]).eval (.tmp 1) = .string ky := by rw [← ha]; kernel_rfl
            refine fl_know hn rfl h1 ?_
            clear h1
            have h9 : (fr a0 [(1, true, .string ky), (0, true, .slice (some ad) n c)]).eval (.tmp 9) = .int .i64 (k : Int) := by rw [← ha]; kernel_rfl
            refine fl_know hn rfl h9 ?_
            clear h9
            refine g_mv hn ?_
            refine g_mv hn ?_
            refine g_ix hn ?_
            refine g_fd hn ?_
            refine g_ld hn ?_
            refine g_mv hn ?_
            refine g_bn hn (hr := q_nev _ _ _ _ _ hd2) ?_
            refine fl_end ?_
            clear hn ix2 f02 l02 l12
            subst ha
            dsimp only [fr, cnd, Act.put, cond_true]
            simp only [List.setIfInBounds_toArray, List.set_cons_zero, List.set_cons_succ]
            go_wp2_with fail
            refine ⟨?_, ?_⟩
            · first
              | exact ⟨k + 1, A7, n7, c7, by omega, by go_num, rfl, by rw [HZ.out], by rw [HZ.out]; exact hO5, hX5, hB5⟩
              | repeat apply Exists.intro
                refine ⟨?_, rfl⟩
                exact ⟨k + 1, A7, n7, c7, by omega, by go_num, rfl, by rw [HZ.out], by rw [HZ.out]; exact hO5, hX5, hB5⟩
            · simp [intOf]; omega
          · have hd2 : (!decide (x.ky.data.toList = ky.data.toList)) = true := by simpa using he
            have HZ : Hid (setTo ky v (l.take (k + 1)) = ((setTo ky v (l.take k)).1 ++ [x], false)) := by show _ = _; rw [setTo_next hx]; unfold setStep; rw [hdn, hlt2, if_neg (by simp)]; rw [if_neg he]; simp [hdn, hlt2]
            go_upto_region 9 with fail
            refine wp_region_lit ?_
            refine fl_start ?_
            generalize ha : Act.mk _ _ = a0
            have hn : a0.tmps.size = 60 := by rw [← ha]; kernel_rfl
            have h0 : (fr a0 []).eval (.tmp 0) = .slice (some ad) n c := by rw [← ha]; kernel_rfl
            refine fl_know hn rfl h0 ?_
            clear h0
            have h1 : (fr a0 [(0, true, .slice (some ad) n c)]).eval (.tmp 1) = .string ky := by rw [← ha]; kernel_rfl
            refine fl_know hn rfl h1 ?_
            clear h1
            have h9 : (fr a0 [(1, true, .string ky), (0, true, .slice (some ad) n c)]).eval (.tmp 9) = .int .i64 (k : Int) := by rw [← ha]; kernel_rfl
            refine fl_know hn rfl h9 ?_
            clear h9
            refine g_mv hn ?_
            refine g_mv hn ?_
            refine g_ix hn ?_
            refine g_fd hn ?_
            refine g_ld hn ?_
            refine g_mv hn ?_
            refine g_bn hn (hr := q_nev _ _ _ _ _ hd2) ?_
            refine fl_end ?_
            clear hn f02 l02
            subst ha
            dsimp only [fr, cnd, Act.put, cond_true]
            simp only [List.setIfInBounds_toArray, List.set_cons_zero, List.set_cons_succ]
            go_upto_region 10 with fail
            refine wp_region_lit ?_
            refine fl_start ?_
            generalize ha : Act.mk _ _ = a0
            have hn : a0.tmps.size = 60 := by rw [← ha]; kernel_rfl
            have h0 : (fr a0 []).eval (.tmp 0) = .slice (some ad) n c := by rw [← ha]; kernel_rfl
            refine fl_know hn rfl h0 ?_
            clear h0
            have h7 : (fr a0 [(0, true, .slice (some ad) n c)]).eval (.tmp 7) = .slice A7 n7 c7 := by rw [← ha]; kernel_rfl
            refine fl_know hn rfl h7 ?_
            clear h7
            have h9 : (fr a0 [(7, true, .slice A7 n7 c7), (0, true, .slice (some ad) n c)]).eval (.tmp 9) = .int .i64 (k : Int) := by rw [← ha]; kernel_rfl
            refine fl_know hn rfl h9 ?_
            clear h9
            refine g_mv hn ?_
            refine g_mv hn ?_
            refine g_mv hn ?_
            refine g_ix hn ?_
            refine g_ld hn ?_
            refine g_bsX hn Try.underlying22 clEl_info (by decide) (by decide) rfl (bsCl x) ?_
            intro gq w7q hgq hGq hb7q
            have hO7q := hO5.keep hb7q
            refine g_apX (base := b + 1) (m := 1) (xs := [Cl.cells x]) hn Try.underlying22 clEl_info rfl (by decide) (by decide) hO7q (clEl_szd [x]) rfl (fun y hy u hu => ?_) (blk_rdC hGq) (by omega) (by have := hX5.lt; have := hb7q.size; omega) (.inr (by decide)) ?_
            · rw [List.mem_singleton] at hy
              subst hy
              have h := cl_oneC x
              rw [Array.all_eq_true'] at h
              exact h u (by simpa using hu)
            rintro v8 w8q ⟨A8q, c8q, rfl, hO8q, hB8q, _⟩
            refine g_as hn ?_
            refine fl_end ?_
            clear hn ix2 l12
            subst ha
            dsimp only [fr, cnd, Act.put, cond_true]
            simp only [List.setIfInBounds_toArray, List.set_cons_zero, List.set_cons_succ]
            have hO9q : OwnX tCl 4 (b + 1) w8q A8q (n7 + 1) c8q (((setTo ky v (l.take k)).1 ++ [x]).map Cl.cells) := by rw [List.map_append]; exact hO8q
            have hW9q : Below (b + 1) w5 w8q := (hb7q.mono (by have := hX5.lt; omega)).trans hB8q
            have hX9q : Blk w8q b #[.int .i64 v.1, .int .i64 v.2.1, .string v.2.2] 31 := (hW9q.block b (by omega)).trans hX5
            have hB9q : Below b w w8q := hB5.trans (hW9q.mono (by omega))
            clear hO7q hO8q hGq hgq hb7q hB8q
            go_wp2_with fail
            refine ⟨?_, ?_⟩
            · first
              | exact ⟨k + 1, A8q, n7 + 1, c8q, by omega, by go_num, rfl, by rw [HZ.out], by rw [HZ.out]; exact hO9q, hX9q, hB9q⟩
              | repeat apply Exists.intro
                refine ⟨?_, rfl⟩
                exact ⟨k + 1, A8q, n7 + 1, c8q, by omega, by go_num, rfl, by rw [HZ.out], by rw [HZ.out]; exact hO9q, hX9q, hB9q⟩
            · simp [intOf]; omega
        | false =>
          rw [hlt2] at hle
          go_upto_region 6 with fail
          refine wp_region_lit ?_
          refine fl_start ?_
          generalize ha : Act.mk _ _ = a0
          have hn : a0.tmps.size = 60 := by rw [← ha]; kernel_rfl
          have h0 : (fr a0 []).eval (.tmp 0) = .slice (some ad) n c := by rw [← ha]; kernel_rfl
          refine fl_know hn rfl h0 ?_
          clear h0
          have h1 : (fr a0 [(0, true, .slice (some ad) n c)]).eval (.tmp 1) = .string ky := by rw [← ha]; kernel_rfl
          refine fl_know hn rfl h1 ?_
          clear h1
          have h8 : (fr a0 [(1, true, .string ky), (0, true, .slice (some ad) n c)]).eval (.tmp 8) = .bool false := by rw [← ha]; kernel_rfl
          refine fl_know hn rfl h8 ?_
          clear h8
          have h9 : (fr a0 [(8, true, .bool false), (1, true, .string ky), (0, true, .slice (some ad) n c)]).eval (.tmp 9) = .int .i64 (k : Int) := by rw [← ha]; kernel_rfl
          refine fl_know hn rfl h9 ?_
          clear h9
          refine g_mv hn ?_
          refine g_nt hn ?_
          refine g_mv hn ?_
          refine g_mv hn ?_
          refine g_mv hn ?_
          refine g_mv hn ?_
          refine g_ix hn ?_
          refine g_fd hn ?_
          refine g_ld hn ?_
          refine g_c2x en_spinney_spinneyref01_Texts hn (R := fun u wz => u = .int .i64 (Lib.compareBytes ky.data.toList x.ky.data.toList) ∧ Below wr.heap.size wr wz) (cT.mono fun _ _ ⟨h1, h2⟩ => ⟨_, h1, rfl, h2⟩) ?_
          rintro u w5 ⟨rfl, hb5⟩
          refine g_leq hn ?_
          refine g_an hn ?_
          refine fl_end ?_
          clear hn ix f0 l0 cT
          subst ha
          dsimp only [fr, cnd, Act.put, cond_true]
          simp only [List.setIfInBounds_toArray, List.set_cons_zero, List.set_cons_succ]
          have hO5 := hO.keep hb5
          have hX5 := hX.keep hb5
          have hB5 : Below b w w5 := hB.trans (hb5.mono (by have := hX.lt; omega))
          rw [show (!false && decide (Lib.compareBytes ky.data.toList x.ky.data.toList ≤ 0)) = true from hle]
          clear hO hX hB hle
          have l7 := vld (W := w5) (b := b) (o := 0) (hX5.cell 0) (hX5.cell 1) (hX5.cell 2)
          go_upto_region 7 with fail
          refine wp_region_lit ?_
          refine fl_start ?_
          generalize ha : Act.mk _ _ = a0
          have hn : a0.tmps.size = 60 := by rw [← ha]; kernel_rfl
          have h1 : (fr a0 []).eval (.tmp 1) = .string ky := by rw [← ha]; kernel_rfl
          refine fl_know hn rfl h1 ?_
          clear h1
          have h5 : (fr a0 [(1, true, .string ky)]).eval (.tmp 5) = .pointer (some ⟨b, 0, none⟩) := by rw [← ha]; kernel_rfl
          refine fl_know hn rfl h5 ?_
          clear h5
          have h7 : (fr a0 [(5, true, .pointer (some ⟨b, 0, none⟩)), (1, true, .string ky)]).eval (.tmp 7) = .slice A7 n7 c7 := by rw [← ha]; kernel_rfl
          refine fl_know hn rfl h7 ?_
          clear h7
          refine g_mv hn ?_
          refine g_mv hn ?_
          refine g_ld hn ?_
          refine g_bd hn ?_ (qs := #[(0, .string ky), (1, .agg #[.int .i64 v.1, .int .i64 v.2.1, .string v.2.2])]) (v := .agg (mkC ky v).cells) (g := true) (hp := fun hk _ => by simp only [List.map_toArray, List.map_cons, List.map_nil, lk_at hk (i := 31) rfl (fun _ => rfl) rfl, lk_at hk (i := 32) rfl (fun _ => rfl) rfl]) (hx := bdCl ky v _)
          refine g_bsX hn Try.underlying22 clEl_info (by decide) (by decide) rfl (bsCl (mkC ky v)) ?_
          intro gp w7p hgp hGp hb7p
          have hO7p := hO5.keep hb7p
          refine g_apX (base := b + 1) (m := 1) (xs := [Cl.cells (mkC ky v)]) hn Try.underlying22 clEl_info rfl (by decide) (by decide) hO7p (clEl_szd [(mkC ky v)]) rfl (fun y hy u hu => ?_) (blk_rdC hGp) (by omega) (by have := hX5.lt; have := hb7p.size; omega) (.inr (by decide)) ?_
          · rw [List.mem_singleton] at hy
            subst hy
            have h := cl_oneC (mkC ky v)
            rw [Array.all_eq_true'] at h
            exact h u (by simpa using hu)
          rintro v8 w8p ⟨A8p, c8p, rfl, hO8p, hB8p, _⟩
          refine g_as hn ?_
          refine fl_end ?_
          clear hn l7
          subst ha
          dsimp only [fr, cnd, Act.put, cond_true]
          simp only [List.setIfInBounds_toArray, List.set_cons_zero, List.set_cons_succ]
          have hO9p : OwnX tCl 4 (b + 1) w8p A8p (n7 + 1) c8p (((setTo ky v (l.take k)).1 ++ [(mkC ky v)]).map Cl.cells) := by rw [List.map_append]; exact hO8p
          have hW9p : Below (b + 1) w5 w8p := (hb7p.mono (by have := hX5.lt; omega)).trans hB8p
          have hX9p : Blk w8p b #[.int .i64 v.1, .int .i64 v.2.1, .string v.2.2] 31 := (hW9p.block b (by omega)).trans hX5
          have hB9p : Below b w w8p := hB5.trans (hW9p.mono (by omega))
          clear hO7p hO8p hGp hgp hb7p hB8p
          go_upto_region 9 with fail
          have hcw := hcW w8p hB9p
          have ix2 := cix w8p ad n c k hlt
          have f02 := fix0 w8p (ad.add (k * 4))
          have l02 := cl_key hcw
          have l12 := cld hcw
          by_cases he : x.ky.data.toList = ky.data.toList
          · have hd2 : (!decide (x.ky.data.toList = ky.data.toList)) = false := by simpa using he
            have HZ : Hid (setTo ky v (l.take (k + 1)) = (((setTo ky v (l.take k)).1 ++ [mkC ky v]), true)) := by show _ = _; rw [setTo_next hx]; unfold setStep; rw [hdn, hlt2, if_pos ⟨rfl, rfl⟩]; rw [if_pos he]; simp [hdn, hlt2]
            go_upto_region 9 with fail
            refine wp_region_lit ?_
            refine fl_start ?_
            generalize ha : Act.mk _ _ = a0
            have hn : a0.tmps.size = 60 := by rw [← ha]; kernel_rfl
            have h0 : (fr a0 []).eval (.tmp 0) = .slice (some ad) n c := by rw [← ha]; kernel_rfl
            refine fl_know hn rfl h0 ?_
            clear h0
            have h1 : (fr a0 [(0, true, .slice (some ad) n c)]).eval (.tmp 1) = .string ky := by rw [← ha]; kernel_rfl
            refine fl_know hn rfl h1 ?_
            clear h1
            have h9 : (fr a0 [(1, true, .string ky), (0, true, .slice (some ad) n c)]).eval (.tmp 9) = .int .i64 (k : Int) := by rw [← ha]; kernel_rfl
            refine fl_know hn rfl h9 ?_
            clear h9
            refine g_mv hn ?_
            refine g_mv hn ?_
            refine g_ix hn ?_
            refine g_fd hn ?_
            refine g_ld hn ?_
            refine g_mv hn ?_
            refine g_bn hn (hr := q_nev _ _ _ _ _ hd2) ?_
            refine fl_end ?_
            clear hn ix2 f02 l02 l12
            subst ha
            dsimp only [fr, cnd, Act.put, cond_true]
            simp only [List.setIfInBounds_toArray, List.set_cons_zero, List.set_cons_succ]
            go_wp2_with fail
            refine ⟨?_, ?_⟩
            · first
              | exact ⟨k + 1, A8p, (n7 + 1), c8p, by omega, by go_num, rfl, by rw [HZ.out], by rw [HZ.out]; exact hO9p, hX9p, hB9p⟩
              | repeat apply Exists.intro
                refine ⟨?_, rfl⟩
                exact ⟨k + 1, A8p, (n7 + 1), c8p, by omega, by go_num, rfl, by rw [HZ.out], by rw [HZ.out]; exact hO9p, hX9p, hB9p⟩
            · simp [intOf]; omega
          · have hd2 : (!decide (x.ky.data.toList = ky.data.toList)) = true := by simpa using he
            have HZ : Hid (setTo ky v (l.take (k + 1)) = (((setTo ky v (l.take k)).1 ++ [mkC ky v]) ++ [x], true)) := by show _ = _; rw [setTo_next hx]; unfold setStep; rw [hdn, hlt2, if_pos ⟨rfl, rfl⟩]; rw [if_neg he]; simp [hdn, hlt2]
            go_upto_region 9 with fail
            refine wp_region_lit ?_
            refine fl_start ?_
            generalize ha : Act.mk _ _ = a0
            have hn : a0.tmps.size = 60 := by rw [← ha]; kernel_rfl
            have h0 : (fr a0 []).eval (.tmp 0) = .slice (some ad) n c := by rw [← ha]; kernel_rfl
            refine fl_know hn rfl h0 ?_
            clear h0
            have h1 : (fr a0 [(0, true, .slice (some ad) n c)]).eval (.tmp 1) = .string ky := by rw [← ha]; kernel_rfl
            refine fl_know hn rfl h1 ?_
            clear h1
            have h9 : (fr a0 [(1, true, .string ky), (0, true, .slice (some ad) n c)]).eval (.tmp 9) = .int .i64 (k : Int) := by rw [← ha]; kernel_rfl
            refine fl_know hn rfl h9 ?_
            clear h9
            refine g_mv hn ?_
            refine g_mv hn ?_
            refine g_ix hn ?_
            refine g_fd hn ?_
            refine g_ld hn ?_
            refine g_mv hn ?_
            refine g_bn hn (hr := q_nev _ _ _ _ _ hd2) ?_
            refine fl_end ?_
            clear hn f02 l02
            subst ha
            dsimp only [fr, cnd, Act.put, cond_true]
            simp only [List.setIfInBounds_toArray, List.set_cons_zero, List.set_cons_succ]
            go_upto_region 10 with fail
            refine wp_region_lit ?_
            refine fl_start ?_
            generalize ha : Act.mk _ _ = a0
            have hn : a0.tmps.size = 60 := by rw [← ha]; kernel_rfl
            have h0 : (fr a0 []).eval (.tmp 0) = .slice (some ad) n c := by rw [← ha]; kernel_rfl
            refine fl_know hn rfl h0 ?_
            clear h0
            have h7 : (fr a0 [(0, true, .slice (some ad) n c)]).eval (.tmp 7) = .slice A8p (n7 + 1) c8p := by rw [← ha]; kernel_rfl
            refine fl_know hn rfl h7 ?_
            clear h7
            have h9 : (fr a0 [(7, true, .slice A8p (n7 + 1) c8p), (0, true, .slice (some ad) n c)]).eval (.tmp 9) = .int .i64 (k : Int) := by rw [← ha]; kernel_rfl
            refine fl_know hn rfl h9 ?_
            clear h9
            refine g_mv hn ?_
            refine g_mv hn ?_
            refine g_mv hn ?_
            refine g_ix hn ?_
            refine g_ld hn ?_
            refine g_bsX hn Try.underlying22 clEl_info (by decide) (by decide) rfl (bsCl x) ?_
            intro gq w7q hgq hGq hb7q
            have hO7q := hO9p.keep hb7q
            refine g_apX (base := b + 1) (m := 1) (xs := [Cl.cells x]) hn Try.underlying22 clEl_info rfl (by decide) (by decide) hO7q (clEl_szd [x]) rfl (fun y hy u hu => ?_) (blk_rdC hGq) (by omega) (by have := hX9p.lt; have := hb7q.size; omega) (.inr (by decide)) ?_
            · rw [List.mem_singleton] at hy
              subst hy
              have h := cl_oneC x
              rw [Array.all_eq_true'] at h
              exact h u (by simpa using hu)
            rintro v8 w8q ⟨A8q, c8q, rfl, hO8q, hB8q, _⟩
            refine g_as hn ?_
            refine fl_end ?_
            clear hn ix2 l12
            subst ha
            dsimp only [fr, cnd, Act.put, cond_true]
            simp only [List.setIfInBounds_toArray, List.set_cons_zero, List.set_cons_succ]
            have hO9q : OwnX tCl 4 (b + 1) w8q A8q ((n7 + 1) + 1) c8q ((((setTo ky v (l.take k)).1 ++ [mkC ky v]) ++ [x]).map Cl.cells) := by rw [List.map_append]; exact hO8q
            have hW9q : Below (b + 1) w8p w8q := (hb7q.mono (by have := hX9p.lt; omega)).trans hB8q
            have hX9q : Blk w8q b #[.int .i64 v.1, .int .i64 v.2.1, .string v.2.2] 31 := (hW9q.block b (by omega)).trans hX9p
            have hB9q : Below b w w8q := hB9p.trans (hW9q.mono (by omega))
            clear hO7q hO8q hGq hgq hb7q hB8q
            go_wp2_with fail
            refine ⟨?_, ?_⟩
            · first
              | exact ⟨k + 1, A8q, (n7 + 1) + 1, c8q, by omega, by go_num, rfl, by rw [HZ.out], by rw [HZ.out]; exact hO9q, hX9q, hB9q⟩
              | repeat apply Exists.intro
                refine ⟨?_, rfl⟩
                exact ⟨k + 1, A8q, (n7 + 1) + 1, c8q, by omega, by go_num, rfl, by rw [HZ.out], by rw [HZ.out]; exact hO9q, hX9q, hB9q⟩
            · simp [intOf]; omega
    · have i2 : ¬ (k : Int) < (n : Int) := by omega
      have e : l.take k = l := List.take_of_length_le (by have := HN.out; omega)
      rw [e] at hO ⊢
      cases hdn : (setTo ky v l).2 with
      | true =>
        have HZ : Hid (setK ky v l = (setTo ky v l).1) := by show _ = _; unfold setK; rw [hdn]; rfl
        go_wp2_with fail
        go_ret
        refine ⟨A7, n7, c7, rfl, ?_, ?_⟩
        · rw [HZ.out]
          first | exact hO.less (by omega) | (rw [hb]; exact hO.less (by omega))
        · first | exact hB | (rw [hb]; exact hB)
      | false =>
        have HZ : Hid (setK ky v l = (setTo ky v l).1 ++ [mkC ky v]) := by show _ = _; unfold setK; rw [hdn]; rfl
        have l7 := vld (W := wr) (b := b) (o := 0) (hX.cell 0) (hX.cell 1) (hX.cell 2)
        go_upto_region 13 with fail
        refine wp_region_lit ?_
        refine fl_start ?_
        generalize ha : Act.mk _ _ = a0
        have hn : a0.tmps.size = 60 := by rw [← ha]; kernel_rfl
        have h1 : (fr a0 []).eval (.tmp 1) = .string ky := by rw [← ha]; kernel_rfl
        refine fl_know hn rfl h1 ?_
        clear h1
        have h5 : (fr a0 [(1, true, .string ky)]).eval (.tmp 5) = .pointer (some ⟨b, 0, none⟩) := by rw [← ha]; kernel_rfl
        refine fl_know hn rfl h5 ?_
        clear h5
        have h7 : (fr a0 [(5, true, .pointer (some ⟨b, 0, none⟩)), (1, true, .string ky)]).eval (.tmp 7) = .slice A7 n7 c7 := by rw [← ha]; kernel_rfl
        refine fl_know hn rfl h7 ?_
        clear h7
        refine g_mv hn ?_
        refine g_mv hn ?_
        refine g_ld hn ?_
        refine g_bd hn ?_ (qs := #[(0, .string ky), (1, .agg #[.int .i64 v.1, .int .i64 v.2.1, .string v.2.2])]) (v := .agg (mkC ky v).cells) (g := true) (hp := fun hk _ => by simp only [List.map_toArray, List.map_cons, List.map_nil, lk_at hk (i := 54) rfl (fun _ => rfl) rfl, lk_at hk (i := 55) rfl (fun _ => rfl) rfl]) (hx := bdCl ky v _)
        refine g_bsX hn Try.underlying22 clEl_info (by decide) (by decide) rfl (bsCl (mkC ky v)) ?_
        intro gp w7p hgp hGp hb7p
        have hO7p := hO.keep hb7p
        refine g_apX (base := b + 1) (m := 1) (xs := [Cl.cells (mkC ky v)]) hn Try.underlying22 clEl_info rfl (by decide) (by decide) hO7p (clEl_szd [(mkC ky v)]) rfl (fun y hy u hu => ?_) (blk_rdC hGp) (by omega) (by have := hX.lt; have := hb7p.size; omega) (.inr (by decide)) ?_
        · rw [List.mem_singleton] at hy
          subst hy
          have h := cl_oneC (mkC ky v)
          rw [Array.all_eq_true'] at h
          exact h u (by simpa using hu)
        rintro v8 w8p ⟨A8p, c8p, rfl, hO8p, hB8p, _⟩
        refine g_as hn ?_
        refine fl_end ?_
        clear hn l7
        subst ha
        dsimp only [fr, cnd, Act.put, cond_true]
        simp only [List.setIfInBounds_toArray, List.set_cons_zero, List.set_cons_succ]
        have hO9p : OwnX tCl 4 (b + 1) w8p A8p (n7 + 1) c8p (((setTo ky v l).1 ++ [(mkC ky v)]).map Cl.cells) := by rw [List.map_append]; exact hO8p
        have hW9p : Below (b + 1) wr w8p := (hb7p.mono (by have := hX.lt; omega)).trans hB8p
        have hX9p : Blk w8p b #[.int .i64 v.1, .int .i64 v.2.1, .string v.2.2] 31 := (hW9p.block b (by omega)).trans hX
        have hB9p : Below b w w8p := hB.trans (hW9p.mono (by omega))
        clear hO7p hO8p hGp hgp hb7p hB8p
        go_wp2_with fail
        go_ret
        refine ⟨A8p, n7 + 1, c8p, rfl, ?_, ?_⟩
        · rw [HZ.out]
          first | exact hO9p.less (by omega) | (rw [hb]; exact hO9p.less (by omega))
        · first | exact hB9p | (rw [hb]; exact hB9p)
end Go.Proofs.Ytokkmofcijfmiab
