/-
  WHAT IS PROVED: package stamp's Tight: of each device the Seqs rise by one. Conditions: those typed in each theorem.
-/
import Derived.Test.YtkfhkfddhijkcaaRoH
namespace Go.Proofs.Ytkfhkfddhijkcaa
open Go.RowKit

/-- May q come behind a? -/
def okT (a : Option Int) (q : Int) : Bool := match a with
  | none => true
  | some a => decide (a < q) && (IntKind.i64.wrap (a + 1) == q)
def tstep (s : Bool × (Int → Option Int)) (x : Wr) : Bool × (Int → Option Int) := (s.1 && okT (s.2 x.dev) x.seq, fun m => if m = x.dev then some x.seq else s.2 m)
def tst (ws : List Wr) : Bool × (Int → Option Int) := ws.foldl tstep (true, fun _ => none)
theorem tst_next {ws : List Wr} {k : Nat} {x : Wr} (hx : ws[k]? = some x) : tst (ws.take (k + 1)) = tstep (tst (ws.take k)) x := by
  unfold tst
  rw [List.take_add_one, hx, List.foldl_append]
  rfl
theorem tfold_false (ws : List Wr) : ∀ s : Bool × (Int → Option Int), s.1 = false → (ws.foldl tstep s).1 = false := by
  induction ws with
  | nil => intro s h; exact h
  | cons x r ih =>
    intro s h
    refine ih _ ?_
    unfold tstep
    rw [h]
    rfl
theorem tst_false {ws : List Wr} {k : Nat} (h : (tst (ws.take k)).1 = false) : (tst ws).1 = false := by
  have e : tst ws = (ws.drop k).foldl tstep (tst (ws.take k)) := by
    unfold tst
    rw [← List.foldl_append, List.take_append_drop]
  rw [e]
  exact tfold_false _ _ h
set_option maxRecDepth 100000 in
set_option maxHeartbeats 4000000 in
theorem tight1_any (a q : Int) (w : World) : Calls Try.prog 76 #[.int .i64 a, .int .i64 q] w fun e w' => e = .returned (.bool (decide (a < q) && (IntKind.i64.wrap (a + 1) == q))) ∧ w' = w := by
  have a1 : ∀ W, W = w → ((do eqGuard .add 3 (.tmp 9) (.const (.int .i64 1)) (.int .i64 a) (.int .i64 1); binOp .add 3 (.int .i64 a) (.int .i64 1)) : Sem Value).run Try.prog W = .ok (.int .i64 (IntKind.i64.wrap (a + 1))) W := fun W _ => by go_simp
  go_enter Try.func76, Try.ntmps76
  go_upto_region 1 with fail
  refine wp_region_lit ?_
  refine fs_start (fun W => W = w) (rfl) ?_
  generalize ha : Act.mk _ _ = a0
  have hn : a0.tmps.size = 14 := by rw [← ha]; kernel_rfl
  have h0 : (fr a0 []).eval (.tmp 0) = .int .i64 a := by rw [← ha]; kernel_rfl
  refine fs_know hn rfl h0 ?_
  clear h0
  have h1 : (fr a0 [(0, true, .int .i64 a)]).eval (.tmp 1) = .int .i64 q := by rw [← ha]; kernel_rfl
  refine fs_know hn rfl h1 ?_
  clear h1
  refine s_mv hn ?_
  refine s_mv hn ?_
  refine s_lss2 hn ?_
  refine s_mv hn ?_
  refine s_mv hn ?_
  refine s_bc hn ?_
  refine s_mv hn ?_
  refine s_eql2 hn ?_
  refine s_an hn ?_
  refine s_as hn ?_
  refine fs_end (fun w2 hS => ?_)
  clear hn
  subst ha
  dsimp only [fr, cnd, Act.put, cond_true]
  simp only [List.setIfInBounds_toArray, List.set_cons_zero, List.set_cons_succ]
  subst hS
  clear a1
  go_wp2_with fail
  go_ret
  exact ⟨rfl, rfl⟩
theorem mUndT : Try.prog.underlying 177 = some (.map 3 3) := Try.underlying177
theorem iUndT : Try.prog.underlying 3 = some (.int .i64) := Try.underlying3
theorem zTi (W : World) : (zeroValue 3).run Try.prog W = .ok (.int .i64 0) W := by kernel_rfl
theorem run_mkT (W : World) : (Instr.makeMap 177 none).run Try.prog W = .ok (.map (some W.heap.size)) (W.alloc (.map #[] 0)) := rfl
set_option maxRecDepth 100000 in
set_option maxHeartbeats 4000000 in
theorem pairs_any {C : Nat} (A : Option Addr) (n c : Nat) (ws : List Wr) (w : World) (hn0 : ws.length = n) (hr : RdW C w A ws) (hC : C ≤ w.heap.size) (hm : n ≤ 1000000) : Calls Try.prog 75 #[.slice A n c, .func (.func 76) #[] #[]] w fun e w' => e = .returned (.bool (tst ws).1) ∧ Below w.heap.size w w' := by
  have HN := Lib.hid hn0
  have HR := Lib.hid (fun W hb => hr.keep (W' := W) hb hC)
  clear hn0 hr
  have hM := mpi_new w
  have hB := b0 w (.map #[] 0)
  have mk := run_mkT w
  go_enter Try.func75, Try.ntmps75
  go_upto_region 2 with fail
  generalize w.alloc (.map #[] 0) = W0 at hM hB mk ⊢
  generalize hb : w.heap.size = m at hM hB mk ⊢
  clear mk
  go_wp2_with fail
  go_loopw [7, 8, 9, 13] (fun _ _ _ i wr => ∃ k : Nat, k ≤ n ∧ i = .int .i64 k ∧ MpI wr m (mf (tst (ws.take k)).2) ∧ Below m w wr ∧ Hid ((tst (ws.take k)).1 = true)) (fun _ _ _ i _ => n - (intOf i).toNat)
  case atStart => exact ⟨0, Nat.zero_le _, rfl, hM, hB, rfl⟩
  case round =>
    clear hM hB
    obtain ⟨k, hk, rfl, hM, hB, hA⟩ := hrel
    by_cases hlt : k < n
    · obtain ⟨x, hx⟩ : ∃ x, ws[k]? = some x := ⟨_, List.getElem?_eq_getElem (show k < ws.length by have := HN.out; omega)⟩
      obtain ⟨ad, rfl, hadb, hc⟩ := HR.out wr (by rw [hb]; exact hB) k x hx
      have HX := Lib.hid (tst_next hx)
      clear hx
      have i2 : (k : Int) < (n : Int) := by omega
      have ix := wix wr ad n c k hlt
      have ld := wld hc
      go_upto_region 4 with fail
      refine wp_region_lit ?_
      refine fl_start ?_
      generalize ha : Act.mk _ _ = a0
      have hn : a0.tmps.size = 43 := by rw [← ha]; kernel_rfl
      have h11 : (fr a0 []).eval (.tmp 11) = .slice (some ad) n c := by rw [← ha]; kernel_rfl
      refine fl_know hn rfl h11 ?_
      clear h11
      have h13 : (fr a0 [(11, true, .slice (some ad) n c)]).eval (.tmp 13) = .int .i64 (k : Int) := by rw [← ha]; kernel_rfl
      refine fl_know hn rfl h13 ?_
      clear h13
      refine g_ix hn ?_
      refine g_ld hn ?_
      refine al_row hn (alW wr) ?_
      intro g w2 hg hY hB2
      refine g_str hY ?_ (h1 := wr_oneC x)
      intro w3 ho hY3
      refine fl_end ?_
      clear hn
      subst ha
      dsimp only [fr, cnd, Act.put, cond_true]
      simp only [List.setIfInBounds_toArray, List.set_cons_zero, List.set_cons_succ]
      have hW3 : Below wr.heap.size wr w3 := hB2.trans (ho.below (by omega))
      have hml := hM.lt
      have hM3 := hM.keep hW3 hml
      have hB3 : Below m w w3 := hB.trans (hW3.mono (by omega))
      have hmg : m < g := by omega
      clear ix ld hc hY hM hB hB2 ho hW3 hml
      generalize hT : tst (ws.take k) = T at hM3 HX hA
      have f0 := wfd0 w3 ⟨g, 0, none⟩
      have f1 := ifd0 w3 ⟨g, 0, none⟩
      have l0 := load_int (w := w3) (hY3.cell 0)
      have lk0 := run_lookO mUndT iUndT (zTi w3) hM3 x.dev
      rw [mf_getD, mf_some] at lk0
      go_upto_region 5 with fail
      refine wp_region_lit ?_
      refine fl_start ?_
      generalize ha : Act.mk _ _ = a0
      have hn : a0.tmps.size = 43 := by rw [← ha]; kernel_rfl
      have h5 : (fr a0 []).eval (.tmp 5) = .map (some m) := by rw [← ha]; kernel_rfl
      refine fl_know hn rfl h5 ?_
      clear h5
      have h7 : (fr a0 [(5, true, .map (some m))]).eval (.tmp 7) = .pointer (some ⟨g, 0, none⟩) := by rw [← ha]; kernel_rfl
      refine fl_know hn rfl h7 ?_
      clear h7
      refine g_mv hn ?_
      refine g_fd hn ?_
      refine g_fd hn ?_
      refine g_ld hn ?_
      refine g_o2 (i := 18) (j := 21) hn (fun ρ h1 h2 _ => x_lko h1 h2 lk0) ?_
      refine g_mv hn ?_
      refine g_ex hn ?_
      refine g_ex hn ?_
      refine g_as hn ?_
      refine g_as hn ?_
      refine fl_end ?_
      clear hn
      subst ha
      dsimp only [fr, cnd, Act.put, cond_true]
      simp only [List.setIfInBounds_toArray, List.set_cons_zero, List.set_cons_succ]
      clear f0 f1 l0 lk0
      have f0 : ∀ W, Kp w3 W → _ := fun W _ => wfd0 W ⟨g, 0, none⟩
      have f1 : ∀ W, Kp w3 W → (Instr.fieldAt 32 (.pointer (some ⟨g, 0, none⟩)) 1).run Try.prog W = .ok (.pointer (some ⟨g, 1, none⟩)) W := fun W _ => by have := ifd1 W ⟨g, 0, none⟩; rwa [Nat.zero_add] at this
      have l1 : ∀ W, Kp w3 W → (Instr.loadAt 3 (.pointer (some ⟨g, 1, none⟩))).run Try.prog W = .ok (.int .i64 x.seq) W := fun W h => load_int ((h.blk hY3).cell 1)
      have c1 : ∀ W, Kp w3 W → Calls Try.prog 76 (#[.int .i64 ((T.2 x.dev).getD 0), .int .i64 x.seq] ++ #[]) W fun e w' => e = .returned (.bool (decide ((T.2 x.dev).getD 0 < x.seq) && (IntKind.i64.wrap ((T.2 x.dev).getD 0 + 1) == x.seq))) ∧ Kp w3 w' := kp_c fun W _ => same_c (tight1_any _ _ W)
      go_upto_region 6 with fail
      refine wp_region_lit ?_
      refine fs_start (Kp w3) (Kp.refl _) ?_
      generalize ha : Act.mk _ _ = a0
      have hn : a0.tmps.size = 43 := by rw [← ha]; kernel_rfl
      have h1 : (fr a0 []).eval (.tmp 1) = .func (.func 76) #[] #[] := by rw [← ha]; kernel_rfl
      refine fs_know hn rfl h1 ?_
      clear h1
      have h7 : (fr a0 [(1, true, .func (.func 76) #[] #[])]).eval (.tmp 7) = .pointer (some ⟨g, 0, none⟩) := by rw [← ha]; kernel_rfl
      refine fs_know hn rfl h7 ?_
      clear h7
      have h8 : (fr a0 [(7, true, .pointer (some ⟨g, 0, none⟩)), (1, true, .func (.func 76) #[] #[])]).eval (.tmp 8) = .int .i64 ((T.2 x.dev).getD 0) := by rw [← ha]; kernel_rfl
      refine fs_know hn rfl h8 ?_
      clear h8
      have h9 : (fr a0 [(8, true, .int .i64 ((T.2 x.dev).getD 0)), (7, true, .pointer (some ⟨g, 0, none⟩)), (1, true, .func (.func 76) #[] #[])]).eval (.tmp 9) = .bool (T.2 x.dev).isSome := by rw [← ha]; kernel_rfl
      refine fs_know hn rfl h9 ?_
      clear h9
      refine s_mv hn ?_
      refine s_mv hn ?_
      refine s_mv hn ?_
      refine s_mv hn ?_
      refine s_fd hn ?_
      refine s_fd hn ?_
      refine s_ld hn ?_
      refine s_cv2 hn en_spinney_stamp_Tight_1 (fun _ => c1) ?_
      refine s_nt hn ?_
      refine s_an hn ?_
      refine fs_end (fun w4 hS => ?_)
      clear hn
      subst ha
      dsimp only [fr, cnd, Act.put, cond_true]
      simp only [List.setIfInBounds_toArray, List.set_cons_zero, List.set_cons_succ]
      have hM4 := hM3.keep hS hM3.lt
      have hY4 := hS.blk hY3
      have hB4 : Below m w w4 := hB3.trans (hS.below.mono (by have := hM3.lt; omega))
      have hok : ((T.2 x.dev).isSome && !(decide ((T.2 x.dev).getD 0 < x.seq) && (IntKind.i64.wrap ((T.2 x.dev).getD 0 + 1) == x.seq))) = !okT (T.2 x.dev) x.seq := by
        unfold okT
        cases T.2 x.dev <;> rfl
      have HOK := Lib.hid hok
      clear hok
      clear f0 f1 l1 c1 hM3 hY3 hB3 hS
      cases hd : ((T.2 x.dev).isSome && !(decide ((T.2 x.dev).getD 0 < x.seq) && (IntKind.i64.wrap ((T.2 x.dev).getD 0 + 1) == x.seq))) with
      | true =>
        have R : Hid (false = (tst ws).1) := by
          show false = (tst ws).1
          refine (tst_false (k := k + 1) ?_).symm
          rw [HX.out]
          unfold tstep
          have h := HOK.out
          rw [hd] at h
          have h2 : okT (T.2 x.dev) x.seq = false := by
            cases hk2 : okT (T.2 x.dev) x.seq with
            | false => rfl
            | true => rw [hk2] at h; cases h
          rw [h2, Bool.and_false]
        clear HX hA hd HOK hM4 hY4
        go_wp2_with fail
        go_ret
        exact ⟨ret_bool R.out, by first | exact hB4 | (rw [hb]; exact hB4)⟩
      | false =>
        have HA2 : Hid ((tst (ws.take (k + 1))).1 = true) := by
          show (tst (ws.take (k + 1))).1 = true
          rw [HX.out]
          unfold tstep
          have h := HOK.out
          rw [hd] at h
          have h2 : okT (T.2 x.dev) x.seq = true := by
            cases hk2 : okT (T.2 x.dev) x.seq with
            | true => rfl
            | false => rw [hk2] at h; cases h
          rw [h2, hA.out]
          rfl
        have HX2 : Hid ((tst (ws.take (k + 1))).2 = fun m => if m = x.dev then some x.seq else T.2 m) := by
          show (tst (ws.take (k + 1))).2 = _
          rw [HX.out]
          rfl
        clear HX hA hd HOK
        have g0 := wfd0 w4 ⟨g, 0, none⟩
        have g1 := ifd0 w4 ⟨g, 0, none⟩
        have g2 : (Instr.fieldAt 32 (.pointer (some ⟨g, 0, none⟩)) 1).run Try.prog w4 = .ok (.pointer (some ⟨g, 1, none⟩)) w4 := by have := ifd1 w4 ⟨g, 0, none⟩; rwa [Nat.zero_add] at this
        have m0 := load_int (w := w4) (hY4.cell 0)
        have m1 := load_int (w := w4) (hY4.cell 1)
        obtain ⟨w5, hput, ho5, hM5⟩ := run_putI mUndT iUndT hM4 x.dev (.int .i64 x.seq)
        rw [mf_upd, ← HX2.out] at hM5
        go_upto_region 8 with fail
        refine wp_region_lit ?_
        refine fl_start ?_
        generalize ha : Act.mk _ _ = a0
        have hn : a0.tmps.size = 43 := by rw [← ha]; kernel_rfl
        have h5 : (fr a0 []).eval (.tmp 5) = .map (some m) := by rw [← ha]; kernel_rfl
        refine fl_know hn rfl h5 ?_
        clear h5
        have h7 : (fr a0 [(5, true, .map (some m))]).eval (.tmp 7) = .pointer (some ⟨g, 0, none⟩) := by rw [← ha]; kernel_rfl
        refine fl_know hn rfl h7 ?_
        clear h7
        refine g_mv hn ?_
        refine g_fd hn ?_
        refine g_fd hn ?_
        refine g_ld hn ?_
        refine g_fd hn ?_
        refine g_fd hn ?_
        refine g_ld hn ?_
        refine g_mpu hput ?_
        refine fl_end ?_
        clear hn
        subst ha
        dsimp only [fr, cnd, Act.put, cond_true]
        simp only [List.setIfInBounds_toArray, List.set_cons_zero, List.set_cons_succ]
        have hB5 := hB4.trans (ho5.below (B := m) (Nat.le_refl _))
        clear g0 g1 g2 m0 m1 hput ho5 hM4 hY4 hB4
        go_wp2_with fail
        go_roundw
        case rel => exact ⟨k + 1, by omega, by go_num, hM5, hB5, HA2⟩
        case measure => simp [intOf]; omega
    · have e : k = n := by omega
      subst e
      have R : Hid (true = (tst ws).1) := by
        show true = (tst ws).1
        have h := hA.out
        rw [List.take_of_length_le (by have := HN.out; omega)] at h
        exact h.symm
      clear hA hM
      go_wp2_with fail
      go_ret
      exact ⟨ret_bool R.out, by first | exact hB | (rw [hb]; exact hB)⟩
set_option maxRecDepth 100000 in
set_option maxHeartbeats 4000000 in
theorem tight_any {C : Nat} (A : Option Addr) (n c : Nat) (ws : List Wr) (w : World) (hn0 : ws.length = n) (hr : RdW C w A ws) (hC : C ≤ w.heap.size) (hm : n ≤ 1000000) : Calls Try.prog 21 #[.slice A n c] w fun e w' => e = .returned (.bool (tst ws).1) ∧ Below w.heap.size w w' := by
  have c1 := pairs_any A n c ws w hn0 hr hC hm
  clear hr
  go_enter Try.func21, Try.ntmps21
  go_wp2_with fail
  refine c1.mono ?_
  rintro e w2 ⟨rfl, hb2⟩
  clear c1
  go_wp2_with fail
  go_ret
  exact ⟨rfl, hb2⟩
end Go.Proofs.Ytkfhkfddhijkcaa
