/-
  WHAT IS PROVED: fresh.Value and fresh.Write answer what was handed in. Conditions: those typed in each theorem.
-/
import Derived.Test.YtkfhkfddhijkcaaWrIx
import Derived.Test.YtkfhkfddhijkcaaGQ9
import Derived.Deep.Cut
import Derived.Shelf.Abstract
import Derived.Outline
import Derived.BigRegion
import Derived.BigQuiet
import Derived.Deep.QuietTactic
import Derived.RowKitTokens
import Derived.WalkKit
import Derived.Laws.Rows
namespace Go.Proofs.Ytkfhkfddhijkcaa
open Go.RowKit

theorem en_strings_Clone : ∀ args w, (callFunc 108 args).run Try.prog w = .ok (.enter 108 args) w := enters_of Try.func108 (by kernel_rfl) rfl
theorem en_spinney_fresh_Value : ∀ args w, (callFunc 109 args).run Try.prog w = .ok (.enter 109 args) w := enters_of Try.func109 (by kernel_rfl) rfl

theorem all_oneC {l : List Value} (h : ∀ v, v ∈ l → v.oneCell' = true) : (l.toArray).all (·.oneCell') = true := by
  rw [List.all_toArray]
  exact List.all_eq_true.2 h
theorem va_oneC (k n : Int) (t : ByteArray) : (#[.int .i64 k, .int .i64 n, .string t] : Array Value).all (·.oneCell') = true := all_oneC (l := [.int .i64 k, .int .i64 n, .string t]) (by simp [Value.oneCell'])
theorem vfd (W : World) (b : Nat) : (Instr.fieldAt 35 (.pointer (some ⟨b, 0, none⟩)) 2).run Try.prog W = .ok (.pointer (some ⟨b, 2, none⟩)) W := by go_simp
theorem ld_str {W : World} {a : Addr} {t : ByteArray} (h : W.cell? a = some (.string t)) : (Instr.loadAt 9 (.pointer (some a))).run Try.prog W = .ok (.string t) W := by go_simp
theorem st_str {W : World} {b j : Nat} {cs : Array Value} {T : TypeId} (hX : Blk W b cs T) (hj : j < cs.size) (t : ByteArray) : (Instr.storeAt 9 (.pointer (some ⟨b, j, none⟩)) (.string t)).run Try.prog W = .ok () (W.setCell ⟨b, j, none⟩ (.string t)) := by
  obtain ⟨u, hu⟩ := blk_some hX hj
  have hf := hX.free j
  clear hX
  go_simp
theorem vld {W : World} {b o : Nat} {k n : Int} {t : ByteArray} (h0 : W.cell? ⟨b, o, none⟩ = some (.int .i64 k)) (h1 : W.cell? ⟨b, o + 1, none⟩ = some (.int .i64 n)) (h2 : W.cell? ⟨b, o + 2, none⟩ = some (.string t)) : (Instr.loadAt 35 (.pointer (some ⟨b, o, none⟩))).run Try.prog W = .ok (.agg #[.int .i64 k, .int .i64 n, .string t]) W := by go_simp
set_option maxRecDepth 100000 in
set_option maxHeartbeats 4000000 in
theorem freshValue_any (k n : Int) (t : ByteArray) (w : World) (ht : t.size ≤ 1000000) : Calls Try.prog 109 #[.agg #[.int .i64 k, .int .i64 n, .string t]] w fun e w' => e = .returned (.agg #[.int .i64 k, .int .i64 n, .string t]) ∧ Below w.heap.size w w' := by
  have hX0 := blk_new w #[.int .i64 k, .int .i64 n, .string t] 35
  replace hX0 := hX0.alloc (.cells #[.int .i64 0, .int .i64 0, .string ⟨#[]⟩] 35)
  have hz1 : (w.alloc (.cells #[.int .i64 k, .int .i64 n, .string t] 35)).heap.size = w.heap.size + 1 := by simp
  have hX1 := blk_new (w.alloc (.cells #[.int .i64 k, .int .i64 n, .string t] 35)) #[.int .i64 0, .int .i64 0, .string ⟨#[]⟩] 35
  rw [hz1] at hX1
  have hB := ba (b0 w (.cells #[.int .i64 k, .int .i64 n, .string t] 35)) (.cells #[.int .i64 0, .int .i64 0, .string ⟨#[]⟩] 35)
  have hzz : ((w.alloc (.cells #[.int .i64 k, .int .i64 n, .string t] 35)).alloc (.cells #[.int .i64 0, .int .i64 0, .string ⟨#[]⟩] 35)).heap.size = w.heap.size + 2 := by simp
  go_enter Try.func109, Try.ntmps109
  go_upto_region 1 with fail
  generalize ((w.alloc (.cells #[.int .i64 k, .int .i64 n, .string t] 35)).alloc (.cells #[.int .i64 0, .int .i64 0, .string ⟨#[]⟩] 35)) = W0 at hX0 hX1 hB hzz ⊢
  (try simp only [hz1])
  clear hz1
  generalize hb : w.heap.size = b at hX0 hX1 hB hzz ⊢
  have f1 : ∀ W, Kp W0 W → (Instr.fieldAt 35 (.pointer (some ⟨b, 0, none⟩)) 2).run Try.prog W = .ok (.pointer (some ⟨b, 2, none⟩)) W := fun W _ => vfd W b
  have l1 : ∀ W, Kp W0 W → (Instr.loadAt 9 (.pointer (some ⟨b, 2, none⟩))).run Try.prog W = .ok (.string t) W := fun W h => ld_str ((h.blk hX0).cell 2)
  have c1 : ∀ W, Kp W0 W → _ := kp_c fun W _ => sclone_any t W ht
  refine wp_region_lit ?_
  refine fs_start (Kp W0) (Kp.refl _) ?_
  generalize ha : Act.mk _ _ = a0
  have hn : a0.tmps.size = 8 := by rw [← ha]; kernel_rfl
  have h1 : (fr a0 []).eval (.tmp 1) = .pointer (some ⟨b, 0, none⟩) := by rw [← ha]; kernel_rfl
  refine fs_know hn rfl h1 ?_
  clear h1
  refine s_fd hn ?_
  refine s_ld hn ?_
  refine s_callt hn ?_ (he := en_strings_Clone)
  refine s_fd hn ?_
  refine fs_fl fun w3 hS => ?_
  have hX03 := hS.blk hX0
  have hX13 := hS.blk hX1
  have hB3 : Below b w w3 := hB.trans (hS.below.mono (by omega))
  refine g_stt hX03 (st_str (j := 2) hX03 (by simp) t) ?_
  intro w4 ho hX4
  refine fl_end ?_
  clear hn
  subst ha
  dsimp only [fr, cnd, Act.put, cond_true]
  simp only [List.setIfInBounds_toArray, List.set_cons_zero, List.set_cons_succ]
  have hX4 : Blk w4 b #[.int .i64 k, .int .i64 n, .string t] 35 := hX4
  have hX14 := hX13.only ho (by omega)
  have hB4 := hB3.trans (ho.below (B := b) (Nat.le_refl _))
  clear f1 l1 c1 hX0 hX1 hB hS hX03 hX13 hB3 ho
  have l2 := vld (W := w4) (b := b) (o := 0) (hX4.cell 0) (hX4.cell 1) (hX4.cell 2)
  go_upto_region 2 with fail
  refine wp_region_lit ?_
  refine fl_start ?_
  generalize ha : Act.mk _ _ = a0
  have hn : a0.tmps.size = 8 := by rw [← ha]; kernel_rfl
  have h1 : (fr a0 []).eval (.tmp 1) = .pointer (some ⟨b, 0, none⟩) := by rw [← ha]; kernel_rfl
  refine fl_know hn rfl h1 ?_
  clear h1
  have h2 : (fr a0 [(1, true, .pointer (some ⟨b, 0, none⟩))]).eval (.tmp 2) = .pointer (some ⟨b + 1, 0, none⟩) := by rw [← ha]; kernel_rfl
  refine fl_know hn rfl h2 ?_
  clear h2
  refine g_ld hn ?_
  refine g_str hX14 ?_ (h1 := va_oneC k n t)
  intro w5 ho5 hX5
  refine fl_end ?_
  clear hn
  subst ha
  dsimp only [fr, cnd, Act.put, cond_true]
  simp only [List.setIfInBounds_toArray, List.set_cons_zero, List.set_cons_succ]
  have hB5 := hB4.trans (ho5.below (B := b) (by omega))
  clear l2 hX4 hX14 ho5 hB4
  go_wp2_with fail
  refine bodyPost_ret (results_cell_row Try.results109 _ _ (b + 1) 35 #[.int .i64 k, .int .i64 n, .string t] (0, 0) _ (by rfl) hX5 Try.underlying35 (by rfl) (by kernel_rfl)) rfl ?_
  exact ⟨rfl, by first | exact hB5 | (rw [hb]; exact hB5)⟩
theorem wfdO (W : World) (b : Nat) : (Instr.fieldAt 39 (.pointer (some ⟨b, 0, none⟩)) 1).run Try.prog W = .ok (.pointer (some ⟨b, 2, none⟩)) W := by go_simp
theorem ofd1 (W : World) (b : Nat) : (Instr.fieldAt 37 (.pointer (some ⟨b, 2, none⟩)) 1).run Try.prog W = .ok (.pointer (some ⟨b, 3, none⟩)) W := by go_simp
theorem ofd2 (W : World) (b : Nat) : (Instr.fieldAt 37 (.pointer (some ⟨b, 2, none⟩)) 2).run Try.prog W = .ok (.pointer (some ⟨b, 4, none⟩)) W := by go_simp
theorem ofd3 (W : World) (b : Nat) : (Instr.fieldAt 37 (.pointer (some ⟨b, 2, none⟩)) 3).run Try.prog W = .ok (.pointer (some ⟨b, 7, none⟩)) W := by go_simp
theorem st_va {W : World} {b j : Nat} {cs : Array Value} {T : TypeId} (hX : Blk W b cs T) (hj : j + 3 ≤ cs.size) (k n : Int) (t : ByteArray) : (Instr.storeAt 35 (.pointer (some ⟨b, j, none⟩)) (.agg #[.int .i64 k, .int .i64 n, .string t])).run Try.prog W = .ok () (W.setCells b j [.int .i64 k, .int .i64 n, .string t]) := by
  simp only [Instr.storeAt, Instr.sureAddr, Sem.run_bind, Sem.run_pure, Result.andThen_ok]
  exact run_storeVar_mid W b j 35 #[.int .i64 k, .int .i64 n, .string t] (fun i hi => ⟨by rw [hX.cell, Array.getElem?_eq_getElem (by simp at hi; omega)]; rfl, hX.free _⟩) (by kernel_rfl) (va_oneC k n t)
set_option maxRecDepth 100000 in
set_option maxHeartbeats 4000000 in
theorem freshWr_any (x : Wr) (w : World) (h1 : x.ky.size ≤ 1000000) (h2 : x.sa.size ≤ 1000000) (h3 : x.sb.size ≤ 1000000) : Calls Try.prog 74 #[.agg x.cells] w fun e w' => e = .returned (.agg x.cells) ∧ Below w.heap.size w w' := by
  have hX0 := blk_new w x.cells 39
  replace hX0 := hX0.alloc (.cells (wrI 0 0 0 ⟨#[]⟩ 0 0 ⟨#[]⟩ 0 0 ⟨#[]⟩) 39)
  have hz1 : (w.alloc (.cells x.cells 39)).heap.size = w.heap.size + 1 := by simp
  have hX1 := blk_new (w.alloc (.cells x.cells 39)) (wrI 0 0 0 ⟨#[]⟩ 0 0 ⟨#[]⟩ 0 0 ⟨#[]⟩) 39
  rw [hz1] at hX1
  have hB := ba (b0 w (.cells x.cells 39)) (.cells (wrI 0 0 0 ⟨#[]⟩ 0 0 ⟨#[]⟩ 0 0 ⟨#[]⟩) 39)
  have hzz : ((w.alloc (.cells x.cells 39)).alloc (.cells (wrI 0 0 0 ⟨#[]⟩ 0 0 ⟨#[]⟩ 0 0 ⟨#[]⟩) 39)).heap.size = w.heap.size + 2 := by simp
  go_enter Try.func74, Try.ntmps74
  go_upto_region 1 with fail
  generalize ((w.alloc (.cells x.cells 39)).alloc (.cells (wrI 0 0 0 ⟨#[]⟩ 0 0 ⟨#[]⟩ 0 0 ⟨#[]⟩) 39)) = W0 at hX0 hX1 hB hzz ⊢
  (try simp only [hz1])
  clear hz1
  generalize hb : w.heap.size = b at hX0 hX1 hB hzz ⊢
  have f1 : ∀ W, Kp W0 W → (Instr.fieldAt 39 (.pointer (some ⟨b, 0, none⟩)) 1).run Try.prog W = .ok (.pointer (some ⟨b, 2, none⟩)) W := fun W _ => wfdO W b
  have f2 : ∀ W, Kp W0 W → (Instr.fieldAt 37 (.pointer (some ⟨b, 2, none⟩)) 1).run Try.prog W = .ok (.pointer (some ⟨b, 3, none⟩)) W := fun W _ => ofd1 W b
  have l1 : ∀ W, Kp W0 W → (Instr.loadAt 9 (.pointer (some ⟨b, 3, none⟩))).run Try.prog W = .ok (.string x.ky) W := fun W h => ld_str ((h.blk hX0).cell 3)
  have c1 : ∀ W, Kp W0 W → _ := kp_c fun W _ => sclone_any x.ky W h1
  refine wp_region_lit ?_
  refine fs_start (Kp W0) (Kp.refl _) ?_
  generalize ha : Act.mk _ _ = a0
  have hn : a0.tmps.size = 22 := by rw [← ha]; kernel_rfl
  have h1 : (fr a0 []).eval (.tmp 1) = .pointer (some ⟨b, 0, none⟩) := by rw [← ha]; kernel_rfl
  refine fs_know hn rfl h1 ?_
  clear h1
  refine s_fd hn ?_
  refine s_fd hn ?_
  refine s_ld hn ?_
  refine s_callt hn ?_ (he := en_strings_Clone)
  refine s_fd hn ?_
  refine s_fd hn ?_
  refine fs_fl fun w3 hS => ?_
  have hX03 := hS.blk hX0
  have hX13 := hS.blk hX1
  have hB3 : Below b w w3 := hB.trans (hS.below.mono (by omega))
  refine g_stt hX03 (st_str (j := 3) hX03 (by show 3 < 10; omega) x.ky) ?_
  intro w4 ho hX4
  refine fl_end ?_
  clear hn
  subst ha
  dsimp only [fr, cnd, Act.put, cond_true]
  simp only [List.setIfInBounds_toArray, List.set_cons_zero, List.set_cons_succ]
  have hX4 : Blk w4 b x.cells 39 := hX4
  have hX14 := hX13.only ho (by omega)
  have hB4 := hB3.trans (ho.below (B := b) (Nat.le_refl _))
  clear f1 f2 l1 c1 hX0 hX1 hB hS hX03 hX13 hB3 ho
  have hsz4 : b + 1 < w4.heap.size := hX14.lt
  have f1 : ∀ W, (fun W => Blk W b x.cells 39 ∧ Blk W (b + 1) (wrI 0 0 0 ⟨#[]⟩ 0 0 ⟨#[]⟩ 0 0 ⟨#[]⟩) 39 ∧ Below b w W) W → (Instr.fieldAt 39 (.pointer (some ⟨b, 0, none⟩)) 1).run Try.prog W = .ok (.pointer (some ⟨b, 2, none⟩)) W := fun W _ => wfdO W b
  have f2 : ∀ W, (fun W => Blk W b x.cells 39 ∧ Blk W (b + 1) (wrI 0 0 0 ⟨#[]⟩ 0 0 ⟨#[]⟩ 0 0 ⟨#[]⟩) 39 ∧ Below b w W) W → (Instr.fieldAt 37 (.pointer (some ⟨b, 2, none⟩)) 2).run Try.prog W = .ok (.pointer (some ⟨b, 4, none⟩)) W := fun W _ => ofd2 W b
  have f3 : ∀ W, (fun W => Blk W b x.cells 39 ∧ Blk W (b + 1) (wrI 0 0 0 ⟨#[]⟩ 0 0 ⟨#[]⟩ 0 0 ⟨#[]⟩) 39 ∧ Below b w W) W → (Instr.fieldAt 37 (.pointer (some ⟨b, 2, none⟩)) 3).run Try.prog W = .ok (.pointer (some ⟨b, 7, none⟩)) W := fun W _ => ofd3 W b
  have l1 : ∀ W, (fun W => Blk W b x.cells 39 ∧ Blk W (b + 1) (wrI 0 0 0 ⟨#[]⟩ 0 0 ⟨#[]⟩ 0 0 ⟨#[]⟩) 39 ∧ Below b w W) W → (Instr.loadAt 35 (.pointer (some ⟨b, 4, none⟩))).run Try.prog W = .ok (.agg #[.int .i64 x.ka, .int .i64 x.na, .string x.sa]) W := fun W h => vld (h.1.cell 4) (h.1.cell 5) (h.1.cell 6)
  have l2 : ∀ W, (fun W => Blk W b x.cells 39 ∧ Blk W (b + 1) (wrI 0 0 0 ⟨#[]⟩ 0 0 ⟨#[]⟩ 0 0 ⟨#[]⟩) 39 ∧ Below b w W) W → (Instr.loadAt 35 (.pointer (some ⟨b, 7, none⟩))).run Try.prog W = .ok (.agg #[.int .i64 x.kb, .int .i64 x.nb, .string x.sb]) W := fun W h => vld (h.1.cell 7) (h.1.cell 8) (h.1.cell 9)
  have hcc : ∀ (v : Array Value), (∀ W, Calls Try.prog 109 #[.agg v] W fun e w' => e = .returned (.agg v) ∧ Below W.heap.size W w') → ∀ W, (fun W => Blk W b x.cells 39 ∧ Blk W (b + 1) (wrI 0 0 0 ⟨#[]⟩ 0 0 ⟨#[]⟩ 0 0 ⟨#[]⟩) 39 ∧ Below b w W) W → Calls Try.prog 109 #[.agg v] W fun e w' => e = .returned (.agg v) ∧ (fun W => Blk W b x.cells 39 ∧ Blk W (b + 1) (wrI 0 0 0 ⟨#[]⟩ 0 0 ⟨#[]⟩ 0 0 ⟨#[]⟩) 39 ∧ Below b w W) w' := fun v hc W h => (hc W).mono fun _ _ ⟨he, hb2⟩ => ⟨he, h.1.keep hb2, h.2.1.keep hb2, h.2.2.trans (hb2.mono (by have := h.1.lt; omega))⟩
  have c1 := hcc _ (fun W => freshValue_any x.ka x.na x.sa W h2)
  have c2 := hcc _ (fun W => freshValue_any x.kb x.nb x.sb W h3)
  go_upto_region 2 with fail
  refine fh_start (S := fun W => Blk W b x.cells 39 ∧ Blk W (b + 1) (wrI 0 0 0 ⟨#[]⟩ 0 0 ⟨#[]⟩ 0 0 ⟨#[]⟩) 39 ∧ Below b w W) (by kernel_rfl) (⟨hX4, hX14, hB4.drew⟩) (fun hS => ?_)
  generalize ha : Act.mk _ _ = a0
  have hn : a0.tmps.size = 22 := by rw [← ha]; kernel_rfl
  have h1 : (fr a0 []).eval (.tmp 1) = .pointer (some ⟨b, 0, none⟩) := by rw [← ha]; kernel_rfl
  refine fh_know hn rfl h1 ?_
  clear h1
  refine h_fd 0 hn hS ?_
  refine h_fd 1 hn hS ?_
  refine h_ld 2 hn hS ?_
  refine h_fd 4 hn hS ?_
  refine h_fd 5 hn hS ?_
  refine h_ld 6 hn hS ?_
  refine h_yv 3 hn hS (fun hk => yv_call (fun w => call1_is en_spinney_fresh_Value _ _ _ _ _ _ _ _ _ (lk_at hk (i := 11) rfl (fun _ => rfl) rfl) rfl) c1) ?_
  intro w5 hS5
  clear hS
  have hS := hS5
  refine h_fd 8 hn hS ?_
  refine h_fd 9 hn hS ?_
  refine h_yv 7 hn hS5 (fun hk => yv_call (fun w => call1_is en_spinney_fresh_Value _ _ _ _ _ _ _ _ _ (lk_at hk (i := 15) rfl (fun _ => rfl) rfl) rfl) c2) ?_
  intro w6 hS6
  have hz3 : 4 + 3 ≤ x.cells.size := by show 7 ≤ 10; omega
  have hz7 : 7 + 3 ≤ x.cells.size := by show 10 ≤ 10; omega
  have hZ : ∀ W, (fun W => Blk W b x.cells 39 ∧ Blk W (b + 1) (wrI 0 0 0 ⟨#[]⟩ 0 0 ⟨#[]⟩ 0 0 ⟨#[]⟩) 39 ∧ Below b w W) W → ∀ j vs, setL x.cells j vs = x.cells → (fun W => Blk W b x.cells 39 ∧ Blk W (b + 1) (wrI 0 0 0 ⟨#[]⟩ 0 0 ⟨#[]⟩ 0 0 ⟨#[]⟩) 39 ∧ Below b w W) (W.setCells b j vs) := fun W h j vs e => by
    have ho := only_cells b vs j W
    have hc := Blk.cells vs j W _ h.1
    rw [e] at hc
    exact ⟨hc, h.2.1.only ho (by omega), h.2.2.trans (ho.below (Nat.le_refl _))⟩
  refine h_st 10 (st_va hS6.1 hz3 x.ka x.na x.sa) (hZ _ hS6 4 _ rfl) ?_
  have hS7 := hZ _ hS6 4 [.int .i64 x.ka, .int .i64 x.na, .string x.sa] rfl
  generalize w6.setCells b 4 [.int .i64 x.ka, .int .i64 x.na, .string x.sa] = w7 at hS7 ⊢
  clear hS
  have hS := hS7
  refine h_fd 11 hn hS ?_
  refine h_fd 12 hn hS ?_
  refine h_st 13 (st_va hS7.1 hz7 x.kb x.nb x.sb) (hZ _ hS7 7 _ rfl) ?_
  have hS8 := hZ _ hS7 7 [.int .i64 x.kb, .int .i64 x.nb, .string x.sb] rfl
  generalize w7.setCells b 7 [.int .i64 x.kb, .int .i64 x.nb, .string x.sb] = w8 at hS8 ⊢
  refine fh_end (by kernel_rfl) ?_
  clear hn
  subst ha
  dsimp only [fr, cnd, Act.put, cond_true]
  simp only [List.setIfInBounds_toArray, List.set_cons_zero, List.set_cons_succ]
  clear hZ f1 f2 f3 l1 l2 c1 c2 hcc hS7 hS6 hS5 hS hX4 hX14 hB4
  obtain ⟨hX5, hX15, hB5⟩ := hS8
  have l2 := wld_blk hX5
  go_upto_region 3 with fail
  refine wp_region_lit ?_
  refine fl_start ?_
  generalize ha : Act.mk _ _ = a0
  have hn : a0.tmps.size = 22 := by rw [← ha]; kernel_rfl
  have h1 : (fr a0 []).eval (.tmp 1) = .pointer (some ⟨b, 0, none⟩) := by rw [← ha]; kernel_rfl
  refine fl_know hn rfl h1 ?_
  clear h1
  have h2 : (fr a0 [(1, true, .pointer (some ⟨b, 0, none⟩))]).eval (.tmp 2) = .pointer (some ⟨b + 1, 0, none⟩) := by rw [← ha]; kernel_rfl
  refine fl_know hn rfl h2 ?_
  clear h2
  refine g_ld hn ?_
  refine g_str hX15 ?_ (hs := by rfl) (h1 := wr_oneC x)
  intro w9 ho9 hX9
  refine fl_end ?_
  clear hn
  subst ha
  dsimp only [fr, cnd, Act.put, cond_true]
  simp only [List.setIfInBounds_toArray, List.set_cons_zero, List.set_cons_succ]
  have hB9 := hB5.trans (ho9.below (B := b) (by omega))
  clear l2 hX5 hX15 ho9 hB5
  go_wp2_with fail
  refine bodyPost_ret (results_cell_row Try.results74 _ _ (b + 1) 39 x.cells (0, 0) _ (by rfl) hX9 Try.underlying39 (by rfl) (by kernel_rfl)) rfl ?_
  exact ⟨rfl, by first | exact hB9 | (rw [hb]; exact hB9)⟩
end Go.Proofs.Ytkfhkfddhijkcaa
