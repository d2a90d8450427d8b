/-
  WHAT IS PROVED: a write's cells, reached by an index into a slice of writes, or in a block of its own. Conditions: those typed in each theorem. · fresh.Value and fresh.Write answer what was handed in. Conditions: those typed in each theorem. · a key's leaf, the code's and the document's; what a key with a value adds. Conditions: those typed in each theorem.
-/
import Derived.Test.YtokkmofcijfmiabGQ13
import Derived.Test.YtokkmofcijfmiabGQ3
import Derived.Test.YtokkmofcijfmiabGQ8
import Derived.Deep.Cut
import Derived.Shelf.Abstract
import Derived.Outline
import Derived.BigRegion
import Derived.BigQuiet
import Derived.Deep.QuietTactic
import Derived.RowKitTokens
import Derived.WalkKit
import Derived.Laws.Rows
import Derived.Test.YtokkmofcijfmiabBuA
import Derived.Test.YtokkmofcijfmiabGQ10
import Derived.Lib.SmallJoins
namespace Go.Proofs.Ytokkmofcijfmiab
open Go.RowKit

theorem id_oneC (a b : Int) : (#[.int .i64 a, .int .i64 b] : Array Value).all (·.oneCell') = true := by
  rw [show (#[.int .i64 a, .int .i64 b] : Array Value) = [.int .i64 a, .int .i64 b].toArray from rfl, List.all_toArray]
  simp [Value.oneCell']
theorem wr_oneC (x : Wr) : x.cells.all (·.oneCell') = true := by
  obtain ⟨dev, seq, K, ky, ka, na, sa, kb, nb, sb⟩ := x
  show (wrI dev seq K ky ka na sa kb nb sb).all _ = true
  rw [show wrI dev seq K ky ka na sa kb nb sb = [.int .i64 dev, .int .i64 seq, .int .i64 K, .string ky, .int .i64 ka, .int .i64 na, .string sa, .int .i64 kb, .int .i64 nb, .string sb].toArray from rfl, List.all_toArray]
  simp [Value.oneCell']
end Go.Proofs.Ytokkmofcijfmiab

namespace Go.Proofs.Ytokkmofcijfmiab
open Go.RowKit

theorem en_strings_Clone : ∀ args w, (callFunc 46 args).run Try.prog w = .ok (.enter 46 args) w := enters_of Try.func46 (by kernel_rfl) rfl
theorem en_spinney_fresh_Value : ∀ args w, (callFunc 49 args).run Try.prog w = .ok (.enter 49 args) w := enters_of Try.func49 (by kernel_rfl) rfl

theorem all_oneC {l : List Value} (h : ∀ v, v ∈ l → v.oneCell' = true) : (l.toArray).all (·.oneCell') = true := by
  rw [List.all_toArray]
  exact List.all_eq_true.2 h
theorem va_oneC (k n : Int) (t : ByteArray) : (#[.int .i64 k, .int .i64 n, .string t] : Array Value).all (·.oneCell') = true := all_oneC (l := [.int .i64 k, .int .i64 n, .string t]) (by simp [Value.oneCell'])
theorem vfd (W : World) (b : Nat) : (Instr.fieldAt 31 (.pointer (some ⟨b, 0, none⟩)) 2).run Try.prog W = .ok (.pointer (some ⟨b, 2, none⟩)) W := by go_simp
theorem ld_str {W : World} {a : Addr} {t : ByteArray} (h : W.cell? a = some (.string t)) : (Instr.loadAt 9 (.pointer (some a))).run Try.prog W = .ok (.string t) W := by go_simp
theorem st_str {W : World} {b j : Nat} {cs : Array Value} {T : TypeId} (hX : Blk W b cs T) (hj : j < cs.size) (t : ByteArray) : (Instr.storeAt 9 (.pointer (some ⟨b, j, none⟩)) (.string t)).run Try.prog W = .ok () (W.setCell ⟨b, j, none⟩ (.string t)) := by
  obtain ⟨u, hu⟩ := blk_some hX hj
  have hf := hX.free j
  clear hX
  go_simp
theorem vld {W : World} {b o : Nat} {k n : Int} {t : ByteArray} (h0 : W.cell? ⟨b, o, none⟩ = some (.int .i64 k)) (h1 : W.cell? ⟨b, o + 1, none⟩ = some (.int .i64 n)) (h2 : W.cell? ⟨b, o + 2, none⟩ = some (.string t)) : (Instr.loadAt 31 (.pointer (some ⟨b, o, none⟩))).run Try.prog W = .ok (.agg #[.int .i64 k, .int .i64 n, .string t]) W := by go_simp
set_option maxRecDepth 100000 in
set_option maxHeartbeats 4000000 in
theorem freshValue_any (k n : Int) (t : ByteArray) (w : World) (ht : t.size ≤ 1000000) : Calls Try.prog 49 #[.agg #[.int .i64 k, .int .i64 n, .string t]] w fun e w' => e = .returned (.agg #[.int .i64 k, .int .i64 n, .string t]) ∧ Below w.heap.size w w' := by
  have hX0 := blk_new w #[.int .i64 k, .int .i64 n, .string t] 31
  replace hX0 := hX0.alloc (.cells #[.int .i64 0, .int .i64 0, .string ⟨#[]⟩] 31)
  have hz1 : (w.alloc (.cells #[.int .i64 k, .int .i64 n, .string t] 31)).heap.size = w.heap.size + 1 := by simp
  have hX1 := blk_new (w.alloc (.cells #[.int .i64 k, .int .i64 n, .string t] 31)) #[.int .i64 0, .int .i64 0, .string ⟨#[]⟩] 31
  rw [hz1] at hX1
  have hB := ba (b0 w (.cells #[.int .i64 k, .int .i64 n, .string t] 31)) (.cells #[.int .i64 0, .int .i64 0, .string ⟨#[]⟩] 31)
  have hzz : ((w.alloc (.cells #[.int .i64 k, .int .i64 n, .string t] 31)).alloc (.cells #[.int .i64 0, .int .i64 0, .string ⟨#[]⟩] 31)).heap.size = w.heap.size + 2 := by simp
  go_enter Try.func49, Try.ntmps49
  go_upto_region 1 with fail
  generalize ((w.alloc (.cells #[.int .i64 k, .int .i64 n, .string t] 31)).alloc (.cells #[.int .i64 0, .int .i64 0, .string ⟨#[]⟩] 31)) = W0 at hX0 hX1 hB hzz ⊢
  (try simp only [hz1])
  clear hz1
  generalize hb : w.heap.size = b at hX0 hX1 hB hzz ⊢
  have f1 : ∀ W, Kp W0 W → (Instr.fieldAt 31 (.pointer (some ⟨b, 0, none⟩)) 2).run Try.prog W = .ok (.pointer (some ⟨b, 2, none⟩)) W := fun W _ => vfd W b
  have l1 : ∀ W, Kp W0 W → (Instr.loadAt 9 (.pointer (some ⟨b, 2, none⟩))).run Try.prog W = .ok (.string t) W := fun W h => ld_str ((h.blk hX0).cell 2)
  have c1 : ∀ W, Kp W0 W → _ := kp_c fun W _ => sclone_any t W ht
  refine wp_region_lit ?_
  refine fs_start (Kp W0) (Kp.refl _) ?_
  generalize ha : Act.mk _ _ = a0
  have hn : a0.tmps.size = 8 := by rw [← ha]; kernel_rfl
  have h1 : (fr a0 []).eval (.tmp 1) = .pointer (some ⟨b, 0, none⟩) := by rw [← ha]; kernel_rfl
  refine fs_know hn rfl h1 ?_
  clear h1
  refine s_fd hn ?_
  refine s_ld hn ?_
  refine s_callt hn ?_ (he := en_strings_Clone)
  refine s_fd hn ?_
  refine fs_fl fun w3 hS => ?_
  have hX03 := hS.blk hX0
  have hX13 := hS.blk hX1
  have hB3 : Below b w w3 := hB.trans (hS.below.mono (by omega))
  refine g_stt hX03 (st_str (j := 2) hX03 (by simp) t) ?_
  intro w4 ho hX4
  refine fl_end ?_
  clear hn
  subst ha
  dsimp only [fr, cnd, Act.put, cond_true]
  simp only [List.setIfInBounds_toArray, List.set_cons_zero, List.set_cons_succ]
  have hX4 : Blk w4 b #[.int .i64 k, .int .i64 n, .string t] 31 := hX4
  have hX14 := hX13.only ho (by omega)
  have hB4 := hB3.trans (ho.below (B := b) (Nat.le_refl _))
  clear f1 l1 c1 hX0 hX1 hB hS hX03 hX13 hB3 ho
  have l2 := vld (W := w4) (b := b) (o := 0) (hX4.cell 0) (hX4.cell 1) (hX4.cell 2)
  go_upto_region 2 with fail
  refine wp_region_lit ?_
  refine fl_start ?_
  generalize ha : Act.mk _ _ = a0
  have hn : a0.tmps.size = 8 := by rw [← ha]; kernel_rfl
  have h1 : (fr a0 []).eval (.tmp 1) = .pointer (some ⟨b, 0, none⟩) := by rw [← ha]; kernel_rfl
  refine fl_know hn rfl h1 ?_
  clear h1
  have h2 : (fr a0 [(1, true, .pointer (some ⟨b, 0, none⟩))]).eval (.tmp 2) = .pointer (some ⟨b + 1, 0, none⟩) := by rw [← ha]; kernel_rfl
  refine fl_know hn rfl h2 ?_
  clear h2
  refine g_ld hn ?_
  refine g_str hX14 ?_ (h1 := va_oneC k n t)
  intro w5 ho5 hX5
  refine fl_end ?_
  clear hn
  subst ha
  dsimp only [fr, cnd, Act.put, cond_true]
  simp only [List.setIfInBounds_toArray, List.set_cons_zero, List.set_cons_succ]
  have hB5 := hB4.trans (ho5.below (B := b) (by omega))
  clear l2 hX4 hX14 ho5 hB4
  go_wp2_with fail
  refine bodyPost_ret (results_cell_row Try.results49 _ _ (b + 1) 31 #[.int .i64 k, .int .i64 n, .string t] (0, 0) _ (by rfl) hX5 Try.underlying31 (by rfl) (by kernel_rfl)) rfl ?_
  exact ⟨rfl, by first | exact hB5 | (rw [hb]; exact hB5)⟩
theorem ofd1 (W : World) (b : Nat) : (Instr.fieldAt 47 (.pointer (some ⟨b, 2, none⟩)) 1).run Try.prog W = .ok (.pointer (some ⟨b, 3, none⟩)) W := by go_simp
theorem ofd2 (W : World) (b : Nat) : (Instr.fieldAt 47 (.pointer (some ⟨b, 2, none⟩)) 2).run Try.prog W = .ok (.pointer (some ⟨b, 4, none⟩)) W := by go_simp
theorem ofd3 (W : World) (b : Nat) : (Instr.fieldAt 47 (.pointer (some ⟨b, 2, none⟩)) 3).run Try.prog W = .ok (.pointer (some ⟨b, 7, none⟩)) W := by go_simp
theorem st_va {W : World} {b j : Nat} {cs : Array Value} {T : TypeId} (hX : Blk W b cs T) (hj : j + 3 ≤ cs.size) (k n : Int) (t : ByteArray) : (Instr.storeAt 31 (.pointer (some ⟨b, j, none⟩)) (.agg #[.int .i64 k, .int .i64 n, .string t])).run Try.prog W = .ok () (W.setCells b j [.int .i64 k, .int .i64 n, .string t]) := by
  simp only [Instr.storeAt, Instr.sureAddr, Sem.run_bind, Sem.run_pure, Result.andThen_ok]
  exact run_storeVar_mid W b j 31 #[.int .i64 k, .int .i64 n, .string t] (fun i hi => ⟨by rw [hX.cell, Array.getElem?_eq_getElem (by simp at hi; omega)]; rfl, hX.free _⟩) (by kernel_rfl) (va_oneC k n t)
end Go.Proofs.Ytokkmofcijfmiab

namespace Go.Proofs.Ytokkmofcijfmiab
open Go.RowKit

theorem en_spinney_burl_Leaf : ∀ args w, (callFunc 34 args).run Try.prog w = .ok (.enter 34 args) w := enters_of Try.func34 (by kernel_rfl) rfl
theorem en_spinney_spinneyref28_Leaf : ∀ args w, (callFunc 33 args).run Try.prog w = .ok (.enter 33 args) w := enters_of Try.func33 (by kernel_rfl) rfl
theorem en_spinney_burl_share : ∀ args w, (callFunc 37 args).run Try.prog w = .ok (.enter 37 args) w := enters_of Try.func37 (by kernel_rfl) rfl
theorem en_spinney_pack_Text : ∀ args w, (callFunc 52 args).run Try.prog w = .ok (.enter 52 args) w := enters_of Try.func52 (by kernel_rfl) rfl
theorem en_spinney_pack_Value : ∀ args w, (callFunc 51 args).run Try.prog w = .ok (.enter 51 args) w := enters_of Try.func51 (by kernel_rfl) rfl

theorem conv_sb (s : ByteArray) (w : World) : ∃ c W', (convert 9 58 (.string s)).run Try.prog w = .ok (.slice (some ⟨w.heap.size, 0, none⟩) s.size c) W' ∧ RdB W'.heap.size W' (some ⟨w.heap.size, 0, none⟩) s.data.toList ∧ Below w.heap.size w W' := by
  have hr := run_bytes_of_string (P := Try.prog) w 9 58 5 s (by kernel_rfl) Try.underlying58 Try.underlying5
  refine ⟨_, _, hr, fun k x hx => ?_, ((Below.refl w.heap.size w).drew).alloc (Nat.le_refl _) _⟩
  have hk : k < s.data.size := by
    have := (List.getElem?_eq_some_iff.1 hx).1
    simpa using this
  have e : (⟨w.heap.size, 0, none⟩ : Addr).add k = ⟨w.heap.size, k, none⟩ := by unfold Addr.add; split <;> simp_all
  refine ⟨_, rfl, by simp, ?_⟩
  rw [e, Joins.cell_alloc_mark_at w.drew _ _ _ w.heap.size k rfl, bytesRow_at s _ k hk]
  have h2 : s.data[k] = x := by
    rw [Array.getElem?_toList, Array.getElem?_eq_getElem hk] at hx
    injection hx
  rw [h2]
theorem g_cvw {P : Program} {l : List Oper} {Q : Exit → Act → World → Prop} {rest : List Oper} {a0 : Act} {L : List (Nat × Bool × Value)} {w w2 : World} {d n i : Nat} {t t2 : TypeId} {vi v : Value} {ty : TypeId} {p : String} {af : Array Edge} (hn : a0.tmps.size = n) (hr : (convert t t2 vi).run P w = .ok v w2) (h : FL P l Q rest a0 ((d, true, v) :: L) w2) (hd : Nat.blt d n = true := by rfl) (hl : lk L i = some (true, vi) := by rfl) : FL P l Q (⟨some d, .convert t t2 (.tmp i), ty, p, af, none⟩ :: rest) a0 L w :=
  g_w hn (w2 := w2) (v := v) (fun hk => by
    unfold execOp
    dsimp only
    rw [lk_at hk hl (fun _ => rfl) rfl, Sem.run_bind, hr]
    rfl) h rfl hd rfl
/-- A key's leaf. -/
def leafL (b : List UInt8) : Nat := digL b % 16
theorem leafL_lt (b : List UInt8) : leafL b < 16 := Nat.mod_lt _ (by decide)
theorem rem_u16 (i : Nat) (W : World) (z : Nat) : ((do eqGuard .rem 36 (.tmp i) (.const (.int .u64 16)) (.int .u64 (z : Int)) (.int .u64 16); binOp .rem 36 (.int .u64 (z : Int)) (.int .u64 16)) : Sem Value).run Try.prog W = .ok (.int .u64 ((z % 16 : Nat) : Int)) W := by
  have m1 : Int.tmod (z : Int) 16 = ((z % 16 : Nat) : Int) := rfl
  rw [← m1]
  clear m1
  unfold binOp
  simp only [eqGuard, go_sem]
  simp
set_option maxRecDepth 100000 in
set_option maxHeartbeats 4000000 in
theorem leaf_any (k : ByteArray) (w : World) (hk : k.size ≤ 100000) : Calls Try.prog 34 #[.string k] w fun e w' => e = .returned (.int .i64 (leafL k.data.toList : Nat)) ∧ Below w.heap.size w w' := by
  obtain ⟨c, W1, hr, hR, hB⟩ := conv_sb k w
  have hl : k.data.toList.length = k.size := Array.length_toList
  have cD := dig_any (some ⟨w.heap.size, 0, none⟩) k.size c k.data.toList W1 hl hR (by omega)
  go_enter Try.func34, Try.ntmps34
  go_upto_region 1 with fail
  refine wp_region_lit ?_
  refine fl_start ?_
  generalize ha : Act.mk _ _ = a0
  have hn : a0.tmps.size = 8 := by rw [← ha]; kernel_rfl
  have h0 : (fr a0 []).eval (.tmp 0) = .string k := by rw [← ha]; kernel_rfl
  refine fl_know hn rfl h0 ?_
  clear h0
  refine g_mv hn ?_
  refine g_cvw hn hr ?_
  refine g_c1x en_spinney_burl_Digest hn (R := fun v w2 => v = .int .u64 (digL k.data.toList : Nat) ∧ w2 = W1) (cD.mono fun _ _ ⟨he, hb2⟩ => ⟨_, he, rfl, hb2.symm⟩) ?_
  rintro v w2 ⟨rfl, rfl⟩
  have r1 := rem_u16 5 w2 (digL k.data.toList)
  have r2 := cv_ui w2 (y := digL k.data.toList % 16) (by have := Nat.mod_lt (digL k.data.toList) (show 0 < 16 by decide); omega)
  refine g_bc hn ?_
  refine g_cv hn ?_
  refine g_as hn ?_
  refine fl_end ?_
  clear hn
  subst ha
  dsimp only [fr, cnd, Act.put, cond_true]
  simp only [List.setIfInBounds_toArray, List.set_cons_zero, List.set_cons_succ]
  clear r1 r2 hr hR cD
  go_wp2_with fail
  go_ret
  exact ⟨rfl, hB⟩
set_option maxRecDepth 100000 in
set_option maxHeartbeats 4000000 in
theorem refLeaf_any (k : ByteArray) (w : World) (hk : k.size ≤ 100000) : Calls Try.prog 33 #[.string k] w fun e w' => e = .returned (.int .i64 (leafL k.data.toList : Nat)) ∧ Below w.heap.size w w' := by
  obtain ⟨c, W1, hr, hR, hB⟩ := conv_sb k w
  have hl : k.data.toList.length = k.size := Array.length_toList
  have cD := refDig_any (some ⟨w.heap.size, 0, none⟩) k.size c k.data.toList W1 hl hR (by omega)
  go_enter Try.func33, Try.ntmps33
  go_upto_region 1 with fail
  refine wp_region_lit ?_
  refine fl_start ?_
  generalize ha : Act.mk _ _ = a0
  have hn : a0.tmps.size = 8 := by rw [← ha]; kernel_rfl
  have h0 : (fr a0 []).eval (.tmp 0) = .string k := by rw [← ha]; kernel_rfl
  refine fl_know hn rfl h0 ?_
  clear h0
  refine g_mv hn ?_
  refine g_cvw hn hr ?_
  refine g_c1x en_spinney_spinneyref28_Digest hn (R := fun v w2 => v = .int .u64 (digL k.data.toList : Nat) ∧ w2 = W1) (cD.mono fun _ _ ⟨he, hb2⟩ => ⟨_, he, rfl, hb2.symm⟩) ?_
  rintro v w2 ⟨rfl, rfl⟩
  have r1 := rem_u16 5 w2 (digL k.data.toList)
  have r2 := cv_ui w2 (y := digL k.data.toList % 16) (by have := Nat.mod_lt (digL k.data.toList) (show 0 < 16 by decide); omega)
  refine g_bc hn ?_
  refine g_cv hn ?_
  refine g_as hn ?_
  refine fl_end ?_
  clear hn
  subst ha
  dsimp only [fr, cnd, Act.put, cond_true]
  simp only [List.setIfInBounds_toArray, List.set_cons_zero, List.set_cons_succ]
  clear r1 r2 hr hR cD
  go_wp2_with fail
  go_ret
  exact ⟨rfl, hB⟩
/-- What a key with a value adds to its leaf. -/
def shr28 (ky : ByteArray) (k x : Int) (t : ByteArray) : Nat := if k = 0 then 0 else digL (textB ky.data.toList ++ valB k x t.data.toList)
theorem shr28_lt (ky : ByteArray) (k x : Int) (t : ByteArray) : shr28 ky k x t < 18446744073709551616 := by
  unfold shr28
  split
  · decide
  · exact digL_lt _
theorem textB_len (ky : ByteArray) (h : ky.size ≤ 100000) : (textB ky.data.toList).length ≤ 100009 := by
  have hl : ky.data.toList.length = ky.size := Array.length_toList
  have := numB_small (n := ky.data.toList.length) (by omega)
  unfold textB
  rw [List.length_append]
  omega
set_option maxRecDepth 100000 in
set_option maxHeartbeats 4000000 in
theorem share_any (ky : ByteArray) (k x : Int) (t : ByteArray) (w : World) (hky : ky.size ≤ 1000) (hg : goodB k x t = true) (h0 : -9223372036854775808 ≤ x) (h1 : x ≤ 9223372036854775807) : Calls Try.prog 37 #[.string ky, .agg #[.int .i64 k, .int .i64 x, .string t]] w fun e w' => e = .returned (.int .u64 (shr28 ky k x t : Nat)) ∧ Below w.heap.size w w' := by
  have hkl : ky.data.toList.length = ky.size := Array.length_toList
  have hTl : (textB ky.data.toList).length ≤ 1009 := by
    have := numB_small (n := ky.data.toList.length) (by omega)
    unfold textB
    rw [List.length_append]
    omega
  have hVl : (valB k x t.data.toList).length ≤ 1000018 := valB_small (goodB_in hg).1 h0 h1 (by have := (goodB_in hg).2; omega)
  have hX0 := blk_new w #[.int .i64 k, .int .i64 x, .string t] 31
  have hB := b0 w (.cells #[.int .i64 k, .int .i64 x, .string t] 31)
  have hzz : (w.alloc (.cells #[.int .i64 k, .int .i64 x, .string t] 31)).heap.size = w.heap.size + 1 := by simp
  go_enter Try.func37, Try.ntmps37
  go_upto_region 1 with fail
  generalize (w.alloc (.cells #[.int .i64 k, .int .i64 x, .string t] 31)) = W0 at hX0 hB hzz ⊢
  generalize hb : w.heap.size = b at hX0 hB hzz ⊢
  have c0 := hX0.cell 0
  by_cases hk : k = 0
  · subst hk
    have R : Hid (shr28 ky 0 x t = 0) := by show _ = _; unfold shr28; rw [if_pos rfl]
    clear hX0
    go_wp2_with fail
    go_ret
    rw [R.out]
    exact ⟨rfl, by first | exact hB | (rw [hb]; exact hB)⟩
  have R : Hid (shr28 ky k x t = digL (textB ky.data.toList ++ valB k x t.data.toList)) := by show _ = _; unfold shr28; rw [if_neg hk]
  have hk2 : (k == 0) = false := by simpa using hk
  have l0 : ∀ W, Blk W b #[.int .i64 k, .int .i64 x, .string t] 31 → _ := fun W h => vld (W := W) (b := b) (o := 0) (h.cell 0) (h.cell 1) (h.cell 2)
  go_upto_region 3 with fail
  refine fh_start (S := fun W => Blk W b #[.int .i64 k, .int .i64 x, .string t] 31) (by kernel_rfl) (hX0) (fun hS => ?_)
  generalize ha : Act.mk _ _ = a0
  have hn : a0.tmps.size = 13 := by rw [← ha]; kernel_rfl
  have h0 : (fr a0 []).eval (.tmp 0) = .string ky := by rw [← ha]; kernel_rfl
  refine fh_know hn rfl h0 ?_
  clear h0
  have h3 : (fr a0 [(0, true, .string ky)]).eval (.tmp 3) = .pointer (some ⟨b, 0, none⟩) := by rw [← ha]; kernel_rfl
  refine fh_know hn rfl h3 ?_
  clear h3
  refine h_mv 0 hn hS ?_
  refine h_ld 2 hn hS ?_
  refine fh_callx 1 (d := 9) (R := fun v w2 => ∃ A n c, v = .slice A n c ∧ (textB ky.data.toList).length = n ∧ RdB w2.heap.size w2 A (textB ky.data.toList) ∧ n ≤ c ∧ Below W0.drew.heap.size W0.drew w2) hn rfl (fun hk => call2_is en_spinney_pack_Text _ _ _ _ _ _ _ _ _ (.slice none 0 0) (.string ky) rfl (lk_at hk (i := 8) rfl (fun _ => rfl) rfl) rfl) ((packText_any none 0 0 [] ky W0.drew rfl (by omega) (RdB.nil _ _ _) (by omega) (by omega)).mono fun _ _ ⟨⟨A, n, c, he, hl, hr, hc⟩, hb2⟩ => ⟨_, he, A, n, c, rfl, hl, hr, hc, hb2⟩) ?_ rfl rfl (by kernel_rfl) rfl
  rintro v v1 ⟨A1, n1, c1, rfl, hl1, hr1, hc1, hb1⟩
  have hX1 := Blk.keep hS hb1
  refine ⟨hX1, ?_⟩
  refine fh_callx 3 (d := 11) (R := fun v w2 => ∃ A n c, v = .slice A n c ∧ (textB ky.data.toList ++ valB k x t.data.toList).length = n ∧ RdB w2.heap.size w2 A (textB ky.data.toList ++ valB k x t.data.toList) ∧ n ≤ c ∧ Below v1.heap.size v1 w2) hn rfl (fun hk => call2_is en_spinney_pack_Value _ _ _ _ _ _ _ _ _ (.slice A1 n1 c1) (.agg #[.int .i64 k, .int .i64 x, .string t]) (lk_at hk (i := 9) rfl (fun _ => rfl) rfl) (lk_at hk (i := 10) rfl (fun _ => rfl) rfl) rfl) ((packValue_any A1 n1 c1 _ k x t v1 hl1 (by omega) hr1 hc1 hg h0 h1).mono fun _ _ ⟨⟨A, n, c, he, hl, hr, hc⟩, hb2⟩ => ⟨_, he, A, n, c, rfl, hl, hr, hc, hb2⟩) ?_ rfl rfl (by kernel_rfl) rfl
  rintro v v2 ⟨A2, n2, c2, rfl, hl2, hr2, hc2, hb2⟩
  have hX2 := Blk.keep hX1 hb2
  refine ⟨hX2, ?_⟩
  have hn2 : n2 ≤ 1000000000 := by rw [← hl2, List.length_append]; omega
  refine fh_callx 4 (d := 12) (R := fun v w2 => v = .int .u64 (digL (textB ky.data.toList ++ valB k x t.data.toList) : Nat) ∧ v2 = w2) hn rfl (fun hk => call1_is en_spinney_burl_Digest _ _ _ _ _ _ _ _ (.slice A2 n2 c2) (lk_at hk (i := 11) rfl (fun _ => rfl) rfl) rfl) ((dig_any A2 n2 c2 _ v2 hl2 hr2 hn2).mono fun _ _ ⟨he, hw⟩ => ⟨_, he, rfl, hw⟩) ?_ rfl rfl (by kernel_rfl) rfl
  rintro v v3 ⟨rfl, rfl⟩
  refine ⟨hX2, ?_⟩
  refine h_as 5 hn hX2 ?_
  refine fh_end (by kernel_rfl) ?_
  clear hn
  subst ha
  dsimp only [fr, cnd, Act.put, cond_true]
  simp only [List.setIfInBounds_toArray, List.set_cons_zero, List.set_cons_succ]
  go_wp2_with fail
  go_ret
  rw [R.out]
  exact ⟨rfl, by
    have h3 := (Below.drew hB).trans (hb1.mono (by have := (Below.drew hB).size; omega))
    have h4 := h3.trans (hb2.mono (by have := h3.size; omega))
    first | exact h4 | (rw [hb]; exact h4)⟩
end Go.Proofs.Ytokkmofcijfmiab
