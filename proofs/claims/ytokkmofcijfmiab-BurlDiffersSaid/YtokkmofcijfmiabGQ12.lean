/-
  WHAT IS PROVED: a write's cells, reached by an index into a slice of writes, or in a block of its own. Conditions: those typed in each theorem. · fresh.Value and fresh.Write answer what was handed in. Conditions: those typed in each theorem. · a key's leaf, the code's and the document's; what a key with a value adds. Conditions: those typed in each theorem. · append of a slice's elements, however many, onto a row of the call's own; slices of writes cut. Conditions: those typed in each theorem. · skies: By; the document's Below, By. Conditions: those typed in each theorem. · rows of any kind of element, by XFast's laws: a slice of one element, append onto a row of the call's own. Conditions: those typed in each theorem.
-/
import Derived.Test.YtokkmofcijfmiabGQ11
import Derived.Test.YtokkmofcijfmiabGQ3
import Derived.Test.YtokkmofcijfmiabGQ6
import Derived.Deep.Cut
import Derived.Shelf.Abstract
import Derived.Outline
import Derived.BigRegion
import Derived.BigQuiet
import Derived.Deep.QuietTactic
import Derived.RowKitTokens
import Derived.WalkKit
import Derived.Laws.Rows
import Derived.Test.YtokkmofcijfmiabBuA
import Derived.Test.YtokkmofcijfmiabGQ8
import Derived.Lib.SmallJoins
import Derived.Test.YtokkmofcijfmiabGQ0
import Derived.Great.BuildSlice
namespace Go.Proofs.Ytokkmofcijfmiab
open Go.RowKit

theorem id_oneC (a b : Int) : (#[.int .i64 a, .int .i64 b] : Array Value).all (·.oneCell') = true := by
  rw [show (#[.int .i64 a, .int .i64 b] : Array Value) = [.int .i64 a, .int .i64 b].toArray from rfl, List.all_toArray]
  simp [Value.oneCell']
theorem wr_oneC (x : Wr) : x.cells.all (·.oneCell') = true := by
  obtain ⟨dev, seq, K, ky, ka, na, sa, kb, nb, sb⟩ := x
  show (wrI dev seq K ky ka na sa kb nb sb).all _ = true
  rw [show wrI dev seq K ky ka na sa kb nb sb = [.int .i64 dev, .int .i64 seq, .int .i64 K, .string ky, .int .i64 ka, .int .i64 na, .string sa, .int .i64 kb, .int .i64 nb, .string sb].toArray from rfl, List.all_toArray]
  simp [Value.oneCell']
end Go.Proofs.Ytokkmofcijfmiab

namespace Go.Proofs.Ytokkmofcijfmiab
open Go.RowKit

theorem en_strings_Clone : ∀ args w, (callFunc 46 args).run Try.prog w = .ok (.enter 46 args) w := enters_of Try.func46 (by kernel_rfl) rfl
theorem en_spinney_fresh_Value : ∀ args w, (callFunc 49 args).run Try.prog w = .ok (.enter 49 args) w := enters_of Try.func49 (by kernel_rfl) rfl

theorem all_oneC {l : List Value} (h : ∀ v, v ∈ l → v.oneCell' = true) : (l.toArray).all (·.oneCell') = true := by
  rw [List.all_toArray]
  exact List.all_eq_true.2 h
theorem va_oneC (k n : Int) (t : ByteArray) : (#[.int .i64 k, .int .i64 n, .string t] : Array Value).all (·.oneCell') = true := all_oneC (l := [.int .i64 k, .int .i64 n, .string t]) (by simp [Value.oneCell'])
theorem vfd (W : World) (b : Nat) : (Instr.fieldAt 31 (.pointer (some ⟨b, 0, none⟩)) 2).run Try.prog W = .ok (.pointer (some ⟨b, 2, none⟩)) W := by go_simp
theorem ld_str {W : World} {a : Addr} {t : ByteArray} (h : W.cell? a = some (.string t)) : (Instr.loadAt 9 (.pointer (some a))).run Try.prog W = .ok (.string t) W := by go_simp
theorem st_str {W : World} {b j : Nat} {cs : Array Value} {T : TypeId} (hX : Blk W b cs T) (hj : j < cs.size) (t : ByteArray) : (Instr.storeAt 9 (.pointer (some ⟨b, j, none⟩)) (.string t)).run Try.prog W = .ok () (W.setCell ⟨b, j, none⟩ (.string t)) := by
  obtain ⟨u, hu⟩ := blk_some hX hj
  have hf := hX.free j
  clear hX
  go_simp
theorem vld {W : World} {b o : Nat} {k n : Int} {t : ByteArray} (h0 : W.cell? ⟨b, o, none⟩ = some (.int .i64 k)) (h1 : W.cell? ⟨b, o + 1, none⟩ = some (.int .i64 n)) (h2 : W.cell? ⟨b, o + 2, none⟩ = some (.string t)) : (Instr.loadAt 31 (.pointer (some ⟨b, o, none⟩))).run Try.prog W = .ok (.agg #[.int .i64 k, .int .i64 n, .string t]) W := by go_simp
set_option maxRecDepth 100000 in
set_option maxHeartbeats 4000000 in
theorem freshValue_any (k n : Int) (t : ByteArray) (w : World) (ht : t.size ≤ 1000000) : Calls Try.prog 49 #[.agg #[.int .i64 k, .int .i64 n, .string t]] w fun e w' => e = .returned (.agg #[.int .i64 k, .int .i64 n, .string t]) ∧ Below w.heap.size w w' := by
  have hX0 := blk_new w #[.int .i64 k, .int .i64 n, .string t] 31
  replace hX0 := hX0.alloc (.cells #[.int .i64 0, .int .i64 0, .string ⟨#[]⟩] 31)
  have hz1 : (w.alloc (.cells #[.int .i64 k, .int .i64 n, .string t] 31)).heap.size = w.heap.size + 1 := by simp
  have hX1 := blk_new (w.alloc (.cells #[.int .i64 k, .int .i64 n, .string t] 31)) #[.int .i64 0, .int .i64 0, .string ⟨#[]⟩] 31
  rw [hz1] at hX1
  have hB := ba (b0 w (.cells #[.int .i64 k, .int .i64 n, .string t] 31)) (.cells #[.int .i64 0, .int .i64 0, .string ⟨#[]⟩] 31)
  have hzz : ((w.alloc (.cells #[.int .i64 k, .int .i64 n, .string t] 31)).alloc (.cells #[.int .i64 0, .int .i64 0, .string ⟨#[]⟩] 31)).heap.size = w.heap.size + 2 := by simp
  go_enter Try.func49, Try.ntmps49
  go_upto_region 1 with fail
  generalize ((w.alloc (.cells #[.int .i64 k, .int .i64 n, .string t] 31)).alloc (.cells #[.int .i64 0, .int .i64 0, .string ⟨#[]⟩] 31)) = W0 at hX0 hX1 hB hzz ⊢
  (try simp only [hz1])
  clear hz1
  generalize hb : w.heap.size = b at hX0 hX1 hB hzz ⊢
  have f1 : ∀ W, Kp W0 W → (Instr.fieldAt 31 (.pointer (some ⟨b, 0, none⟩)) 2).run Try.prog W = .ok (.pointer (some ⟨b, 2, none⟩)) W := fun W _ => vfd W b
  have l1 : ∀ W, Kp W0 W → (Instr.loadAt 9 (.pointer (some ⟨b, 2, none⟩))).run Try.prog W = .ok (.string t) W := fun W h => ld_str ((h.blk hX0).cell 2)
  have c1 : ∀ W, Kp W0 W → _ := kp_c fun W _ => sclone_any t W ht
  refine wp_region_lit ?_
  refine fs_start (Kp W0) (Kp.refl _) ?_
  generalize ha : Act.mk _ _ = a0
  have hn : a0.tmps.size = 8 := by rw [← ha]; kernel_rfl
  have h1 : (fr a0 []).eval (.tmp 1) = .pointer (some ⟨b, 0, none⟩) := by rw [← ha]; kernel_rfl
  refine fs_know hn rfl h1 ?_
  clear h1
  refine s_fd hn ?_
  refine s_ld hn ?_
  refine s_callt hn ?_ (he := en_strings_Clone)
  refine s_fd hn ?_
  refine fs_fl fun w3 hS => ?_
  have hX03 := hS.blk hX0
  have hX13 := hS.blk hX1
  have hB3 : Below b w w3 := hB.trans (hS.below.mono (by omega))
  refine g_stt hX03 (st_str (j := 2) hX03 (by simp) t) ?_
  intro w4 ho hX4
  refine fl_end ?_
  clear hn
  subst ha
  dsimp only [fr, cnd, Act.put, cond_true]
  simp only [List.setIfInBounds_toArray, List.set_cons_zero, List.set_cons_succ]
  have hX4 : Blk w4 b #[.int .i64 k, .int .i64 n, .string t] 31 := hX4
  have hX14 := hX13.only ho (by omega)
  have hB4 := hB3.trans (ho.below (B := b) (Nat.le_refl _))
  clear f1 l1 c1 hX0 hX1 hB hS hX03 hX13 hB3 ho
  have l2 := vld (W := w4) (b := b) (o := 0) (hX4.cell 0) (hX4.cell 1) (hX4.cell 2)
  go_upto_region 2 with fail
  refine wp_region_lit ?_
  refine fl_start ?_
  generalize ha : Act.mk _ _ = a0
  have hn : a0.tmps.size = 8 := by rw [← ha]; kernel_rfl
  have h1 : (fr a0 []).eval (.tmp 1) = .pointer (some ⟨b, 0, none⟩) := by rw [← ha]; kernel_rfl
  refine fl_know hn rfl h1 ?_
  clear h1
  have h2 : (fr a0 [(1, true, .pointer (some ⟨b, 0, none⟩))]).eval (.tmp 2) = .pointer (some ⟨b + 1, 0, none⟩) := by rw [← ha]; kernel_rfl
  refine fl_know hn rfl h2 ?_
  clear h2
  refine g_ld hn ?_
  refine g_str hX14 ?_ (h1 := va_oneC k n t)
  intro w5 ho5 hX5
  refine fl_end ?_
  clear hn
  subst ha
  dsimp only [fr, cnd, Act.put, cond_true]
  simp only [List.setIfInBounds_toArray, List.set_cons_zero, List.set_cons_succ]
  have hB5 := hB4.trans (ho5.below (B := b) (by omega))
  clear l2 hX4 hX14 ho5 hB4
  go_wp2_with fail
  refine bodyPost_ret (results_cell_row Try.results49 _ _ (b + 1) 31 #[.int .i64 k, .int .i64 n, .string t] (0, 0) _ (by rfl) hX5 Try.underlying31 (by rfl) (by kernel_rfl)) rfl ?_
  exact ⟨rfl, by first | exact hB5 | (rw [hb]; exact hB5)⟩
theorem ofd1 (W : World) (b : Nat) : (Instr.fieldAt 47 (.pointer (some ⟨b, 2, none⟩)) 1).run Try.prog W = .ok (.pointer (some ⟨b, 3, none⟩)) W := by go_simp
theorem ofd2 (W : World) (b : Nat) : (Instr.fieldAt 47 (.pointer (some ⟨b, 2, none⟩)) 2).run Try.prog W = .ok (.pointer (some ⟨b, 4, none⟩)) W := by go_simp
theorem ofd3 (W : World) (b : Nat) : (Instr.fieldAt 47 (.pointer (some ⟨b, 2, none⟩)) 3).run Try.prog W = .ok (.pointer (some ⟨b, 7, none⟩)) W := by go_simp
theorem st_va {W : World} {b j : Nat} {cs : Array Value} {T : TypeId} (hX : Blk W b cs T) (hj : j + 3 ≤ cs.size) (k n : Int) (t : ByteArray) : (Instr.storeAt 31 (.pointer (some ⟨b, j, none⟩)) (.agg #[.int .i64 k, .int .i64 n, .string t])).run Try.prog W = .ok () (W.setCells b j [.int .i64 k, .int .i64 n, .string t]) := by
  simp only [Instr.storeAt, Instr.sureAddr, Sem.run_bind, Sem.run_pure, Result.andThen_ok]
  exact run_storeVar_mid W b j 31 #[.int .i64 k, .int .i64 n, .string t] (fun i hi => ⟨by rw [hX.cell, Array.getElem?_eq_getElem (by simp at hi; omega)]; rfl, hX.free _⟩) (by kernel_rfl) (va_oneC k n t)
end Go.Proofs.Ytokkmofcijfmiab

namespace Go.Proofs.Ytokkmofcijfmiab
open Go.RowKit

theorem en_spinney_burl_Leaf : ∀ args w, (callFunc 34 args).run Try.prog w = .ok (.enter 34 args) w := enters_of Try.func34 (by kernel_rfl) rfl
theorem en_spinney_spinneyref28_Leaf : ∀ args w, (callFunc 33 args).run Try.prog w = .ok (.enter 33 args) w := enters_of Try.func33 (by kernel_rfl) rfl
theorem en_spinney_burl_share : ∀ args w, (callFunc 37 args).run Try.prog w = .ok (.enter 37 args) w := enters_of Try.func37 (by kernel_rfl) rfl
theorem en_spinney_pack_Text : ∀ args w, (callFunc 52 args).run Try.prog w = .ok (.enter 52 args) w := enters_of Try.func52 (by kernel_rfl) rfl
theorem en_spinney_pack_Value : ∀ args w, (callFunc 51 args).run Try.prog w = .ok (.enter 51 args) w := enters_of Try.func51 (by kernel_rfl) rfl

theorem conv_sb (s : ByteArray) (w : World) : ∃ c W', (convert 9 58 (.string s)).run Try.prog w = .ok (.slice (some ⟨w.heap.size, 0, none⟩) s.size c) W' ∧ RdB W'.heap.size W' (some ⟨w.heap.size, 0, none⟩) s.data.toList ∧ Below w.heap.size w W' := by
  have hr := run_bytes_of_string (P := Try.prog) w 9 58 5 s (by kernel_rfl) Try.underlying58 Try.underlying5
  refine ⟨_, _, hr, fun k x hx => ?_, ((Below.refl w.heap.size w).drew).alloc (Nat.le_refl _) _⟩
  have hk : k < s.data.size := by
    have := (List.getElem?_eq_some_iff.1 hx).1
    simpa using this
  have e : (⟨w.heap.size, 0, none⟩ : Addr).add k = ⟨w.heap.size, k, none⟩ := by unfold Addr.add; split <;> simp_all
  refine ⟨_, rfl, by simp, ?_⟩
  rw [e, Joins.cell_alloc_mark_at w.drew _ _ _ w.heap.size k rfl, bytesRow_at s _ k hk]
  have h2 : s.data[k] = x := by
    rw [Array.getElem?_toList, Array.getElem?_eq_getElem hk] at hx
    injection hx
  rw [h2]
theorem g_cvw {P : Program} {l : List Oper} {Q : Exit → Act → World → Prop} {rest : List Oper} {a0 : Act} {L : List (Nat × Bool × Value)} {w w2 : World} {d n i : Nat} {t t2 : TypeId} {vi v : Value} {ty : TypeId} {p : String} {af : Array Edge} (hn : a0.tmps.size = n) (hr : (convert t t2 vi).run P w = .ok v w2) (h : FL P l Q rest a0 ((d, true, v) :: L) w2) (hd : Nat.blt d n = true := by rfl) (hl : lk L i = some (true, vi) := by rfl) : FL P l Q (⟨some d, .convert t t2 (.tmp i), ty, p, af, none⟩ :: rest) a0 L w :=
  g_w hn (w2 := w2) (v := v) (fun hk => by
    unfold execOp
    dsimp only
    rw [lk_at hk hl (fun _ => rfl) rfl, Sem.run_bind, hr]
    rfl) h rfl hd rfl
/-- A key's leaf. -/
def leafL (b : List UInt8) : Nat := digL b % 16
theorem leafL_lt (b : List UInt8) : leafL b < 16 := Nat.mod_lt _ (by decide)
theorem rem_u16 (i : Nat) (W : World) (z : Nat) : ((do eqGuard .rem 36 (.tmp i) (.const (.int .u64 16)) (.int .u64 (z : Int)) (.int .u64 16); binOp .rem 36 (.int .u64 (z : Int)) (.int .u64 16)) : Sem Value).run Try.prog W = .ok (.int .u64 ((z % 16 : Nat) : Int)) W := by
  have m1 : Int.tmod (z : Int) 16 = ((z % 16 : Nat) : Int) := rfl
  rw [← m1]
  clear m1
  unfold binOp
  simp only [eqGuard, go_sem]
  simp
set_option maxRecDepth 100000 in
set_option maxHeartbeats 4000000 in
theorem leaf_any (k : ByteArray) (w : World) (hk : k.size ≤ 100000) : Calls Try.prog 34 #[.string k] w fun e w' => e = .returned (.int .i64 (leafL k.data.toList : Nat)) ∧ Below w.heap.size w w' := by
  obtain ⟨c, W1, hr, hR, hB⟩ := conv_sb k w
  have hl : k.data.toList.length = k.size := Array.length_toList
  have cD := dig_any (some ⟨w.heap.size, 0, none⟩) k.size c k.data.toList W1 hl hR (by omega)
  go_enter Try.func34, Try.ntmps34
  go_upto_region 1 with fail
  refine wp_region_lit ?_
  refine fl_start ?_
  generalize ha : Act.mk _ _ = a0
  have hn : a0.tmps.size = 8 := by rw [← ha]; kernel_rfl
  have h0 : (fr a0 []).eval (.tmp 0) = .string k := by rw [← ha]; kernel_rfl
  refine fl_know hn rfl h0 ?_
  clear h0
  refine g_mv hn ?_
  refine g_cvw hn hr ?_
  refine g_c1x en_spinney_burl_Digest hn (R := fun v w2 => v = .int .u64 (digL k.data.toList : Nat) ∧ w2 = W1) (cD.mono fun _ _ ⟨he, hb2⟩ => ⟨_, he, rfl, hb2.symm⟩) ?_
  rintro v w2 ⟨rfl, rfl⟩
  have r1 := rem_u16 5 w2 (digL k.data.toList)
  have r2 := cv_ui w2 (y := digL k.data.toList % 16) (by have := Nat.mod_lt (digL k.data.toList) (show 0 < 16 by decide); omega)
  refine g_bc hn ?_
  refine g_cv hn ?_
  refine g_as hn ?_
  refine fl_end ?_
  clear hn
  subst ha
  dsimp only [fr, cnd, Act.put, cond_true]
  simp only [List.setIfInBounds_toArray, List.set_cons_zero, List.set_cons_succ]
  clear r1 r2 hr hR cD
  go_wp2_with fail
  go_ret
  exact ⟨rfl, hB⟩
set_option maxRecDepth 100000 in
set_option maxHeartbeats 4000000 in
theorem refLeaf_any (k : ByteArray) (w : World) (hk : k.size ≤ 100000) : Calls Try.prog 33 #[.string k] w fun e w' => e = .returned (.int .i64 (leafL k.data.toList : Nat)) ∧ Below w.heap.size w w' := by
  obtain ⟨c, W1, hr, hR, hB⟩ := conv_sb k w
  have hl : k.data.toList.length = k.size := Array.length_toList
  have cD := refDig_any (some ⟨w.heap.size, 0, none⟩) k.size c k.data.toList W1 hl hR (by omega)
  go_enter Try.func33, Try.ntmps33
  go_upto_region 1 with fail
  refine wp_region_lit ?_
  refine fl_start ?_
  generalize ha : Act.mk _ _ = a0
  have hn : a0.tmps.size = 8 := by rw [← ha]; kernel_rfl
  have h0 : (fr a0 []).eval (.tmp 0) = .string k := by rw [← ha]; kernel_rfl
  refine fl_know hn rfl h0 ?_
  clear h0
  refine g_mv hn ?_
  refine g_cvw hn hr ?_
  refine g_c1x en_spinney_spinneyref28_Digest hn (R := fun v w2 => v = .int .u64 (digL k.data.toList : Nat) ∧ w2 = W1) (cD.mono fun _ _ ⟨he, hb2⟩ => ⟨_, he, rfl, hb2.symm⟩) ?_
  rintro v w2 ⟨rfl, rfl⟩
  have r1 := rem_u16 5 w2 (digL k.data.toList)
  have r2 := cv_ui w2 (y := digL k.data.toList % 16) (by have := Nat.mod_lt (digL k.data.toList) (show 0 < 16 by decide); omega)
  refine g_bc hn ?_
  refine g_cv hn ?_
  refine g_as hn ?_
  refine fl_end ?_
  clear hn
  subst ha
  dsimp only [fr, cnd, Act.put, cond_true]
  simp only [List.setIfInBounds_toArray, List.set_cons_zero, List.set_cons_succ]
  clear r1 r2 hr hR cD
  go_wp2_with fail
  go_ret
  exact ⟨rfl, hB⟩
/-- What a key with a value adds to its leaf. -/
def shr28 (ky : ByteArray) (k x : Int) (t : ByteArray) : Nat := if k = 0 then 0 else digL (textB ky.data.toList ++ valB k x t.data.toList)
theorem shr28_lt (ky : ByteArray) (k x : Int) (t : ByteArray) : shr28 ky k x t < 18446744073709551616 := by
  unfold shr28
  split
  · decide
  · exact digL_lt _
theorem textB_len (ky : ByteArray) (h : ky.size ≤ 100000) : (textB ky.data.toList).length ≤ 100009 := by
  have hl : ky.data.toList.length = ky.size := Array.length_toList
  have := numB_small (n := ky.data.toList.length) (by omega)
  unfold textB
  rw [List.length_append]
  omega
set_option maxRecDepth 100000 in
set_option maxHeartbeats 4000000 in
theorem share_any (ky : ByteArray) (k x : Int) (t : ByteArray) (w : World) (hky : ky.size ≤ 1000) (hg : goodB k x t = true) (h0 : -9223372036854775808 ≤ x) (h1 : x ≤ 9223372036854775807) : Calls Try.prog 37 #[.string ky, .agg #[.int .i64 k, .int .i64 x, .string t]] w fun e w' => e = .returned (.int .u64 (shr28 ky k x t : Nat)) ∧ Below w.heap.size w w' := by
  have hkl : ky.data.toList.length = ky.size := Array.length_toList
  have hTl : (textB ky.data.toList).length ≤ 1009 := by
    have := numB_small (n := ky.data.toList.length) (by omega)
    unfold textB
    rw [List.length_append]
    omega
  have hVl : (valB k x t.data.toList).length ≤ 1000018 := valB_small (goodB_in hg).1 h0 h1 (by have := (goodB_in hg).2; omega)
  have hX0 := blk_new w #[.int .i64 k, .int .i64 x, .string t] 31
  have hB := b0 w (.cells #[.int .i64 k, .int .i64 x, .string t] 31)
  have hzz : (w.alloc (.cells #[.int .i64 k, .int .i64 x, .string t] 31)).heap.size = w.heap.size + 1 := by simp
  go_enter Try.func37, Try.ntmps37
  go_upto_region 1 with fail
  generalize (w.alloc (.cells #[.int .i64 k, .int .i64 x, .string t] 31)) = W0 at hX0 hB hzz ⊢
  generalize hb : w.heap.size = b at hX0 hB hzz ⊢
  have c0 := hX0.cell 0
  by_cases hk : k = 0
  · subst hk
    have R : Hid (shr28 ky 0 x t = 0) := by show _ = _; unfold shr28; rw [if_pos rfl]
    clear hX0
    go_wp2_with fail
    go_ret
    rw [R.out]
    exact ⟨rfl, by first | exact hB | (rw [hb]; exact hB)⟩
  have R : Hid (shr28 ky k x t = digL (textB ky.data.toList ++ valB k x t.data.toList)) := by show _ = _; unfold shr28; rw [if_neg hk]
  have hk2 : (k == 0) = false := by simpa using hk
  have l0 : ∀ W, Blk W b #[.int .i64 k, .int .i64 x, .string t] 31 → _ := fun W h => vld (W := W) (b := b) (o := 0) (h.cell 0) (h.cell 1) (h.cell 2)
  go_upto_region 3 with fail
  refine fh_start (S := fun W => Blk W b #[.int .i64 k, .int .i64 x, .string t] 31) (by kernel_rfl) (hX0) (fun hS => ?_)
  generalize ha : Act.mk _ _ = a0
  have hn : a0.tmps.size = 13 := by rw [← ha]; kernel_rfl
  have h0 : (fr a0 []).eval (.tmp 0) = .string ky := by rw [← ha]; kernel_rfl
  refine fh_know hn rfl h0 ?_
  clear h0
  have h3 : (fr a0 [(0, true, .string ky)]).eval (.tmp 3) = .pointer (some ⟨b, 0, none⟩) := by rw [← ha]; kernel_rfl
  refine fh_know hn rfl h3 ?_
  clear h3
  refine h_mv 0 hn hS ?_
  refine h_ld 2 hn hS ?_
  refine fh_callx 1 (d := 9) (R := fun v w2 => ∃ A n c, v = .slice A n c ∧ (textB ky.data.toList).length = n ∧ RdB w2.heap.size w2 A (textB ky.data.toList) ∧ n ≤ c ∧ Below W0.drew.heap.size W0.drew w2) hn rfl (fun hk => call2_is en_spinney_pack_Text _ _ _ _ _ _ _ _ _ (.slice none 0 0) (.string ky) rfl (lk_at hk (i := 8) rfl (fun _ => rfl) rfl) rfl) ((packText_any none 0 0 [] ky W0.drew rfl (by omega) (RdB.nil _ _ _) (by omega) (by omega)).mono fun _ _ ⟨⟨A, n, c, he, hl, hr, hc⟩, hb2⟩ => ⟨_, he, A, n, c, rfl, hl, hr, hc, hb2⟩) ?_ rfl rfl (by kernel_rfl) rfl
  rintro v v1 ⟨A1, n1, c1, rfl, hl1, hr1, hc1, hb1⟩
  have hX1 := Blk.keep hS hb1
  refine ⟨hX1, ?_⟩
  refine fh_callx 3 (d := 11) (R := fun v w2 => ∃ A n c, v = .slice A n c ∧ (textB ky.data.toList ++ valB k x t.data.toList).length = n ∧ RdB w2.heap.size w2 A (textB ky.data.toList ++ valB k x t.data.toList) ∧ n ≤ c ∧ Below v1.heap.size v1 w2) hn rfl (fun hk => call2_is en_spinney_pack_Value _ _ _ _ _ _ _ _ _ (.slice A1 n1 c1) (.agg #[.int .i64 k, .int .i64 x, .string t]) (lk_at hk (i := 9) rfl (fun _ => rfl) rfl) (lk_at hk (i := 10) rfl (fun _ => rfl) rfl) rfl) ((packValue_any A1 n1 c1 _ k x t v1 hl1 (by omega) hr1 hc1 hg h0 h1).mono fun _ _ ⟨⟨A, n, c, he, hl, hr, hc⟩, hb2⟩ => ⟨_, he, A, n, c, rfl, hl, hr, hc, hb2⟩) ?_ rfl rfl (by kernel_rfl) rfl
  rintro v v2 ⟨A2, n2, c2, rfl, hl2, hr2, hc2, hb2⟩
  have hX2 := Blk.keep hX1 hb2
  refine ⟨hX2, ?_⟩
  have hn2 : n2 ≤ 1000000000 := by rw [← hl2, List.length_append]; omega
  refine fh_callx 4 (d := 12) (R := fun v w2 => v = .int .u64 (digL (textB ky.data.toList ++ valB k x t.data.toList) : Nat) ∧ v2 = w2) hn rfl (fun hk => call1_is en_spinney_burl_Digest _ _ _ _ _ _ _ _ (.slice A2 n2 c2) (lk_at hk (i := 11) rfl (fun _ => rfl) rfl) rfl) ((dig_any A2 n2 c2 _ v2 hl2 hr2 hn2).mono fun _ _ ⟨he, hw⟩ => ⟨_, he, rfl, hw⟩) ?_ rfl rfl (by kernel_rfl) rfl
  rintro v v3 ⟨rfl, rfl⟩
  refine ⟨hX2, ?_⟩
  refine h_as 5 hn hX2 ?_
  refine fh_end (by kernel_rfl) ?_
  clear hn
  subst ha
  dsimp only [fr, cnd, Act.put, cond_true]
  simp only [List.setIfInBounds_toArray, List.set_cons_zero, List.set_cons_succ]
  go_wp2_with fail
  go_ret
  rw [R.out]
  exact ⟨rfl, by
    have h3 := (Below.drew hB).trans (hb1.mono (by have := (Below.drew hB).size; omega))
    have h4 := h3.trans (hb2.mono (by have := h3.size; omega))
    first | exact h4 | (rw [hb]; exact h4)⟩
end Go.Proofs.Ytokkmofcijfmiab

namespace Go.Proofs.Ytokkmofcijfmiab
open Go.RowKit

theorem celV_src {z : Nat} (hz : 0 < z) {W : World} {ad : Addr} : ∀ (xs : List (Array Value)), Szd z xs → (∀ k cs, xs[k]? = some cs → ∀ j v, cs[j]? = some v → W.cell? (ad.add (k * z + j)) = some v) → ∀ i u, (celV xs)[i]? = some u → W.cell? (ad.add i) = some u := by
  intro xs hs hc i u hi
  have hlt := (List.getElem?_eq_some_iff.1 hi).1
  rw [celV_len xs hs] at hlt
  have hk : i / z < xs.length := Nat.div_lt_of_lt_mul (by rw [Nat.mul_comm]; exact hlt)
  have hx : xs[i / z]? = some xs[i / z] := List.getElem?_eq_getElem hk
  have hsz := hs _ (List.getElem_mem hk)
  have hj : i % z < xs[i / z].size := by rw [hsz]; exact Nat.mod_lt _ hz
  have hv : xs[i / z][i % z]? = some xs[i / z][i % z] := Array.getElem?_eq_getElem hj
  have h2 := celV_get xs hs (i / z) (i % z) _ _ hx hv
  rw [Nat.div_add_mod' i z] at h2
  rw [hi] at h2
  injection h2 with h2
  have h3 := hc _ _ hx _ _ hv
  rw [Nat.div_add_mod' i z, ← h2] at h3
  exact h3
/-- Append of m elements onto a row of the call's own. -/
theorem run_apM {P : Program} (w : World) {t t' e' ty el : TypeId} {i : TypeInfo} {z y : Nat} {zv : Value} (ht : P.underlying t = some (.slice el)) (ht' : P.underlying t' = some (.slice e')) (hi : P.info? el = some i) (hz : i.zero = some zv) (hs : i.size = z) (hy : i.bytes = y) (hzs : zv.cells.size = z) (hz0 : 0 < z) (hy0 : y ≤ 1000)
    {base : Nat} {A : Option Addr} {ad : Addr} {n c m d : Nat} {l xs : List (Array Value)} (hown : OwnX el z base w A n c l) (hx : Szd z xs) (hm : xs.length = m) (h1 : ∀ x, x ∈ xs → ∀ u ∈ x.toList, u.oneCell' = true) (hr : ∀ k cs, xs[k]? = some cs → ∀ j v, cs[j]? = some v → w.cell? (ad.add (k * z + j)) = some v) (hsz : n + m ≤ 1000000000) (hbase : base ≤ w.heap.size) (hA : A ≠ none ∨ m ≠ 0) :
    ∃ A' c' w', (Builtin.append_ #[t, t'] ty #[.slice A n c, .slice (some ad) m d]).run P w = .ok (.slice A' (n + m) c') w' ∧ OwnX el z base w' A' (n + m) c' (l ++ xs) ∧ Below base w w' ∧ A' ≠ none ∧ (∀ x, x < w.heap.size → (∀ a, A = some a → a.block ≠ x) → w'.heap[x]? = w.heap[x]?) ∧ (A'.map (·.block) = A.map (·.block) ∨ A'.map (·.block) = some w.heap.size) := by
  obtain ⟨v', w', hrun, h2, h3, h4, h5⟩ := run_append_own_at (P := P) w base t ty el i zv z y ht hi hz hs hy hzs hz0 (.slice A n c) n (celV l) hown.1 ad m d (celV xs) (by rw [celV_len xs hx, hm]) (celV_src hz0 xs hx hr)
    (fun u hu => by
      obtain ⟨x, hx1, hx2⟩ := List.mem_flatMap.1 hu
      exact h1 x hx1 u hx2)
    (by unfold maxLen; omega) (Nat.le_trans (Nat.mul_le_mul (show n + m ≤ 1000000001 by omega) hy0) (by omega)) hbase
  have hb : Below base w w' := (Below.refl base w).grown h3 hbase (fun k hk => (World.ownsRow.lt hown.1 k hk).1)
  have hv : ∃ A' c', v' = .slice A' (n + m) c' ∧ A' ≠ none := by
    rcases h2.2 with ⟨e1, e2⟩ | ⟨g, cap, cur, e1, _⟩
    · exfalso
      have e3 := h4.1 e1
      injection e3.1 with e5
      rcases hA with h | h
      · exact h e5
      · exact h e3.2
    · exact ⟨_, _, e1, by simp⟩
  obtain ⟨A', c', rfl, hA'⟩ := hv
  refine ⟨A', c', w', by rw [run_append_tt w ht ht']; exact hrun, ⟨?_, ?_, ?_⟩, hb, hA', fun x hx hne => h3.block x hx fun e => by
    cases A with
    | none => cases e
    | some a => injection e with e; exact hne a rfl e.symm, ?_⟩
  · rw [show celV (l ++ xs) = celV l ++ celV xs by simp [celV]]
    exact h2
  · intro cs hc
    rcases List.mem_append.1 hc with h | h
    · exact hown.2.1 cs h
    · exact hx cs h
  · rw [List.length_append, hown.2.2, hm]
  · have e1 : ∀ (A : Option Addr) n c, (Value.slice A n c).ownBlock = A.map (·.block) := fun A n c => by cases A <;> rfl
    rw [e1, e1] at h5
    exact h5
theorem wp_apM {P : Program} {w : World} {t t' e' el : TypeId} {i : TypeInfo} {z y : Nat} {zv : Value} {base : Nat} {A : Option Addr} {ad : Addr} {n c m d : Nat} {l xs : List (Array Value)} {o : Oper} {a : Act} {Q : Exit → Act → World → Prop} {K : Act → World → Prop} (s x : Operand) (ho : o.op = .call { callee := .builtin .append, args := #[s, x], argTypes := #[t, t'] })
    (ht : P.underlying t = some (.slice el)) (ht' : P.underlying t' = some (.slice e')) (hi : P.info? el = some i) (hz : i.zero = some zv) (hs : i.size = z) (hy : i.bytes = y) (hzs : zv.cells.size = z) (hz0 : 0 < z) (hy0 : y ≤ 1000)
    (e1 : a.eval s = .slice A n c) (e2 : a.eval x = .slice (some ad) m d) (hown : OwnX el z base w A n c l) (hx : Szd z xs) (hm : xs.length = m) (h1 : ∀ x, x ∈ xs → ∀ u ∈ x.toList, u.oneCell' = true) (hr : ∀ k cs, xs[k]? = some cs → ∀ j v, cs[j]? = some v → w.cell? (ad.add (k * z + j)) = some v) (hsz : n + m ≤ 1000000000) (hbase : base ≤ w.heap.size) (hA : A ≠ none ∨ m ≠ 0)
    (h : ∀ A' c' w', OwnX el z base w' A' (n + m) c' (l ++ xs) → Below base w w' → A' ≠ none → (∀ x, x < w.heap.size → (∀ a, A = some a → a.block ≠ x) → w'.heap[x]? = w.heap[x]?) → (A'.map (·.block) = A.map (·.block) ∨ A'.map (·.block) = some w.heap.size) → K (a.put o.dst (.slice A' (n + m) c')) w') : o.wp P a w K Q := by
  obtain ⟨A', c', w', hrun, k1, k2, k3, k4, k5⟩ := run_apM (P := P) (ty := o.type) (d := d) w ht ht' hi hz hs hy hzs hz0 hy0 hown hx hm h1 hr hsz hbase hA
  unfold Oper.wp execOp
  simp only [ho, resolve, invoke, builtin, Sem.run_bind, Sem.run_pure, Result.andThen_ok, List.map_toArray, List.map_cons, List.map_nil, e1, e2, hrun]
  exact h A' c' w' k1 k2 k3 k4 k5
theorem wr_szd (ws : List Wr) : Szd 10 (ws.map Wr.cells) := fun cs hc => by
  obtain ⟨x, _, rfl⟩ := List.mem_map.1 hc
  rfl
theorem wr_ones (ws : List Wr) : ∀ x, x ∈ ws.map Wr.cells → ∀ u ∈ x.toList, u.oneCell' = true := fun cs hc u hu => by
  obtain ⟨x, _, rfl⟩ := List.mem_map.1 hc
  have h := wr_oneC x
  rw [Array.all_eq_true'] at h
  exact h u (Array.mem_toList_iff.1 hu)
theorem RdW.cells {B : Nat} {W : World} {ad : Addr} {ws : List Wr} (h : RdW B W (some ad) ws) : ∀ k cs, (ws.map Wr.cells)[k]? = some cs → ∀ j v, cs[j]? = some v → W.cell? (ad.add (k * 10 + j)) = some v := fun k cs hk j v hv => by
  rw [List.getElem?_map] at hk
  cases hx : ws[k]? with
  | none => rw [hx] at hk; cases hk
  | some x =>
    rw [hx] at hk
    injection hk with hk
    subst hk
    obtain ⟨ad2, e, _, hc⟩ := h k x hx
    injection e with e
    subst e
    exact hc j v hv
theorem RdW.lo {B : Nat} {W : World} {ad : Addr} {ws : List Wr} (h : RdW B W (some ad) ws) (k : Nat) : RdW B W (some (ad.add (k * 10))) (ws.drop k) := fun j x hx => by
  rw [List.getElem?_drop] at hx
  obtain ⟨ad2, e, hb, hc⟩ := h (k + j) x hx
  injection e with e
  subst e
  refine ⟨_, rfl, by rw [add_block]; exact hb, fun i v hv => ?_⟩
  rw [add_add', show k * 10 + (j * 10 + i) = (k + j) * 10 + i by omega]
  exact hc i v hv
theorem RdW.hi {B : Nat} {W : World} {A : Option Addr} {ws : List Wr} (h : RdW B W A ws) (k : Nat) : RdW B W A (ws.take k) := fun j x hx => h j x (by
  rw [List.getElem?_take] at hx
  split at hx
  · exact hx
  · cases hx)
section
variable {P : Program} {l : List Oper} {Q : Exit → Act → World → Prop} {S : World → Prop} {fuel : Nat} {listed : Array Bool} {rest : List Oper} {a0 : Act} {L : List (Nat × Bool × Value)} {w : World}
/-- An operation of a plain region, by what it does. -/
theorem fl_wp {o : Oper} {d n : Nat} {R : Value → World → Prop} (hn : a0.tmps.size = n) (hX : ∀ K : Act → World → Prop, (∀ v w2, R v w2 → K ((fr a0 L).put (some d) v) w2) → (∀ p, p ∈ L → p.1 < a0.tmps.size) → o.wp P (fr a0 L) w K Q)
    (h : ∀ v w2, R v w2 → FL P l Q rest a0 ((d, true, v) :: L) w2) (hd : Nat.blt d n = true) (hw : wtG l L o.guard = some true) : FL P l Q (o :: rest) a0 L w := by
  refine ⟨fun hk => ?_⟩
  refine wpList_step fun K hK => ?_
  rw [wt_is hk hw, if_pos rfl]
  exact hX K (fun v w2 hR => hK _ _ ((h v w2 hR).go (bd_more hn hd hk))) hk
end
section
variable {l : List Oper} {Q : Exit → Act → World → Prop} {S : World → Prop} {fuel : Nat} {listed : Array Bool} {rest : List Oper} {a0 : Act} {L : List (Nat × Bool × Value)} {w : World}
end
theorem OwnX.onlyG {t : TypeId} {z base : Nat} {W W' : World} {A : Option Addr} {n c : Nat} {l : List (Array Value)} {g : Nat} (h : OwnX t z base W A n c l) (ho : Only1 g W W') (hg : g < base) : OwnX t z base W' A n c l := by
  refine ⟨⟨h.1.1, ?_⟩, h.2⟩
  rcases h.1.2 with h | ⟨g2, cap, cur, h1, h2, h3, h4⟩
  · exact .inl h
  · exact .inr ⟨g2, cap, cur, h1, h2, (ho.block g2 (by omega)).trans h3, h4⟩
theorem OwnX.blkLt {t : TypeId} {z base : Nat} {W : World} {A : Option Addr} {n c : Nat} {l : List (Array Value)} (h : OwnX t z base W A n c l) : ∀ a, A = some a → a.block < W.heap.size := fun a ha => (h.blk ha).2
theorem Blk.keep' {W W1 : World} {b B : Nat} {cs : Array Value} {t : TypeId} (h : Blk W b cs t) (hb : Below B W W1) (hB : b < B) : Blk W1 b cs t := (hb.block b hB).trans h
end Go.Proofs.Ytokkmofcijfmiab

namespace Go.Proofs.Ytokkmofcijfmiab
open Go.RowKit

theorem callf_isC {w : World} {f : FuncId} (he : ∀ args w, (callFunc f args).run Try.prog w = .ok (.enter f args) w) (d : Option Tmp) (x y : Operand) (ts : Array TypeId) (ty : TypeId) (p : String) (af : Array Edge) (gd : Option (Nat × Bool)) (ρ : Operand → Value) (v : Value) (lb : Array Value) (h0 : ρ x = .func (.func f) #[] lb) (h1 : ρ y = v) : (execOp ρ ⟨d, .call { callee := .value x, args := #[y], argTypes := ts }, ty, p, af, gd⟩).run Try.prog w = .ok (.enter f (#[v] ++ lb)) w := by
  unfold execOp
  dsimp only
  go_simp
theorem g_cfC {l : List Oper} {Q : Exit → Act → World → Prop} {rest : List Oper} {a0 : Act} {L : List (Nat × Bool × Value)} {w : World} {f : FuncId} {i j d n : Nat} {v : Value} {lb : Array Value} {R : Value → World → Prop} {ts : Array TypeId} {ty : TypeId} {p : String} {af : Array Edge} {gd : Option (Nat × Bool)} (he : ∀ args w, (callFunc f args).run Try.prog w = .ok (.enter f args) w) (hn : a0.tmps.size = n) (hc : Calls Try.prog f (#[v] ++ lb) w fun e w' => ∃ v, e = .returned v ∧ R v w') (h : ∀ v w2, R v w2 → FL Try.prog l Q rest a0 ((d, true, v) :: L) w2) (hd : Nat.blt d n = true := by rfl) (hw : wtG l L gd = some true := by rfl) (hl : lk L i = some (true, .func (.func f) #[] lb) := by rfl) (hl2 : lk L j = some (true, v) := by rfl) : FL Try.prog l Q (⟨some d, .call { callee := .value (.tmp i), args := #[.tmp j], argTypes := ts }, ty, p, af, gd⟩ :: rest) a0 L w :=
  fl_callx hn rfl hd hw (fun hk => callf_isC he _ _ _ _ _ _ _ _ _ v lb (lk_at hk hl (fun _ => rfl) rfl) (lk_at hk hl2 (fun _ => rfl) rfl)) hc h

/-- Reads as these whole numbers. -/
def RdI (B : Nat) (W : World) (A : Option Addr) (l : List Int) : Prop := ∀ k x, l[k]? = some x → ∃ ad, A = some ad ∧ ad.block < B ∧ W.cell? (ad.add k) = some (.int .i64 x)
theorem RdI.nil (B : Nat) (W : World) (A : Option Addr) : RdI B W A [] := fun k x h => by simp at h
theorem RdI.exc {B g : Nat} {W W' : World} {A : Option Addr} {l : List Int} (h : RdI B W A l) (hb : Exc g W W') (hB : B ≤ W.heap.size) (hg : B ≤ g) : RdI B W' A l := fun k x hx => by
  obtain ⟨ad, e, h1, h2⟩ := h k x hx
  refine ⟨ad, e, h1, ?_⟩
  have hbe : (hb.below (B := B) hg hB) = (hb.below (B := B) hg hB) := rfl
  rw [(hb.below (B := B) hg hB).cell (by rw [add_block]; exact h1)]
  exact h2
theorem RdI.keep {B C : Nat} {W W' : World} {A : Option Addr} {l : List Int} (h : RdI B W A l) (hb : Below C W W') (hBC : B ≤ C) : RdI B W' A l := fun k x hx => by
  obtain ⟨ad, e, h1, h2⟩ := h k x hx
  exact ⟨ad, e, h1, by rw [hb.cell (by rw [add_block]; omega)]; exact h2⟩
theorem iix (W : World) (ad : Addr) (n c k : Nat) (h : k < n) : (Instr.indexAt 43 (.slice (some ad) n c) (.int .i64 (k : Int))).run Try.prog W = .ok (.pointer (some (ad.add k))) W := by
  have h1 : (0 : Int) ≤ (k : Int) := by omega
  have h2 : (k : Int) < (n : Int) := by omega
  go_simp
theorem wrapS {y : Int} (h : -9223372036854775808 ≤ y ∧ y ≤ 9223372036854775807) : IntKind.i64.wrap y = y := by
  unfold IntKind.wrap
  simp [IntKind.bits, IntKind.signed]
  omega
/-- Behind how many. -/
def subW (k : Int) (l : List Int) : Int := k - sumW l
theorem findW_next {l : List Int} {k : Int} {j : Nat} {x : Int} (hx : l[j]? = some x) (h : findW k 0 l = findW (k - sumW (l.take j)) j (l.drop j)) :
    (k - sumW (l.take (j + 1)) < 0 → findW k 0 l = (j : Int)) ∧ (¬ k - sumW (l.take (j + 1)) < 0 → findW k 0 l = findW (k - sumW (l.take (j + 1))) (j + 1) (l.drop (j + 1))) ∧ sumW (l.take (j + 1)) = sumW (l.take j) + x := by
  have hs : sumW (l.take (j + 1)) = sumW (l.take j) + x := by
    rw [List.take_add_one, hx]
    exact sumW_snoc _ _
  have hj : j < l.length := (List.getElem?_eq_some_iff.1 hx).1
  have hd : l.drop j = x :: l.drop (j + 1) := by
    rw [List.drop_eq_getElem_cons hj]
    congr 1
    exact (List.getElem?_eq_some_iff.1 hx).2
  rw [hd] at h
  have e : findW (k - sumW (l.take j)) j (x :: l.drop (j + 1)) = if k - sumW (l.take j) - x < 0 then (j : Int) else findW (k - sumW (l.take j) - x) (j + 1) (l.drop (j + 1)) := rfl
  rw [e, show k - sumW (l.take j) - x = k - sumW (l.take (j + 1)) by omega] at h
  refine ⟨fun h1 => by rw [h, if_pos h1], fun h1 => by rw [h, if_neg h1], hs⟩
theorem findW_end {l : List Int} {k : Int} {j : Nat} (hj : l.length ≤ j) (h : findW k 0 l = findW (k - sumW (l.take j)) j (l.drop j)) : findW k 0 l = -1 := by
  rw [h, List.drop_eq_nil_of_le hj]
  rfl
end Go.Proofs.Ytokkmofcijfmiab

namespace Go.Proofs.Ytokkmofcijfmiab
open Go.RowKit

/-- What an element's type is, as the program tells: its zero, how many cells, how many bytes. -/
def ElI (el : TypeId) (zv : Value) (z y : Nat) : Prop := (Try.prog.info? el).map (fun i => (i.zero, i.size, i.bytes)) = some (some zv, z, y)
def ApX (el : TypeId) (z base : Nat) (A : Option Addr) (w : World) (n m : Nat) (l xs : List (Array Value)) (v : Value) (w2 : World) : Prop :=
  ∃ A' c', v = .slice A' (n + m) c' ∧ OwnX el z base w2 A' (n + m) c' (l ++ xs) ∧ Below base w w2 ∧ A' ≠ none ∧ (∀ x, x < w.heap.size → (∀ a, A = some a → a.block ≠ x) → w2.heap[x]? = w.heap[x]?) ∧ (A'.map (·.block) = A.map (·.block) ∨ A'.map (·.block) = some w.heap.size)
/-- What may lie at an address as a row. -/
def RdC (z : Nat) (w : World) (ad : Addr) (xs : List (Array Value)) : Prop := ∀ k cs, xs[k]? = some cs → ∀ j v, cs[j]? = some v → w.cell? (ad.add (k * z + j)) = some v
section
variable {l : List Oper} {Q : Exit → Act → World → Prop} {S : World → Prop} {fuel : Nat} {listed : Array Bool} {rest : List Oper} {a0 : Act} {L : List (Nat × Bool × Value)} {w : World}
theorem wp_apX2 {a : Act} {o : Oper} {K : Act → World → Prop} {d : Nat} {base : Nat} {A : Option Addr} {ad : Addr} {n c m dd : Nat} {ks xs : List (Array Value)} {el t : TypeId} {zv : Value} {z y : Nat} (hd : o.dst = some d) (s x : Operand) (ho : o.op = .call { callee := .builtin .append, args := #[s, x], argTypes := #[t, t] }) (e1 : a.eval s = .slice A n c) (e2 : a.eval x = .slice (some ad) m dd)
    (ht : Try.prog.underlying t = some (.slice el)) (hI : ElI el zv z y) (hzs : zv.cells.size = z) (hz0 : 0 < z) (hy0 : y ≤ 1000)
    (hown : OwnX el z base w A n c ks) (hsz0 : Szd z xs) (hm : xs.length = m) (hone : ∀ x, x ∈ xs → ∀ u ∈ x.toList, u.oneCell' = true) (hsrc : RdC z w ad xs) (hsz : n + m ≤ 1000000000) (hbase : base ≤ w.heap.size) (hA : A ≠ none ∨ m ≠ 0) (hK : ∀ v w2, ApX el z base A w n m ks xs v w2 → K (a.put (some d) v) w2) : o.wp Try.prog a w K Q := by
  obtain ⟨i0, hi0, hz1, hs0, hb0⟩ := info_parts hI
  refine wp_apM s x ho ht ht hi0 hz1 hs0 hb0 hzs hz0 hy0 e1 e2 hown hsz0 hm hone hsrc hsz hbase hA fun A' c' w' k1 k2 k3 k4 k5 => ?_
  rw [hd]
  exact hK _ _ ⟨A', c', rfl, k1, k2, k3, k4, k5⟩
theorem g_apX {i j d nn : Nat} {base : Nat} {A : Option Addr} {ad : Addr} {n c m dd : Nat} {ks xs : List (Array Value)} {el t : TypeId} {zv : Value} {z y : Nat} {ty : TypeId} {p : String} {af : Array Edge} (hn : a0.tmps.size = nn)
    (ht : Try.prog.underlying t = some (.slice el)) (hI : ElI el zv z y) (hzs : zv.cells.size = z) (hz0 : 0 < z) (hy0 : y ≤ 1000)
    (hown : OwnX el z base w A n c ks) (hsz0 : Szd z xs) (hm : xs.length = m) (hone : ∀ x, x ∈ xs → ∀ u ∈ x.toList, u.oneCell' = true) (hsrc : RdC z w ad xs) (hsz : n + m ≤ 1000000000) (hbase : base ≤ w.heap.size) (hA : A ≠ none ∨ m ≠ 0)
    (h : ∀ v w2, ApX el z base A w n m ks xs v w2 → FL Try.prog l Q rest a0 ((d, true, v) :: L) w2)
    (h1 : lk L i = some (true, .slice A n c) := by rfl) (h2 : lk L j = some (true, .slice (some ad) m dd) := by rfl) (hd : Nat.blt d nn = true := by rfl) : FL Try.prog l Q (⟨some d, .call { callee := .builtin .append, args := #[.tmp i, .tmp j], argTypes := #[t, t] }, ty, p, af, none⟩ :: rest) a0 L w :=
  fl_wp hn (R := ApX el z base A w n m ks xs) (fun K hK hk => wp_apX2 rfl (.tmp i) (.tmp j) rfl (lk_at hk h1 (fun _ => rfl) rfl) (lk_at hk h2 (fun _ => rfl) rfl) ht hI hzs hz0 hy0 hown hsz0 hm hone hsrc hsz hbase hA hK) h hd rfl
/-- A slice of one element. -/
theorem g_bsX {i d n : Nat} {v : Value} {t el : TypeId} {zv : Value} {z y : Nat} {ty : TypeId} {p : String} {af : Array Edge} (hn : a0.tmps.size = n) (ht : Try.prog.underlying t = some (.slice el)) (hI : ElI el zv z y) (hz0 : 0 < z) (hz1 : z ≤ 1000) (hsz : v.cells.size = z)
    (hrun : ∀ w : World, (Instr.buildSlice t 1 #[(0, v)]).run Try.prog w = .ok (.slice (some ⟨w.heap.size, 0, none⟩) 1 1) (w.alloc (.cells v.cells el)))
    (h : ∀ g w2, g = w.heap.size → Blk w2 g v.cells el → Below w.heap.size w w2 → FL Try.prog l Q rest a0 ((d, true, .slice (some ⟨g, 0, none⟩) 1 1) :: L) w2) (hi : lk L i = some (true, v) := by rfl) (hd : Nat.blt d n = true := by rfl) : FL Try.prog l Q (⟨some d, .buildSlice t 1 #[(0, .tmp i)], ty, p, af, none⟩ :: rest) a0 L w :=
  g_w hn (w2 := w.alloc (.cells v.cells el)) (v := .slice (some ⟨w.heap.size, 0, none⟩) 1 1) (fun hk => by
    have e : (#[(0, Operand.tmp i)] : Array (Nat × Operand)).map (fun y => (y.fst, (fr a0 L).eval y.snd)) = #[(0, v)] := by simp only [List.map_toArray, List.map_cons, List.map_nil, lk_at hk hi (fun _ => rfl) rfl]
    have h2 := hrun w
    rw [← e] at h2
    unfold execOp
    dsimp only
    rw [Sem.run_bind]
    refine (congrArg (fun r => Result.andThen r _) h2).trans ?_
    rfl) (h _ _ rfl (blk_new w _ el) (b0 w _)) rfl hd rfl
end
theorem blk_rdC {W : World} {g z : Nat} {cs : Array Value} {t : TypeId} (h : Blk W g cs t) : RdC z W ⟨g, 0, none⟩ [cs] := fun k y hy j v hv => by
  match k, hy with
  | 0, hy =>
    have e : cs = y := by simpa using hy
    subst e
    rw [Nat.zero_mul, Nat.zero_add, zeroX_at, h.cell j]
    exact hv
/-- Whole numbers as cells. -/
abbrev inC (x : Int) : Array Value := #[.int .i64 x]
abbrev tIn : TypeId := 3
theorem in_info : ElI tIn (.int .i64 0) 1 8 := by unfold ElI; kernel_rfl
theorem in_szd (l : List Int) : Szd 1 (l.map inC) := fun cs hc => by
  obtain ⟨x, _, rfl⟩ := List.mem_map.1 hc
  rfl
theorem bsIn (x : Int) (w : World) : (Instr.buildSlice 43 1 #[(0, .int .i64 x)]).run Try.prog w = .ok (.slice (some ⟨w.heap.size, 0, none⟩) 1 1) (w.alloc (.cells #[.int .i64 x] tIn)) := by kernel_rfl
theorem OwnX.rdi {base n c : Nat} {W : World} {A : Option Addr} {l : List Int} (h : OwnX tIn 1 base W A n c (l.map inC)) : RdI W.heap.size W A l := fun k x hx => by
  obtain ⟨ad, e, hb, hc⟩ := h.rd k (inC x) (by rw [List.getElem?_map, hx]; rfl)
  have h0 := hc 0 _ rfl
  rw [Nat.mul_one, Nat.add_zero] at h0
  exact ⟨ad, e, hb, h0⟩
end Go.Proofs.Ytokkmofcijfmiab
