/-
  WHAT IS PROVED: a key's leaf, the code's and the document's; what a key with a value adds. Conditions: those typed in each theorem.
-/
import Derived.Test.YtkfhkfddhijkcaaBuA
import Derived.Test.YtkfhkfddhijkcaaGQ11
import Derived.Test.YtkfhkfddhijkcaaGQ3
import Derived.Test.YtkfhkfddhijkcaaFv
import Derived.Lib.SmallJoins
namespace Go.Proofs.Ytkfhkfddhijkcaa
open Go.RowKit

theorem en_spinney_burl_Leaf : ∀ args w, (callFunc 89 args).run Try.prog w = .ok (.enter 89 args) w := enters_of Try.func89 (by kernel_rfl) rfl
theorem en_spinney_spinneyref28_Leaf : ∀ args w, (callFunc 40 args).run Try.prog w = .ok (.enter 40 args) w := enters_of Try.func40 (by kernel_rfl) rfl
theorem en_spinney_burl_share : ∀ args w, (callFunc 96 args).run Try.prog w = .ok (.enter 96 args) w := enters_of Try.func96 (by kernel_rfl) rfl
theorem en_spinney_pack_Text : ∀ args w, (callFunc 122 args).run Try.prog w = .ok (.enter 122 args) w := enters_of Try.func122 (by kernel_rfl) rfl
theorem en_spinney_pack_Value : ∀ args w, (callFunc 121 args).run Try.prog w = .ok (.enter 121 args) w := enters_of Try.func121 (by kernel_rfl) rfl

theorem conv_sb (s : ByteArray) (w : World) : ∃ c W', (convert 9 105 (.string s)).run Try.prog w = .ok (.slice (some ⟨w.heap.size, 0, none⟩) s.size c) W' ∧ RdB W'.heap.size W' (some ⟨w.heap.size, 0, none⟩) s.data.toList ∧ Below w.heap.size w W' := by
  have hr := run_bytes_of_string (P := Try.prog) w 9 105 5 s (by kernel_rfl) Try.underlying105 Try.underlying5
  refine ⟨_, _, hr, fun k x hx => ?_, ((Below.refl w.heap.size w).drew).alloc (Nat.le_refl _) _⟩
  have hk : k < s.data.size := by
    have := (List.getElem?_eq_some_iff.1 hx).1
    simpa using this
  have e : (⟨w.heap.size, 0, none⟩ : Addr).add k = ⟨w.heap.size, k, none⟩ := by unfold Addr.add; split <;> simp_all
  refine ⟨_, rfl, by simp, ?_⟩
  rw [e, Joins.cell_alloc_mark_at w.drew _ _ _ w.heap.size k rfl, bytesRow_at s _ k hk]
  have h2 : s.data[k] = x := by
    rw [Array.getElem?_toList, Array.getElem?_eq_getElem hk] at hx
    injection hx
  rw [h2]
theorem g_cvw {P : Program} {l : List Oper} {Q : Exit → Act → World → Prop} {rest : List Oper} {a0 : Act} {L : List (Nat × Bool × Value)} {w w2 : World} {d n i : Nat} {t t2 : TypeId} {vi v : Value} {ty : TypeId} {p : String} {af : Array Edge} (hn : a0.tmps.size = n) (hr : (convert t t2 vi).run P w = .ok v w2) (h : FL P l Q rest a0 ((d, true, v) :: L) w2) (hd : Nat.blt d n = true := by rfl) (hl : lk L i = some (true, vi) := by rfl) : FL P l Q (⟨some d, .convert t t2 (.tmp i), ty, p, af, none⟩ :: rest) a0 L w :=
  g_w hn (w2 := w2) (v := v) (fun hk => by
    unfold execOp
    dsimp only
    rw [lk_at hk hl (fun _ => rfl) rfl, Sem.run_bind, hr]
    rfl) h rfl hd rfl
/-- A key's leaf. -/
def leafL (b : List UInt8) : Nat := digL b % 16
theorem leafL_lt (b : List UInt8) : leafL b < 16 := Nat.mod_lt _ (by decide)
theorem rem_u16 (i : Nat) (W : World) (z : Nat) : ((do eqGuard .rem 54 (.tmp i) (.const (.int .u64 16)) (.int .u64 (z : Int)) (.int .u64 16); binOp .rem 54 (.int .u64 (z : Int)) (.int .u64 16)) : Sem Value).run Try.prog W = .ok (.int .u64 ((z % 16 : Nat) : Int)) W := by
  have m1 : Int.tmod (z : Int) 16 = ((z % 16 : Nat) : Int) := rfl
  rw [← m1]
  clear m1
  unfold binOp
  simp only [eqGuard, go_sem]
  simp
set_option maxRecDepth 100000 in
set_option maxHeartbeats 4000000 in
theorem leaf_any (k : ByteArray) (w : World) (hk : k.size ≤ 100000) : Calls Try.prog 89 #[.string k] w fun e w' => e = .returned (.int .i64 (leafL k.data.toList : Nat)) ∧ Below w.heap.size w w' := by
  obtain ⟨c, W1, hr, hR, hB⟩ := conv_sb k w
  have hl : k.data.toList.length = k.size := Array.length_toList
  have cD := dig_any (some ⟨w.heap.size, 0, none⟩) k.size c k.data.toList W1 hl hR (by omega)
  go_enter Try.func89, Try.ntmps89
  go_upto_region 1 with fail
  refine wp_region_lit ?_
  refine fl_start ?_
  generalize ha : Act.mk _ _ = a0
  have hn : a0.tmps.size = 8 := by rw [← ha]; kernel_rfl
  have h0 : (fr a0 []).eval (.tmp 0) = .string k := by rw [← ha]; kernel_rfl
  refine fl_know hn rfl h0 ?_
  clear h0
  refine g_mv hn ?_
  refine g_cvw hn hr ?_
  refine g_c1x en_spinney_burl_Digest hn (R := fun v w2 => v = .int .u64 (digL k.data.toList : Nat) ∧ w2 = W1) (cD.mono fun _ _ ⟨he, hb2⟩ => ⟨_, he, rfl, hb2.symm⟩) ?_
  rintro v w2 ⟨rfl, rfl⟩
  have r1 := rem_u16 5 w2 (digL k.data.toList)
  have r2 := cv_ui w2 (y := digL k.data.toList % 16) (by have := Nat.mod_lt (digL k.data.toList) (show 0 < 16 by decide); omega)
  refine g_bc hn ?_
  refine g_cv hn ?_
  refine g_as hn ?_
  refine fl_end ?_
  clear hn
  subst ha
  dsimp only [fr, cnd, Act.put, cond_true]
  simp only [List.setIfInBounds_toArray, List.set_cons_zero, List.set_cons_succ]
  clear r1 r2 hr hR cD
  go_wp2_with fail
  go_ret
  exact ⟨rfl, hB⟩
set_option maxRecDepth 100000 in
set_option maxHeartbeats 4000000 in
theorem refLeaf_any (k : ByteArray) (w : World) (hk : k.size ≤ 100000) : Calls Try.prog 40 #[.string k] w fun e w' => e = .returned (.int .i64 (leafL k.data.toList : Nat)) ∧ Below w.heap.size w w' := by
  obtain ⟨c, W1, hr, hR, hB⟩ := conv_sb k w
  have hl : k.data.toList.length = k.size := Array.length_toList
  have cD := refDig_any (some ⟨w.heap.size, 0, none⟩) k.size c k.data.toList W1 hl hR (by omega)
  go_enter Try.func40, Try.ntmps40
  go_upto_region 1 with fail
  refine wp_region_lit ?_
  refine fl_start ?_
  generalize ha : Act.mk _ _ = a0
  have hn : a0.tmps.size = 8 := by rw [← ha]; kernel_rfl
  have h0 : (fr a0 []).eval (.tmp 0) = .string k := by rw [← ha]; kernel_rfl
  refine fl_know hn rfl h0 ?_
  clear h0
  refine g_mv hn ?_
  refine g_cvw hn hr ?_
  refine g_c1x en_spinney_spinneyref28_Digest hn (R := fun v w2 => v = .int .u64 (digL k.data.toList : Nat) ∧ w2 = W1) (cD.mono fun _ _ ⟨he, hb2⟩ => ⟨_, he, rfl, hb2.symm⟩) ?_
  rintro v w2 ⟨rfl, rfl⟩
  have r1 := rem_u16 5 w2 (digL k.data.toList)
  have r2 := cv_ui w2 (y := digL k.data.toList % 16) (by have := Nat.mod_lt (digL k.data.toList) (show 0 < 16 by decide); omega)
  refine g_bc hn ?_
  refine g_cv hn ?_
  refine g_as hn ?_
  refine fl_end ?_
  clear hn
  subst ha
  dsimp only [fr, cnd, Act.put, cond_true]
  simp only [List.setIfInBounds_toArray, List.set_cons_zero, List.set_cons_succ]
  clear r1 r2 hr hR cD
  go_wp2_with fail
  go_ret
  exact ⟨rfl, hB⟩
/-- What a key with a value adds to its leaf. -/
def shr28 (ky : ByteArray) (k x : Int) (t : ByteArray) : Nat := if k = 0 then 0 else digL (textB ky.data.toList ++ valB k x t.data.toList)
theorem shr28_lt (ky : ByteArray) (k x : Int) (t : ByteArray) : shr28 ky k x t < 18446744073709551616 := by
  unfold shr28
  split
  · decide
  · exact digL_lt _
theorem textB_len (ky : ByteArray) (h : ky.size ≤ 100000) : (textB ky.data.toList).length ≤ 100009 := by
  have hl : ky.data.toList.length = ky.size := Array.length_toList
  have := numB_small (n := ky.data.toList.length) (by omega)
  unfold textB
  rw [List.length_append]
  omega
set_option maxRecDepth 100000 in
set_option maxHeartbeats 4000000 in
theorem share_any (ky : ByteArray) (k x : Int) (t : ByteArray) (w : World) (hky : ky.size ≤ 1000) (hg : goodB k x t = true) (h0 : -9223372036854775808 ≤ x) (h1 : x ≤ 9223372036854775807) : Calls Try.prog 96 #[.string ky, .agg #[.int .i64 k, .int .i64 x, .string t]] w fun e w' => e = .returned (.int .u64 (shr28 ky k x t : Nat)) ∧ Below w.heap.size w w' := by
  have hkl : ky.data.toList.length = ky.size := Array.length_toList
  have hTl : (textB ky.data.toList).length ≤ 1009 := by
    have := numB_small (n := ky.data.toList.length) (by omega)
    unfold textB
    rw [List.length_append]
    omega
  have hVl : (valB k x t.data.toList).length ≤ 1000018 := valB_small (goodB_in hg).1 h0 h1 (by have := (goodB_in hg).2; omega)
  have hX0 := blk_new w #[.int .i64 k, .int .i64 x, .string t] 35
  have hB := b0 w (.cells #[.int .i64 k, .int .i64 x, .string t] 35)
  have hzz : (w.alloc (.cells #[.int .i64 k, .int .i64 x, .string t] 35)).heap.size = w.heap.size + 1 := by simp
  go_enter Try.func96, Try.ntmps96
  go_upto_region 1 with fail
  generalize (w.alloc (.cells #[.int .i64 k, .int .i64 x, .string t] 35)) = W0 at hX0 hB hzz ⊢
  generalize hb : w.heap.size = b at hX0 hB hzz ⊢
  have c0 := hX0.cell 0
  by_cases hk : k = 0
  · subst hk
    have R : Hid (shr28 ky 0 x t = 0) := by show _ = _; unfold shr28; rw [if_pos rfl]
    clear hX0
    go_wp2_with fail
    go_ret
    rw [R.out]
    exact ⟨rfl, by first | exact hB | (rw [hb]; exact hB)⟩
  have R : Hid (shr28 ky k x t = digL (textB ky.data.toList ++ valB k x t.data.toList)) := by show _ = _; unfold shr28; rw [if_neg hk]
  have hk2 : (k == 0) = false := by simpa using hk
  have l0 : ∀ W, Blk W b #[.int .i64 k, .int .i64 x, .string t] 35 → _ := fun W h => vld (W := W) (b := b) (o := 0) (h.cell 0) (h.cell 1) (h.cell 2)
  go_upto_region 3 with fail
  refine fh_start (S := fun W => Blk W b #[.int .i64 k, .int .i64 x, .string t] 35) (by kernel_rfl) (hX0) (fun hS => ?_)
  generalize ha : Act.mk _ _ = a0
  have hn : a0.tmps.size = 13 := by rw [← ha]; kernel_rfl
  have h0 : (fr a0 []).eval (.tmp 0) = .string ky := by rw [← ha]; kernel_rfl
  refine fh_know hn rfl h0 ?_
  clear h0
  have h3 : (fr a0 [(0, true, .string ky)]).eval (.tmp 3) = .pointer (some ⟨b, 0, none⟩) := by rw [← ha]; kernel_rfl
  refine fh_know hn rfl h3 ?_
  clear h3
  refine h_mv 0 hn hS ?_
  refine h_ld 2 hn hS ?_
  refine fh_callx 1 (d := 9) (R := fun v w2 => ∃ A n c, v = .slice A n c ∧ (textB ky.data.toList).length = n ∧ RdB w2.heap.size w2 A (textB ky.data.toList) ∧ n ≤ c ∧ Below W0.drew.heap.size W0.drew w2) hn rfl (fun hk => call2_is en_spinney_pack_Text _ _ _ _ _ _ _ _ _ (.slice none 0 0) (.string ky) rfl (lk_at hk (i := 8) rfl (fun _ => rfl) rfl) rfl) ((packText_any none 0 0 [] ky W0.drew rfl (by omega) (RdB.nil _ _ _) (by omega) (by omega)).mono fun _ _ ⟨⟨A, n, c, he, hl, hr, hc⟩, hb2⟩ => ⟨_, he, A, n, c, rfl, hl, hr, hc, hb2⟩) ?_ rfl rfl (by kernel_rfl) rfl
  rintro v v1 ⟨A1, n1, c1, rfl, hl1, hr1, hc1, hb1⟩
  have hX1 := Blk.keep hS hb1
  refine ⟨hX1, ?_⟩
  refine fh_callx 3 (d := 11) (R := fun v w2 => ∃ A n c, v = .slice A n c ∧ (textB ky.data.toList ++ valB k x t.data.toList).length = n ∧ RdB w2.heap.size w2 A (textB ky.data.toList ++ valB k x t.data.toList) ∧ n ≤ c ∧ Below v1.heap.size v1 w2) hn rfl (fun hk => call2_is en_spinney_pack_Value _ _ _ _ _ _ _ _ _ (.slice A1 n1 c1) (.agg #[.int .i64 k, .int .i64 x, .string t]) (lk_at hk (i := 9) rfl (fun _ => rfl) rfl) (lk_at hk (i := 10) rfl (fun _ => rfl) rfl) rfl) ((packValue_any A1 n1 c1 _ k x t v1 hl1 (by omega) hr1 hc1 hg h0 h1).mono fun _ _ ⟨⟨A, n, c, he, hl, hr, hc⟩, hb2⟩ => ⟨_, he, A, n, c, rfl, hl, hr, hc, hb2⟩) ?_ rfl rfl (by kernel_rfl) rfl
  rintro v v2 ⟨A2, n2, c2, rfl, hl2, hr2, hc2, hb2⟩
  have hX2 := Blk.keep hX1 hb2
  refine ⟨hX2, ?_⟩
  have hn2 : n2 ≤ 1000000000 := by rw [← hl2, List.length_append]; omega
  refine fh_callx 4 (d := 12) (R := fun v w2 => v = .int .u64 (digL (textB ky.data.toList ++ valB k x t.data.toList) : Nat) ∧ v2 = w2) hn rfl (fun hk => call1_is en_spinney_burl_Digest _ _ _ _ _ _ _ _ (.slice A2 n2 c2) (lk_at hk (i := 11) rfl (fun _ => rfl) rfl) rfl) ((dig_any A2 n2 c2 _ v2 hl2 hr2 hn2).mono fun _ _ ⟨he, hw⟩ => ⟨_, he, rfl, hw⟩) ?_ rfl rfl (by kernel_rfl) rfl
  rintro v v3 ⟨rfl, rfl⟩
  refine ⟨hX2, ?_⟩
  refine h_as 5 hn hX2 ?_
  refine fh_end (by kernel_rfl) ?_
  clear hn
  subst ha
  dsimp only [fr, cnd, Act.put, cond_true]
  simp only [List.setIfInBounds_toArray, List.set_cons_zero, List.set_cons_succ]
  go_wp2_with fail
  go_ret
  rw [R.out]
  exact ⟨rfl, by
    have h3 := (Below.drew hB).trans (hb1.mono (by have := (Below.drew hB).size; omega))
    have h4 := h3.trans (hb2.mono (by have := h3.size; omega))
    first | exact h4 | (rw [hb]; exact h4)⟩
end Go.Proofs.Ytkfhkfddhijkcaa
