/-
  WHAT IS PROVED: a key's leaf, the code's and the document's; what a key with a value adds. Conditions: those typed in each theorem. · append of a slice's elements, however many, onto a row of the call's own; slices of writes cut. Conditions: those typed in each theorem.
-/
import Derived.Test.YtokkmofcijfmiabBuA
import Derived.Test.YtokkmofcijfmiabGQ10
import Derived.Test.YtokkmofcijfmiabGQ3
import Derived.Test.YtokkmofcijfmiabGQ14
import Derived.Lib.SmallJoins
import Derived.Test.YtokkmofcijfmiabRowX
import Derived.Test.YtokkmofcijfmiabGQ13
namespace Go.Proofs.Ytokkmofcijfmiab
open Go.RowKit

theorem en_spinney_burl_Leaf : ∀ args w, (callFunc 34 args).run Try.prog w = .ok (.enter 34 args) w := enters_of Try.func34 (by kernel_rfl) rfl
theorem en_spinney_spinneyref28_Leaf : ∀ args w, (callFunc 33 args).run Try.prog w = .ok (.enter 33 args) w := enters_of Try.func33 (by kernel_rfl) rfl
theorem en_spinney_burl_share : ∀ args w, (callFunc 37 args).run Try.prog w = .ok (.enter 37 args) w := enters_of Try.func37 (by kernel_rfl) rfl
theorem en_spinney_pack_Text : ∀ args w, (callFunc 52 args).run Try.prog w = .ok (.enter 52 args) w := enters_of Try.func52 (by kernel_rfl) rfl
theorem en_spinney_pack_Value : ∀ args w, (callFunc 51 args).run Try.prog w = .ok (.enter 51 args) w := enters_of Try.func51 (by kernel_rfl) rfl

theorem conv_sb (s : ByteArray) (w : World) : ∃ c W', (convert 9 58 (.string s)).run Try.prog w = .ok (.slice (some ⟨w.heap.size, 0, none⟩) s.size c) W' ∧ RdB W'.heap.size W' (some ⟨w.heap.size, 0, none⟩) s.data.toList ∧ Below w.heap.size w W' := by
  have hr := run_bytes_of_string (P := Try.prog) w 9 58 5 s (by kernel_rfl) Try.underlying58 Try.underlying5
  refine ⟨_, _, hr, fun k x hx => ?_, ((Below.refl w.heap.size w).drew).alloc (Nat.le_refl _) _⟩
  have hk : k < s.data.size := by
    have := (List.getElem?_eq_some_iff.1 hx).1
    simpa using this
  have e : (⟨w.heap.size, 0, none⟩ : Addr).add k = ⟨w.heap.size, k, none⟩ := by unfold Addr.add; split <;> simp_all
  refine ⟨_, rfl, by simp, ?_⟩
  rw [e, Joins.cell_alloc_mark_at w.drew _ _ _ w.heap.size k rfl, bytesRow_at s _ k hk]
  have h2 : s.data[k] = x := by
    rw [Array.getElem?_toList, Array.getElem?_eq_getElem hk] at hx
    injection hx
  rw [h2]
theorem g_cvw {P : Program} {l : List Oper} {Q : Exit → Act → World → Prop} {rest : List Oper} {a0 : Act} {L : List (Nat × Bool × Value)} {w w2 : World} {d n i : Nat} {t t2 : TypeId} {vi v : Value} {ty : TypeId} {p : String} {af : Array Edge} (hn : a0.tmps.size = n) (hr : (convert t t2 vi).run P w = .ok v w2) (h : FL P l Q rest a0 ((d, true, v) :: L) w2) (hd : Nat.blt d n = true := by rfl) (hl : lk L i = some (true, vi) := by rfl) : FL P l Q (⟨some d, .convert t t2 (.tmp i), ty, p, af, none⟩ :: rest) a0 L w :=
  g_w hn (w2 := w2) (v := v) (fun hk => by
    unfold execOp
    dsimp only
    rw [lk_at hk hl (fun _ => rfl) rfl, Sem.run_bind, hr]
    rfl) h rfl hd rfl
/-- A key's leaf. -/
def leafL (b : List UInt8) : Nat := digL b % 16
theorem leafL_lt (b : List UInt8) : leafL b < 16 := Nat.mod_lt _ (by decide)
theorem rem_u16 (i : Nat) (W : World) (z : Nat) : ((do eqGuard .rem 36 (.tmp i) (.const (.int .u64 16)) (.int .u64 (z : Int)) (.int .u64 16); binOp .rem 36 (.int .u64 (z : Int)) (.int .u64 16)) : Sem Value).run Try.prog W = .ok (.int .u64 ((z % 16 : Nat) : Int)) W := by
  have m1 : Int.tmod (z : Int) 16 = ((z % 16 : Nat) : Int) := rfl
  rw [← m1]
  clear m1
  unfold binOp
  simp only [eqGuard, go_sem]
  simp
set_option maxRecDepth 100000 in
set_option maxHeartbeats 4000000 in
theorem leaf_any (k : ByteArray) (w : World) (hk : k.size ≤ 100000) : Calls Try.prog 34 #[.string k] w fun e w' => e = .returned (.int .i64 (leafL k.data.toList : Nat)) ∧ Below w.heap.size w w' := by
  obtain ⟨c, W1, hr, hR, hB⟩ := conv_sb k w
  have hl : k.data.toList.length = k.size := Array.length_toList
  have cD := dig_any (some ⟨w.heap.size, 0, none⟩) k.size c k.data.toList W1 hl hR (by omega)
  go_enter Try.func34, Try.ntmps34
  go_upto_region 1 with fail
  refine wp_region_lit ?_
  refine fl_start ?_
  generalize ha : Act.mk _ _ = a0
  have hn : a0.tmps.size = 8 := by rw [← ha]; kernel_rfl
  have h0 : (fr a0 []).eval (.tmp 0) = .string k := by rw [← ha]; kernel_rfl
  refine fl_know hn rfl h0 ?_
  clear h0
  refine g_mv hn ?_
  refine g_cvw hn hr ?_
  refine g_c1x en_spinney_burl_Digest hn (R := fun v w2 => v = .int .u64 (digL k.data.toList : Nat) ∧ w2 = W1) (cD.mono fun _ _ ⟨he, hb2⟩ => ⟨_, he, rfl, hb2.symm⟩) ?_
  rintro v w2 ⟨rfl, rfl⟩
  have r1 := rem_u16 5 w2 (digL k.data.toList)
  have r2 := cv_ui w2 (y := digL k.data.toList % 16) (by have := Nat.mod_lt (digL k.data.toList) (show 0 < 16 by decide); omega)
  refine g_bc hn ?_
  refine g_cv hn ?_
  refine g_as hn ?_
  refine fl_end ?_
  clear hn
  subst ha
  dsimp only [fr, cnd, Act.put, cond_true]
  simp only [List.setIfInBounds_toArray, List.set_cons_zero, List.set_cons_succ]
  clear r1 r2 hr hR cD
  go_wp2_with fail
  go_ret
  exact ⟨rfl, hB⟩
set_option maxRecDepth 100000 in
set_option maxHeartbeats 4000000 in
theorem refLeaf_any (k : ByteArray) (w : World) (hk : k.size ≤ 100000) : Calls Try.prog 33 #[.string k] w fun e w' => e = .returned (.int .i64 (leafL k.data.toList : Nat)) ∧ Below w.heap.size w w' := by
  obtain ⟨c, W1, hr, hR, hB⟩ := conv_sb k w
  have hl : k.data.toList.length = k.size := Array.length_toList
  have cD := refDig_any (some ⟨w.heap.size, 0, none⟩) k.size c k.data.toList W1 hl hR (by omega)
  go_enter Try.func33, Try.ntmps33
  go_upto_region 1 with fail
  refine wp_region_lit ?_
  refine fl_start ?_
  generalize ha : Act.mk _ _ = a0
  have hn : a0.tmps.size = 8 := by rw [← ha]; kernel_rfl
  have h0 : (fr a0 []).eval (.tmp 0) = .string k := by rw [← ha]; kernel_rfl
  refine fl_know hn rfl h0 ?_
  clear h0
  refine g_mv hn ?_
  refine g_cvw hn hr ?_
  refine g_c1x en_spinney_spinneyref28_Digest hn (R := fun v w2 => v = .int .u64 (digL k.data.toList : Nat) ∧ w2 = W1) (cD.mono fun _ _ ⟨he, hb2⟩ => ⟨_, he, rfl, hb2.symm⟩) ?_
  rintro v w2 ⟨rfl, rfl⟩
  have r1 := rem_u16 5 w2 (digL k.data.toList)
  have r2 := cv_ui w2 (y := digL k.data.toList % 16) (by have := Nat.mod_lt (digL k.data.toList) (show 0 < 16 by decide); omega)
  refine g_bc hn ?_
  refine g_cv hn ?_
  refine g_as hn ?_
  refine fl_end ?_
  clear hn
  subst ha
  dsimp only [fr, cnd, Act.put, cond_true]
  simp only [List.setIfInBounds_toArray, List.set_cons_zero, List.set_cons_succ]
  clear r1 r2 hr hR cD
  go_wp2_with fail
  go_ret
  exact ⟨rfl, hB⟩
/-- What a key with a value adds to its leaf. -/
def shr28 (ky : ByteArray) (k x : Int) (t : ByteArray) : Nat := if k = 0 then 0 else digL (textB ky.data.toList ++ valB k x t.data.toList)
theorem shr28_lt (ky : ByteArray) (k x : Int) (t : ByteArray) : shr28 ky k x t < 18446744073709551616 := by
  unfold shr28
  split
  · decide
  · exact digL_lt _
theorem textB_len (ky : ByteArray) (h : ky.size ≤ 100000) : (textB ky.data.toList).length ≤ 100009 := by
  have hl : ky.data.toList.length = ky.size := Array.length_toList
  have := numB_small (n := ky.data.toList.length) (by omega)
  unfold textB
  rw [List.length_append]
  omega
set_option maxRecDepth 100000 in
set_option maxHeartbeats 4000000 in
theorem share_any (ky : ByteArray) (k x : Int) (t : ByteArray) (w : World) (hky : ky.size ≤ 1000) (hg : goodB k x t = true) (h0 : -9223372036854775808 ≤ x) (h1 : x ≤ 9223372036854775807) : Calls Try.prog 37 #[.string ky, .agg #[.int .i64 k, .int .i64 x, .string t]] w fun e w' => e = .returned (.int .u64 (shr28 ky k x t : Nat)) ∧ Below w.heap.size w w' := by
  have hkl : ky.data.toList.length = ky.size := Array.length_toList
  have hTl : (textB ky.data.toList).length ≤ 1009 := by
    have := numB_small (n := ky.data.toList.length) (by omega)
    unfold textB
    rw [List.length_append]
    omega
  have hVl : (valB k x t.data.toList).length ≤ 1000018 := valB_small (goodB_in hg).1 h0 h1 (by have := (goodB_in hg).2; omega)
  have hX0 := blk_new w #[.int .i64 k, .int .i64 x, .string t] 31
  have hB := b0 w (.cells #[.int .i64 k, .int .i64 x, .string t] 31)
  have hzz : (w.alloc (.cells #[.int .i64 k, .int .i64 x, .string t] 31)).heap.size = w.heap.size + 1 := by simp
  go_enter Try.func37, Try.ntmps37
  go_upto_region 1 with fail
  generalize (w.alloc (.cells #[.int .i64 k, .int .i64 x, .string t] 31)) = W0 at hX0 hB hzz ⊢
  generalize hb : w.heap.size = b at hX0 hB hzz ⊢
  have c0 := hX0.cell 0
  by_cases hk : k = 0
  · subst hk
    have R : Hid (shr28 ky 0 x t = 0) := by show _ = _; unfold shr28; rw [if_pos rfl]
    clear hX0
    go_wp2_with fail
    go_ret
    rw [R.out]
    exact ⟨rfl, by first | exact hB | (rw [hb]; exact hB)⟩
  have R : Hid (shr28 ky k x t = digL (textB ky.data.toList ++ valB k x t.data.toList)) := by show _ = _; unfold shr28; rw [if_neg hk]
  have hk2 : (k == 0) = false := by simpa using hk
  have l0 : ∀ W, Blk W b #[.int .i64 k, .int .i64 x, .string t] 31 → _ := fun W h => vld (W := W) (b := b) (o := 0) (h.cell 0) (h.cell 1) (h.cell 2)
  go_upto_region 3 with fail
  refine fh_start (S := fun W => Blk W b #[.int .i64 k, .int .i64 x, .string t] 31) (by kernel_rfl) (hX0) (fun hS => ?_)
  generalize ha : Act.mk _ _ = a0
  have hn : a0.tmps.size = 13 := by rw [← ha]; kernel_rfl
  have h0 : (fr a0 []).eval (.tmp 0) = .string ky := by rw [← ha]; kernel_rfl
  refine fh_know hn rfl h0 ?_
  clear h0
  have h3 : (fr a0 [(0, true, .string ky)]).eval (.tmp 3) = .pointer (some ⟨b, 0, none⟩) := by rw [← ha]; kernel_rfl
  refine fh_know hn rfl h3 ?_
  clear h3
  refine h_mv 0 hn hS ?_
  refine h_ld 2 hn hS ?_
  refine fh_callx 1 (d := 9) (R := fun v w2 => ∃ A n c, v = .slice A n c ∧ (textB ky.data.toList).length = n ∧ RdB w2.heap.size w2 A (textB ky.data.toList) ∧ n ≤ c ∧ Below W0.drew.heap.size W0.drew w2) hn rfl (fun hk => call2_is en_spinney_pack_Text _ _ _ _ _ _ _ _ _ (.slice none 0 0) (.string ky) rfl (lk_at hk (i := 8) rfl (fun _ => rfl) rfl) rfl) ((packText_any none 0 0 [] ky W0.drew rfl (by omega) (RdB.nil _ _ _) (by omega) (by omega)).mono fun _ _ ⟨⟨A, n, c, he, hl, hr, hc⟩, hb2⟩ => ⟨_, he, A, n, c, rfl, hl, hr, hc, hb2⟩) ?_ rfl rfl (by kernel_rfl) rfl
  rintro v v1 ⟨A1, n1, c1, rfl, hl1, hr1, hc1, hb1⟩
  have hX1 := Blk.keep hS hb1
  refine ⟨hX1, ?_⟩
  refine fh_callx 3 (d := 11) (R := fun v w2 => ∃ A n c, v = .slice A n c ∧ (textB ky.data.toList ++ valB k x t.data.toList).length = n ∧ RdB w2.heap.size w2 A (textB ky.data.toList ++ valB k x t.data.toList) ∧ n ≤ c ∧ Below v1.heap.size v1 w2) hn rfl (fun hk => call2_is en_spinney_pack_Value _ _ _ _ _ _ _ _ _ (.slice A1 n1 c1) (.agg #[.int .i64 k, .int .i64 x, .string t]) (lk_at hk (i := 9) rfl (fun _ => rfl) rfl) (lk_at hk (i := 10) rfl (fun _ => rfl) rfl) rfl) ((packValue_any A1 n1 c1 _ k x t v1 hl1 (by omega) hr1 hc1 hg h0 h1).mono fun _ _ ⟨⟨A, n, c, he, hl, hr, hc⟩, hb2⟩ => ⟨_, he, A, n, c, rfl, hl, hr, hc, hb2⟩) ?_ rfl rfl (by kernel_rfl) rfl
  rintro v v2 ⟨A2, n2, c2, rfl, hl2, hr2, hc2, hb2⟩
  have hX2 := Blk.keep hX1 hb2
  refine ⟨hX2, ?_⟩
  have hn2 : n2 ≤ 1000000000 := by rw [← hl2, List.length_append]; omega
  refine fh_callx 4 (d := 12) (R := fun v w2 => v = .int .u64 (digL (textB ky.data.toList ++ valB k x t.data.toList) : Nat) ∧ v2 = w2) hn rfl (fun hk => call1_is en_spinney_burl_Digest _ _ _ _ _ _ _ _ (.slice A2 n2 c2) (lk_at hk (i := 11) rfl (fun _ => rfl) rfl) rfl) ((dig_any A2 n2 c2 _ v2 hl2 hr2 hn2).mono fun _ _ ⟨he, hw⟩ => ⟨_, he, rfl, hw⟩) ?_ rfl rfl (by kernel_rfl) rfl
  rintro v v3 ⟨rfl, rfl⟩
  refine ⟨hX2, ?_⟩
  refine h_as 5 hn hX2 ?_
  refine fh_end (by kernel_rfl) ?_
  clear hn
  subst ha
  dsimp only [fr, cnd, Act.put, cond_true]
  simp only [List.setIfInBounds_toArray, List.set_cons_zero, List.set_cons_succ]
  go_wp2_with fail
  go_ret
  rw [R.out]
  exact ⟨rfl, by
    have h3 := (Below.drew hB).trans (hb1.mono (by have := (Below.drew hB).size; omega))
    have h4 := h3.trans (hb2.mono (by have := h3.size; omega))
    first | exact h4 | (rw [hb]; exact h4)⟩
end Go.Proofs.Ytokkmofcijfmiab

namespace Go.Proofs.Ytokkmofcijfmiab
open Go.RowKit

theorem celV_src {z : Nat} (hz : 0 < z) {W : World} {ad : Addr} : ∀ (xs : List (Array Value)), Szd z xs → (∀ k cs, xs[k]? = some cs → ∀ j v, cs[j]? = some v → W.cell? (ad.add (k * z + j)) = some v) → ∀ i u, (celV xs)[i]? = some u → W.cell? (ad.add i) = some u := by
  intro xs hs hc i u hi
  have hlt := (List.getElem?_eq_some_iff.1 hi).1
  rw [celV_len xs hs] at hlt
  have hk : i / z < xs.length := Nat.div_lt_of_lt_mul (by rw [Nat.mul_comm]; exact hlt)
  have hx : xs[i / z]? = some xs[i / z] := List.getElem?_eq_getElem hk
  have hsz := hs _ (List.getElem_mem hk)
  have hj : i % z < xs[i / z].size := by rw [hsz]; exact Nat.mod_lt _ hz
  have hv : xs[i / z][i % z]? = some xs[i / z][i % z] := Array.getElem?_eq_getElem hj
  have h2 := celV_get xs hs (i / z) (i % z) _ _ hx hv
  rw [Nat.div_add_mod' i z] at h2
  rw [hi] at h2
  injection h2 with h2
  have h3 := hc _ _ hx _ _ hv
  rw [Nat.div_add_mod' i z, ← h2] at h3
  exact h3
/-- Append of m elements onto a row of the call's own. -/
theorem run_apM {P : Program} (w : World) {t t' e' ty el : TypeId} {i : TypeInfo} {z y : Nat} {zv : Value} (ht : P.underlying t = some (.slice el)) (ht' : P.underlying t' = some (.slice e')) (hi : P.info? el = some i) (hz : i.zero = some zv) (hs : i.size = z) (hy : i.bytes = y) (hzs : zv.cells.size = z) (hz0 : 0 < z) (hy0 : y ≤ 1000)
    {base : Nat} {A : Option Addr} {ad : Addr} {n c m d : Nat} {l xs : List (Array Value)} (hown : OwnX el z base w A n c l) (hx : Szd z xs) (hm : xs.length = m) (h1 : ∀ x, x ∈ xs → ∀ u ∈ x.toList, u.oneCell' = true) (hr : ∀ k cs, xs[k]? = some cs → ∀ j v, cs[j]? = some v → w.cell? (ad.add (k * z + j)) = some v) (hsz : n + m ≤ 1000000000) (hbase : base ≤ w.heap.size) (hA : A ≠ none ∨ m ≠ 0) :
    ∃ A' c' w', (Builtin.append_ #[t, t'] ty #[.slice A n c, .slice (some ad) m d]).run P w = .ok (.slice A' (n + m) c') w' ∧ OwnX el z base w' A' (n + m) c' (l ++ xs) ∧ Below base w w' ∧ A' ≠ none ∧ (∀ x, x < w.heap.size → (∀ a, A = some a → a.block ≠ x) → w'.heap[x]? = w.heap[x]?) ∧ (A'.map (·.block) = A.map (·.block) ∨ A'.map (·.block) = some w.heap.size) := by
  obtain ⟨v', w', hrun, h2, h3, h4, h5⟩ := run_append_own_at (P := P) w base t ty el i zv z y ht hi hz hs hy hzs hz0 (.slice A n c) n (celV l) hown.1 ad m d (celV xs) (by rw [celV_len xs hx, hm]) (celV_src hz0 xs hx hr)
    (fun u hu => by
      obtain ⟨x, hx1, hx2⟩ := List.mem_flatMap.1 hu
      exact h1 x hx1 u hx2)
    (by unfold maxLen; omega) (Nat.le_trans (Nat.mul_le_mul (show n + m ≤ 1000000001 by omega) hy0) (by omega)) hbase
  have hb : Below base w w' := (Below.refl base w).grown h3 hbase (fun k hk => (World.ownsRow.lt hown.1 k hk).1)
  have hv : ∃ A' c', v' = .slice A' (n + m) c' ∧ A' ≠ none := by
    rcases h2.2 with ⟨e1, e2⟩ | ⟨g, cap, cur, e1, _⟩
    · exfalso
      have e3 := h4.1 e1
      injection e3.1 with e5
      rcases hA with h | h
      · exact h e5
      · exact h e3.2
    · exact ⟨_, _, e1, by simp⟩
  obtain ⟨A', c', rfl, hA'⟩ := hv
  refine ⟨A', c', w', by rw [run_append_tt w ht ht']; exact hrun, ⟨?_, ?_, ?_⟩, hb, hA', fun x hx hne => h3.block x hx fun e => by
    cases A with
    | none => cases e
    | some a => injection e with e; exact hne a rfl e.symm, ?_⟩
  · rw [show celV (l ++ xs) = celV l ++ celV xs by simp [celV]]
    exact h2
  · intro cs hc
    rcases List.mem_append.1 hc with h | h
    · exact hown.2.1 cs h
    · exact hx cs h
  · rw [List.length_append, hown.2.2, hm]
  · have e1 : ∀ (A : Option Addr) n c, (Value.slice A n c).ownBlock = A.map (·.block) := fun A n c => by cases A <;> rfl
    rw [e1, e1] at h5
    exact h5
theorem wp_apM {P : Program} {w : World} {t t' e' el : TypeId} {i : TypeInfo} {z y : Nat} {zv : Value} {base : Nat} {A : Option Addr} {ad : Addr} {n c m d : Nat} {l xs : List (Array Value)} {o : Oper} {a : Act} {Q : Exit → Act → World → Prop} {K : Act → World → Prop} (s x : Operand) (ho : o.op = .call { callee := .builtin .append, args := #[s, x], argTypes := #[t, t'] })
    (ht : P.underlying t = some (.slice el)) (ht' : P.underlying t' = some (.slice e')) (hi : P.info? el = some i) (hz : i.zero = some zv) (hs : i.size = z) (hy : i.bytes = y) (hzs : zv.cells.size = z) (hz0 : 0 < z) (hy0 : y ≤ 1000)
    (e1 : a.eval s = .slice A n c) (e2 : a.eval x = .slice (some ad) m d) (hown : OwnX el z base w A n c l) (hx : Szd z xs) (hm : xs.length = m) (h1 : ∀ x, x ∈ xs → ∀ u ∈ x.toList, u.oneCell' = true) (hr : ∀ k cs, xs[k]? = some cs → ∀ j v, cs[j]? = some v → w.cell? (ad.add (k * z + j)) = some v) (hsz : n + m ≤ 1000000000) (hbase : base ≤ w.heap.size) (hA : A ≠ none ∨ m ≠ 0)
    (h : ∀ A' c' w', OwnX el z base w' A' (n + m) c' (l ++ xs) → Below base w w' → A' ≠ none → (∀ x, x < w.heap.size → (∀ a, A = some a → a.block ≠ x) → w'.heap[x]? = w.heap[x]?) → (A'.map (·.block) = A.map (·.block) ∨ A'.map (·.block) = some w.heap.size) → K (a.put o.dst (.slice A' (n + m) c')) w') : o.wp P a w K Q := by
  obtain ⟨A', c', w', hrun, k1, k2, k3, k4, k5⟩ := run_apM (P := P) (ty := o.type) (d := d) w ht ht' hi hz hs hy hzs hz0 hy0 hown hx hm h1 hr hsz hbase hA
  unfold Oper.wp execOp
  simp only [ho, resolve, invoke, builtin, Sem.run_bind, Sem.run_pure, Result.andThen_ok, List.map_toArray, List.map_cons, List.map_nil, e1, e2, hrun]
  exact h A' c' w' k1 k2 k3 k4 k5
theorem wr_szd (ws : List Wr) : Szd 10 (ws.map Wr.cells) := fun cs hc => by
  obtain ⟨x, _, rfl⟩ := List.mem_map.1 hc
  rfl
theorem wr_ones (ws : List Wr) : ∀ x, x ∈ ws.map Wr.cells → ∀ u ∈ x.toList, u.oneCell' = true := fun cs hc u hu => by
  obtain ⟨x, _, rfl⟩ := List.mem_map.1 hc
  have h := wr_oneC x
  rw [Array.all_eq_true'] at h
  exact h u (Array.mem_toList_iff.1 hu)
theorem RdW.cells {B : Nat} {W : World} {ad : Addr} {ws : List Wr} (h : RdW B W (some ad) ws) : ∀ k cs, (ws.map Wr.cells)[k]? = some cs → ∀ j v, cs[j]? = some v → W.cell? (ad.add (k * 10 + j)) = some v := fun k cs hk j v hv => by
  rw [List.getElem?_map] at hk
  cases hx : ws[k]? with
  | none => rw [hx] at hk; cases hk
  | some x =>
    rw [hx] at hk
    injection hk with hk
    subst hk
    obtain ⟨ad2, e, _, hc⟩ := h k x hx
    injection e with e
    subst e
    exact hc j v hv
theorem RdW.lo {B : Nat} {W : World} {ad : Addr} {ws : List Wr} (h : RdW B W (some ad) ws) (k : Nat) : RdW B W (some (ad.add (k * 10))) (ws.drop k) := fun j x hx => by
  rw [List.getElem?_drop] at hx
  obtain ⟨ad2, e, hb, hc⟩ := h (k + j) x hx
  injection e with e
  subst e
  refine ⟨_, rfl, by rw [add_block]; exact hb, fun i v hv => ?_⟩
  rw [add_add', show k * 10 + (j * 10 + i) = (k + j) * 10 + i by omega]
  exact hc i v hv
theorem RdW.hi {B : Nat} {W : World} {A : Option Addr} {ws : List Wr} (h : RdW B W A ws) (k : Nat) : RdW B W A (ws.take k) := fun j x hx => h j x (by
  rw [List.getElem?_take] at hx
  split at hx
  · exact hx
  · cases hx)
section
variable {P : Program} {l : List Oper} {Q : Exit → Act → World → Prop} {S : World → Prop} {fuel : Nat} {listed : Array Bool} {rest : List Oper} {a0 : Act} {L : List (Nat × Bool × Value)} {w : World}
/-- An operation of a plain region, by what it does. -/
theorem fl_wp {o : Oper} {d n : Nat} {R : Value → World → Prop} (hn : a0.tmps.size = n) (hX : ∀ K : Act → World → Prop, (∀ v w2, R v w2 → K ((fr a0 L).put (some d) v) w2) → (∀ p, p ∈ L → p.1 < a0.tmps.size) → o.wp P (fr a0 L) w K Q)
    (h : ∀ v w2, R v w2 → FL P l Q rest a0 ((d, true, v) :: L) w2) (hd : Nat.blt d n = true) (hw : wtG l L o.guard = some true) : FL P l Q (o :: rest) a0 L w := by
  refine ⟨fun hk => ?_⟩
  refine wpList_step fun K hK => ?_
  rw [wt_is hk hw, if_pos rfl]
  exact hX K (fun v w2 hR => hK _ _ ((h v w2 hR).go (bd_more hn hd hk))) hk
end
section
variable {l : List Oper} {Q : Exit → Act → World → Prop} {S : World → Prop} {fuel : Nat} {listed : Array Bool} {rest : List Oper} {a0 : Act} {L : List (Nat × Bool × Value)} {w : World}
end
theorem OwnX.onlyG {t : TypeId} {z base : Nat} {W W' : World} {A : Option Addr} {n c : Nat} {l : List (Array Value)} {g : Nat} (h : OwnX t z base W A n c l) (ho : Only1 g W W') (hg : g < base) : OwnX t z base W' A n c l := by
  refine ⟨⟨h.1.1, ?_⟩, h.2⟩
  rcases h.1.2 with h | ⟨g2, cap, cur, h1, h2, h3, h4⟩
  · exact .inl h
  · exact .inr ⟨g2, cap, cur, h1, h2, (ho.block g2 (by omega)).trans h3, h4⟩
theorem OwnX.blkLt {t : TypeId} {z base : Nat} {W : World} {A : Option Addr} {n c : Nat} {l : List (Array Value)} (h : OwnX t z base W A n c l) : ∀ a, A = some a → a.block < W.heap.size := fun a ha => (h.blk ha).2
theorem Blk.keep' {W W1 : World} {b B : Nat} {cs : Array Value} {t : TypeId} (h : Blk W b cs t) (hb : Below B W W1) (hB : b < B) : Blk W1 b cs t := (hb.block b hB).trans h
end Go.Proofs.Ytokkmofcijfmiab
