/-
  WHAT IS PROVED: fresh.Each of writes, fresh.Writes: a row of their own of the same writes. Conditions: those typed in each theorem.
-/
import Derived.Test.YtkfhkfddhijkcaaRoF
import Derived.Test.YtkfhkfddhijkcaaApX
namespace Go.Proofs.Ytkfhkfddhijkcaa
open Go.RowKit

theorem en_spinney_fresh_Each_spinney_api_Write : ∀ args w, (callFunc 105 args).run Try.prog w = .ok (.enter 105 args) w := enters_of Try.func105 (by kernel_rfl) rfl
theorem en_spinney_fresh_Writes : ∀ args w, (callFunc 71 args).run Try.prog w = .ok (.enter 71 args) w := enters_of Try.func71 (by kernel_rfl) rfl

/-- Cells that stand in order are the row. -/
theorem row_is {cs : Array Value} {l : List (Array Value)} {z n : Nat} (hz : 0 < z) (hs : Szd z l) (hl : l.length = n) (hsz : cs.size = n * z) (h : ∀ i c, l[i]? = some c → ∀ j v, c[j]? = some v → cs[i * z + j]? = some v) : cs.toList = celV l := by
  refine List.ext_getElem? fun i => ?_
  have hlen := celV_len l hs
  by_cases hi : i < n * z
  · have hk : i / z < l.length := by rw [hl]; exact Nat.div_lt_of_lt_mul (by rw [Nat.mul_comm]; exact hi)
    have hx : l[i / z]? = some l[i / z] := List.getElem?_eq_getElem hk
    have hsz2 := hs _ (List.getElem_mem hk)
    have hj : i % z < l[i / z].size := by rw [hsz2]; exact Nat.mod_lt _ hz
    have hv : l[i / z][i % z]? = some l[i / z][i % z] := Array.getElem?_eq_getElem hj
    have h2 := celV_get l hs (i / z) (i % z) _ _ hx hv
    have h3 := h _ _ hx _ _ hv
    rw [Nat.div_add_mod' i z] at h2 h3
    rw [h2, Array.getElem?_toList, h3]
  · have h1 : (celV l).length ≤ i := by rw [hlen, hl]; omega
    have h2 : cs.toList.length ≤ i := by rw [Array.length_toList, hsz]; omega
    rw [List.getElem?_eq_none h1, List.getElem?_eq_none h2]
theorem own_of {t : TypeId} {z base n g : Nat} {W : World} {cs : Array Value} {l : List (Array Value)} (hz : 0 < z) (hX : Blk W g cs t) (hb : base ≤ g) (hm : n ≤ maxLen) (hs : Szd z l) (hl : l.length = n) (hsz : cs.size = n * z) (h : ∀ i c, l[i]? = some c → ∀ j v, c[j]? = some v → cs[i * z + j]? = some v) : OwnX t z base W (some ⟨g, 0, none⟩) n n l := by
  have e := row_is hz hs hl hsz h
  refine ⟨⟨by rw [celV_len l hs, hl], .inr ⟨g, n, cs, rfl, hb, hX, Nat.le_refl _, hm, hsz, ?_⟩⟩, hs, hl⟩
  rw [e, List.take_of_length_le (by rw [celV_len l hs, hl]; exact Nat.le_refl _)]
theorem setL_getQ : ∀ (vs : List Value) (cs : Array Value) (j : Nat), j + vs.length ≤ cs.size → ∀ i, (setL cs j vs)[i]? = if j ≤ i ∧ i < j + vs.length then vs[i - j]? else cs[i]?
  | [], cs, j, _, i => by
    rw [if_neg (by simp)]
    rfl
  | v :: r, cs, j, h, i => by
    have hlt : j < cs.size := by simp at h; omega
    show (setL (cs.setIfInBounds j v) (j + 1) r)[i]? = _
    rw [setL_getQ r _ (j + 1) (by simp at h ⊢; omega) i]
    simp only [List.length_cons]
    by_cases e : i = j
    · subst e
      rw [if_neg (by omega), if_pos (by omega), Array.getElem?_setIfInBounds_self_of_lt hlt]
      simp
    · by_cases h2 : j + 1 ≤ i ∧ i < j + 1 + r.length
      · rw [if_pos h2, if_pos (by omega), show i - j = (i - (j + 1)) + 1 by omega]
        rfl
      · rw [if_neg h2, if_neg (by omega), Array.getElem?_setIfInBounds_ne (by omega)]
theorem setL_sizeQ : ∀ (vs : List Value) (j : Nat) (cs : Array Value), (setL cs j vs).size = cs.size
  | [], _, _ => rfl
  | v :: r, j, cs => by
    show (setL (cs.setIfInBounds j v) (j + 1) r).size = _
    rw [setL_sizeQ r, Array.size_setIfInBounds]
/-- One more of a row stands. -/
theorem row_next {cs c : Array Value} {l : List (Array Value)} {z n k : Nat} (hs : Szd z l) (hl : l.length = n) (hsz : cs.size = n * z) (hx : l[k]? = some c) (h : ∀ i c, i < k → l[i]? = some c → ∀ j v, c[j]? = some v → cs[i * z + j]? = some v) :
    (setL cs (k * z) c.toList).size = n * z ∧ ∀ i d, i < k + 1 → l[i]? = some d → ∀ j v, d[j]? = some v → (setL cs (k * z) c.toList)[i * z + j]? = some v := by
  refine ⟨by rw [setL_sizeQ, hsz], fun i d hi hd j v hv => ?_⟩
  have hk : k < n := by rw [← hl]; exact (List.getElem?_eq_some_iff.1 hx).1
  have hcz := hs c (List.mem_of_getElem? hx)
  have hdz := hs d (List.mem_of_getElem? hd)
  have hj : j < z := by rw [← hdz]; exact (Array.getElem?_eq_some_iff.1 hv).1
  have hle : (k + 1) * z ≤ n * z := Nat.mul_le_mul_right z hk
  rw [Nat.succ_mul] at hle
  rw [setL_getQ _ _ _ (by rw [Array.length_toList, hcz, hsz]; exact hle), Array.length_toList, hcz]
  by_cases e : i = k
  · subst e
    rw [hx] at hd
    injection hd with hd
    subst hd
    rw [if_pos (by omega), show i * z + j - i * z = j by omega, Array.getElem?_toList]
    exact hv
  · have h2 : (i + 1) * z ≤ k * z := Nat.mul_le_mul_right z (by omega)
    rw [Nat.succ_mul] at h2
    rw [if_neg (by omega)]
    exact h i d (by omega) hd j v hv
theorem run_makeWQ (W : World) (n : Nat) (hn : n ≤ 1000000) :
    (Instr.makeSlice 30 (.int .i64 (n : Int)) (.int .i64 (n : Int))).run Try.prog W = .ok (.slice (some ⟨W.heap.size, 0, none⟩) n n) (W.alloc (.cells (madeCells (wrI 0 0 0 ⟨#[]⟩ 0 0 ⟨#[]⟩ 0 0 ⟨#[]⟩) (n * 10)) 39)) := by
  obtain ⟨i0, hi0, hz0, hz1, hz2⟩ := info_parts wr_infoM
  have h := run_make W 30 39 i0 (.agg (wrI 0 0 0 ⟨#[]⟩ 0 0 ⟨#[]⟩ 0 0 ⟨#[]⟩)) Try.underlying30 hi0 hz0 .i64 .i64 (n : Int) (n : Int) (by omega) (Int.le_refl _) (by rw [hz2]; omega) (by omega)
  rw [Int.toNat_natCast, hz1] at h
  exact h
/-- What a write's texts may be. -/
def Fit (x : Wr) : Prop := x.ky.size ≤ 1000000 ∧ x.sa.size ≤ 1000000 ∧ x.sb.size ≤ 1000000
theorem map_getQ {ws : List Wr} {k : Nat} {x : Wr} (h : ws[k]? = some x) : (ws.map Wr.cells)[k]? = some x.cells := by rw [List.getElem?_map, h]; rfl
set_option maxRecDepth 100000 in
set_option maxHeartbeats 4000000 in
theorem eachW_any {C : Nat} (A : Option Addr) (n c : Nat) (ws : List Wr) (w : World) (hn0 : ws.length = n) (hr : RdW C w A ws) (hC : C ≤ w.heap.size) (hm : n ≤ 1000000) (hf : ∀ x, x ∈ ws → Fit x) : Calls Try.prog 105 #[.slice A n c, .func (.func 74) #[] #[]] w (OwnR ws w) := by
  have hmk : ∀ W : World, (Instr.makeSlice 30 (.int .i64 (n : Int)) (.int .i64 (n : Int))).run Try.prog W = .ok (.slice (some ⟨W.heap.size, 0, none⟩) n n) (W.alloc (.cells (madeCells (wrI 0 0 0 ⟨#[]⟩ 0 0 ⟨#[]⟩ 0 0 ⟨#[]⟩) (n * 10)) 39)) := fun W => run_makeWQ W n hm
  have HN := Lib.hid hn0
  have HR := Lib.hid (fun W (h : Below w.heap.size w W) => hr.keep (W' := W) h hC)
  have HF := Lib.hid hf
  have hK0 := blk_new w (madeCells (wrI 0 0 0 ⟨#[]⟩ 0 0 ⟨#[]⟩ 0 0 ⟨#[]⟩) (n * 10)) 39
  have hba := b0 w (.cells (madeCells (wrI 0 0 0 ⟨#[]⟩ 0 0 ⟨#[]⟩ 0 0 ⟨#[]⟩) (n * 10)) 39)
  have hcs : (madeCells (wrI 0 0 0 ⟨#[]⟩ 0 0 ⟨#[]⟩ 0 0 ⟨#[]⟩) (n * 10)).size = n * 10 := by simp [madeCells]
  clear hn0 hr hf
  go_enter Try.func105, Try.ntmps105
  go_upto_region 2 with fail
  generalize w.alloc (.cells (madeCells (wrI 0 0 0 ⟨#[]⟩ 0 0 ⟨#[]⟩ 0 0 ⟨#[]⟩) (n * 10)) 39) = W at hK0 hba ⊢
  generalize madeCells (wrI 0 0 0 ⟨#[]⟩ 0 0 ⟨#[]⟩ 0 0 ⟨#[]⟩) (n * 10) = cs0 at hK0 hcs
  clear hmk
  generalize hgg : w.heap.size = g at hK0 hba HR ⊢
  go_wp2_with fail
  go_loopw [6, 7, 13] (fun _ _ i wr => ∃ (k : Nat) (cs : Array Value), k ≤ n ∧ i = .int .i64 k ∧ Blk wr g cs 39 ∧ cs.size = n * 10 ∧ Hid (∀ i c, i < k → (ws.map Wr.cells)[i]? = some c → ∀ j v, c[j]? = some v → cs[i * 10 + j]? = some v) ∧ Below g w wr) (fun _ _ i _ => n - (intOf i).toNat)
  case atStart => exact ⟨0, cs0, Nat.zero_le _, rfl, hK0, hcs, fun i x hi => by omega, hba⟩
  case round =>
    clear hK0 hcs hba
    obtain ⟨k, cs, hk, rfl, hK, hcs, hA, hW⟩ := hrel
    by_cases hlt : k < n
    · obtain ⟨x, hx⟩ : ∃ x, ws[k]? = some x := ⟨_, List.getElem?_eq_getElem (show k < ws.length by have := HN.out; omega)⟩
      obtain ⟨ad, rfl, _, hc⟩ := HR.out wr hW k x hx
      have i2 : (k : Int) < (n : Int) := by omega
      have HX := Lib.hid hx
      obtain ⟨g1, g2, g3⟩ := HF.out x (List.mem_of_getElem? hx)
      have ix := wix wr ad n c k hlt
      have ld := wld hc
      clear hx hc
      go_upto_region 4 with fail
      refine wp_region_lit ?_
      refine fl_start ?_
      generalize ha : Act.mk _ _ = a0
      have hn : a0.tmps.size = 26 := by rw [← ha]; kernel_rfl
      have h11 : (fr a0 []).eval (.tmp 11) = .slice (some ad) n c := by rw [← ha]; kernel_rfl
      refine fl_know hn rfl h11 ?_
      clear h11
      have h13 : (fr a0 [(11, true, .slice (some ad) n c)]).eval (.tmp 13) = .int .i64 (k : Int) := by rw [← ha]; kernel_rfl
      refine fl_know hn rfl h13 ?_
      clear h13
      refine g_mv hn ?_
      refine g_ix hn ?_
      refine g_ld hn ?_
      refine al_row hn (alW wr) ?_
      intro q w2 hq hY hB2
      refine g_as hn ?_
      refine g_str hY ?_ (h1 := wr_oneC x)
      intro w3 ho hY3
      refine fl_end ?_
      clear hn
      subst ha
      dsimp only [fr, cnd, Act.put, cond_true]
      simp only [List.setIfInBounds_toArray, List.set_cons_zero, List.set_cons_succ]
      have hW3 : Below wr.heap.size wr w3 := hB2.trans (ho.below (by omega))
      have hK3 := hK.keep hW3
      have hB3 : Below g w w3 := hW.trans (hW3.mono (by have := hK.lt; omega))
      have hqg : g < q := by have := hK.lt; omega
      clear ix ld hY hB2 ho hW3 hK hW
      have lY := wld_blk hY3
      have cF := freshWr_any x w3 g1 g2 g3
      go_upto_region 5 with fail
      refine wp_region_lit ?_
      refine fl_start ?_
      generalize ha : Act.mk _ _ = a0
      have hn : a0.tmps.size = 26 := by rw [← ha]; kernel_rfl
      have h1 : (fr a0 []).eval (.tmp 1) = .func (.func 74) #[] #[] := by rw [← ha]; kernel_rfl
      refine fl_know hn rfl h1 ?_
      clear h1
      have h5 : (fr a0 [(1, true, .func (.func 74) #[] #[])]).eval (.tmp 5) = .slice (some ⟨g, 0, none⟩) n n := by rw [← ha]; kernel_rfl
      refine fl_know hn rfl h5 ?_
      clear h5
      have h6 : (fr a0 [(5, true, .slice (some ⟨g, 0, none⟩) n n), (1, true, .func (.func 74) #[] #[])]).eval (.tmp 6) = .int .i64 (k : Int) := by rw [← ha]; kernel_rfl
      refine fl_know hn rfl h6 ?_
      clear h6
      have h7 : (fr a0 [(6, true, .int .i64 (k : Int)), (5, true, .slice (some ⟨g, 0, none⟩) n n), (1, true, .func (.func 74) #[] #[])]).eval (.tmp 7) = .pointer (some ⟨q, 0, none⟩) := by rw [← ha]; kernel_rfl
      refine fl_know hn rfl h7 ?_
      clear h7
      refine g_mv hn ?_
      refine g_mv hn ?_
      refine g_mv hn ?_
      refine g_ld hn ?_
      refine g_cfC (v := .agg x.cells) (lb := #[]) en_spinney_fresh_Write hn (R := fun v w2 => v = .agg x.cells ∧ Below w3.heap.size w3 w2) (cF.mono fun _ _ ⟨he, hb2⟩ => ⟨_, he, rfl, hb2⟩) ?_
      rintro v w4 ⟨rfl, hB4⟩
      have hK4 := hK3.keep hB4
      have ix := wix w4 ⟨g, 0, none⟩ n n k hlt
      rw [zeroX_at] at ix
      refine g_ix hn ?_
      refine g_stm hK4 ?_ (h1 := wr_oneC x) (hs := by rw [hcs]; show k * 10 + 10 ≤ n * 10; omega)
      intro w5 ho5 hK5
      refine fl_end ?_
      clear hn
      subst ha
      dsimp only [fr, cnd, Act.put, cond_true]
      simp only [List.setIfInBounds_toArray, List.set_cons_zero, List.set_cons_succ]
      have hB5 : Below g w w5 := (hB3.trans (hB4.mono (by have := hK3.lt; omega))).trans (ho5.below (Nat.le_refl _))
      obtain ⟨hcs5, hA5⟩ := row_next (wr_szd ws) (by rw [List.length_map]; exact HN.out) hcs (map_getQ HX.out) hA.out
      have HA5 := Lib.hid hA5
      generalize setL cs (k * 10) x.cells.toList = cs5 at hK5 hcs5 HA5
      clear lY cF ix hK3 hB3 hB4 hK4 ho5 hA hA5 hY3 hcs
      go_wp2_with fail
      go_roundw
      case rel => exact ⟨k + 1, cs5, by omega, by go_num, hK5, hcs5, HA5, hB5⟩
      case measure => simp [intOf]; omega
    · have hq : ¬ (k : Int) < (n : Int) := by omega
      have hO := own_of (base := g) (by decide) hK (Nat.le_refl _) (by unfold maxLen; omega) (wr_szd ws) (by rw [List.length_map]; exact HN.out) hcs (fun i c hi j v hv => hA.out i c (by have := (List.getElem?_eq_some_iff.1 hi).1; rw [List.length_map] at this; have := HN.out; omega) hi j v hv)
      clear hA hK
      go_wp2_with fail
      go_ret
      unfold OwnR
      rw [hgg]
      exact ⟨some ⟨g, 0, none⟩, n, n, rfl, hO, by first | exact hW | (rw [hgg]; exact hW)⟩
set_option maxRecDepth 100000 in
set_option maxHeartbeats 4000000 in
theorem freshWs_any {C : Nat} (A : Option Addr) (n c : Nat) (ws : List Wr) (w : World) (hn0 : ws.length = n) (hr : RdW C w A ws) (hC : C ≤ w.heap.size) (hm : n ≤ 1000000) (hf : ∀ x, x ∈ ws → Fit x) : Calls Try.prog 71 #[.slice A n c] w (OwnR ws w) := by
  have c1 := eachW_any A n c ws w hn0 hr hC hm hf
  go_enter Try.func71, Try.ntmps71
  go_wp2_with fail
  refine c1.mono ?_
  rintro e w2 ⟨A2, n2, c2, rfl, hO, hB⟩
  go_wp2_with fail
  go_ret
  exact ⟨A2, n2, c2, rfl, hO, hB⟩
end Go.Proofs.Ytkfhkfddhijkcaa
