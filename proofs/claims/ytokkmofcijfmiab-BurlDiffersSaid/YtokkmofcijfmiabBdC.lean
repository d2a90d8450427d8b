/-
  WHAT IS PROVED: slices.Equal of rows of the same texts; package burl's Differ: the keys at which good cells are unlike, each once, rising. Conditions: those typed in each theorem.
-/
import Derived.Test.YtokkmofcijfmiabGQ15
import Derived.Test.YtokkmofcijfmiabBuJ
import Derived.Test.YtokkmofcijfmiabCv
import Derived.Test.YtokkmofcijfmiabGQ7
namespace Go.Proofs.Ytokkmofcijfmiab
open Go.RowKit

theorem en_spinney_burl_Differ : ∀ args w, (callFunc 7 args).run Try.prog w = .ok (.enter 7 args) w := enters_of Try.func7 (by kernel_rfl) rfl
theorem en_slices_Equal_string_string : ∀ args w, (callFunc 10 args).run Try.prog w = .ok (.enter 10 args) w := enters_of Try.func10 (by kernel_rfl) rfl
theorem en_slices_Sort_string_string : ∀ args w, (callFunc 25 args).run Try.prog w = .ok (.enter 25 args) w := enters_of Try.func25 (by kernel_rfl) rfl
theorem en_slices_Compact_string_string : ∀ args w, (callFunc 27 args).run Try.prog w = .ok (.enter 27 args) w := enters_of Try.func27 (by kernel_rfl) rfl
theorem en_spinney_fresh_Texts : ∀ args w, (callFunc 26 args).run Try.prog w = .ok (.enter 26 args) w := enters_of Try.func26 (by kernel_rfl) rfl

set_option maxRecDepth 100000 in
set_option maxHeartbeats 4000000 in
theorem eqS_same {C C2 : Nat} (A : Option Addr) (n c : Nat) (A2 : Option Addr) (c2 : Nat) (l : List ByteArray) (w : World) (hn0 : l.length = n) (hr : RdS C w A l) (hr2 : RdS C2 w A2 l) (hC : C ≤ w.heap.size) (hC2 : C2 ≤ w.heap.size) (hm : n ≤ 1000000) : Calls Try.prog 10 #[.slice A n c, .slice A2 n c2] w fun e w' => e = .returned (.bool true) ∧ Below w.heap.size w w' := by
  have HN := Lib.hid hn0
  have HR := Lib.hid (fun W (h : Kp w W) => hr.keep (W' := W) h.below hC)
  have HR2 := Lib.hid (fun W (h : Kp w W) => hr2.keep (W' := W) h.below hC2)
  clear hn0 hr hr2
  go_enter Try.func10, Try.ntmps10
  go_wp2_with fail
  go_loopw [5, 13] (fun _ i wr => ∃ k : Nat, k ≤ n ∧ i = .int .i64 k ∧ Kp w wr) (fun _ i _ => n - (intOf i).toNat)
  case atStart => exact ⟨0, Nat.zero_le _, rfl, Kp.refl _⟩
  case round =>
    obtain ⟨k, hk, rfl, hK⟩ := hrel
    by_cases hlt : k < n
    · obtain ⟨x, hx⟩ : ∃ x, l[k]? = some x := ⟨_, List.getElem?_eq_getElem (show k < l.length by have := HN.out; omega)⟩
      obtain ⟨ad, rfl, hb1, hc1⟩ := HR.out wr hK k x hx
      obtain ⟨ad2, rfl, hb2, hc2⟩ := HR2.out wr hK k x hx
      have i2 : (k : Int) < (n : Int) := by omega
      have ix1 : ∀ W, Kp wr W → _ := fun W _ => six W ad n c k hlt
      have ix2 : ∀ W, Kp wr W → _ := fun W _ => six W ad2 n c2 k hlt
      have hl1 : (ad.add k).block < wr.heap.size := World.block_lt_of_cell? wr _ hc1
      have hl2 : (ad2.add k).block < wr.heap.size := World.block_lt_of_cell? wr _ hc2
      have l1 : ∀ W, Kp wr W → (Instr.loadAt 9 (.pointer (some (ad.add k)))).run Try.prog W = .ok (.string x) W := fun W h => ld_str ((h.below.cell hl1).trans hc1)
      have l2 : ∀ W, Kp wr W → (Instr.loadAt 9 (.pointer (some (ad2.add k)))).run Try.prog W = .ok (.string x) W := fun W h => ld_str ((h.below.cell hl2).trans hc2)
      clear hx
      go_upto_region 6 with fail
      refine fc_start (S := Kp wr) (by kernel_rfl) (Kp.drew _) ?_
      generalize ha : Act.mk _ _ = a0
      have hn : a0.tmps.size = 26 := by rw [← ha]; kernel_rfl
      have h0 : (fr a0 []).eval (.tmp 0) = .slice (some ad) n c := by rw [← ha]; kernel_rfl
      refine fc_know hn rfl h0 ?_
      clear h0
      have h1 : (fr a0 [(0, true, .slice (some ad) n c)]).eval (.tmp 1) = .slice (some ad2) n c2 := by rw [← ha]; kernel_rfl
      refine fc_know hn rfl h1 ?_
      clear h1
      have h5 : (fr a0 [(1, true, .slice (some ad2) n c2), (0, true, .slice (some ad) n c)]).eval (.tmp 5) = .int .i64 (k : Int) := by rw [← ha]; kernel_rfl
      refine fc_know hn rfl h5 ?_
      clear h5
      refine c_mv 0 hn ?_
      refine c_mv 1 hn ?_
      refine c_ix 2 hn ?_
      refine c_ld 3 hn ?_
      refine c_mv 4 hn ?_
      refine c_mv 5 hn ?_
      refine c_ix 6 hn ?_
      refine c_ld 7 hn ?_
      refine c_bn 8 hn ?_ (v := .bool false) (hx := fun W _ => q_nev _ _ W x x (by simp))
      refine fc_end (fun w3 hS => ?_)
      clear hn
      subst ha
      dsimp only [fr, cnd, Act.put, cond_true]
      simp only [List.setIfInBounds_toArray, List.set_cons_zero, List.set_cons_succ]
      have hK2 := Kp.trans hK hS.below
      clear ix1 ix2 hl1 hl2 l1 l2 hS hK hc1 hc2
      go_wp2_with fail
      go_roundw
      case rel => exact ⟨k + 1, by omega, by go_num, hK2⟩
      case measure => simp [intOf]; omega
    · have i2 : ¬ (k : Int) < (n : Int) := by omega
      go_wp2_with fail
      go_ret
      exact ⟨rfl, hK.below⟩
/-- What Differ answers of good cells. -/
def DifP (a b : List Cl) (w : World) (e : Ending) (w' : World) : Prop := (∃ (A3 : Option Addr) (n3 c3 : Nat) (R : List ByteArray), e = .returned (.tuple #[.slice A3 n3 c3, .int .i64 0]) ∧ R.length = n3 ∧ RdS w'.heap.size w' A3 R ∧ n3 ≤ 100000 ∧ RiseS R ∧ ∀ k, k ∈ R ↔ DiffK a b k) ∧ Below w.heap.size w w'
set_option maxRecDepth 100000 in
set_option maxHeartbeats 4000000 in
theorem differ_bad1 (A : Option Addr) (n c : Nat) (A2 : Option Addr) (m d : Nat) (a b : List Cl) (w : World) (hn : a.length = n) (hr : RdX 4 w.heap.size w A (a.map Cl.cells)) (hm : n ≤ 1000) (hf : ∀ x, x ∈ a → x.fits) (hn2 : b.length = m) (hr2 : RdX 4 w.heap.size w A2 (b.map Cl.cells)) (hm2 : m ≤ 1000) (hf2 : ∀ x, x ∈ b → x.fits) (hg : goodCls a = false) : Calls Try.prog 7 #[.slice A n c, .slice A2 m d] w fun e w' => e = .returned (.tuple #[.slice none 0 0, .int .i64 2]) ∧ Below w.heap.size w w' := by
  have cG := goodCs_any A n c a w hn hr (Nat.le_trans hm (by decide)) hf
  rw [hg] at cG
  go_enter Try.func7, Try.ntmps7
  go_wp2_with fail
  refine cG.mono ?_
  rintro e w1 ⟨rfl, hb1⟩
  go_wp2_with fail
  go_ret2
  exact ⟨rfl, hb1⟩
set_option maxRecDepth 100000 in
set_option maxHeartbeats 4000000 in
theorem differ_bad2 (A : Option Addr) (n c : Nat) (A2 : Option Addr) (m d : Nat) (a b : List Cl) (w : World) (hn : a.length = n) (hr : RdX 4 w.heap.size w A (a.map Cl.cells)) (hm : n ≤ 1000) (hf : ∀ x, x ∈ a → x.fits) (hn2 : b.length = m) (hr2 : RdX 4 w.heap.size w A2 (b.map Cl.cells)) (hm2 : m ≤ 1000) (hf2 : ∀ x, x ∈ b → x.fits) (hg : goodCls a = true) (hg2 : goodCls b = false) : Calls Try.prog 7 #[.slice A n c, .slice A2 m d] w fun e w' => e = .returned (.tuple #[.slice none 0 0, .int .i64 2]) ∧ Below w.heap.size w w' := by
  have cG := goodCs_any A n c a w hn hr (Nat.le_trans hm (by decide)) hf
  rw [hg] at cG
  go_enter Try.func7, Try.ntmps7
  go_wp2_with fail
  refine cG.mono ?_
  rintro e w1 ⟨rfl, hb1⟩
  have cG2 := goodCs_any A2 m d b w1 hn2 ((hr2.keep hb1 (Nat.le_refl _)).more hb1.size) (Nat.le_trans hm2 (by decide)) hf2
  rw [hg2] at cG2
  go_wp2_with fail
  refine cG2.mono ?_
  rintro e w2 ⟨rfl, hb2⟩
  have hB2 : Below w.heap.size w w2 := hb1.trans (hb2.mono hb1.size)
  go_wp2_with fail
  go_ret2
  exact ⟨rfl, hB2⟩
set_option maxRecDepth 100000 in
set_option maxHeartbeats 4000000 in
theorem differ_good (A : Option Addr) (n c : Nat) (A2 : Option Addr) (m d : Nat) (a b : List Cl) (w : World) (hn : a.length = n) (hr : RdX 4 w.heap.size w A (a.map Cl.cells)) (hm : n ≤ 1000) (hf : ∀ x, x ∈ a → x.fits) (hn2 : b.length = m) (hr2 : RdX 4 w.heap.size w A2 (b.map Cl.cells)) (hm2 : m ≤ 1000) (hf2 : ∀ x, x ∈ b → x.fits) (hg : goodCls a = true) (hg2 : goodCls b = true) : Calls Try.prog 7 #[.slice A n c, .slice A2 m d] w (DifP a b w) := by
  have HN := Lib.hid hn
  have HN2 := Lib.hid hn2
  have HR := Lib.hid (fun W (h : Below w.heap.size w W) => (hr.keep (W' := W) h (Nat.le_refl _)).more h.size)
  have HR2 := Lib.hid (fun W (h : Below w.heap.size w W) => (hr2.keep (W' := W) h (Nat.le_refl _)).more h.size)
  have hA1 : ∀ x, x ∈ a → x.ky.size ≤ 1000 ∧ x.s.size ≤ 1000 := fun x hx => by have h := cl_in (goodCls_mem hg x hx); omega
  have hA2 : ∀ x, x ∈ b → x.ky.size ≤ 1000 ∧ x.s.size ≤ 1000 := fun x hx => by have h := cl_in (goodCls_mem hg2 x hx); omega
  have HD := Lib.hid (diff_is hg hg2)
  have cG := goodCs_any A n c a w hn hr (Nat.le_trans hm (by decide)) hf
  rw [hg] at cG
  go_enter Try.func7, Try.ntmps7
  go_wp2_with fail
  refine cG.mono ?_
  rintro e w1 ⟨rfl, hb1⟩
  have cG2 := goodCs_any A2 m d b w1 hn2 ((hr2.keep hb1 (Nat.le_refl _)).more hb1.size) (Nat.le_trans hm2 (by decide)) hf2
  rw [hg2] at cG2
  go_wp2_with fail
  refine cG2.mono ?_
  rintro e w2 ⟨rfl, hb2⟩
  have hB2 : Below w.heap.size w w2 := hb1.trans (hb2.mono hb1.size)
  have cO := buOf_any A n c a w2 HN.out (HR.out w2 hB2) (by omega) hf (goodCls_mem hg)
  clear cG cG2 hr hr2 hn hn2 hb1 hb2
  go_upto_region 4 with fail
  refine wp_region_lit ?_
  refine fl_start ?_
  generalize ha : Act.mk _ _ = a0
  have hn : a0.tmps.size = 51 := by rw [← ha]; kernel_rfl
  have h0 : (fr a0 []).eval (.tmp 0) = .slice A n c := by rw [← ha]; kernel_rfl
  refine fl_know hn rfl h0 ?_
  clear h0
  have h1 : (fr a0 [(0, true, .slice A n c)]).eval (.tmp 1) = .slice A2 m d := by rw [← ha]; kernel_rfl
  refine fl_know hn rfl h1 ?_
  clear h1
  refine g_mv hn ?_
  refine g_c1x en_spinney_burl_of hn (R := fun v w3 => v = .agg (burlC a) ∧ Below w2.heap.size w2 w3) (cO.mono fun _ _ ⟨he, hb3⟩ => ⟨_, he, rfl, hb3⟩) ?_
  rintro v w3 ⟨rfl, hb3⟩
  have hB3 : Below w.heap.size w w3 := hB2.trans (hb3.mono hB2.size)
  refine g_mv hn ?_
  refine g_c1x en_spinney_burl_of hn (R := fun v w4 => v = .agg (burlC b) ∧ Below w3.heap.size w3 w4) ((buOf_any A2 m d b w3 HN2.out (HR2.out w3 hB3) (by omega) hf2 (goodCls_mem hg2)).mono fun _ _ ⟨he, hb4⟩ => ⟨_, he, rfl, hb4⟩) ?_
  rintro v w4 ⟨rfl, hb4⟩
  have hB4 : Below w.heap.size w w4 := hB3.trans (hb4.mono hB3.size)
  refine g_c2x en_spinney_burl_Part hn (R := fun v w5 => ∃ A5 n5 c5, v = .slice A5 n5 c5 ∧ OwnX tIn 1 w4.heap.size w5 A5 n5 c5 ((partsOf a b).map inC) ∧ Below w4.heap.size w4 w5) ((buPart_any _ _ _ _ w4 (lvTo_len a) (lvTo_len b)).mono fun _ _ ⟨A, n, c, he, hO, hb⟩ => ⟨_, he, A, n, c, rfl, hO, hb⟩) ?_
  rintro v w5 ⟨A5, n5, c5, rfl, hO5, hb5⟩
  refine g_ln hn ?_
  refine g_mc hn ?_
  refine fl_end ?_
  clear hn cO
  subst ha
  dsimp only [fr, cnd, Act.put, cond_true]
  simp only [List.setIfInBounds_toArray, List.set_cons_zero, List.set_cons_succ]
  have hP := hO5.rdi
  have hB5 : Below w.heap.size w w5 := hB4.trans (hb5.mono hB4.size)
  have hp5 : (partsOf a b).length = n5 := by
    have h := hO5.len
    rw [List.length_map] at h
    exact h
  have hp16 : n5 ≤ 16 := by
    rw [← hp5]
    exact parts_len _ _ _ _
  generalize partsOf a b = ps at hP hp5 HD
  clear hO5 hb3 hb4 hb5 hB2 hB3 hB4
  go_wp2_with fail
  go_loopw [6, 25] (fun t6 i wr => ∃ (k : Nat) (A6 : Option Addr) (n6 c6 : Nat) (ks : List ByteArray), k ≤ n5 ∧ i = .int .i64 k ∧ t6 = .slice A6 n6 c6 ∧ n6 ≤ k * 2000 ∧ OwnS w5.heap.size wr A6 n6 c6 ks ∧ Hid (∀ x, x ∈ ks ↔ ∃ j, j ∈ ps.take k ∧ (x ∈ unlC (atL a j) (atL b j) ∨ x ∈ unlC (atL b j) (atL a j))) ∧ Below w5.heap.size w5 wr ∧ Below w.heap.size w wr) (fun _ i _ => n5 - (intOf i).toNat)
  case atStart => exact ⟨0, none, 0, 0, [], Nat.zero_le _, rfl, rfl, Nat.zero_le _, OwnS.nil _ _, Lib.hid (by simp), Below.refl _ _, hB5⟩
  case round =>
    obtain ⟨k, A6, n6, c6, ks, hk, rfl, rfl, hn6, hO, hI, hW, hB⟩ := hrel
    by_cases hlt : k < n5
    · obtain ⟨j, hj⟩ : ∃ j, ps[k]? = some j := ⟨_, List.getElem?_eq_getElem (by omega)⟩
      obtain ⟨ad, rfl, hbk, hc⟩ := hP k j hj
      have c0 : wr.cell? (ad.add k) = some (.int .i64 j) := (hW.cell (by rw [add_block]; exact hbk)).trans hc
      have hT : ps.take (k + 1) = ps.take k ++ [j] := by rw [List.take_add_one, hj]; rfl
      have i4 : (0 : Int) ≤ (k : Int) := by omega
      have i5 : (k : Int) < (n5 : Int) := by omega
      clear hc hj
      go_wp2_with fail
      refine (at_any A n c a j wr HN.out (HR.out wr hB) (by omega) hA1).mono ?_
      rintro e w8 ⟨A8, n8, c8, rfl, hO8, hb8⟩
      have hB8 : Below w.heap.size w w8 := hB.trans (hb8.mono hB.size)
      have hK8 := hO.keep hb8
      go_wp2_with fail
      refine (at_any A2 m d b j w8 HN2.out (HR2.out w8 hB8) (by omega) hA2).mono ?_
      rintro e w9 ⟨A9, n9, c9, rfl, hO9, hb9⟩
      have hB9 : Below w.heap.size w w9 := hB8.trans (hb9.mono hB8.size)
      have hK9 := hK8.keep hb9
      have hW9 : Below w5.heap.size w5 w9 := (hW.trans (hb8.mono hW.size)).trans (hb9.mono (by have := hb8.size; have := hW.size; omega))
      have hl8 : (atL a j).length = n8 := by
        have h := hO8.len
        rw [List.length_map] at h
        exact h
      have hl9 : (atL b j).length = n9 := by
        have h := hO9.len
        rw [List.length_map] at h
        exact h
      have hn8 : n8 ≤ 1000 := by
        have := atL_len a j
        have := HN.out
        omega
      have hn9 : n9 ≤ 1000 := by
        have := atL_len b j
        have := HN2.out
        omega
      have hR8 := hO8.rd.keep hb9 (Nat.le_refl _)
      have hR9 := hO9.rd
      have hR8' := hR8.more hb9.size
      have hne8 : ∀ x, A8 = some x → some x.block ≠ A6.map (·.block) := fun x hx e => by
        have h1 := (hO8.blk hx).1
        cases A6 with
        | none => cases e
        | some y =>
          have h2 := (hO.blk rfl).2
          have e2 : x.block = y.block := by injection e
          omega
      have hne9 : ∀ x, A9 = some x → some x.block ≠ A6.map (·.block) := fun x hx e => by
        have h1 := (hO9.blk hx).1
        have h3 := hb8.size
        cases A6 with
        | none => cases e
        | some y =>
          have h2 := (hO.blk rfl).2
          have e2 : x.block = y.block := by injection e
          omega
      clear hO hO8 hO9 hK8 hb8 hb9 hB hB8 hW c0 hR8
      go_upto_region 8 with fail
      refine wp_region_lit ?_
      refine fl_start ?_
      generalize ha : Act.mk _ _ = a0
      have hn : a0.tmps.size = 51 := by rw [← ha]; kernel_rfl
      have h6 : (fr a0 []).eval (.tmp 6) = .slice A6 n6 c6 := by rw [← ha]; kernel_rfl
      refine fl_know hn rfl h6 ?_
      clear h6
      have h9 : (fr a0 [(6, true, .slice A6 n6 c6)]).eval (.tmp 9) = .slice A8 n8 c8 := by rw [← ha]; kernel_rfl
      refine fl_know hn rfl h9 ?_
      clear h9
      have h10 : (fr a0 [(9, true, .slice A8 n8 c8), (6, true, .slice A6 n6 c6)]).eval (.tmp 10) = .slice A9 n9 c9 := by rw [← ha]; kernel_rfl
      refine fl_know hn rfl h10 ?_
      clear h10
      refine g_mv hn ?_
      refine g_mv hn ?_
      refine g_mv hn ?_
      refine g_c2x en_spinney_burl_unlike hn (R := fun v wz => ∃ A3 n3 c3, v = .slice A3 n3 c3 ∧ OwnS w9.heap.size wz A3 n3 c3 (unlC (atL a j) (atL b j)) ∧ Below w9.heap.size w9 wz) ((unlike_any A8 n8 c8 (atL a j) A9 n9 c9 (atL b j) w9 hl8 hR8' (by omega) hl9 hR9 (by omega)).mono fun _ _ ⟨A3, n3, c3, he, hO, hb⟩ => ⟨_, he, A3, n3, c3, rfl, hO, hb⟩) ?_
      rintro v w10 ⟨A10, n10, c10, rfl, hU10, hb10⟩
      have hK10 := hK9.keep hb10
      have hB10 : Below w.heap.size w w10 := hB9.trans (hb10.mono hB9.size)
      have hn10 : n10 ≤ 1000 := by
        have h := hU10.len
        have h2 := unlC_len (atL a j) (atL b j)
        omega
      have hW10 : Below w5.heap.size w5 w10 := hW9.trans (hb10.mono hW9.size)
      refine g_apS (base := w5.heap.size) hn hK10 hU10.rd hU10.len (by omega) hW10.size ?_
      intro A11 c11 w11 hO11 hb11 hg11
      refine g_as hn ?_
      refine fl_end ?_
      clear hn
      subst ha
      dsimp only [fr, cnd, Act.put, cond_true]
      simp only [List.setIfInBounds_toArray, List.set_cons_zero, List.set_cons_succ]
      have hB11 := hB10.trans (hb11.mono hB5.size)
      have hR8b := (hR8'.keep hb10 (Nat.le_refl _)).more hb10.size
      have hR9b := (hR9.keep hb10 (Nat.le_refl _)).more hb10.size
      have hR8c := (hR8b.grown hg11 (Nat.le_refl _) hne8).more hg11.size
      have hR9c := (hR9b.grown hg11 (Nat.le_refl _) hne9).more hg11.size
      have hW11 : Below w5.heap.size w5 w11 := hW10.trans hb11
      clear hR8b hR9b hR8' hR9 hK9 hK10 hU10 hb10 hb11 hg11 hne8 hne9 hB9 hB10 hW9 hW10
      go_upto_region 9 with fail
      refine wp_region_lit ?_
      refine fl_start ?_
      generalize ha : Act.mk _ _ = a0
      have hn : a0.tmps.size = 51 := by rw [← ha]; kernel_rfl
      have h6 : (fr a0 []).eval (.tmp 6) = .slice A11 (n6 + n10) c11 := by rw [← ha]; kernel_rfl
      refine fl_know hn rfl h6 ?_
      clear h6
      have h9 : (fr a0 [(6, true, .slice A11 (n6 + n10) c11)]).eval (.tmp 9) = .slice A8 n8 c8 := by rw [← ha]; kernel_rfl
      refine fl_know hn rfl h9 ?_
      clear h9
      have h10 : (fr a0 [(9, true, .slice A8 n8 c8), (6, true, .slice A11 (n6 + n10) c11)]).eval (.tmp 10) = .slice A9 n9 c9 := by rw [← ha]; kernel_rfl
      refine fl_know hn rfl h10 ?_
      clear h10
      refine g_mv hn ?_
      refine g_mv hn ?_
      refine g_mv hn ?_
      refine g_c2x en_spinney_burl_unlike hn (R := fun v wz => ∃ A3 n3 c3, v = .slice A3 n3 c3 ∧ OwnS w11.heap.size wz A3 n3 c3 (unlC (atL b j) (atL a j)) ∧ Below w11.heap.size w11 wz) ((unlike_any A9 n9 c9 (atL b j) A8 n8 c8 (atL a j) w11 hl9 hR9c (by omega) hl8 hR8c (by omega)).mono fun _ _ ⟨A3, n3, c3, he, hO, hb⟩ => ⟨_, he, A3, n3, c3, rfl, hO, hb⟩) ?_
      rintro v w12 ⟨A12, n12, c12, rfl, hU12, hb12⟩
      have hK12 := hO11.keep hb12
      have hB12 : Below w.heap.size w w12 := hB11.trans (hb12.mono hB11.size)
      have hn12 : n12 ≤ 1000 := by
        have h := hU12.len
        have h2 := unlC_len (atL b j) (atL a j)
        omega
      have hW12 : Below w5.heap.size w5 w12 := hW11.trans (hb12.mono hW11.size)
      refine g_apS (base := w5.heap.size) hn hK12 hU12.rd hU12.len (by omega) hW12.size ?_
      intro A13 c13 w13 hO13 hb13 _
      refine g_as hn ?_
      refine fl_end ?_
      clear hn
      subst ha
      dsimp only [fr, cnd, Act.put, cond_true]
      simp only [List.setIfInBounds_toArray, List.set_cons_zero, List.set_cons_succ]
      have hW13 := hW12.trans hb13
      have hB13 := hB12.trans (hb13.mono hB5.size)
      have hI2 : Hid (∀ x, x ∈ (ks ++ unlC (atL a j) (atL b j)) ++ unlC (atL b j) (atL a j) ↔ ∃ j', j' ∈ ps.take (k + 1) ∧ (x ∈ unlC (atL a j') (atL b j') ∨ x ∈ unlC (atL b j') (atL a j'))) := by
        intro x
        rw [hT]
        simp only [List.mem_append, List.mem_singleton]
        constructor
        · rintro ((h | h) | h)
          · obtain ⟨j', h1, h2⟩ := (hI.out x).1 h
            exact ⟨j', .inl h1, h2⟩
          · exact ⟨j, .inr rfl, .inl h⟩
          · exact ⟨j, .inr rfl, .inr h⟩
        · rintro ⟨j', h1 | rfl, h2⟩
          · exact .inl (.inl ((hI.out x).2 ⟨j', h1, h2⟩))
          · rcases h2 with h2 | h2
            · exact .inl (.inr h2)
            · exact .inr h2
      clear hI hT hO11 hK12 hU12 hW11 hW12 hB11 hB12 hR8c hR9c hb12 hb13
      go_wp2_with fail
      refine ⟨?_, ?_⟩
      · first
        | exact ⟨k + 1, A13, n6 + n10 + n12, c13, _, by omega, by go_num, rfl, by omega, hO13, hI2, hW13, hB13⟩
        | repeat apply Exists.intro
          refine ⟨?_, rfl⟩
          exact ⟨k + 1, A13, n6 + n10 + n12, c13, _, by omega, by go_num, rfl, by omega, hO13, hI2, hW13, hB13⟩
      · simp [intOf]; omega
    · have hk5 : k = n5 := by omega
      have i5 : ¬ (k : Int) < (n5 : Int) := by omega
      have hU := uniq_is ks
      have hmem : ∀ x, x ∈ cmpTo (baL (sortL (dL ks))) (baL (sortL (dL ks))).length ↔ DiffK a b x := fun x => by
        rw [hU.2 x, hI.out x, hk5, ← hp5, List.take_length]
        exact HD.out x
      have hsl : (baL (sortL (dL ks))).length = n6 := by
        rw [baL_len, sortL_len]
        have := hO.len
        unfold dL
        rw [List.length_map]
        exact this
      rw [hsl] at hmem hU
      have hri := hU.1
      have hsz : ∀ x, x ∈ cmpTo (baL (sortL (dL ks))) n6 → x.size ≤ 1000000 := fun x hx => by
        obtain ⟨⟨y, hy, rfl⟩, _⟩ := (hmem x).1 hx
        rcases List.mem_append.1 hy with hy | hy
        · have := (hA1 y hy).1
          omega
        · have := (hA2 y hy).1
          omega
      have hcl := cmpT_le (baL (sortL (dL ks))) n6
      have hn6' : n6 ≤ 100000 := by omega
      have cS := sort_any A6 n6 c6 ks wr hO (by omega) hW.size
      generalize baL (sortL (dL ks)) = ss at cS hmem hri hsz hcl
      clear hI hU hO hsl HD hP
      go_upto_region 11 with fail
      refine wp_region_lit ?_
      refine fl_start ?_
      generalize ha : Act.mk _ _ = a0
      have hn : a0.tmps.size = 51 := by rw [← ha]; kernel_rfl
      have h6 : (fr a0 []).eval (.tmp 6) = .slice A6 n6 c6 := by rw [← ha]; kernel_rfl
      refine fl_know hn rfl h6 ?_
      clear h6
      refine g_mv hn ?_
      refine g_c1x en_slices_Sort_string_string hn (R := fun v wz => v = .tuple #[] ∧ OwnS w5.heap.size wz A6 n6 c6 ss ∧ Below w5.heap.size wr wz) (cS.mono fun _ _ ⟨he, hO, hb⟩ => ⟨_, he, rfl, hO, hb⟩) ?_
      rintro v w6 ⟨rfl, hO6, hb6⟩
      refine fl_end ?_
      clear hn cS
      subst ha
      dsimp only [fr, cnd, Act.put, cond_true]
      simp only [List.setIfInBounds_toArray, List.set_cons_zero, List.set_cons_succ]
      have hW6 := hW.trans hb6
      have cC := compact_any w5.heap.size A6 n6 c6 ss w6 hO6 hW6.size (by omega)
      go_upto_region 12 with fail
      refine wp_region_lit ?_
      refine fl_start ?_
      generalize ha : Act.mk _ _ = a0
      have hn : a0.tmps.size = 51 := by rw [← ha]; kernel_rfl
      have h6 : (fr a0 []).eval (.tmp 6) = .slice A6 n6 c6 := by rw [← ha]; kernel_rfl
      refine fl_know hn rfl h6 ?_
      clear h6
      refine g_mv hn ?_
      refine g_c1x en_slices_Compact_string_string hn (R := fun v wz => ∃ k7 c7, v = .slice A6 k7 c7 ∧ Hid ((cmpTo ss n6).length = k7) ∧ RdS wz.heap.size wz A6 (cmpTo ss n6) ∧ Below w5.heap.size w6 wz) (cC.mono fun _ _ ⟨⟨k7, c7, he, hl, hr⟩, hb⟩ => ⟨_, he, k7, c7, rfl, hl, hr, hb⟩) ?_
      rintro v w7 ⟨k7, c7, rfl, hl7, hr7, hb7⟩
      refine g_c1x en_spinney_fresh_Texts hn (R := fun v wz => ∃ g, v = .slice (some ⟨g, 0, none⟩) k7 k7 ∧ OwnS w7.heap.size wz (some ⟨g, 0, none⟩) k7 k7 (cmpTo ss n6) ∧ Below w7.heap.size w7 wz) ((freshTexts_any A6 k7 c7 (cmpTo ss n6) w7 hl7.out hr7 (by have := hl7.out; omega) hsz).mono fun _ _ ⟨⟨g, he, hO⟩, hb⟩ => ⟨_, he, g, rfl, hO, hb⟩) ?_
      rintro v w8 ⟨g, rfl, hO8, hb8⟩
      refine g_as hn ?_
      refine g_ac hn ?_
      refine fl_end ?_
      clear hn cC
      subst ha
      dsimp only [fr, cnd, Act.put, cond_true]
      simp only [List.setIfInBounds_toArray, List.set_cons_zero, List.set_cons_succ]
      have hB8 : Below w.heap.size w w8 := hB5.trans (((hW6.trans hb7).trans (hb8.mono (hW6.trans hb7).size)).mono hB5.size)
      go_wp2_with fail
      go_ret2
      exact ⟨⟨_, k7, k7, cmpTo ss n6, rfl, hl7.out, hO8.rd, by have := hl7.out; omega, hri, hmem⟩, hB8⟩
end Go.Proofs.Ytokkmofcijfmiab
