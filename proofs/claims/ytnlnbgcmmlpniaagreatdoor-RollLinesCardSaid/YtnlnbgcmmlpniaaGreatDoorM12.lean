/-
  WHAT IS PROVED: the document's answers for lasts (spinneyref07.GoodLasts, Lasts, TakeLasts). Conditions: those typed in each theorem. · plain facts: what package roll's calls take of a reader is what the document takes of its bytes; what is put is taken again. Conditions: those typed in each theorem. · the document's taking of reaches, cells, lines from bytes (spinneyref07.TakeReach, TakeCells, TakeLines). Conditions: those typed in each theorem.
-/
import Derived.Test.YtnlnbgcmmlpniaaGreatDoorRLasts2
import Derived.Test.YtnlnbgcmmlpniaaGreatDoorM9
import Derived.Test.YtnlnbgcmmlpniaaGreatDoorM3
import Derived.Test.YtnlnbgcmmlpniaaGreatDoorRTake
import Derived.Test.YtnlnbgcmmlpniaaGreatDoorRRefGood
import Derived.Test.YtnlnbgcmmlpniaaGreatDoorM10
import Derived.Test.YtnlnbgcmmlpniaaGreatDoorM6
namespace Go.Proofs.YtnlnbgcmmlpniaaGreatDoor
open Go.RowKit
attribute [local go_sem ↓] Go.wp_at_zero Go.wp_at_succ

theorem la_get (a0 a1 a2 a3 a4 a5 a6 a7 a8 a9 a10 a11 : Int) {j : Nat} (hj : j < 12) : ∃ x, (laL a0 a1 a2 a3 a4 a5 a6 a7 a8 a9 a10 a11)[j]? = some x := ⟨_, List.getElem?_eq_getElem (by simpa using hj)⟩
theorem la_cell {W : World} {b j : Nat} {a0 a1 a2 a3 a4 a5 a6 a7 a8 a9 a10 a11 x : Int} {t : TypeId} (h : Blk W b (laI a0 a1 a2 a3 a4 a5 a6 a7 a8 a9 a10 a11) t) (hx : (laL a0 a1 a2 a3 a4 a5 a6 a7 a8 a9 a10 a11)[j]? = some x) : W.cell? ⟨b, j, none⟩ = some (.int .i64 x) := by
  rw [h.cell j]
  have hm := map_getR (f := Value.int .i64) hx
  have e : ((laL a0 a1 a2 a3 a4 a5 a6 a7 a8 a9 a10 a11).map (Value.int .i64)).toArray = laI a0 a1 a2 a3 a4 a5 a6 a7 a8 a9 a10 a11 := rfl
  rw [← e]
  simpa using hm

set_option maxRecDepth 100000 in
set_option maxHeartbeats 2000000 in
theorem refGoodLa_any (a0 a1 a2 a3 a4 a5 a6 a7 a8 a9 a10 a11 : Int) (w : World) :
    Calls Tryz.prog 8 #[.agg (laI a0 a1 a2 a3 a4 a5 a6 a7 a8 a9 a10 a11)] w fun e w' => e = .returned (.bool (goodLa (laL a0 a1 a2 a3 a4 a5 a6 a7 a8 a9 a10 a11))) ∧ Below w.heap.size w w' := by
  have hX0 := blk_new w (laI a0 a1 a2 a3 a4 a5 a6 a7 a8 a9 a10 a11) 24
  have hB0 := b0 w (.cells (laI a0 a1 a2 a3 a4 a5 a6 a7 a8 a9 a10 a11) 24)
  have HGD := Lib.hid (goodLa_is a0 a1 a2 a3 a4 a5 a6 a7 a8 a9 a10 a11)
  go_enter Tryz.func8, Tryz.ntmps8
  go_upto_region 1 with fail
  generalize w.alloc (.cells (laI a0 a1 a2 a3 a4 a5 a6 a7 a8 a9 a10 a11) 24) = W at hX0 hB0 ⊢
  generalize hb : w.heap.size = b at hX0 hB0 ⊢
  go_wp2_with fail
  go_loopw [3, 4] (fun _ i wr => ∃ j : Nat, j ≤ 12 ∧ i = .int .i64 j ∧ wr = W ∧ Hid (∀ x, x ∈ (laL a0 a1 a2 a3 a4 a5 a6 a7 a8 a9 a10 a11).take j → outI x = false)) (fun _ i _ => 12 - (intOf i).toNat)
  case atStart => exact ⟨0, by omega, by first | rfl | trivial, by first | rfl | trivial, fun x hx => by simp at hx⟩
  case round =>
    obtain ⟨j, hj, rfl, rfl, hA⟩ := hrel
    by_cases hlt : j < 12
    · obtain ⟨x, hx⟩ := la_get a0 a1 a2 a3 a4 a5 a6 a7 a8 a9 a10 a11 hlt
      have i1 : (0 : Int) ≤ (j : Int) := by omega
      have i2 : (j : Int) < 12 := by omega
      have q0 := la_cell hX0 hx
      have HX := Lib.hid hx
      clear hx
      by_cases h0 : x < 0
      · have R : Hid (false = goodLa (laL a0 a1 a2 a3 a4 a5 a6 a7 a8 a9 a10 a11)) := by
          show _ = _
          rw [HGD.out]
          have h1 : (laL a0 a1 a2 a3 a4 a5 a6 a7 a8 a9 a10 a11).any outI = true := List.any_eq_true.2 ⟨x, List.mem_of_getElem? HX.out, by unfold outI; rw [decide_eq_true h0]; rfl⟩
          rw [h1, Bool.not_true, Bool.and_false]
        clear HGD HX hA
        go_wp2_with fail
        go_ret
        exact ⟨ret_bool R.out, by first | exact hB0 | (rw [hb]; exact hB0)⟩
      · by_cases h1 : 40 < x
        · have R : Hid (false = goodLa (laL a0 a1 a2 a3 a4 a5 a6 a7 a8 a9 a10 a11)) := by
            show _ = _
            rw [HGD.out]
            have h1 : (laL a0 a1 a2 a3 a4 a5 a6 a7 a8 a9 a10 a11).any outI = true := List.any_eq_true.2 ⟨x, List.mem_of_getElem? HX.out, by unfold outI; rw [decide_eq_true h1, Bool.or_true]⟩
            rw [h1, Bool.not_true, Bool.and_false]
          clear HGD HX hA
          go_wp2_with fail
          go_ret
          exact ⟨ret_bool R.out, by first | exact hB0 | (rw [hb]; exact hB0)⟩
        · have HA2 : Hid (∀ y, y ∈ (laL a0 a1 a2 a3 a4 a5 a6 a7 a8 a9 a10 a11).take (j + 1) → outI y = false) := fun y hy => by
            rw [List.take_add_one, HX.out] at hy
            rcases List.mem_append.1 hy with h | h
            · exact hA.out y h
            · have e : y = x := by simpa using h
              rw [e]
              unfold outI
              rw [decide_eq_false h0, decide_eq_false h1]
              rfl
          clear hA HX
          go_wp2_with fail
          go_roundw
          case rel => exact ⟨j + 1, by omega, by go_num, by first | rfl | trivial, HA2⟩
          case measure => simp [intOf]; omega
    · have hq : ¬ (j : Int) < 12 := by omega
      have R : Hid ((a0 == 0) = goodLa (laL a0 a1 a2 a3 a4 a5 a6 a7 a8 a9 a10 a11)) := by
        show _ = _
        rw [HGD.out]
        have h1 : (laL a0 a1 a2 a3 a4 a5 a6 a7 a8 a9 a10 a11).any outI = false := by
          rw [List.any_eq_false]
          intro x hx
          rw [hA.out x (by rw [List.take_of_length_le (by simp; omega)]; exact hx)]
          exact Bool.false_ne_true
        rw [h1, Bool.not_false, Bool.and_true]
        rfl
      have q0 := hX0.cell 0
      clear HGD hA
      go_wp2_with fail
      go_ret
      exact ⟨ret_bool R.out, by first | exact hB0 | (rw [hb]; exact hB0)⟩

set_option maxRecDepth 100000 in
set_option maxHeartbeats 2000000 in
theorem refPutLa_any (a0 a1 a2 a3 a4 a5 a6 a7 a8 a9 a10 a11 : Int) (w : World) (hg : ∀ x, x ∈ laL a0 a1 a2 a3 a4 a5 a6 a7 a8 a9 a10 a11 → 0 ≤ x ∧ x ≤ 100000) :
    Calls Tryz.prog 15 #[.agg (laI a0 a1 a2 a3 a4 a5 a6 a7 a8 a9 a10 a11)] w fun e w' => PutP w (laB (laL a0 a1 a2 a3 a4 a5 a6 a7 a8 a9 a10 a11)) e w' := by
  obtain ⟨i0, hi0, hz0, hz1', hz2⟩ := info_parts byt_info
  have hX0 := blk_new w (laI a0 a1 a2 a3 a4 a5 a6 a7 a8 a9 a10 a11) 24
  have hB0 := b0 w (.cells (laI a0 a1 a2 a3 a4 a5 a6 a7 a8 a9 a10 a11) 24)
  have hlt0 : w.heap.size + 1 ≤ (w.alloc (.cells (laI a0 a1 a2 a3 a4 a5 a6 a7 a8 a9 a10 a11) 24)).heap.size := by simp
  go_enter Tryz.func15, Tryz.ntmps15
  go_upto_region 1 with fail
  generalize w.alloc (.cells (laI a0 a1 a2 a3 a4 a5 a6 a7 a8 a9 a10 a11) 24) = W at hX0 hB0 hlt0 ⊢
  go_wp2_with fail
  go_loopw [3, 5] (fun out i wr => ∃ (j : Nat) (A3 : Option Addr) (n3 c3 : Nat), j ≤ 12 ∧ i = .int .i64 j ∧ out = .slice A3 n3 c3 ∧ n3 ≤ 9 * j ∧ OwnB (w.heap.size + 1) wr A3 n3 c3 (laB ((laL a0 a1 a2 a3 a4 a5 a6 a7 a8 a9 a10 a11).take j)) ∧ Blk wr w.heap.size (laI a0 a1 a2 a3 a4 a5 a6 a7 a8 a9 a10 a11) 24 ∧ Below w.heap.size w wr ∧ w.heap.size + 1 ≤ wr.heap.size) (fun _ i _ => 12 - (intOf i).toNat)
  case atStart => exact ⟨0, none, 0, 0, by omega, rfl, rfl, by omega, OwnB.nil _ _, hX0, hB0, hlt0⟩
  case round =>
    clear hX0 hB0 hlt0
    obtain ⟨j, A3, n3, d3, hj, rfl, rfl, hn3, hO, hX, hW, hz0'⟩ := hrel
    by_cases hlt : j < 12
    · obtain ⟨x, hx⟩ := la_get a0 a1 a2 a3 a4 a5 a6 a7 a8 a9 a10 a11 hlt
      have i1 : (0 : Int) ≤ (j : Int) := by omega
      have i2 : (j : Int) < 12 := by omega
      have q0 := la_cell hX hx
      have hgx := hg x (List.mem_of_getElem? hx)
      have HX := Lib.hid hx
      clear hx
      have hxn : x = ((x.toNat : Nat) : Int) := by omega
      have hxm : x.toNat ≤ 100000 := by omega
      have HE : Hid (laB ((laL a0 a1 a2 a3 a4 a5 a6 a7 a8 a9 a10 a11).take j) ++ numB x.toNat = laB ((laL a0 a1 a2 a3 a4 a5 a6 a7 a8 a9 a10 a11).take (j + 1))) := by
        show _ = _
        unfold laB
        rw [List.take_add_one, HX.out]
        simp
      generalize x.toNat = xn at hxn hxm HE
      subst hxn
      have wx : IntKind.u64.wrap (xn : Int) = (xn : Int) := wrap_size (by omega)
      have HN1 := Lib.hid (refNumber_c xn wr hxm)
      clear HX hgx
      go_wp2_with fail
      refine HN1.out.mono ?_
      rintro e w2 ⟨⟨A2, m2, d2, rfl, hO2, hm2⟩, hb2⟩
      have hO3 := hO.keep hb2
      have hX2 := hX.keep hb2
      have hW2 := bt hW hb2
      have hz2' := Nat.le_trans hz0' hb2.size
      clear hO hX hW wx
      go_wp2_with (at_builtin; refine wpList_apB (base := w.heap.size + 1) (n := n3) (m := m2) (l := laB ((laL a0 a1 a2 a3 a4 a5 a6 a7 a8 a9 a10 a11).take j)) (l2 := numB xn) (by rfl) _ _ (by rfl) Tryz.underlying29 Tryz.underlying29 hi0 hz0 hz1' hz2 (by rfl) (by rfl) hO3 hO2.rd hO2.len (n3 + m2) rfl (by omega) hz2' ?_; intro A5 c5 w5 hO5 hb5 hg5)
      rw [HE.out] at hO5
      have hX5 : Blk w5 w.heap.size (laI a0 a1 a2 a3 a4 a5 a6 a7 a8 a9 a10 a11) 24 := (hb5.block _ (Nat.lt_succ_self _)).trans hX2
      go_roundw
      case rel => exact ⟨j + 1, A5, n3 + m2, c5, by omega, by go_num, rfl, by omega, hO5, hX5, hW2.trans (hb5.mono (Nat.le_succ _)), Nat.le_trans hz2' hb5.size⟩
      case measure => simp [intOf]; omega
    · have hq : ¬ (j : Int) < 12 := by omega
      have e : laB ((laL a0 a1 a2 a3 a4 a5 a6 a7 a8 a9 a10 a11).take j) = laB (laL a0 a1 a2 a3 a4 a5 a6 a7 a8 a9 a10 a11) := by rw [List.take_of_length_le (by simp; omega)]
      rw [e] at hO
      have hO2 := hO.less (Nat.le_succ w.heap.size)
      clear e hO
      go_wp2_with fail
      go_ret
      exact ⟨⟨A3, n3, d3, rfl, hO2⟩, hW⟩

/-! TakeLasts. -/
def uZ (u : Nat → Nat) (j i : Nat) : Int := if i < j then (u i : Int) else 0
abbrev rowU (u : Nat → Nat) (j : Nat) : Array Value := laI (uZ u j 0) (uZ u j 1) (uZ u j 2) (uZ u j 3) (uZ u j 4) (uZ u j 5) (uZ u j 6) (uZ u j 7) (uZ u j 8) (uZ u j 9) (uZ u j 10) (uZ u j 11)
theorem rowU_set (u : Nat → Nat) {j : Nat} (hj : j < 12) : (rowU u j).setIfInBounds j (.int .i64 (u j : Int)) = rowU u (j + 1) := by
  have h : ∀ i, uZ u (j + 1) i = if i = j then (u j : Int) else uZ u j i := by
    intro i
    unfold uZ
    by_cases e : i = j
    · rw [if_pos e, if_pos (by omega), e]
    · rw [if_neg e]
      by_cases hi : i < j
      · rw [if_pos hi, if_pos (by omega)]
      · rw [if_neg hi, if_neg (by omega)]
  have hc : j = 0 ∨ j = 1 ∨ j = 2 ∨ j = 3 ∨ j = 4 ∨ j = 5 ∨ j = 6 ∨ j = 7 ∨ j = 8 ∨ j = 9 ∨ j = 10 ∨ j = 11 := by omega
  unfold rowU
  simp only [h]
  rcases hc with rfl | rfl | rfl | rfl | rfl | rfl | rfl | rfl | rfl | rfl | rfl | rfl <;> rfl
theorem rowU_at (u : Nat → Nat) (i : Nat) {j : Nat} (hj : j < 12) : (rowU u i)[j]? = some (.int .i64 (uZ u i j)) := by
  have hc : j = 0 ∨ j = 1 ∨ j = 2 ∨ j = 3 ∨ j = 4 ∨ j = 5 ∨ j = 6 ∨ j = 7 ∨ j = 8 ∨ j = 9 ∨ j = 10 ∨ j = 11 := by omega
  rcases hc with rfl | rfl | rfl | rfl | rfl | rfl | rfl | rfl | rfl | rfl | rfl | rfl <;> rfl
theorem rowU_all (u : Nat → Nat) : rowU u 12 = laI (u 0 : Int) (u 1 : Int) (u 2 : Int) (u 3 : Int) (u 4 : Int) (u 5 : Int) (u 6 : Int) (u 7 : Int) (u 8 : Int) (u 9 : Int) (u 10 : Int) (u 11 : Int) := rfl
theorem takeLa_list (b : List UInt8) : (listG takeLa1 b 0 12).map Int.ofNat = laL ((nthG takeLa1 b 0 0).1 : Int) ((nthG takeLa1 b 0 1).1 : Int) ((nthG takeLa1 b 0 2).1 : Int) ((nthG takeLa1 b 0 3).1 : Int) ((nthG takeLa1 b 0 4).1 : Int) ((nthG takeLa1 b 0 5).1 : Int) ((nthG takeLa1 b 0 6).1 : Int) ((nthG takeLa1 b 0 7).1 : Int) ((nthG takeLa1 b 0 8).1 : Int) ((nthG takeLa1 b 0 9).1 : Int) ((nthG takeLa1 b 0 10).1 : Int) ((nthG takeLa1 b 0 11).1 : Int) := rfl
theorem takeLaB_no {b : List UInt8} (h : (∃ j, j < 12 ∧ (nthG takeLa1 b 0 j).2 = 0) ∨ (nthG takeLa1 b 0 0).1 ≠ 0) : takeLaB b = (laL 0 0 0 0 0 0 0 0 0 0 0 0, 0) := by
  unfold takeLaB
  rw [if_neg]
  · rfl
  · rintro ⟨h1, h2⟩
    rcases h with ⟨j, hj, h⟩ | h
    · exact h1 j hj h
    · exact h h2
theorem takeLaB_yes {b : List UInt8} (h : StdG takeLa1 b 0 12) (h2 : (nthG takeLa1 b 0 0).1 = 0) : takeLaB b = ((listG takeLa1 b 0 12).map Int.ofNat, posG takeLa1 b 0 12) := if_pos ⟨h, h2⟩
theorem std_nextL {α : Type} {f : List UInt8 → α × Nat} {l : List UInt8} {k j : Nat} (hA : StdG f l k j) (h : (nthG f l k j).2 ≠ 0) : StdG f l k (j + 1) := by
  intro i hi
  by_cases e : i = j
  · rw [e]; exact h
  · exact hA i (by omega)
def TakeLaP (r : List Int × Nat) (w : World) (e : Ending) (w' : World) : Prop := e = .returned (.tuple #[.agg (lastsI r.1), .int .i64 (r.2 : Nat)]) ∧ Below w.heap.size w w'
set_option maxRecDepth 100000 in
set_option maxHeartbeats 4000000 in
theorem refTakeLa_any {B : Nat} (A : Option Addr) (n c : Nat) (l : List UInt8) (w : World) (hn : l.length = n) (hr : RdB B w A l) (hB : B ≤ w.heap.size) (hm : n ≤ 1000000) (hc : n ≤ c) :
    Calls Tryz.prog 27 #[.slice A n c] w fun e w' => TakeLaP (takeLaB l) w e w' := by
  have HN := Lib.hid hn
  have b4 : (n : Int) ≤ (c : Int) := by omega
  have HU := Lib.hid (takeLa_list l)
  generalize hu : (fun j => (nthG takeLa1 l 0 j).1) = u
  have HUU : Hid (∀ j, (nthG takeLa1 l 0 j).1 = u j) := fun j => congrFun hu j
  clear hu
  have hX0 := blk_new w (laI 0 0 0 0 0 0 0 0 0 0 0 0) 24
  have hz1 : (w.alloc (.cells (laI 0 0 0 0 0 0 0 0 0 0 0 0) 24)).heap.size = w.heap.size + 1 := by simp
  have hY0 := blk_new (w.alloc (.cells (laI 0 0 0 0 0 0 0 0 0 0 0 0) 24)) (laI 0 0 0 0 0 0 0 0 0 0 0 0) 24
  rw [hz1] at hY0
  have hXa := hX0.alloc (.cells (laI 0 0 0 0 0 0 0 0 0 0 0 0) 24)
  have hbb := ba (b0 w (.cells (laI 0 0 0 0 0 0 0 0 0 0 0 0) 24)) (.cells (laI 0 0 0 0 0 0 0 0 0 0 0 0) 24)
  clear hX0
  go_enter Tryz.func27, Tryz.ntmps27
  go_upto_region 2 with fail
  generalize (w.alloc (.cells (laI 0 0 0 0 0 0 0 0 0 0 0 0) 24)).alloc (.cells (laI 0 0 0 0 0 0 0 0 0 0 0 0) 24) = W at hY0 hXa hbb ⊢
  (try simp only [hz1])
  clear hz1
  go_wp2_with fail
  go_loopw [5, 6, 9] (fun t _ i wr => ∃ j p : Nat, j ≤ 12 ∧ i = .int .i64 j ∧ t = .int .i64 (p : Nat) ∧ Hid (posG takeLa1 l 0 j = p) ∧ Hid (StdG takeLa1 l 0 j) ∧ Blk wr (w.heap.size + 1) (rowU u j) 24 ∧ Blk wr w.heap.size (laI 0 0 0 0 0 0 0 0 0 0 0 0) 24 ∧ Below w.heap.size w wr) (fun _ _ i _ => 12 - (intOf i).toNat)
  case atStart => exact ⟨0, 0, by omega, rfl, rfl, rfl, fun m hm => by omega, hY0, hXa, hbb⟩
  case round =>
    clear hY0 hXa hbb
    obtain ⟨j, p, hj, rfl, rfl, HP, hA, hY, hX, hW⟩ := hrel
    have hp : p ≤ n := by
      have h1 := posG_le (f := takeLa1) (fun b => (takeNum_lt b 40).2.2.2) (l := l) (p := 0) (Nat.zero_le _) j
      rw [HP.out, HN.out] at h1
      exact h1
    by_cases hlt2 : j < 12
    · have i1 : (0 : Int) ≤ (j : Int) := by omega
      have i2 : (j : Int) < 12 := by omega
      have p0 : (0 : Int) ≤ (p : Int) := by omega
      have p1 : (p : Int) ≤ (n : Int) := by omega
      have hrd := (hr.keep hW hB).cut (p := p) (c := c) (by omega)
      have hs := fun W => run_cut W A n c p hp
      have HT : Hid (∀ W, RdB B W (cutA A c p) (l.drop p) → Calls Tryz.prog 63 #[.slice (cutA A c p) (n - p) (c - p), .int .u64 40] W fun e w' => TakeP (takeNum (l.drop p) 40) W e w') :=
        fun W h => refTakeNumber_any (B := B) _ _ _ (l.drop p) 40 W (by rw [List.length_drop, HN.out]) h (by omega) (by omega)
      have hle := takeNum_lt (l.drop p) 40
      rw [List.length_drop, HN.out] at hle
      generalize hq : takeNum (l.drop p) 40 = T at HT hle
      obtain ⟨ts, tk⟩ := T
      unfold TakeP at HT
      dsimp only at HT hle
      have HQ : Hid (nthG takeLa1 l 0 j = (ts, tk)) := by rw [← HP.out] at hq; exact hq
      have HTU : Hid (u j = ts) := by
        show _ = _
        rw [← HUU.out j, HQ.out]
      clear hq
      go_wp2_with fail
      refine (HT.out wr hrd).mono ?_
      rintro e w2 ⟨rfl, hD⟩
      have hW2 := hW.trans (hD.below _)
      have hX2 := hX.keep (hD.below _)
      have hY2 := hY.keep (hD.below _)
      clear HT hrd hX hY hW
      by_cases h0 : tk = 0
      · have e1 : ((tk : Int) == 0) = true := by rw [beq_iff_eq]; omega
        have R := Lib.hid (takeLaB_no (b := l) (.inl ⟨j, hlt2, by rw [HQ.out]; exact h0⟩))
        clear h0
        have hF := set12 hX2 (.int .i64 0) (.int .i64 0) (.int .i64 0) (.int .i64 0) (.int .i64 0) (.int .i64 0) (.int .i64 0) (.int .i64 0) (.int .i64 0) (.int .i64 0) (.int .i64 0) (.int .i64 0)
        have hBF := below12 hW2 (Nat.le_refl w.heap.size) (.int .i64 0) (.int .i64 0) (.int .i64 0) (.int .i64 0) (.int .i64 0) (.int .i64 0) (.int .i64 0) (.int .i64 0) (.int .i64 0) (.int .i64 0) (.int .i64 0) (.int .i64 0)
        have x0 := hX2.cell 0
        have f0 := hX2.free 0
        have x1 := hX2.cell 1
        have f1 := hX2.free 1
        have x2 := hX2.cell 2
        have f2 := hX2.free 2
        have x3 := hX2.cell 3
        have f3 := hX2.free 3
        have x4 := hX2.cell 4
        have f4 := hX2.free 4
        have x5 := hX2.cell 5
        have f5 := hX2.free 5
        have x6 := hX2.cell 6
        have f6 := hX2.free 6
        have x7 := hX2.cell 7
        have f7 := hX2.free 7
        have x8 := hX2.cell 8
        have f8 := hX2.free 8
        have x9 := hX2.cell 9
        have f9 := hX2.free 9
        have x10 := hX2.cell 10
        have f10 := hX2.free 10
        have x11 := hX2.cell 11
        have f11 := hX2.free 11
        clear hX2 hY2
        go_wp2_with fail
        (try simp only [Exit.inBlock, Exit.then])
        refine bodyPost_ret (results_cell_tmp_row Tryz.results27 _ _ w.heap.size 24 (laI 0 0 0 0 0 0 0 0 0 0 0 0) (0, 0) _ (by rfl) hF Tryz.underlying24 (by rfl) (by kernel_rfl)) rfl ?_
        rw [R.out]
        exact ⟨rfl, hBF⟩
      · have e1 : ((tk : Int) == 0) = false := by rw [beq_eq_false_iff_ne]; omega
        have HA2 : Hid (StdG takeLa1 l 0 (j + 1)) := std_nextL hA.out (by rw [HQ.out]; exact h0)
        have HPn : Hid (posG takeLa1 l 0 (j + 1) = p + tk) := by show _ = _; rw [posG_succ, HQ.out, HP.out]
        have m1 : (p : Int) + (tk : Int) ≤ (n : Int) := by omega
        have HRow := Lib.hid (rowU_set u hlt2)
        have y1 := (hY2.cell j).trans (rowU_at u j hlt2)
        have f1 := hY2.free j
        have hY3 := hY2.set j (.int .i64 (u j : Int))
        rw [HRow.out, HTU.out] at hY3
        have hX3 : Blk (w2.setCell ⟨w.heap.size + 1, j, none⟩ (.int .i64 (ts : Int))) w.heap.size (laI 0 0 0 0 0 0 0 0 0 0 0 0) 24 := hX2.other (by omega) j _
        have hW3 := hW2.setCell (p := ⟨w.heap.size + 1, j, none⟩) (Nat.le_succ _) (.int .i64 (ts : Int))
        have HXW := Lib.hid (show wrap64 (ts : Int) = (ts : Int) ∧ IntKind.i64.wrap (ts : Int) = (ts : Int) from ⟨by unfold wrap64; omega, IntWalk.i64_in _ (by omega)⟩)
        clear h0 hA hX2 hY2 hW2
        obtain ⟨hx1, hx2⟩ := HXW.out
        go_wp2_with fail
        clear hx1 hx2
        go_roundw
        case rel => exact ⟨j + 1, p + tk, by omega, by go_num, by go_num, HPn, HA2, hY3, hX3, hW3⟩
        case measure => simp [intOf]; omega
    · have hq : ¬ (j : Int) < 12 := by omega
      have e : j = 12 := by omega
      subst e
      have y0 : wr.cell? ⟨w.heap.size + 1, 0, none⟩ = some (.int .i64 (u 0 : Int)) := hY.cell 0
      have hX2 := hX
      have hY2 := hY
      have hW2 := hW
      by_cases h0 : u 0 = 0
      · have e1 : ((u 0 : Int) != 0) = false := by simp [h0]
        have R : Hid (takeLaB l = (laL (u 0 : Int) (u 1 : Int) (u 2 : Int) (u 3 : Int) (u 4 : Int) (u 5 : Int) (u 6 : Int) (u 7 : Int) (u 8 : Int) (u 9 : Int) (u 10 : Int) (u 11 : Int), p)) := by
          show _ = _
          rw [takeLaB_yes hA.out (by rw [HUU.out 0]; exact h0), HU.out, HP.out]
          simp only [HUU.out]
        have hF := set12 hX2 (.int .i64 (u 0 : Int)) (.int .i64 (u 1 : Int)) (.int .i64 (u 2 : Int)) (.int .i64 (u 3 : Int)) (.int .i64 (u 4 : Int)) (.int .i64 (u 5 : Int)) (.int .i64 (u 6 : Int)) (.int .i64 (u 7 : Int)) (.int .i64 (u 8 : Int)) (.int .i64 (u 9 : Int)) (.int .i64 (u 10 : Int)) (.int .i64 (u 11 : Int))
        have hBF := below12 hW2 (Nat.le_refl w.heap.size) (.int .i64 (u 0 : Int)) (.int .i64 (u 1 : Int)) (.int .i64 (u 2 : Int)) (.int .i64 (u 3 : Int)) (.int .i64 (u 4 : Int)) (.int .i64 (u 5 : Int)) (.int .i64 (u 6 : Int)) (.int .i64 (u 7 : Int)) (.int .i64 (u 8 : Int)) (.int .i64 (u 9 : Int)) (.int .i64 (u 10 : Int)) (.int .i64 (u 11 : Int))
        have x0 := hX2.cell 0
        have f0 := hX2.free 0
        have z0 : wr.cell? ⟨w.heap.size + 1, 0, none⟩ = some (.int .i64 (u 0 : Int)) := hY.cell 0
        have x1 := hX2.cell 1
        have f1 := hX2.free 1
        have z1 : wr.cell? ⟨w.heap.size + 1, 1, none⟩ = some (.int .i64 (u 1 : Int)) := hY.cell 1
        have x2 := hX2.cell 2
        have f2 := hX2.free 2
        have z2 : wr.cell? ⟨w.heap.size + 1, 2, none⟩ = some (.int .i64 (u 2 : Int)) := hY.cell 2
        have x3 := hX2.cell 3
        have f3 := hX2.free 3
        have z3 : wr.cell? ⟨w.heap.size + 1, 3, none⟩ = some (.int .i64 (u 3 : Int)) := hY.cell 3
        have x4 := hX2.cell 4
        have f4 := hX2.free 4
        have z4 : wr.cell? ⟨w.heap.size + 1, 4, none⟩ = some (.int .i64 (u 4 : Int)) := hY.cell 4
        have x5 := hX2.cell 5
        have f5 := hX2.free 5
        have z5 : wr.cell? ⟨w.heap.size + 1, 5, none⟩ = some (.int .i64 (u 5 : Int)) := hY.cell 5
        have x6 := hX2.cell 6
        have f6 := hX2.free 6
        have z6 : wr.cell? ⟨w.heap.size + 1, 6, none⟩ = some (.int .i64 (u 6 : Int)) := hY.cell 6
        have x7 := hX2.cell 7
        have f7 := hX2.free 7
        have z7 : wr.cell? ⟨w.heap.size + 1, 7, none⟩ = some (.int .i64 (u 7 : Int)) := hY.cell 7
        have x8 := hX2.cell 8
        have f8 := hX2.free 8
        have z8 : wr.cell? ⟨w.heap.size + 1, 8, none⟩ = some (.int .i64 (u 8 : Int)) := hY.cell 8
        have x9 := hX2.cell 9
        have f9 := hX2.free 9
        have z9 : wr.cell? ⟨w.heap.size + 1, 9, none⟩ = some (.int .i64 (u 9 : Int)) := hY.cell 9
        have x10 := hX2.cell 10
        have f10 := hX2.free 10
        have z10 : wr.cell? ⟨w.heap.size + 1, 10, none⟩ = some (.int .i64 (u 10 : Int)) := hY.cell 10
        have x11 := hX2.cell 11
        have f11 := hX2.free 11
        have z11 : wr.cell? ⟨w.heap.size + 1, 11, none⟩ = some (.int .i64 (u 11 : Int)) := hY.cell 11
        clear hX2 hY2 h0
        go_wp2_with fail
        (try simp only [Exit.inBlock, Exit.then])
        refine bodyPost_ret (results_cell_tmp_row Tryz.results27 _ _ w.heap.size 24 (laI (u 0 : Int) (u 1 : Int) (u 2 : Int) (u 3 : Int) (u 4 : Int) (u 5 : Int) (u 6 : Int) (u 7 : Int) (u 8 : Int) (u 9 : Int) (u 10 : Int) (u 11 : Int)) (0, 0) _ (by rfl) hF Tryz.underlying24 (by rfl) (by kernel_rfl)) rfl ?_
        rw [R.out]
        exact ⟨rfl, hBF⟩
      · have e1 : ((u 0 : Int) != 0) = true := by rw [bne_iff_ne]; omega
        have R := Lib.hid (takeLaB_no (b := l) (.inr (by rw [HUU.out 0]; exact h0)))
        clear h0
        have hF := set12 hX2 (.int .i64 0) (.int .i64 0) (.int .i64 0) (.int .i64 0) (.int .i64 0) (.int .i64 0) (.int .i64 0) (.int .i64 0) (.int .i64 0) (.int .i64 0) (.int .i64 0) (.int .i64 0)
        have hBF := below12 hW2 (Nat.le_refl w.heap.size) (.int .i64 0) (.int .i64 0) (.int .i64 0) (.int .i64 0) (.int .i64 0) (.int .i64 0) (.int .i64 0) (.int .i64 0) (.int .i64 0) (.int .i64 0) (.int .i64 0) (.int .i64 0)
        have x0 := hX2.cell 0
        have f0 := hX2.free 0
        have x1 := hX2.cell 1
        have f1 := hX2.free 1
        have x2 := hX2.cell 2
        have f2 := hX2.free 2
        have x3 := hX2.cell 3
        have f3 := hX2.free 3
        have x4 := hX2.cell 4
        have f4 := hX2.free 4
        have x5 := hX2.cell 5
        have f5 := hX2.free 5
        have x6 := hX2.cell 6
        have f6 := hX2.free 6
        have x7 := hX2.cell 7
        have f7 := hX2.free 7
        have x8 := hX2.cell 8
        have f8 := hX2.free 8
        have x9 := hX2.cell 9
        have f9 := hX2.free 9
        have x10 := hX2.cell 10
        have f10 := hX2.free 10
        have x11 := hX2.cell 11
        have f11 := hX2.free 11
        clear hX2 hY2
        go_wp2_with fail
        (try simp only [Exit.inBlock, Exit.then])
        refine bodyPost_ret (results_cell_tmp_row Tryz.results27 _ _ w.heap.size 24 (laI 0 0 0 0 0 0 0 0 0 0 0 0) (0, 0) _ (by rfl) hF Tryz.underlying24 (by rfl) (by kernel_rfl)) rfl ?_
        rw [R.out]
        exact ⟨rfl, hBF⟩
end Go.Proofs.YtnlnbgcmmlpniaaGreatDoor

namespace Go.Proofs.YtnlnbgcmmlpniaaGreatDoor
open Go.RowKit

/-- The number that a call answers beside what it took. -/
def codeK (k : Nat) : Int := if k = 0 then 2 else 0
theorem taken_of {α : Type} {S : Addr} {g : Nat} {t : TypeId} {z : Nat} {cells : α → Array Value} {f : List UInt8 → α × Nat} {good : List α → Bool} {b : List UInt8} {most : Nat} {w : World} {e : Ending} {w' : World} (h : TakenX S g t z cells (outG f good (some b) most) w e w') :
    (∃ (A : Option Addr) (n c : Nat), e = .returned (.tuple #[.slice A n c, .int .i64 (codeK (takeG f good b most).2)]) ∧ OwnX t z w.heap.size w' A n c ((takeG f good b most).1.map cells)) ∧ (∃ st, RdrP S w' g st) ∧ w.grownBy w' (some g) := by
  obtain ⟨h, hg⟩ := h
  unfold outG at h
  dsimp only at h
  by_cases h0 : (takeG f good b most).2 = 0
  · rw [if_pos h0] at h
    obtain ⟨he, hst⟩ := h
    have e1 : (takeG f good b most).1 = [] := by
      rcases takeG_or f good b most with h1 | h1
      · rw [h1]
      · exact absurd h0 h1.1
    rw [e1, h0]
    exact ⟨⟨none, 0, 0, he, OwnX.nil _ _ _ _⟩, hst, hg⟩
  · rw [if_neg h0] at h
    obtain ⟨⟨A, n, c, he, hO⟩, hR⟩ := h
    have ec : codeK (takeG f good b most).2 = 0 := if_neg h0
    rw [ec]
    exact ⟨⟨A, n, c, he, hO⟩, ⟨_, hR⟩, hg⟩
/-- Lasts: step by step, and as the document has them. -/
theorem stN_at (b : List UInt8) : ∀ j, (StdG takeLa1 b 0 j → stN (some b) j = some (b.drop (posG takeLa1 b 0 j)) ∧ ∀ i, i < j → vN (some b) i = (nthG takeLa1 b 0 i).1) ∧ ((∃ i, i < j ∧ (nthG takeLa1 b 0 i).2 = 0) → stN (some b) j = none)
  | 0 => ⟨fun _ => ⟨by show some b = some (b.drop 0); simp, fun i hi => by omega⟩, fun ⟨i, hi, _⟩ => by omega⟩
  | j + 1 => by
    obtain ⟨h1, h2⟩ := stN_at b j
    have hs : stN (some b) (j + 1) = (numOf (stN (some b) j) 40).2 := rfl
    have hv : vN (some b) j = (numOf (stN (some b) j) 40).1 := rfl
    by_cases hA : StdG takeLa1 b 0 j
    · obtain ⟨e1, e2⟩ := h1 hA
      have hn : numOf (some (b.drop (posG takeLa1 b 0 j))) 40 = if (nthG takeLa1 b 0 j).2 = 0 then (0, none) else ((nthG takeLa1 b 0 j).1, some ((b.drop (posG takeLa1 b 0 j)).drop (nthG takeLa1 b 0 j).2)) := rfl
      rw [e1, hn] at hs hv
      by_cases h0 : (nthG takeLa1 b 0 j).2 = 0
      · rw [if_pos h0] at hs
        exact ⟨fun hS => absurd h0 (hS j (by omega)), fun _ => hs⟩
      · rw [if_neg h0, List.drop_drop] at hs
        rw [if_neg h0] at hv
        refine ⟨fun _ => ⟨by rw [hs, posG_succ], fun i hi => ?_⟩, fun ⟨i, hi, hz⟩ => ?_⟩
        · by_cases e : i = j
          · rw [e, hv]
          · exact e2 i (by omega)
        · by_cases e : i = j
          · rw [e] at hz
            exact absurd hz h0
          · exact absurd hz (hA i (by omega))
    · have hx : ∃ i, i < j ∧ (nthG takeLa1 b 0 i).2 = 0 := by
        apply Classical.byContradiction
        intro hn
        exact hA fun i hi hz => hn ⟨i, hi, hz⟩
      have e0 := h2 hx
      rw [e0] at hs
      refine ⟨fun hS => absurd (fun i hi => hS i (by omega)) hA, fun _ => hs⟩
theorem vN_le (st : Rest) (i : Nat) : vN st i ≤ 40 := (numOf_lt (stN st i) 40).1
theorem lasts_good (st : Rest) : goodLa (lastsOf st) = decide (vN st 0 = 0) := by
  have h : (lastsOf st) = (List.range 12).map fun i => ((vN st i : Nat) : Int) := rfl
  unfold goodLa
  have h1 : ((lastsOf st).all fun x => decide (0 ≤ x ∧ x ≤ 40)) = true := by
    rw [h, List.all_eq_true]
    intro x hx
    obtain ⟨i, _, rfl⟩ := List.mem_map.1 hx
    have := vN_le st i
    exact decide_eq_true (by omega)
  rw [h1, Bool.true_and]
  show (some (vZ st 12 0) == some 0) = _
  have e : vZ st 12 0 = ((vN st 0 : Nat) : Int) := rfl
  rw [e, Bool.eq_iff_iff]
  simp
theorem outLa_is (b : List UInt8) : outLa (some b) = if (takeLaB b).2 = 0 then none else some ((takeLaB b).1, b.drop (takeLaB b).2) := by
  obtain ⟨h1, h2⟩ := stN_at b 12
  unfold outLa
  rw [lasts_good]
  by_cases hA : StdG takeLa1 b 0 12
  · obtain ⟨e1, e2⟩ := h1 hA
    rw [e1]
    dsimp only
    by_cases h0 : (nthG takeLa1 b 0 0).1 = 0
    · have hpos : ¬ posG takeLa1 b 0 12 = 0 := by
        have := stdG_low (f := takeLa1) (m := 1) (fun b h => Nat.pos_of_ne_zero h) 12 hA
        omega
      rw [decide_eq_true (by rw [e2 0 (by omega)]; exact h0), if_pos rfl, takeLaB_yes hA h0]
      dsimp only
      rw [if_neg hpos]
      have e3 : lastsOf (some b) = (listG takeLa1 b 0 12).map Int.ofNat := by
        have h : (lastsOf (some b)) = (List.range 12).map fun i => ((vN (some b) i : Nat) : Int) := rfl
        have h' : (listG takeLa1 b 0 12).map Int.ofNat = (List.range 12).map fun i => (((nthG takeLa1 b 0 i).1 : Nat) : Int) := rfl
        rw [h, h']
        refine List.map_congr_left fun i hi => ?_
        rw [e2 i (List.mem_range.1 hi)]
      rw [e3]
    · rw [decide_eq_false (by rw [e2 0 (by omega)]; exact h0), if_neg Bool.false_ne_true, takeLaB_no (.inr h0)]
      exact (if_pos rfl).symm
  · have hx : ∃ i, i < 12 ∧ (nthG takeLa1 b 0 i).2 = 0 := by
      apply Classical.byContradiction
      intro hn
      exact hA fun i hi hz => hn ⟨i, hi, hz⟩
    rw [h2 hx, takeLaB_no (.inl hx)]
    exact (if_pos rfl).symm
theorem takeLa_form (b : List UInt8) : ∃ v0 v1 v2 v3 v4 v5 v6 v7 v8 v9 v10 v11 : Int, (takeLaB b).1 = laL v0 v1 v2 v3 v4 v5 v6 v7 v8 v9 v10 v11 := by
  by_cases h : StdG takeLa1 b 0 12 ∧ (nthG takeLa1 b 0 0).1 = 0
  · rw [takeLaB_yes h.1 h.2]
    exact ⟨_, _, _, _, _, _, _, _, _, _, _, _, takeLa_list b⟩
  · refine ⟨0, 0, 0, 0, 0, 0, 0, 0, 0, 0, 0, 0, ?_⟩
    unfold takeLaB
    rw [if_neg h]
    rfl
theorem takenLa_of {S : Addr} {g : Nat} {b : List UInt8} {w : World} {e : Ending} {w' : World} (h : TakenLa S g (outLa (some b)) w e w') :
    e = .returned (.tuple #[.agg (lastsI (takeLaB b).1), .int .i64 (codeK (takeLaB b).2)]) ∧ (∃ st, RdrP S w' g st) ∧ w.grownBy w' (some g) := by
  obtain ⟨h, hg⟩ := h
  rw [outLa_is] at h
  by_cases h0 : (takeLaB b).2 = 0
  · rw [if_pos h0] at h
    have e1 : (takeLaB b).1 = laL 0 0 0 0 0 0 0 0 0 0 0 0 := by
      by_cases hA : StdG takeLa1 b 0 12 ∧ (nthG takeLa1 b 0 0).1 = 0
      · rw [takeLaB_yes hA.1 hA.2] at h0
        have := stdG_low (f := takeLa1) (m := 1) (fun b h => Nat.pos_of_ne_zero h) 12 hA.1
        dsimp only at h0
        omega
      · unfold takeLaB
        rw [if_neg hA]
        rfl
    rw [e1, h0]
    exact ⟨h.1, h.2, hg⟩
  · rw [if_neg h0] at h
    have ec : codeK (takeLaB b).2 = 0 := if_neg h0
    rw [ec]
    exact ⟨h.1, ⟨_, h.2⟩, hg⟩
/-- What is put is taken again. -/
theorem out_put {α : Type} {f : List UInt8 → α × Nat} {E : α → List UInt8} {good : List α → Bool} {l : List α} {most : Nat} (r : List UInt8) (hn : l.length < 18446744073709551616) (hm : l.length ≤ most) (hg : ∀ x, x ∈ l → PutG f E x) (h0 : ∀ x, x ∈ l → (E x).length ≠ 0) (hgood : good l = true) :
    outG f good (some (numB l.length ++ l.flatMap E ++ r)) most = some (l, r) := by
  unfold outG
  dsimp only
  rw [takeG_put r hn hm hg h0 hgood]
  dsimp only
  rw [if_neg (by rw [List.length_append, numB_len]; omega), List.drop_left]
theorem numOf_put {n : Nat} (r : List UInt8) (h : n ≤ 40) : numOf (some (numB n ++ r)) 40 = (n, some r) := by
  have ht := take_num (n := n) (most := 40) r (by omega) h
  unfold numOf
  dsimp only
  rw [ht]
  dsimp only
  rw [if_neg (by rw [numB_len]; omega), List.drop_left]
theorem outLa_put (n0 n1 n2 n3 n4 n5 n6 n7 n8 n9 n10 n11 : Nat) (r : List UInt8) (hg : goodLa (laL (n0 : Int) (n1 : Int) (n2 : Int) (n3 : Int) (n4 : Int) (n5 : Int) (n6 : Int) (n7 : Int) (n8 : Int) (n9 : Int) (n10 : Int) (n11 : Int)) = true) :
    outLa (some (laB (laL (n0 : Int) (n1 : Int) (n2 : Int) (n3 : Int) (n4 : Int) (n5 : Int) (n6 : Int) (n7 : Int) (n8 : Int) (n9 : Int) (n10 : Int) (n11 : Int)) ++ r)) = some (laL (n0 : Int) (n1 : Int) (n2 : Int) (n3 : Int) (n4 : Int) (n5 : Int) (n6 : Int) (n7 : Int) (n8 : Int) (n9 : Int) (n10 : Int) (n11 : Int), r) := by
  have hall : ∀ x, x ∈ laL (n0 : Int) (n1 : Int) (n2 : Int) (n3 : Int) (n4 : Int) (n5 : Int) (n6 : Int) (n7 : Int) (n8 : Int) (n9 : Int) (n10 : Int) (n11 : Int) → 0 ≤ x ∧ x ≤ 40 := fun x hx => by
    unfold goodLa at hg
    rw [Bool.and_eq_true] at hg
    exact of_decide_eq_true (List.all_eq_true.1 hg.1 x hx)
  have h0 : n0 ≤ 40 := by have := hall (n0 : Int) (by simp); omega
  have h1 : n1 ≤ 40 := by have := hall (n1 : Int) (by simp); omega
  have h2 : n2 ≤ 40 := by have := hall (n2 : Int) (by simp); omega
  have h3 : n3 ≤ 40 := by have := hall (n3 : Int) (by simp); omega
  have h4 : n4 ≤ 40 := by have := hall (n4 : Int) (by simp); omega
  have h5 : n5 ≤ 40 := by have := hall (n5 : Int) (by simp); omega
  have h6 : n6 ≤ 40 := by have := hall (n6 : Int) (by simp); omega
  have h7 : n7 ≤ 40 := by have := hall (n7 : Int) (by simp); omega
  have h8 : n8 ≤ 40 := by have := hall (n8 : Int) (by simp); omega
  have h9 : n9 ≤ 40 := by have := hall (n9 : Int) (by simp); omega
  have h10 : n10 ≤ 40 := by have := hall (n10 : Int) (by simp); omega
  have h11 : n11 ≤ 40 := by have := hall (n11 : Int) (by simp); omega
  have e : laB (laL (n0 : Int) (n1 : Int) (n2 : Int) (n3 : Int) (n4 : Int) (n5 : Int) (n6 : Int) (n7 : Int) (n8 : Int) (n9 : Int) (n10 : Int) (n11 : Int)) ++ r = numB n0 ++ (numB n1 ++ (numB n2 ++ (numB n3 ++ (numB n4 ++ (numB n5 ++ (numB n6 ++ (numB n7 ++ (numB n8 ++ (numB n9 ++ (numB n10 ++ (numB n11 ++ (r)))))))))))) := by
    unfold laB
    simp [List.append_assoc]
  rw [e]
  generalize hb : numB n0 ++ (numB n1 ++ (numB n2 ++ (numB n3 ++ (numB n4 ++ (numB n5 ++ (numB n6 ++ (numB n7 ++ (numB n8 ++ (numB n9 ++ (numB n10 ++ (numB n11 ++ (r)))))))))))) = b
  have s0 : stN (some b) 0 = some (numB n0 ++ (numB n1 ++ (numB n2 ++ (numB n3 ++ (numB n4 ++ (numB n5 ++ (numB n6 ++ (numB n7 ++ (numB n8 ++ (numB n9 ++ (numB n10 ++ (numB n11 ++ (r))))))))))))) := by
    rw [← hb]; rfl
  have v0 : vN (some b) 0 = n0 := by
    show (numOf (stN (some b) 0) 40).1 = _
    rw [s0, numOf_put _ h0]
  have s1 : stN (some b) 1 = some (numB n1 ++ (numB n2 ++ (numB n3 ++ (numB n4 ++ (numB n5 ++ (numB n6 ++ (numB n7 ++ (numB n8 ++ (numB n9 ++ (numB n10 ++ (numB n11 ++ (r)))))))))))) := by
    show (numOf (stN (some b) 0) 40).2 = _; rw [s0, numOf_put _ h0]
  have v1 : vN (some b) 1 = n1 := by
    show (numOf (stN (some b) 1) 40).1 = _
    rw [s1, numOf_put _ h1]
  have s2 : stN (some b) 2 = some (numB n2 ++ (numB n3 ++ (numB n4 ++ (numB n5 ++ (numB n6 ++ (numB n7 ++ (numB n8 ++ (numB n9 ++ (numB n10 ++ (numB n11 ++ (r))))))))))) := by
    show (numOf (stN (some b) 1) 40).2 = _; rw [s1, numOf_put _ h1]
  have v2 : vN (some b) 2 = n2 := by
    show (numOf (stN (some b) 2) 40).1 = _
    rw [s2, numOf_put _ h2]
  have s3 : stN (some b) 3 = some (numB n3 ++ (numB n4 ++ (numB n5 ++ (numB n6 ++ (numB n7 ++ (numB n8 ++ (numB n9 ++ (numB n10 ++ (numB n11 ++ (r)))))))))) := by
    show (numOf (stN (some b) 2) 40).2 = _; rw [s2, numOf_put _ h2]
  have v3 : vN (some b) 3 = n3 := by
    show (numOf (stN (some b) 3) 40).1 = _
    rw [s3, numOf_put _ h3]
  have s4 : stN (some b) 4 = some (numB n4 ++ (numB n5 ++ (numB n6 ++ (numB n7 ++ (numB n8 ++ (numB n9 ++ (numB n10 ++ (numB n11 ++ (r))))))))) := by
    show (numOf (stN (some b) 3) 40).2 = _; rw [s3, numOf_put _ h3]
  have v4 : vN (some b) 4 = n4 := by
    show (numOf (stN (some b) 4) 40).1 = _
    rw [s4, numOf_put _ h4]
  have s5 : stN (some b) 5 = some (numB n5 ++ (numB n6 ++ (numB n7 ++ (numB n8 ++ (numB n9 ++ (numB n10 ++ (numB n11 ++ (r)))))))) := by
    show (numOf (stN (some b) 4) 40).2 = _; rw [s4, numOf_put _ h4]
  have v5 : vN (some b) 5 = n5 := by
    show (numOf (stN (some b) 5) 40).1 = _
    rw [s5, numOf_put _ h5]
  have s6 : stN (some b) 6 = some (numB n6 ++ (numB n7 ++ (numB n8 ++ (numB n9 ++ (numB n10 ++ (numB n11 ++ (r))))))) := by
    show (numOf (stN (some b) 5) 40).2 = _; rw [s5, numOf_put _ h5]
  have v6 : vN (some b) 6 = n6 := by
    show (numOf (stN (some b) 6) 40).1 = _
    rw [s6, numOf_put _ h6]
  have s7 : stN (some b) 7 = some (numB n7 ++ (numB n8 ++ (numB n9 ++ (numB n10 ++ (numB n11 ++ (r)))))) := by
    show (numOf (stN (some b) 6) 40).2 = _; rw [s6, numOf_put _ h6]
  have v7 : vN (some b) 7 = n7 := by
    show (numOf (stN (some b) 7) 40).1 = _
    rw [s7, numOf_put _ h7]
  have s8 : stN (some b) 8 = some (numB n8 ++ (numB n9 ++ (numB n10 ++ (numB n11 ++ (r))))) := by
    show (numOf (stN (some b) 7) 40).2 = _; rw [s7, numOf_put _ h7]
  have v8 : vN (some b) 8 = n8 := by
    show (numOf (stN (some b) 8) 40).1 = _
    rw [s8, numOf_put _ h8]
  have s9 : stN (some b) 9 = some (numB n9 ++ (numB n10 ++ (numB n11 ++ (r)))) := by
    show (numOf (stN (some b) 8) 40).2 = _; rw [s8, numOf_put _ h8]
  have v9 : vN (some b) 9 = n9 := by
    show (numOf (stN (some b) 9) 40).1 = _
    rw [s9, numOf_put _ h9]
  have s10 : stN (some b) 10 = some (numB n10 ++ (numB n11 ++ (r))) := by
    show (numOf (stN (some b) 9) 40).2 = _; rw [s9, numOf_put _ h9]
  have v10 : vN (some b) 10 = n10 := by
    show (numOf (stN (some b) 10) 40).1 = _
    rw [s10, numOf_put _ h10]
  have s11 : stN (some b) 11 = some (numB n11 ++ (r)) := by
    show (numOf (stN (some b) 10) 40).2 = _; rw [s10, numOf_put _ h10]
  have v11 : vN (some b) 11 = n11 := by
    show (numOf (stN (some b) 11) 40).1 = _
    rw [s11, numOf_put _ h11]
  have s12 : stN (some b) 12 = some r := by
    show (numOf (stN (some b) 11) 40).2 = _
    rw [s11, numOf_put _ h11]
  have eL : lastsOf (some b) = laL (n0 : Int) (n1 : Int) (n2 : Int) (n3 : Int) (n4 : Int) (n5 : Int) (n6 : Int) (n7 : Int) (n8 : Int) (n9 : Int) (n10 : Int) (n11 : Int) := by
    show laL ((vN (some b) 0 : Nat) : Int) ((vN (some b) 1 : Nat) : Int) ((vN (some b) 2 : Nat) : Int) ((vN (some b) 3 : Nat) : Int) ((vN (some b) 4 : Nat) : Int) ((vN (some b) 5 : Nat) : Int) ((vN (some b) 6 : Nat) : Int) ((vN (some b) 7 : Nat) : Int) ((vN (some b) 8 : Nat) : Int) ((vN (some b) 9 : Nat) : Int) ((vN (some b) 10 : Nat) : Int) ((vN (some b) 11 : Nat) : Int) = _
    rw [v0, v1, v2, v3, v4, v5, v6, v7, v8, v9, v10, v11]
  unfold outLa
  rw [s12, eL]
  dsimp only
  rw [if_pos hg]
end Go.Proofs.YtnlnbgcmmlpniaaGreatDoor

namespace Go.Proofs.YtnlnbgcmmlpniaaGreatDoor
open Go.RowKit
attribute [local go_sem ↓] Go.wp_at_zero Go.wp_at_succ

theorem rl_info : (Tryz.prog.info? 109).map (fun i => (i.zero, i.size, i.bytes)) = some (some (.agg (lnI 0 0 0 0 ⟨#[]⟩ 0 0 ⟨#[]⟩ 0 0 ⟨#[]⟩)), 11, 112) := by kernel_rfl
/-- What such a call answers: a slice that the call owns, and how many bytes. -/
def TakeXP {α : Type} (t : TypeId) (z : Nat) (cells : α → Array Value) (r : List α × Nat) (w : World) (e : Ending) (w' : World) : Prop :=
  (∃ (A : Option Addr) (n c : Nat), e = .returned (.tuple #[.slice A n c, .int .i64 (r.2 : Nat)]) ∧ OwnX t z w.heap.size w' A n c (r.1.map cells)) ∧ Below w.heap.size w w'
theorem rdS_ofR {B : Nat} {W : World} {A : Option Addr} {L : List (List UInt8)} (h : RdX 1 B W A (L.map preC)) : RdS B W A (baL L) := by
  intro k x hx
  unfold baL at hx
  rw [List.getElem?_map] at hx
  cases hy : L[k]? with
  | none => rw [hy] at hx; cases hx
  | some y =>
    rw [hy] at hx
    injection hx with hx
    subst hx
    obtain ⟨ad, hA, hl, hc⟩ := h k _ (map_getR hy)
    refine ⟨ad, hA, hl, ?_⟩
    have := hc 0 _ rfl
    rwa [Nat.mul_one, Nat.add_zero] at this
theorem takeText_20 (b : List UInt8) : (takeTextB b 20).1.length ≤ 20 := by
  by_cases h : (takeTextB b 20).2 = 0
  · unfold takeTextB at h ⊢
    split
    · exact Nat.zero_le _
    · rename_i h1
      rw [if_neg h1] at h
      dsimp only at h
      omega
  · exact (text_take (b := b) (most := 20) (k := (takeTextB b 20).2) (s := (takeTextB b 20).1) rfl h).1
theorem listG_all {α : Type} {f : List UInt8 → α × Nat} {P : α → Prop} (h : ∀ b, P (f b).1) (l : List UInt8) (p : Nat) : ∀ (j : Nat) (x : α), x ∈ listG f l p j → P x
  | 0, x, hx => by cases hx
  | j + 1, x, hx => by
    rw [listG_succ] at hx
    rcases List.mem_append.1 hx with hx | hx
    · exact listG_all h l p j x hx
    · rw [List.mem_singleton.1 hx]
      exact h _

theorem std_next {α : Type} {f : List UInt8 → α × Nat} {l : List UInt8} {k j : Nat} (hA : StdG f l k j) (h : (nthG f l k j).2 ≠ 0) : StdG f l k (j + 1) := by
  intro i hi
  by_cases e : i = j
  · rw [e]; exact h
  · exact hA i (by omega)
theorem arr_fitsR {l : List UInt8} {n : Nat} (h : l.length ≤ n) (hn : n ≤ 1000) : (⟨l.toArray⟩ : ByteArray).size ≤ maxLen := by
  show l.toArray.size ≤ maxLen
  unfold maxLen
  simp
  omega
theorem valOf_pos {b : List UInt8} (h : (takeValB b).2 ≠ 0) : valOf (some b) = ((takeValB b).1, some (b.drop (takeValB b).2)) := if_neg h
theorem val_fitsB {b : List UInt8} (h : (takeValB b).2 ≠ 0) : (-9223372036854775808 ≤ (takeValB b).1.2.1 ∧ (takeValB b).1.2.1 ≤ 9223372036854775807) ∧ (takeValB b).1.2.2.length ≤ 40 := by
  have hv := val_fits (some b)
  rw [valOf_pos h] at hv
  exact hv
theorem takeCl_fits (b : List UInt8) : (takeClB b).1.fits := by
  have hz : Cl.fits clNo := ⟨Nat.zero_le _, Nat.zero_le _, by show (-9223372036854775808 : Int) ≤ 0; omega, by show (0 : Int) ≤ 9223372036854775807; omega⟩
  unfold takeClB
  split
  · exact hz
  · rename_i h
    have hv := val_fitsB (b := b.drop (takeTextB b 20).2) (by omega)
    exact ⟨arr_fitsR (takeText_20 b) (by omega), arr_fitsR hv.2 (by omega), hv.1.1, hv.1.2⟩
theorem gotW_fits {b : List UInt8} (h1 : (textW b).1.length ≤ 20) (h2 : (-9223372036854775808 ≤ (val1W b).1.2.1 ∧ (val1W b).1.2.1 ≤ 9223372036854775807) ∧ (val1W b).1.2.2.length ≤ 40) (h3 : (-9223372036854775808 ≤ (val2W b).1.2.1 ∧ (val2W b).1.2.1 ≤ 9223372036854775807) ∧ (val2W b).1.2.2.length ≤ 40) : (gotW b).fits := by
  generalize hA : textW b = A at h1
  generalize hB : val1W b = B at h2
  generalize hC : val2W b = C at h3
  unfold gotW Wr.fits
  rw [hA, hB, hC]
  exact ⟨arr_fitsR h1 (by omega), arr_fitsR h2.2 (by omega), arr_fitsR h3.2 (by omega), h2.1, h3.1⟩
theorem takeWr_fits (b : List UInt8) : (takeWrB b).1.fits := by
  have hz : Wr.fits wrNo := ⟨Nat.zero_le _, Nat.zero_le _, Nat.zero_le _, ⟨by show (-9223372036854775808 : Int) ≤ 0; omega, by show (0 : Int) ≤ 9223372036854775807; omega⟩, ⟨by show (-9223372036854775808 : Int) ≤ 0; omega, by show (0 : Int) ≤ 9223372036854775807; omega⟩⟩
  by_cases h : stdW b
  · rw [takeWr_yes h]
    obtain ⟨_, _, h3, h4, _⟩ := h
    refine gotW_fits (takeText_20 _) ?_ ?_
    · unfold val1W at h3 ⊢
      exact val_fitsB h3
    · unfold val2W at h4 ⊢
      exact val_fitsB h4
  · rw [takeWr_no h]
    exact hz
theorem takeLn_fits (b : List UInt8) : (takeLnB b).1.fits := by
  unfold takeLnB
  split
  · exact ⟨Nat.zero_le _, Nat.zero_le _, Nat.zero_le _, ⟨by show (-9223372036854775808 : Int) ≤ 0; omega, by show (0 : Int) ≤ 9223372036854775807; omega⟩, ⟨by show (-9223372036854775808 : Int) ≤ 0; omega, by show (0 : Int) ≤ 9223372036854775807; omega⟩⟩
  · exact takeWr_fits _

set_option maxRecDepth 100000 in
set_option maxHeartbeats 4000000 in
theorem refTakeR_any {B : Nat} (A : Option Addr) (n c : Nat) (l : List UInt8) (w : World) (hn : l.length = n) (hr : RdB B w A l) (hB : B ≤ w.heap.size) (hm : n ≤ 1000000) (hc : n ≤ c) :
    Calls Tryz.prog 25 #[.slice A n c] w fun e w' => TakeXP 9 1 preC (takeG preF goodR l 6) w e w' := by
  obtain ⟨i0, hi0, hz0, hz1, hz2⟩ := info_parts str_info
  have HN := Lib.hid hn
  have b3 : (n : Int) ≤ 1000000 := by omega
  have b4 : (n : Int) ≤ (c : Int) := by omega
  have hlt := takeNum_lt l 6
  rw [hn] at hlt
  have HC := Lib.hid (refTakeNumber_any (B := B) A n c l 6 w hn hr hm (by omega))
  generalize hq : takeNum l 6 = r at HC hlt
  obtain ⟨v, k⟩ := r
  simp only at HC hlt
  have HK := Lib.hid hq
  clear hq
  have HWV := Lib.hid (show IntKind.i64.wrap (v : Int) = (v : Int) ∧ wrap64 (v : Int) = (v : Int) from ⟨IntWalk.i64_in _ (by omega), by unfold wrap64; omega⟩)
  go_enter Tryz.func25, Tryz.ntmps25
  go_wp2_with fail
  refine HC.out.mono ?_
  rintro e w1 ⟨rfl, hD⟩
  by_cases hk : k = 0
  · have e0 : ((k : Int) == 0) = true := by rw [beq_iff_eq]; omega
    have R := Lib.hid (takeG_no (f := preF) (good := goodR) HK.out (.inl hk))
    have hWn : Below w.heap.size w w1 := hD.below _
    clear hk
    go_wp2_with fail
    go_ret2
    rw [R.out]
    exact ⟨⟨none, 0, 0, rfl, OwnX.nil _ _ _ _⟩, hWn⟩
  · have e0 : ((k : Int) == 0) = false := by rw [beq_eq_false_iff_ne]; omega
    have HK0 := Lib.hid hk
    clear hk
    go_wp2_with fail
    go_loopw [5, 6, 7] (fun t u i wr => ∃ (j p : Nat) (A3 : Option Addr) (c3 : Nat), j ≤ v ∧ i = .int .i64 j ∧ u = .slice A3 j c3 ∧ t = .int .i64 (p : Nat) ∧ Hid (posG preF l k j = p) ∧ OwnX 9 1 w.heap.size wr A3 j c3 ((listG preF l k j).map preC) ∧ Hid (StdG preF l k j) ∧ Below w.heap.size w wr) (fun _ _ i _ => v - (intOf i).toNat)
    case atStart => exact ⟨0, k, none, 0, Nat.zero_le _, rfl, rfl, rfl, rfl, OwnX.nil _ _ _ _, fun m hm => by omega, hD.below _⟩
    case round =>
      clear hD
      obtain ⟨j, p, A3, c3, hj, rfl, rfl, rfl, HP, hO, hA, hW⟩ := hrel
      have hp : p ≤ n := by
        have h1 := posG_le (fun b => takeText_le b 20) (l := l) (p := k) (by rw [HN.out]; omega) j
        rw [HP.out, HN.out] at h1
        exact h1
      by_cases hlt2 : j < v
      · have i1 : (0 : Int) ≤ (j : Int) := by omega
        have i2 : (j : Int) < (v : Int) := by omega
        have p0 : (0 : Int) ≤ (p : Int) := by omega
        have p1 : (p : Int) ≤ (n : Int) := by omega
        have hrd := (hr.keep hW hB).cut (p := p) (c := c) (by omega)
        have hs := fun W => run_cut W A n c p hp
        have HT : Hid (∀ W, RdB B W (cutA A c p) (l.drop p) → Calls Tryz.prog 64 #[.slice (cutA A c p) (n - p) (c - p), .int .u64 20] W fun e w' => (∃ s : ByteArray, e = .returned (.tuple #[.string s, .int .i64 ((takeTextB (l.drop p) 20).2 : Nat)]) ∧ s.data.toList = (takeTextB (l.drop p) 20).1) ∧ Drn W w') :=
          fun W h => refTakeText_any (B := B) _ _ _ (l.drop p) 20 W (by rw [List.length_drop, HN.out]) h (by omega) (by omega) (by omega)
        have hle := takeText_le (l.drop p) 20
        rw [List.length_drop, HN.out] at hle
        generalize hq : takeTextB (l.drop p) 20 = T at HT hle
        obtain ⟨ts, tk⟩ := T
        dsimp only at HT hle
        have HQ : Hid (nthG preF l k j = (ts, tk)) := by rw [← HP.out] at hq; exact hq
        clear hq
        obtain ⟨hwv, hwv2⟩ := HWV.out
        go_wp2_with fail
        clear hwv hwv2
        refine (HT.out wr hrd).mono ?_
        rintro e w2 ⟨⟨s, rfl, hs⟩, hD⟩
        have es := ba_of hs
        subst es
        have hWn := hW.trans (hD.below _)
        have hO2 := hO.keep (hD.below _)
        clear hs HT
        by_cases h0 : tk = 0
        · have e1 : ((tk : Int) == 0) = true := by rw [beq_iff_eq]; omega
          have R := Lib.hid (takeG_no (f := preF) (good := goodR) HK.out (.inr (.inl ⟨j, hlt2, by rw [HQ.out]; exact h0⟩)))
          clear h0
          go_wp2_with fail
          go_ret2
          rw [R.out]
          exact ⟨⟨none, 0, 0, rfl, OwnX.nil _ _ _ _⟩, hWn⟩
        · have e1 : ((tk : Int) == 0) = false := by rw [beq_eq_false_iff_ne]; omega
          have HA2 : Hid (StdG preF l k (j + 1)) := std_next hA.out (by rw [HQ.out]; exact h0)
          have HL : Hid (listG preF l k (j + 1) = listG preF l k j ++ [ts]) := by show _ = _; rw [listG_succ, HQ.out]
          have HPn : Hid (posG preF l k (j + 1) = p + tk) := by show _ = _; rw [posG_succ, HQ.out, HP.out]
          have hx := newX w2 (preC ts) 9
          have hO3 := hO2.keep (b0 w2 (.cells (preC ts) 9))
          have hW3 := ba hWn (.cells (preC ts) 9)
          have hz := hW3.size
          have m1 : (p : Int) + (tk : Int) ≤ (n : Int) := by omega
          clear h0 hA hWn hO2
          go_wp2_with (at_builtin; refine wpList_apX (el := 9) (base := w.heap.size) (n := j) (l := (listG preF l k j).map preC) (xx := preC ts) (by rfl) _ _ (by rfl) Tryz.underlying23 Tryz.underlying23 hi0 hz0 hz1 hz2 (by rfl) (by omega) (by omega) (by rfl) (by rfl) hO3 (by rfl) (pre_one ts) hx (by omega) hz ?_; intro A5 c5 w5 hO5 hb5)
          have hO6 : OwnX 9 1 w.heap.size w5 A5 (j + 1) c5 ((listG preF l k (j + 1)).map preC) := by rw [HL.out, List.map_append]; exact hO5
          go_roundw
          case rel => exact ⟨j + 1, p + tk, A5, c5, by omega, by go_num, rfl, by go_num, HPn, hO6, HA2, hW3.trans hb5⟩
          case measure => simp [intOf]; omega
      · have hq : ¬ (j : Int) < (v : Int) := by omega
        have hjv : j = v := by omega
        subst hjv
        have hG : Calls Tryz.prog 7 #[.slice A3 j c3] wr fun e w' => e = .returned (.bool (goodR (listG preF l k j))) ∧ Below wr.heap.size wr w' := by
          have h2 := refRGood_any (B := wr.heap.size) A3 j c3 (baL (listG preF l k j)) wr (by rw [baL_len, listG_len]) (rdS_ofR hO.rd) (by unfold maxLen; omega) (fun x hx => by
            obtain ⟨i, hi⟩ := List.getElem?_of_mem hx
            unfold baL at hi
            rw [List.getElem?_map] at hi
            cases hy : (listG preF l k j)[i]? with
            | none => rw [hy] at hi; cases hi
            | some y =>
              rw [hy] at hi
              injection hi with hi
              subst hi
              exact arr_fitsR (listG_all (P := fun x : List UInt8 => x.length ≤ 20) takeText_20 l k j y (List.mem_of_getElem? hy)) (by omega))
          rw [dL_baL] at h2
          exact h2.mono fun e w' h => ⟨h.1, h.2.below _⟩
        cases hgd : goodR (listG preF l k j) with
        | false =>
          rw [hgd] at hG
          have R := Lib.hid (takeG_no (f := preF) (good := goodR) HK.out (.inr (.inr hgd)))
          have HG := Lib.hid hG
          clear hgd hA hG
          obtain ⟨hwv, hwv2⟩ := HWV.out
          go_wp2_with fail
          clear hwv hwv2
          refine HG.out.mono ?_
          rintro e w2 ⟨rfl, hb2⟩
          have hWn := bt hW hb2
          go_wp2_with fail
          go_ret2
          rw [R.out]
          exact ⟨⟨none, 0, 0, rfl, OwnX.nil _ _ _ _⟩, hWn⟩
        | true =>
          rw [hgd] at hG
          have R := Lib.hid (takeG_yes (f := preF) (good := goodR) HK.out HK0.out hA.out hgd)
          have HG := Lib.hid hG
          clear hgd hA hG
          obtain ⟨hwv, hwv2⟩ := HWV.out
          go_wp2_with fail
          clear hwv hwv2
          refine HG.out.mono ?_
          rintro e w2 ⟨rfl, hb2⟩
          have hO2 := hO.keep hb2
          have HE := Lib.hid (show (Value.tuple #[.slice A3 j c3, .int .i64 (p : Nat)]) = .tuple #[.slice A3 j c3, .int .i64 (posG preF l k j : Nat)] by rw [HP.out])
          go_wp2_with fail
          go_ret2
          rw [R.out]
          exact ⟨⟨A3, j, c3, congrArg Ending.returned HE.out, hO2⟩, bt hW hb2⟩
end Go.Proofs.YtnlnbgcmmlpniaaGreatDoor
