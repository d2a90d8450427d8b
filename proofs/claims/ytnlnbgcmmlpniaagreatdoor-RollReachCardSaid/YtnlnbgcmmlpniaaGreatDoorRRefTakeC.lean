/-
  WHAT IS PROVED: the document's taking of cells from bytes (spinneyref07.TakeCells). Conditions: those typed in the theorem.
-/
import Derived.Test.YtnlnbgcmmlpniaaGreatDoorM11
namespace Go.Proofs.YtnlnbgcmmlpniaaGreatDoor
open Go.RowKit
attribute [local go_sem ↓] Go.wp_at_zero Go.wp_at_succ

set_option maxRecDepth 100000 in
set_option maxHeartbeats 4000000 in
theorem refTakeC_any {B : Nat} (A : Option Addr) (n c : Nat) (l : List UInt8) (w : World) (hn : l.length = n) (hr : RdB B w A l) (hB : B ≤ w.heap.size) (hm : n ≤ 1000000) (hc : n ≤ c) :
    Calls Tryz.prog 26 #[.slice A n c] w fun e w' => TakeXP 128 4 Cl.cells (takeG takeClB goodCls l 4096) w e w' := by
  obtain ⟨i0, hi0, hz0, hz1, hz2⟩ := info_parts cl_info
  have HN := Lib.hid hn
  have b3 : (n : Int) ≤ 1000000 := by omega
  have b4 : (n : Int) ≤ (c : Int) := by omega
  have hlt := takeNum_lt l 4096
  rw [hn] at hlt
  have HC := Lib.hid (refTakeNumber_any (B := B) A n c l 4096 w hn hr hm (by omega))
  generalize hq : takeNum l 4096 = r at HC hlt
  obtain ⟨v, k⟩ := r
  simp only at HC hlt
  have HK := Lib.hid hq
  clear hq
  have HWV := Lib.hid (show IntKind.i64.wrap (v : Int) = (v : Int) ∧ wrap64 (v : Int) = (v : Int) from ⟨IntWalk.i64_in _ (by omega), by unfold wrap64; omega⟩)
  go_enter Tryz.func26, Tryz.ntmps26
  go_wp2_with fail
  refine HC.out.mono ?_
  rintro e w1 ⟨rfl, hD⟩
  by_cases hk : k = 0
  · have e0 : ((k : Int) == 0) = true := by rw [beq_iff_eq]; omega
    have R := Lib.hid (takeG_no (f := takeClB) (good := goodCls) HK.out (.inl hk))
    have hWn : Below w.heap.size w w1 := hD.below _
    clear hk
    go_wp2_with fail
    go_ret2
    rw [R.out]
    exact ⟨⟨none, 0, 0, rfl, OwnX.nil _ _ _ _⟩, hWn⟩
  · have e0 : ((k : Int) == 0) = false := by rw [beq_eq_false_iff_ne]; omega
    have HK0 := Lib.hid hk
    clear hk
    go_wp2_with fail
    go_loopw [5, 6, 7] (fun t u i wr => ∃ (j p : Nat) (A3 : Option Addr) (c3 : Nat), j ≤ v ∧ i = .int .i64 j ∧ u = .slice A3 j c3 ∧ t = .int .i64 (p : Nat) ∧ Hid (posG takeClB l k j = p) ∧ OwnX 128 4 w.heap.size wr A3 j c3 ((listG takeClB l k j).map Cl.cells) ∧ Hid (StdG takeClB l k j) ∧ Below w.heap.size w wr) (fun _ _ i _ => v - (intOf i).toNat)
    case atStart => exact ⟨0, k, none, 0, Nat.zero_le _, rfl, rfl, rfl, rfl, OwnX.nil _ _ _ _, fun m hm => by omega, hD.below _⟩
    case round =>
      clear hD
      obtain ⟨j, p, A3, c3, hj, rfl, rfl, rfl, HP, hO, hA, hW⟩ := hrel
      have hp : p ≤ n := by
        have h1 := posG_le takeCl_le (l := l) (p := k) (by rw [HN.out]; omega) j
        rw [HP.out, HN.out] at h1
        exact h1
      by_cases hlt2 : j < v
      · have i1 : (0 : Int) ≤ (j : Int) := by omega
        have i2 : (j : Int) < (v : Int) := by omega
        have p0 : (0 : Int) ≤ (p : Int) := by omega
        have p1 : (p : Int) ≤ (n : Int) := by omega
        have hrd := (hr.keep hW hB).cut (p := p) (c := c) (by omega)
        have hs := fun W => run_cut W A n c p hp
        have HT : Hid (∀ W, RdB B W (cutA A c p) (l.drop p) → Calls Tryz.prog 64 #[.slice (cutA A c p) (n - p) (c - p), .int .u64 20] W fun e w' => (∃ s : ByteArray, e = .returned (.tuple #[.string s, .int .i64 ((takeTextB (l.drop p) 20).2 : Nat)]) ∧ s.data.toList = (takeTextB (l.drop p) 20).1) ∧ Drn W w') :=
          fun W h => refTakeText_any (B := B) _ _ _ (l.drop p) 20 W (by rw [List.length_drop, HN.out]) h (by omega) (by omega) (by omega)
        have hle := takeText_le (l.drop p) 20
        rw [List.length_drop, HN.out] at hle
        generalize hq : takeTextB (l.drop p) 20 = T at HT hle
        obtain ⟨ts, tk⟩ := T
        dsimp only at HT hle
        have HV : Hid (∀ W, RdB B W (cutA A c (p + tk)) (l.drop (p + tk)) → B ≤ W.heap.size → Calls Tryz.prog 65 #[.slice (cutA A c (p + tk)) (n - (p + tk)) (c - (p + tk))] W fun e w' => TakeVP (takeValB (l.drop (p + tk))) W e w') :=
          fun W h h2 => refTakeValue_any (B := B) _ _ _ (l.drop (p + tk)) W (by rw [List.length_drop, HN.out]) h h2 (by omega) (by omega)
        have hle2 := takeVal_le (l.drop (p + tk))
        rw [List.length_drop, HN.out] at hle2
        generalize hq2 : takeValB (l.drop (p + tk)) = V at HV hle2
        obtain ⟨⟨vk, vn, vs⟩, vm⟩ := V
        unfold TakeVP at HV
        dsimp only at HV hle2
        have HQ : Hid (nthG takeClB l k j = if tk = 0 ∨ vm = 0 then (clNo, 0) else (⟨⟨ts.toArray⟩, vk, vn, ⟨vs.toArray⟩⟩, tk + vm)) := by
          show _ = _
          unfold nthG
          rw [HP.out]
          unfold takeClB
          rw [hq]
          dsimp only
          rw [List.drop_drop, hq2]
        clear hq hq2
        have hs2 := fun W => run_cutI W A n c (p + tk) ((p : Int) + (tk : Int)) (by omega) (by omega)
        have hrd2 := fun W (h : Below w.heap.size w W) => (hr.keep h hB).cut (p := p + tk) (c := c) (by omega)
        have m0 : (p : Int) + (tk : Int) ≤ (n : Int) := by omega
        have m1 : (p : Int) + (tk : Int) + (vm : Int) ≤ (n : Int) := by omega
        obtain ⟨hwv, hwv2⟩ := HWV.out
        go_wp2_with fail
        clear hwv hwv2
        refine (HT.out wr hrd).mono ?_
        rintro e w2 ⟨⟨s, rfl, hs⟩, hD⟩
        have es := ba_of hs
        subst es
        have hW2 := hW.trans (hD.below _)
        have hO2 := hO.keep (hD.below _)
        clear HT hO hW hrd
        go_wp2_with fail
        refine (HV.out w2 (hrd2 w2 hW2) (Nat.le_trans hB hW2.size)).mono ?_
        rintro e w3 ⟨⟨s2, rfl, hs2⟩, hb3⟩
        have es2 := ba_of hs2
        subst es2
        have hW3 := bt hW2 hb3
        have hO3 := hO2.keep hb3
        clear HV hO2 hW2 hrd2 hs2 hb3
        go_upto_region 10 with fail
        have hV := blk_new w3 #[.int .i64 vk, .int .i64 vn, .string ⟨vs.toArray⟩] 59
        have hWn := ba hW3 (.cells #[.int .i64 vk, .int .i64 vn, .string ⟨vs.toArray⟩] 59)
        have hO4 := hO3.keep (b0 w3 (.cells #[.int .i64 vk, .int .i64 vn, .string ⟨vs.toArray⟩] 59))
        clear hW3 hO3
        generalize w3.alloc (.cells #[.int .i64 vk, .int .i64 vn, .string ⟨vs.toArray⟩] 59) = W3 at hV hWn hO4 ⊢
        generalize w3.heap.size = bv at hV ⊢
        by_cases h0 : tk = 0
        · have e1 : ((tk : Int) == 0) = true := by rw [beq_iff_eq]; omega
          have R := Lib.hid (takeG_no (f := takeClB) (good := goodCls) HK.out (.inr (.inl ⟨j, hlt2, by rw [HQ.out, if_pos (.inl h0)]⟩)))
          clear h0
          go_wp2_with fail
          go_ret2
          rw [R.out]
          exact ⟨⟨none, 0, 0, rfl, OwnX.nil _ _ _ _⟩, hWn⟩
        · have e1 : ((tk : Int) == 0) = false := by rw [beq_eq_false_iff_ne]; omega
          by_cases h1 : vm = 0
          · have e2 : ((vm : Int) == 0) = true := by rw [beq_iff_eq]; omega
            have R := Lib.hid (takeG_no (f := takeClB) (good := goodCls) HK.out (.inr (.inl ⟨j, hlt2, by rw [HQ.out, if_pos (.inr h1)]⟩)))
            clear h0 h1
            go_wp2_with fail
            go_ret2
            rw [R.out]
            exact ⟨⟨none, 0, 0, rfl, OwnX.nil _ _ _ _⟩, hWn⟩
          · have e2 : ((vm : Int) == 0) = false := by rw [beq_eq_false_iff_ne]; omega
            have HQ2 : Hid (nthG takeClB l k j = ((Cl.mk ⟨ts.toArray⟩ vk vn ⟨vs.toArray⟩), tk + vm)) := by show _ = _; rw [HQ.out, if_neg (by omega)]
            have HA2 : Hid (StdG takeClB l k (j + 1)) := std_next hA.out (by rw [HQ2.out]; dsimp only; omega)
            have HL : Hid (listG takeClB l k (j + 1) = listG takeClB l k j ++ [(Cl.mk ⟨ts.toArray⟩ vk vn ⟨vs.toArray⟩)]) := by show _ = _; rw [listG_succ, HQ2.out]
            have HPn : Hid (posG takeClB l k (j + 1) = p + tk + vm) := by show _ = _; rw [posG_succ, HQ2.out, HP.out, Nat.add_assoc]
            have hx := newX W3 (Cl.cells (Cl.mk ⟨ts.toArray⟩ vk vn ⟨vs.toArray⟩)) 128
            have hO5 := hO4.keep (b0 W3 (.cells (Cl.cells (Cl.mk ⟨ts.toArray⟩ vk vn ⟨vs.toArray⟩)) 128))
            have hW5 := ba hWn (.cells (Cl.cells (Cl.mk ⟨ts.toArray⟩ vk vn ⟨vs.toArray⟩)) 128)
            have hz := hW5.size
            have v0 := hV.cell 0
            have v1 := hV.cell 1
            have v2 := hV.cell 2
            clear h0 h1 hA hWn hO4 HQ HQ2
            have hjb : j ≤ 1000000000 := by omega
            go_wp2_with (at_builtin; refine wpList_apX (el := 128) (base := w.heap.size) (n := j) (l := (listG takeClB l k j).map Cl.cells) (xx := Cl.cells (Cl.mk ⟨ts.toArray⟩ vk vn ⟨vs.toArray⟩)) (by rfl) _ _ (by rfl) Tryz.underlying69 Tryz.underlying69 hi0 hz0 hz1 hz2 (by rfl) (by omega) (by omega) (by rfl) (by rfl) hO5 (by rfl) (cl_one (Cl.mk ⟨ts.toArray⟩ vk vn ⟨vs.toArray⟩)) hx hjb hz ?_; intro A6 c6 w6 hO6 hb6)
            have hO7 : OwnX 128 4 w.heap.size w6 A6 (j + 1) c6 ((listG takeClB l k (j + 1)).map Cl.cells) := by rw [HL.out, List.map_append]; exact hO6
            go_roundw
            case rel => exact ⟨j + 1, p + tk + vm, A6, c6, by omega, by go_num, rfl, by go_num, HPn, hO7, HA2, hW5.trans hb6⟩
            case measure => simp [intOf]; omega
      · have hq : ¬ (j : Int) < (v : Int) := by omega
        have hjv : j = v := by omega
        subst hjv
        have hG := refGoodCs_any (B := wr.heap.size) A3 j c3 (listG takeClB l k j) wr (listG_len _ _ _ _) hO.rd (Nat.le_refl _) (by unfold maxLen; omega) (listG_all (P := Cl.fits) takeCl_fits l k j)
        cases hgd : goodCls (listG takeClB l k j) with
        | false =>
          rw [hgd] at hG
          have R := Lib.hid (takeG_no (f := takeClB) (good := goodCls) HK.out (.inr (.inr hgd)))
          have HG := Lib.hid hG
          clear hgd hA hG
          obtain ⟨hwv, hwv2⟩ := HWV.out
          go_wp2_with fail
          clear hwv hwv2
          refine HG.out.mono ?_
          rintro e w2 ⟨rfl, hb2⟩
          have hWn := bt hW hb2
          go_wp2_with fail
          go_ret2
          rw [R.out]
          exact ⟨⟨none, 0, 0, rfl, OwnX.nil _ _ _ _⟩, hWn⟩
        | true =>
          rw [hgd] at hG
          have R := Lib.hid (takeG_yes (f := takeClB) (good := goodCls) HK.out HK0.out hA.out hgd)
          have HG := Lib.hid hG
          clear hgd hA hG
          obtain ⟨hwv, hwv2⟩ := HWV.out
          go_wp2_with fail
          clear hwv hwv2
          refine HG.out.mono ?_
          rintro e w2 ⟨rfl, hb2⟩
          have hO2 := hO.keep hb2
          have HE := Lib.hid (show (Value.tuple #[.slice A3 j c3, .int .i64 (p : Nat)]) = .tuple #[.slice A3 j c3, .int .i64 (posG takeClB l k j : Nat)] by rw [HP.out])
          go_wp2_with fail
          go_ret2
          rw [R.out]
          exact ⟨⟨A3, j, c3, congrArg Ending.returned HE.out, hO2⟩, bt hW hb2⟩
end Go.Proofs.YtnlnbgcmmlpniaaGreatDoor
