/-
  WHAT IS PROVED: skies: By. Conditions: those typed in each theorem.
-/
import Derived.Test.YtkfhkfddhijkcaaWxC
namespace Go.Proofs.Ytkfhkfddhijkcaa
open Go.RowKit

theorem alInt (w : World) : (Instr.alloc 3 true (.tuple #[])).run Try.prog w = .ok (.pointer (some ⟨w.heap.size, 0, none⟩)) (w.alloc (.cells #[.int .i64 0] 3)) := by kernel_rfl
theorem st_int1 {W : World} {b : Nat} {u : Value} {T : TypeId} (hX : Blk W b #[u] T) (v : Int) : (Instr.storeAt 3 (.pointer (some ⟨b, 0, none⟩)) (.int .i64 v)).run Try.prog W = .ok () (W.setCell ⟨b, 0, none⟩ (.int .i64 v)) := by
  have c0 := hX.cell 0
  have f0 := hX.free 0
  go_simp
theorem hE0 {p q : Nat} {a w2 w3 w4 : World} (ho : Only1 p a w2) (hB : Below w2.heap.size w2 w3) (ho4 : Only1 q w3 w4) (hq : q = w2.heap.size) : Exc p a w4 :=
  ⟨ho4.os.trans (hB.os.trans ho.os), ho4.tape.trans (hB.tape.trans ho.tape), ho4.output.trans (hB.output.trans ho.output), by have := ho4.size; have := hB.size; have := ho.size; omega, fun k hk hp => by
    have hs := ho.size
    rw [ho4.block k (by omega), hB.block k (by omega), ho.block k hp]⟩
theorem x_mfC {P : Program} {i f : Nat} {d : Option Tmp} {ty : TypeId} {p : String} {af : Array Edge} {gd : Option (Nat × Bool)} {v : Value} {ρ : Operand → Value} {w : World} (h : ρ (.tmp i) = v) : (execOp ρ ⟨d, .makeFunc (.func f) #[] #[.tmp i], ty, p, af, gd⟩).run P w = .ok (.value (.func (.func f) #[] #[v])) w := by
  unfold execOp
  dsimp only
  go_simp
theorem g_mf {P : Program} {l : List Oper} {Q : Exit → Act → World → Prop} {rest : List Oper} {a0 : Act} {L : List (Nat × Bool × Value)} {w : World} {i f d n : Nat} {v : Value} {ty : TypeId} {p : String} {af : Array Edge} (hn : a0.tmps.size = n) (h : FL P l Q rest a0 ((d, true, .func (.func f) #[] #[v]) :: L) w) (hd : Nat.blt d n = true := by rfl) (hl : lk L i = some (true, v) := by rfl) : FL P l Q (⟨some d, .makeFunc (.func f) #[] #[.tmp i], ty, p, af, none⟩ :: rest) a0 L w :=
  fl_op hn rfl hd rfl (fun hk hg => x_mfC (lk_at hk hl (fun _ => rfl) rfl)) h
set_option maxRecDepth 100000 in
set_option maxHeartbeats 400000 in
theorem skyBy_any {C : Nat} (s p : Nat) (A : Option Addr) (n c : Nat) (l : List Int) (w : World) (hs : s < 18446744073709551616) (hX : SkyB w p s) (hn0 : l.length = n) (hr : RdI C w A l) (hC : C ≤ p) (hm : n ≤ 60) (hw : WOk l) : Calls Try.prog 33 #[.pointer (some ⟨p, 0, none⟩), .slice A n c] w fun e w' => e = .returned (.int .i64 (byV s l)) ∧ SkyB w' p (byS s l) ∧ Exc p w w' := by
  have HN := Lib.hid hn0
  have HW := Lib.hid hw
  clear hn0 hw
  go_enter Try.func33, Try.ntmps33
  go_wp2_with fail
  go_loopw [5, 7, 11] (fun u5 _ i wr => ∃ k : Nat, k ≤ n ∧ i = .int .i64 k ∧ u5 = .int .i64 (sumW (l.take k)) ∧ wr = w) (fun _ _ i _ => n - (intOf i).toNat)
  case atStart => exact ⟨0, Nat.zero_le _, rfl, rfl, rfl⟩
  case round =>
    obtain ⟨k, hkn, rfl, rfl, rfl⟩ := hrel
    by_cases hlt : k < n
    · obtain ⟨x, hx⟩ : ∃ x, l[k]? = some x := ⟨_, List.getElem?_eq_getElem (show k < l.length by have := HN.out; omega)⟩
      obtain ⟨ad, rfl, hadb, hc⟩ := hr k x hx
      have hx1 := HW.out x (List.mem_of_getElem? hx)
      have hs0 := sumW_le (HW.out.take k)
      rw [List.length_take] at hs0
      have hs : sumW (l.take (k + 1)) = sumW (l.take k) + x := by
        rw [List.take_add_one, hx]
        exact sumW_snoc _ _
      have HS := Lib.hid hs
      have wr2 : IntKind.i64.wrap (sumW (l.take k) + x) = sumW (l.take k) + x := wrapS (by omega)
      clear hx hs hs0 hx1
      generalize sumW (l.take k) = y at *
      have i2 : (k : Int) < (n : Int) := by omega
      have i1 : (0 : Int) ≤ (k : Int) := by omega
      go_wp2_with fail
      go_roundw
      case rel => exact ⟨k + 1, by omega, by go_num, by rw [HS.out], by first | rfl | trivial⟩
      case measure => simp [intOf]; omega
    · have e : k = n := by omega
      subst e
      rw [List.take_of_length_le (by have := HN.out; omega)]
      have i2 : ¬ (k : Int) < (k : Int) := by omega
      have hs0 := sumW_le HW.out
      rw [HN.out] at hs0
      by_cases h1 : sumW l < 1
      · have R : Hid (-1 = byV s l ∧ byS s l = s) := ⟨(byV_no s h1).symm, by unfold byS; rw [if_pos h1]⟩
        clear hs0
        generalize sumW l = y at *
        go_wp2_with fail
        go_ret
        exact ⟨ret_i64 R.out.1, by rw [R.out.2]; exact hX, Exc.refl _ _⟩
      · have R : Hid (byV s l = findW (blV s (sumW l)) 0 l ∧ byS s l = blS s (sumW l)) := ⟨by unfold byV; rw [if_neg h1], by unfold byS; rw [if_neg h1]⟩
        have hv := blV_in s (show 1 ≤ sumW l by omega)
        have c1 := skyBelow_any s p (sumW l) wr hs (by omega) hX
        generalize hy : sumW l = y at *
        generalize blV s y = v at *
        generalize blS s y = s2 at *
        go_upto_region 9 with fail
        refine wp_region_lit ?_
        refine fl_start ?_
        generalize ha : Act.mk _ _ = a0
        have hn : a0.tmps.size = 27 := by rw [← ha]; kernel_rfl
        have h0 : (fr a0 []).eval (.tmp 0) = .pointer (some ⟨p, 0, none⟩) := by rw [← ha]; kernel_rfl
        refine fl_know hn rfl h0 ?_
        clear h0
        have h5 : (fr a0 [(0, true, .pointer (some ⟨p, 0, none⟩))]).eval (.tmp 5) = .int .i64 y := by rw [← ha]; kernel_rfl
        refine fl_know hn rfl h5 ?_
        clear h5
        refine g_mv hn ?_
        refine g_mv hn ?_
        refine g_c2x en_spinney_weather_Sky_Below hn (R := fun u w2 => u = .int .i64 v ∧ SkyB w2 p s2 ∧ Only1 p wr w2) (c1.mono fun _ _ ⟨he, hb2⟩ => ⟨_, he, rfl, hb2⟩) ?_
        rintro u w2 ⟨rfl, hX2, ho⟩
        refine al_row hn (alInt w2) ?_
        intro q w3 hq hX3 hB3
        refine g_stt hX3 (hr := st_int1 hX3 v) ?_
        intro w4 ho4 hX4
        refine fl_end ?_
        clear hn
        subst ha
        dsimp only [fr, cnd, Act.put, cond_true]
        simp only [List.setIfInBounds_toArray, List.set_cons_zero, List.set_cons_succ]
        have hE : Exc p wr w4 := hE0 ho hB3 ho4 hq
        have hpq : p ≠ q := by have := hX2.lt; omega
        have hqw : wr.heap.size ≤ q := by have := ho.size; omega
        have hXp : SkyB w4 p s2 := (hX2.keep hB3).only ho4 hpq
        have hrq := hr.exc hE (by have := hX.lt; omega) hC
        clear c1 hX2 hX3 hB3 ho ho4
        go_upto_region 10 with fail
        have c2 := idxI_any A k c l q v w4 HN.out hrq (by have := hX.lt; have := hE.size; omega) (by have := hX.lt; have := hqw; omega) hm HW.out (by omega) hX4
        refine wp_region_lit ?_
        refine fl_start ?_
        generalize ha : Act.mk _ _ = a0
        have hn : a0.tmps.size = 27 := by rw [← ha]; kernel_rfl
        have h1 : (fr a0 []).eval (.tmp 1) = .slice A k c := by rw [← ha]; kernel_rfl
        refine fl_know hn rfl h1 ?_
        clear h1
        have h8 : (fr a0 [(1, true, .slice A k c)]).eval (.tmp 8) = .pointer (some ⟨q, 0, none⟩) := by rw [← ha]; kernel_rfl
        refine fl_know hn rfl h8 ?_
        clear h8
        refine g_mv hn ?_
        refine g_mf hn ?_
        refine g_c2x en_slices_IndexFunc_int_int hn (R := fun u w2 => u = .int .i64 (findW v 0 l) ∧ Exc q w4 w2) (c2.mono fun _ _ ⟨he, hb2⟩ => ⟨_, he, rfl, hb2⟩) ?_
        rintro u w5 ⟨rfl, hE5⟩
        refine g_as hn ?_
        refine fl_end ?_
        clear hn
        subst ha
        dsimp only [fr, cnd, Act.put, cond_true]
        simp only [List.setIfInBounds_toArray, List.set_cons_zero, List.set_cons_succ]
        have hX5 : SkyB w5 p s2 := hE5.blk hXp hpq
        have hE6 : Exc p wr w5 := ⟨hE5.os.trans hE.os, hE5.tape.trans hE.tape, hE5.output.trans hE.output, Nat.le_trans hE.size hE5.size, fun i hi hp => (hE5.block i (Nat.lt_of_lt_of_le hi hE.size) (by omega)).trans (hE.block i hi hp)⟩
        clear c2 hX4 hXp hE hE5 hrq
        go_wp2_with fail
        go_ret
        exact ⟨by rw [R.out.1]; rfl, by rw [R.out.2]; exact hX5, hE6⟩
end Go.Proofs.Ytkfhkfddhijkcaa
