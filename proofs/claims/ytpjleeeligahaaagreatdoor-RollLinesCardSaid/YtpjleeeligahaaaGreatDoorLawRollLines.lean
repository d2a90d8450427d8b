/-
  WHAT IS PROVED: the law of the statement RollLines answers true. Conditions: those typed in the theorem.
-/
import Derived.Test.YtpjleeeligahaaaGreatDoorGQ10
import Derived.Test.YtpjleeeligahaaaGreatDoorGQ11
import Derived.Test.YtpjleeeligahaaaGreatDoorGQ14
import Derived.Test.YtpjleeeligahaaaGreatDoorGQ15
import Derived.Test.YtpjleeeligahaaaGreatDoorRWrites
import Derived.Test.YtpjleeeligahaaaGreatDoorGQ6
import Derived.Test.YtpjleeeligahaaaGreatDoorGQ5
import Derived.Test.YtpjleeeligahaaaGreatDoorGQ4
namespace Go.Proofs.YtpjleeeligahaaaGreatDoor
open Go.RowKit

theorem lnB_most {x : Ln} (h : x.good = true) (hf : x.fits) : (lnB x).length ≤ 800 := by
  obtain ⟨h1, h2⟩ := ln_in h
  obtain ⟨g1, g2, g3, g4, g5, g6⟩ := good_in h2
  obtain ⟨_, _, _, f1, f2⟩ := hf
  have a0 := numB_small (n := x.pl.toNat) (by omega)
  have a1 := numB_small (n := x.w.dev.toNat) (by omega)
  have a2 := numB_small (n := x.w.seq.toNat) (by omega)
  have a3 := numB_small (n := x.w.K.toNat) (by omega)
  have a4 := text_most (s := x.w.ky) (by omega)
  have a5 := val_most (s := x.w.sa) g5.1 f1.1 f1.2 (by omega)
  have a6 := val_most (s := x.w.sb) g6.1 f2.1 f2.2 (by omega)
  unfold lnB wB wrB
  simp only [List.length_append]
  omega
/-- What stands through a region: the reader, the rest of the memory. -/
def HN7 (S : Addr) (g : Nat) (bh : List UInt8) (w0 W : World) : Prop := RdrP S W g (some bh) ∧ w0.grownBy W (some g)
section
variable {S : Addr} {g : Nat} {bh : List UInt8} {w0 W W1 : World}
theorem hl_0 (hR : RdrP S W g (some bh)) : HN7 S g bh W W.drew :=
  have hb := (Below.refl W.heap.size W).drew
  ⟨hR.below hb, grown_below hb _⟩
theorem hl_1 (h : HN7 S g bh w0 W) (hb : Below W.heap.size W W1) : HN7 S g bh w0 W1 := ⟨h.1.below hb, h.2.trans (grown_below hb _)⟩
theorem hl_e (h : HN7 S g bh w0 W) (hR : RdrP S W1 g (some bh)) (hg : W.grownBy W1 (some g)) : HN7 S g bh w0 W1 := ⟨hR, h.2.trans hg⟩
theorem hl_b {w : World} (h : HN7 S g bh w0 W) (hB : Below w.heap.size w w0) (hg : w.heap.size ≤ g) : Below w.heap.size w W := hB.trans (below_grown h.2 hg hB.size)
theorem hl_g (h : HN7 S g bh w0 W) : w0.grownBy W (some g) := h.2
end
/-- A write is set to nought. -/
theorem wrp_zero {W : World} {gw n k : Nat} {l : List Ln} {cs : Array Value} (hK : Blk W gw cs 47) (hcs : cs.size = n * 10) (hA : ∀ i x, k ≤ i → l[i]? = some x → ∀ j v, x.w.cells[j]? = some v → cs[i * 10 + j]? = some v) :
    WrP ((((((((((W.setCell ⟨gw, k * 10, none⟩ (.int .i64 0)).setCell ⟨gw, k * 10 + 1, none⟩ (.int .i64 0)).setCell ⟨gw, k * 10 + 2, none⟩ (.int .i64 0)).setCell ⟨gw, k * 10 + 3, none⟩ (.string ⟨#[]⟩)).setCell ⟨gw, k * 10 + 4, none⟩ (.int .i64 0)).setCell ⟨gw, k * 10 + 5, none⟩ (.int .i64 0)).setCell ⟨gw, k * 10 + 6, none⟩ (.string ⟨#[]⟩)).setCell ⟨gw, k * 10 + 7, none⟩ (.int .i64 0)).setCell ⟨gw, k * 10 + 8, none⟩ (.int .i64 0)).setCell ⟨gw, k * 10 + 9, none⟩ (.string ⟨#[]⟩)) gw n (k + 1) l := by
  obtain ⟨cs', hK3, hcs3, h31, _⟩ := set10X (p := k * 10) hK (.int .i64 0) (.int .i64 0) (.int .i64 0) (.string ⟨#[]⟩) (.int .i64 0) (.int .i64 0) (.string ⟨#[]⟩) (.int .i64 0) (.int .i64 0) (.string ⟨#[]⟩)
  exact ⟨cs', hK3, by rw [hcs3, hcs], fun i x hi hx j v hv => by rw [h31 (i * 10 + j) (.inr (by omega))]; exact hA i x (by omega) hx j v hv⟩

set_option maxRecDepth 100000 in
set_option maxHeartbeats 4000000 in
theorem lawRollLines_bad (A A2 : Option Addr) (n c m d : Nat) (l : List Ln) (w : World) (hn : l.length = n) (hr : RdX 11 w.heap.size w A (l.map Ln.cells)) (hf : ∀ x, x ∈ l → x.fits)
    (hb : 100 < n ∨ (n ≤ 100 ∧ goodLns l = false) ∨ (n ≤ 100 ∧ goodLns l = true ∧ 1000 < m)) :
    Calls Tryz.prog 3 #[.slice A n c, .slice A2 m d] w fun e w' => e = .returned (.bool true) ∧ Below w.heap.size w w' := by
  rcases hb with hs | ⟨hs, hb⟩ | ⟨hs, hb, hs2⟩
  · have i1 : (100 : Int) < (n : Int) := by omega
    have i2 : decide (100 < n) = true := decide_eq_true hs
    clear hr hn hf
    go_enter Tryz.func3, Tryz.ntmps3
    go_wp2_with first
      | (go_at_call 6; refine (rollAwake w).mono ?_; rintro e w1 ⟨rfl, hb1⟩)
      | (go_at_call 6; refine (rollAwake w1).mono ?_; rintro e w3 ⟨rfl, hb3⟩)
    go_ret
    exact ⟨rfl, bt hb1 hb3⟩
  · skip
    have hs : n ≤ 100 := hs
    have L1 := Lib.hid (fun W (h : Below w.heap.size w W) => lines_any (B := w.heap.size) A n c l W hn (hr.keep h (Nat.le_refl _)) h.size (by omega))
    have F1 := Lib.hid (fun (b : Bool) (e : goodLns l = b) W A9 c9 B9 (hO : OwnX 75 11 B9 W A9 n c9 (l.map Ln.cells)) => e ▸ refGoodLs_any (B := W.heap.size) A9 n c9 l W hn hO.rd (Nat.le_refl _) (by unfold maxLen; omega) hf)
    have i1 : ¬ (100 : Int) < (n : Int) := by omega
    have i2 : decide (100 < n) = false := decide_eq_false (by omega)
    clear hr hn hf
    go_enter Tryz.func3, Tryz.ntmps3
    go_wp2_with first
      | (go_at_call 6; refine (rollAwake w).mono ?_; rintro e w1 ⟨rfl, hb1⟩)
      | (go_at_call 8; refine (L1.out _ hb1).mono ?_; rintro e w2 ⟨⟨A9, c9, rfl, hO9⟩, hb2⟩; have hB2 := bt hb1 hb2)
      | (go_at_call 7; refine (F1.out _ hb _ _ _ _ hO9).mono ?_; rintro e w3 ⟨rfl, hb3⟩; have hB3 := bt hB2 hb3)
      | (go_at_call 6; refine (rollAwake w3).mono ?_; rintro e w4 ⟨rfl, hb4⟩)
    go_ret
    exact ⟨rfl, bt hB3 hb4⟩
  · skip
    have hs : n ≤ 100 := hs
    have L1 := Lib.hid (fun W (h : Below w.heap.size w W) => lines_any (B := w.heap.size) A n c l W hn (hr.keep h (Nat.le_refl _)) h.size (by omega))
    have F1 := Lib.hid (fun (b : Bool) (e : goodLns l = b) W A9 c9 B9 (hO : OwnX 75 11 B9 W A9 n c9 (l.map Ln.cells)) => e ▸ refGoodLs_any (B := W.heap.size) A9 n c9 l W hn hO.rd (Nat.le_refl _) (by unfold maxLen; omega) hf)
    have i1 : ¬ (100 : Int) < (n : Int) := by omega
    have i2 : decide (100 < n) = false := decide_eq_false (by omega)
    have i3 : (1000 : Int) < (m : Int) := by omega
    have i4 : decide (1000 < m) = true := decide_eq_true hs2
    clear hr hn hf
    go_enter Tryz.func3, Tryz.ntmps3
    go_wp2_with first
      | (go_at_call 6; refine (rollAwake w).mono ?_; rintro e w1 ⟨rfl, hb1⟩)
      | (go_at_call 8; refine (L1.out _ hb1).mono ?_; rintro e w2 ⟨⟨A9, c9, rfl, hO9⟩, hb2⟩; have hB2 := bt hb1 hb2)
      | (go_at_call 7; refine (F1.out _ hb _ _ _ _ hO9).mono ?_; rintro e w3 ⟨rfl, hb3⟩; have hB3 := bt hB2 hb3)
      | (go_at_call 6; refine (rollAwake w3).mono ?_; rintro e w4 ⟨rfl, hb4⟩)
    go_ret
    exact ⟨rfl, bt hB3 hb4⟩

set_option maxRecDepth 100000 in
set_option maxHeartbeats 16000000 in
theorem lawRollLines_good (S : Addr) (A A2 : Option Addr) (n c m d : Nat) (l : List Ln) (bh : List UInt8) (w : World) (hn : l.length = n) (hr : RdX 11 w.heap.size w A (l.map Ln.cells)) (hf : ∀ x, x ∈ l → x.fits) (hm : bh.length = m) (hr2 : RdB w.heap.size w A2 bh) (hL : LaidP S w)
    (hs : n ≤ 100) (hs2 : m ≤ 1000) (hg : goodLns l = true) :
    Calls Tryz.prog 3 #[.slice A n c, .slice A2 m d] w fun e w' => e = .returned (.bool true) ∧ Below w.heap.size w w' := by
  have hall : ∀ x, x ∈ l → x.good = true ∧ x.fits := fun x hx => ⟨goodLs_mem hg hx, hf x hx⟩
  have hz1 := flat_most (E := lnB) (m := 800) l fun x hx => lnB_most (hall x hx).1 (hall x hx).2
  have hz3 := numB_small (n := n) (by omega)
  have ht : outG takeLnB goodLns (some (numB n ++ l.flatMap lnB ++ bh)) 4096 = some (l, bh) := by
    rw [← hn]
    exact out_put (f := takeLnB) (E := lnB) _ (by omega) (by omega) (fun x hx => take_ln (hall x hx).1 (hall x hx).2) (fun x _ => lnB_pos x) hg
  obtain ⟨i0, hi0, hz0, hz1', hz2⟩ := info_parts byt_info
  have hK := Lib.hid (fun W (h : Below w.heap.size w W) => hr.keep h (Nat.le_refl _))
  have hK2 := Lib.hid (fun W (h : Below w.heap.size w W) => hr2.keep h (Nat.le_refl _))
  have hLK := Lib.hid (fun W (h : Below w.heap.size w W) => hL.keep (W' := W) h)
  have L0 := Lib.hid (fun W (h : Below w.heap.size w W) => lines_any (B := w.heap.size) A n c l W hn (hK.out W h) h.size (by omega))
  have F1 := Lib.hid (fun W A9 c9 B9 (hO : OwnX 75 11 B9 W A9 n c9 (l.map Ln.cells)) => hg ▸ refGoodLs_any (B := W.heap.size) A9 n c9 l W hn hO.rd (Nat.le_refl _) (by unfold maxLen; omega) hf)
  have P1 := Lib.hid (fun W (h : Below w.heap.size w W) => putL_any none A 0 0 n c [] l W rfl (by omega) (Nat.le_refl _) (RdB.nil _ _ _) hn (by omega) ((hK.out W h).more h.size) hall)
  have R1 := Lib.hid (fun W A6 c6 B6 (hO : OwnX 75 11 B6 W A6 n c6 (l.map Ln.cells)) => refPutL_any (B := W.heap.size) A6 n c6 l W hn hO.rd (Nat.le_refl _) (by omega) hall)
  have WR := Lib.hid (fun W (h : Below w.heap.size w W) => writes_any A n c l W hn ((hK.out W h).more h.size) (by omega) (fun x hx => (hall x hx).1))
  generalize hLR : numB n ++ l.flatMap lnB = LR at P1 ht R1
  have zR : LR.length ≤ 90000 := by rw [← hLR, List.length_append]; omega
  have i1 : ¬ (100 : Int) < (n : Int) := by omega
  have i2 : decide (100 < n) = false := decide_eq_false (by omega)
  have i3 : ¬ (1000 : Int) < (m : Int) := by omega
  have i4 : decide (1000 < m) = false := decide_eq_false (by omega)
  have hSame : sameG l l = true := sameG_yes rfl
  have HN := Lib.hid (And.intro hn hm)
  have HT := Lib.hid ht
  clear hr hr2 hall hz1 hz3 ht hg hLR hn hL hf
  go_enter Tryz.func3, Tryz.ntmps3
  go_upto_region 3 with first
    | (go_at_call 6; refine (rollAwake w).mono ?_; rintro e w1 ⟨rfl, hB1⟩)
    | (go_at_call 8; refine (L0.out _ hB1).mono ?_; rintro e w1' ⟨⟨A9, c9, rfl, hO9⟩, hb1'⟩; have hB1' := bt hB1 hb1')
    | (go_at_call 7; refine (F1.out _ _ _ _ hO9).mono ?_; rintro e w2 ⟨rfl, hb2⟩; have hB2 := bt hB1' hb2)
  go_upto_region 4 with (go_at_call 9; refine (P1.out _ hB2).mono ?_; rintro e w3 ⟨⟨A3, n3, c3, rfl, hO3⟩, hb3⟩; have hB3 := bt hB2 hb3)
  rw [List.nil_append] at hO3
  have hl3 := hO3.len
  have hr3 := hO3.rd
  have hlit : OwnB w3.heap.size (w3.alloc (.cells #[] 5)) (some ⟨w3.heap.size, 0, none⟩) 0 0 [] := OwnB.lit w3 #[] [] rfl rfl (Nat.le_refl _) (Nat.zero_le _)
  have hrA : RdB w3.heap.size (w3.alloc (.cells #[] 5)) A3 LR := hr3.keep (b0 w3 _) (Nat.le_refl _)
  clear hb3 hb2 hb1' hO9 hB1' hB1 hB2 hO3 P1 F1
  go_upto_region 5 with first
    | (at_builtin; refine wpList_apB (base := w3.heap.size) (n := 0) (m := n3) (l := []) (l2 := LR) (by rfl) _ _ (by rfl) Tryz.underlying23 Tryz.underlying23 hi0 hz0 hz1' hz2 (by rfl) (by rfl) hlit hrA hl3 n3 (Nat.zero_add _) (by omega) (by simp) ?_; intro A21 c21 w21 hO21 hb21 hg21; rw [List.nil_append] at hO21; have B21 := (hB3.alloc hB3.size (.cells #[] 5)).trans (hb21.mono hB3.size); have C21 := (Below.refl w3.heap.size w3).alloc (Nat.le_refl _) (.cells #[] 5) |>.trans hb21; have z21 := hb21.size)
    | (at_builtin; refine wpList_apB (base := w3.heap.size) (n := n3) (m := m) (l := LR) (l2 := bh) (by rfl) _ _ (by rfl) Tryz.underlying23 Tryz.underlying23 hi0 hz0 hz1' hz2 (by rfl) (by rfl) hO21 (hK2.out _ B21) HN.out.2 (n3 + m) rfl (by omega) (Nat.le_trans (by simp) z21) ?_; intro A22 c22 w22 hO22 hb22 hg22; have B22 := B21.trans (hb22.mono hB3.size); have C22 := C21.trans hb22)
    | (go_at_call 10; refine (rOpen_any S A22 (n3 + m) c22 (LR ++ bh) w22 hO22.len (by omega) hO22.rd).mono ?_; rintro e w4 ⟨⟨g, rfl, hA4, hg4⟩, hb4⟩; have hB4 := bt B22 hb4; have hQ4 := bt C22 hb4; have hg0 := Nat.le_trans B22.size hg4; have hg3 := Nat.le_trans C22.size hg4)
  clear hlit hrA hO21 hO22 hb21 hg21 hb22 hg22 z21 hb4 hg4 B21 B22 C21 C22
  have G1 := takeL_any S g (some (LR ++ bh)) w4 (hLK.out w4 hB4).s hA4
  rw [HT.out] at G1
  have hlg := hA4.lt
  go_wp2_with fail
  refine G1.mono ?_
  clear G1
  rintro e w5 h5
  obtain ⟨⟨⟨Y, m3, d3, rfl, hY5⟩, hA5⟩, hgr⟩ := h5
  have hB5 := hB4.trans (below_grown hgr hg0 hB4.size)
  have hQ5 := hQ4.trans (below_grown hgr hg3 hQ4.size)
  have hneY : ∀ ad, Y = some ad → some ad.block ≠ some g := fun ad e h => by have := hY5.blk e; injection h with h; omega
  clear hB4 hQ4 hA4 hgr
  go_upto_region 6 with fail
  obtain ⟨sa, k1⟩ : ∃ sa : ByteArray, (⟨LR.toArray⟩ : ByteArray) = sa := ⟨_, rfl⟩
  have cv4 := Lib.hid (fun W (h : HN7 S g bh w5 W) => k1 ▸ conv_rd W A3 n3 c3 LR hl3 (hr3.keep (hQ5.trans (below_grown h.2 hg3 hQ5.size)) (Nat.le_refl _)))
  have cv5 := Lib.hid (fun W A n c B (h : OwnB B W A n c LR) => k1 ▸ conv_rd W A n c LR h.len h.rd)
  have hm3 := hY5.len
  rw [List.length_map, HN.out.1] at hm3
  subst hm3
  have L1 := Lib.hid (fun W (h : HN7 S g bh w5 W) => L0.out W (hl_b h hB5 hg0))
  have M2 := Lib.hid (fun W (h : RdX 11 w5.heap.size W Y (l.map Ln.cells)) (hz : w5.heap.size ≤ W.heap.size) => lines_any (B := w5.heap.size) Y n d3 l W HN.out.1 h hz (by omega))
  have L2 := Lib.hid (fun W (h : HN7 S g bh w5 W) => M2.out W (hY5.rd.grown h.2 (Nat.le_refl _) hneY) h.2.size)
  have R3 := Lib.hid (fun W A8 c8 B8 A9 c9 B9 (h8 : OwnX 75 11 B8 W A8 n c8 (l.map Ln.cells)) (h9 : OwnX 75 11 B9 W A9 n c9 (l.map Ln.cells)) => hSame ▸ refSameL_any (B := W.heap.size) (C := W.heap.size) A8 A9 n c8 n c9 l l W HN.out.1 h8.rd (by omega) HN.out.1 h9.rd)
  have R4 := Lib.hid (fun W (h : HN7 S g bh w5 W) => rEnd_any S g (some bh) W (hLK.out W (hl_b h hB5 hg0)) h.1)
  obtain ⟨qb, qe1, qe2⟩ : ∃ q : Bool, (endOf (some bh) == 0) = q ∧ ((m : Int) == 0) = q := by
    rcases end_cases HN.out.2 with ⟨e1, e2⟩ | ⟨e1, e2⟩
    · exact ⟨true, by rw [e1]; rfl, beq_iff_eq.2 (by omega)⟩
    · exact ⟨false, by rw [e1]; rfl, beq_eq_false_iff_ne.2 (by omega)⟩
  generalize endOf (some bh) = ze at R4 qe1
  clear k1 hr3 hQ5 hl3 hm
  refine wp_region_held_drew (S := (fun w' => HN7 S g bh w5 w')) (by kernel_rfl) ?_ (fun hHeld => ?_)
  · first | exact hHeld | exact hl_0 hA5 | exact hl_1 hHeld (by assumption) | exact hl_e hHeld hA17 hg17
  refine wpAnyH_take (i := 0) (oi := ⟨some 43, _, _, _, _, _⟩) (v := ?_) (by rfl) (by kernel_rfl) (by kernel_rfl) (by kernel_rfl) (fun _ _ _ h => h) (Or.inl ⟨by rfl, ?hy⟩) (by assumption) ?_
  case hy => (intro w hSw; (try dsimp only at hSw); go_simp; try with_reducible rfl)
  try simp only [Act.put, List.setIfInBounds_toArray, List.set_cons_zero, List.set_cons_succ]
  refine wpAnyH_take (i := 1) (oi := ⟨some 44, _, _, _, _, _⟩) (v := .string sa) (by rfl) (by kernel_rfl) (by kernel_rfl) (by kernel_rfl) (fun _ _ _ h => h) (.inl ⟨by rfl, fun w hSw => by have hc := cv4.out w hSw; go_simp⟩) (by assumption) ?_
  try simp only [Act.put, List.setIfInBounds_toArray, List.set_cons_zero, List.set_cons_succ]
  refine wpAnyH_take (i := 2) (oi := ⟨some 45, _, _, _, _, _⟩) (v := ?_) (by rfl) (by kernel_rfl) (by kernel_rfl) (by kernel_rfl) (fun _ _ _ h => h) (Or.inl ⟨by rfl, ?hy⟩) (by assumption) ?_
  case hy => (intro w hSw; (try dsimp only at hSw); go_simp; try with_reducible rfl)
  try simp only [Act.put, List.setIfInBounds_toArray, List.set_cons_zero, List.set_cons_succ]
  refine wpAnyH_ready (rs := [3]) (by kernel_rfl) (by simp) ?_
  refine AllReadyH.cons (o := ⟨some 46, _, _, _, _, _⟩) (by rfl) (fun K hK => ?_) ?_
  · (go_simp; (go_at_call 8; ((with_reducible refine (L1.out _ hHeld).mono ?_); rintro e w6 ⟨⟨A6, c6, rfl, hO6⟩, hb6⟩)); go_wp2_with fail)
    refine hK.out _ _ ?_ (fun hHeld => ?_)
    · first | exact hHeld | exact hl_0 hA5 | exact hl_1 hHeld (by assumption) | exact hl_e hHeld hA17 hg17
    clear hK K
    try simp only [Act.put, List.setIfInBounds_toArray, List.set_cons_zero, List.set_cons_succ]
    refine wpAnyH_ready (rs := [4]) (by kernel_rfl) (by simp) ?_
    refine AllReadyH.cons (o := ⟨some 47, _, _, _, _, _⟩) (by rfl) (fun K hK => ?_) ?_
    · (go_simp; (go_at_call 12; ((with_reducible refine (R1.out _ _ _ _ hO6).mono ?_); rintro e w7 ⟨⟨A5, n5, c5, rfl, hO5⟩, hb5⟩; have hcv5 := cv5.out w7 A5 n5 c5 _ hO5)); go_wp2_with fail)
      refine hK.out _ _ ?_ (fun hHeld => ?_)
      · first | exact hHeld | exact hl_0 hA5 | exact hl_1 hHeld (by assumption) | exact hl_e hHeld hA17 hg17
      clear hK K
      try simp only [Act.put, List.setIfInBounds_toArray, List.set_cons_zero, List.set_cons_succ]
      refine wpAnyH_ready (rs := [5]) (by kernel_rfl) (by simp) ?_
      refine AllReadyH.cons (o := ⟨some 48, _, _, _, _, _⟩) (by rfl) (fun K hK => ?_) ?_
      · (go_simp)
        refine hK.out _ _ ?_ (fun hHeld => ?_)
        · first | exact hHeld | exact hl_0 hA5 | exact hl_1 hHeld (by assumption) | exact hl_e hHeld hA17 hg17
        clear hK K
        try simp only [Act.put, List.setIfInBounds_toArray, List.set_cons_zero, List.set_cons_succ]
        refine wpAnyH_take (i := 6) (oi := ⟨some 49, _, _, _, _, _⟩) (v := ?_) (by rfl) (by kernel_rfl) (by kernel_rfl) (by kernel_rfl) (fun _ _ _ h => h) (Or.inl ⟨by rfl, ?hy⟩) (by assumption) ?_
        case hy => (intro w hSw; (try dsimp only at hSw); go_simp; try with_reducible rfl)
        try simp only [Act.put, List.setIfInBounds_toArray, List.set_cons_zero, List.set_cons_succ]
        refine wpAnyH_take (i := 7) (oi := ⟨some 50, _, _, _, _, _⟩) (v := ?_) (by rfl) (by kernel_rfl) (by kernel_rfl) (by kernel_rfl) (fun _ _ _ h => h) (Or.inl ⟨by rfl, ?hy⟩) (by assumption) ?_
        case hy => (intro w hSw; (try dsimp only at hSw); go_simp; try with_reducible rfl)
        try simp only [Act.put, List.setIfInBounds_toArray, List.set_cons_zero, List.set_cons_succ]
        refine wpAnyH_take (i := 8) (oi := ⟨some 51, _, _, _, _, _⟩) (v := ?_) (by rfl) (by kernel_rfl) (by kernel_rfl) (by kernel_rfl) (fun _ _ _ h => h) (Or.inl ⟨by rfl, ?hy⟩) (by assumption) ?_
        case hy => (intro w hSw; (try dsimp only at hSw); go_simp; try with_reducible rfl)
        try simp only [Act.put, List.setIfInBounds_toArray, List.set_cons_zero, List.set_cons_succ]
        refine wpAnyH_take (i := 9) (oi := ⟨some 52, _, _, _, _, _⟩) (v := ?_) (by rfl) (by kernel_rfl) (by kernel_rfl) (by kernel_rfl) (fun _ _ _ h => h) (Or.inl ⟨by rfl, ?hy⟩) (by assumption) ?_
        case hy => (intro w hSw; (try dsimp only at hSw); go_simp; try with_reducible rfl)
        try simp only [Act.put, List.setIfInBounds_toArray, List.set_cons_zero, List.set_cons_succ]
        refine wpAnyH_take (i := 10) (oi := ⟨some 53, _, _, _, _, _⟩) (v := ?_) (by rfl) (by kernel_rfl) (by kernel_rfl) (by kernel_rfl) (fun _ _ _ h => h) (Or.inl ⟨by rfl, ?hy⟩) (by assumption) ?_
        case hy => (intro w hSw; (try dsimp only at hSw); go_simp; try with_reducible rfl)
        try simp only [Act.put, List.setIfInBounds_toArray, List.set_cons_zero, List.set_cons_succ]
        refine wpAnyH_take (i := 11) (oi := ⟨some 54, _, _, _, _, _⟩) (v := ?_) (by rfl) (by kernel_rfl) (by kernel_rfl) (by kernel_rfl) (fun _ _ _ h => h) (Or.inl ⟨by rfl, ?hy⟩) (by assumption) ?_
        case hy => (intro w hSw; (try dsimp only at hSw); go_simp; try with_reducible rfl)
        try simp only [Act.put, List.setIfInBounds_toArray, List.set_cons_zero, List.set_cons_succ]
        refine wpAnyH_take (i := 12) (oi := ⟨some 55, _, _, _, _, _⟩) (v := ?_) (by rfl) (by kernel_rfl) (by kernel_rfl) (by kernel_rfl) (fun _ _ _ h => h) (Or.inl ⟨by rfl, ?hy⟩) (by assumption) ?_
        case hy => (intro w hSw; (try dsimp only at hSw); go_simp; try with_reducible rfl)
        try simp only [Act.put, List.setIfInBounds_toArray, List.set_cons_zero, List.set_cons_succ]
        refine wpAnyH_take (i := 14) (oi := ⟨some 57, _, _, _, _, _⟩) (v := ?_) (by rfl) (by kernel_rfl) (by kernel_rfl) (by kernel_rfl) (fun _ _ _ h => h) (Or.inl ⟨by rfl, ?hy⟩) (by assumption) ?_
        case hy => (intro w hSw; (try dsimp only at hSw); go_simp; try with_reducible rfl)
        try simp only [Act.put, List.setIfInBounds_toArray, List.set_cons_zero, List.set_cons_succ]
        refine wpAnyH_ready (rs := [13]) (by kernel_rfl) (by simp) ?_
        refine AllReadyH.cons (o := ⟨some 56, _, _, _, _, _⟩) (by rfl) (fun K hK => ?_) ?_
        · (go_simp; (go_at_call 8; ((with_reducible refine (L2.out _ hHeld).mono ?_); rintro e w8 ⟨⟨A8, c8, rfl, hO8⟩, hb8⟩)); go_wp2_with fail)
          refine hK.out _ _ ?_ (fun hHeld => ?_)
          · first | exact hHeld | exact hl_0 hA5 | exact hl_1 hHeld (by assumption) | exact hl_e hHeld hA17 hg17
          clear hK K
          try simp only [Act.put, List.setIfInBounds_toArray, List.set_cons_zero, List.set_cons_succ]
          refine wpAnyH_ready (rs := [15]) (by kernel_rfl) (by simp) ?_
          refine AllReadyH.cons (o := ⟨some 58, _, _, _, _, _⟩) (by rfl) (fun K hK => ?_) ?_
          · (go_simp; (go_at_call 8; ((with_reducible refine (L1.out _ hHeld).mono ?_); rintro e w9 ⟨⟨A9, c9, rfl, hO9⟩, hb9⟩; replace hO8 := hO8.keep hb9)); go_wp2_with fail)
            refine hK.out _ _ ?_ (fun hHeld => ?_)
            · first | exact hHeld | exact hl_0 hA5 | exact hl_1 hHeld (by assumption) | exact hl_e hHeld hA17 hg17
            clear hK K
            try simp only [Act.put, List.setIfInBounds_toArray, List.set_cons_zero, List.set_cons_succ]
            refine wpAnyH_ready (rs := [16]) (by kernel_rfl) (by simp) ?_
            refine AllReadyH.cons (o := ⟨some 59, _, _, _, _, _⟩) (by rfl) (fun K hK => ?_) ?_
            · (go_simp; (go_at_call 13; ((with_reducible refine (R3.out _ _ _ _ _ _ _ hO8 hO9).mono ?_); rintro e w16 ⟨rfl, hD16⟩; have hb16 := hD16.below w9.heap.size)); go_wp2_with fail)
              refine hK.out _ _ ?_ (fun hHeld => ?_)
              · first | exact hHeld | exact hl_0 hA5 | exact hl_1 hHeld (by assumption) | exact hl_e hHeld hA17 hg17
              clear hK K
              try simp only [Act.put, List.setIfInBounds_toArray, List.set_cons_zero, List.set_cons_succ]
              refine wpAnyH_take (i := 17) (oi := ⟨some 60, _, _, _, _, _⟩) (v := ?_) (by rfl) (by kernel_rfl) (by kernel_rfl) (by kernel_rfl) (fun _ _ _ h => h) (Or.inl ⟨by rfl, ?hy⟩) (by assumption) ?_
              case hy => (intro w hSw; (try dsimp only at hSw); go_simp; try with_reducible rfl)
              try simp only [Act.put, List.setIfInBounds_toArray, List.set_cons_zero, List.set_cons_succ]
              refine wpAnyH_take (i := 18) (oi := ⟨some 61, _, _, _, _, _⟩) (v := ?_) (by rfl) (by kernel_rfl) (by kernel_rfl) (by kernel_rfl) (fun _ _ _ h => h) (Or.inl ⟨by rfl, ?hy⟩) (by assumption) ?_
              case hy => (intro w hSw; (try dsimp only at hSw); go_simp; try with_reducible rfl)
              try simp only [Act.put, List.setIfInBounds_toArray, List.set_cons_zero, List.set_cons_succ]
              refine wpAnyH_take (i := 19) (oi := ⟨some 62, _, _, _, _, _⟩) (v := ?_) (by rfl) (by kernel_rfl) (by kernel_rfl) (by kernel_rfl) (fun _ _ _ h => h) (Or.inl ⟨by rfl, ?hy⟩) (by assumption) ?_
              case hy => (intro w hSw; (try dsimp only at hSw); go_simp; try with_reducible rfl)
              try simp only [Act.put, List.setIfInBounds_toArray, List.set_cons_zero, List.set_cons_succ]
              refine wpAnyH_take (i := 20) (oi := ⟨some 63, _, _, _, _, _⟩) (v := ?_) (by rfl) (by kernel_rfl) (by kernel_rfl) (by kernel_rfl) (fun _ _ _ h => h) (Or.inl ⟨by rfl, ?hy⟩) (by assumption) ?_
              case hy => (intro w hSw; (try dsimp only at hSw); go_simp; try with_reducible rfl)
              try simp only [Act.put, List.setIfInBounds_toArray, List.set_cons_zero, List.set_cons_succ]
              refine wpAnyH_take (i := 23) (oi := ⟨some 66, _, _, _, _, _⟩) (v := ?_) (by rfl) (by kernel_rfl) (by kernel_rfl) (by kernel_rfl) (fun _ _ _ h => h) (Or.inl ⟨by rfl, ?hy⟩) (by assumption) ?_
              case hy => (intro w hSw; (try dsimp only at hSw); go_simp; try with_reducible rfl)
              try simp only [Act.put, List.setIfInBounds_toArray, List.set_cons_zero, List.set_cons_succ]
              refine wpAnyH_take (i := 24) (oi := ⟨some 67, _, _, _, _, _⟩) (v := ?_) (by rfl) (by kernel_rfl) (by kernel_rfl) (by kernel_rfl) (fun _ _ _ h => h) (Or.inl ⟨by rfl, ?hy⟩) (by assumption) ?_
              case hy => (intro w hSw; (try dsimp only at hSw); go_simp; try with_reducible rfl)
              try simp only [Act.put, List.setIfInBounds_toArray, List.set_cons_zero, List.set_cons_succ]
              refine wpAnyH_take (i := 25) (oi := ⟨some 68, _, _, _, _, _⟩) (v := ?_) (by rfl) (by kernel_rfl) (by kernel_rfl) (by kernel_rfl) (fun _ _ _ h => h) (Or.inl ⟨by rfl, ?hy⟩) (by assumption) ?_
              case hy => (intro w hSw; (try dsimp only at hSw); go_simp; try with_reducible rfl)
              try simp only [Act.put, List.setIfInBounds_toArray, List.set_cons_zero, List.set_cons_succ]
              refine wpAnyH_ready (rs := [21]) (by kernel_rfl) (by simp) ?_
              refine AllReadyH.cons (o := ⟨some 64, _, _, _, _, _⟩) (by rfl) (fun K hK => ?_) ?_
              · (go_simp; (go_at_call 14; ((with_reducible refine (R4.out _ hHeld).mono ?_); rintro e w17 ⟨rfl, hA17, hg17⟩)); go_wp2_with fail)
                refine hK.out _ _ ?_ (fun hHeld => ?_)
                · first | exact hHeld | exact hl_0 hA5 | exact hl_1 hHeld (by assumption) | exact hl_e hHeld hA17 hg17
                clear hK K
                try simp only [Act.put, List.setIfInBounds_toArray, List.set_cons_zero, List.set_cons_succ]
                refine wpAnyH_take (i := 22) (oi := ⟨some 65, _, _, _, _, _⟩) (v := ?_) (by rfl) (by kernel_rfl) (by kernel_rfl) (by kernel_rfl) (fun _ _ _ h => h) (Or.inl ⟨by rfl, ?hy⟩) (by assumption) ?_
                case hy => (intro w hSw; (try dsimp only at hSw); go_simp; try with_reducible rfl)
                try simp only [Act.put, List.setIfInBounds_toArray, List.set_cons_zero, List.set_cons_succ]
                refine wpAnyH_take (i := 26) (oi := ⟨some 69, _, _, _, _, _⟩) (v := ?_) (by rfl) (by kernel_rfl) (by kernel_rfl) (by kernel_rfl) (fun _ _ _ h => h) (Or.inl ⟨by rfl, ?hy⟩) (by assumption) ?_
                case hy => (intro w hSw; (try dsimp only at hSw); go_simp; try with_reducible rfl)
                try simp only [Act.put, List.setIfInBounds_toArray, List.set_cons_zero, List.set_cons_succ]
                refine wpAnyH_take (i := 27) (oi := ⟨some 70, _, _, _, _, _⟩) (v := ?_) (by rfl) (by kernel_rfl) (by kernel_rfl) (by kernel_rfl) (fun _ _ _ h => h) (Or.inl ⟨by rfl, ?hy⟩) (by assumption) ?_
                case hy => (intro w hSw; (try dsimp only at hSw); go_simp; try with_reducible rfl)
                try simp only [Act.put, List.setIfInBounds_toArray, List.set_cons_zero, List.set_cons_succ]
                refine wpAnyH_done (by kernel_rfl) ?_ _
                have hB6 := hl_b hHeld hB5 hg0
                have hY6 := hY5.rd.grown hHeld.2 (Nat.le_refl _) hneY
                have hz5 := hHeld.2.size
                clear hHeld hA17 hg17 hb16 hD16 hO8 hO9 hb9 hb8 hO5 hb5 hcv5 hO6 hb6
                go_upto_region 9 with (go_at_call 15; refine (WR.out _ hB6).mono ?_; rintro e w18 ⟨⟨gw, rfl, hgw, hWP⟩, hb18⟩)
                have HY := Lib.hid (fun W (h : Below w17.heap.size w17 W) => hY6.keep h hz5)
                have HZ := Lib.hid (fun W (h : Below w17.heap.size w17 W) => Nat.le_trans hz5 h.size)
                have HB := Lib.hid (fun W (h : Below w17.heap.size w17 W) => bt hB6 h)
                clear hY6 hz5
                go_wp2_with fail
                go_loopw [10, 80] (fun _ i wr => ∃ k : Nat, k ≤ n ∧ i = .int .i64 k ∧ Hid (WrP wr gw n k l) ∧ Below w17.heap.size w17 wr) (fun _ i _ => n - (intOf i).toNat)
                case atStart => exact ⟨0, Nat.zero_le _, rfl, hWP, hb18⟩
                case round =>
                  clear hWP hb18
                  obtain ⟨k, hk, rfl, hWP, hW⟩ := hrel
                  by_cases hlt : k < n
                  · obtain ⟨x, hx⟩ : ∃ x, l[k]? = some x := ⟨_, List.getElem?_eq_getElem (show k < l.length by have := HN.out.1; omega)⟩
                    obtain ⟨ad, rfl, _, hc⟩ := hK.out wr (HB.out wr hW) k _ (map_get hx)
                    obtain ⟨cs, hC, hcs, hA⟩ := hWP.out
                    have i1 : (0 : Int) ≤ (k : Int) := by omega
                    have i2 : (k : Int) < (n : Int) := by omega
                    have hk1 : k + 1 ≤ n := by omega
                    have HX := Lib.hid hx
                    clear hx
                    have he := fun W => wr_eq x.w W
                    have q1 : wr.cell? ⟨(ad.add (k * 11)).block, (ad.add (k * 11)).off + 1, none⟩ = some (.int .i64 x.w.dev) := (celX hc).2 0 _ rfl
                    have p1 : wr.cell? ⟨gw, k * 10, none⟩ = some (.int .i64 x.w.dev) := (hC.cell _).trans (hA k x (Nat.le_refl _) HX.out 0 _ rfl)
                    have f1 : wr.frozen? ⟨gw, k * 10, none⟩ = false := hC.free _
                    have q2 : wr.cell? ⟨(ad.add (k * 11)).block, (ad.add (k * 11)).off + 2, none⟩ = some (.int .i64 x.w.seq) := (celX hc).2 1 _ rfl
                    have p2 : wr.cell? ⟨gw, k * 10 + 1, none⟩ = some (.int .i64 x.w.seq) := (hC.cell _).trans (hA k x (Nat.le_refl _) HX.out 1 _ rfl)
                    have f2 : wr.frozen? ⟨gw, k * 10 + 1, none⟩ = false := hC.free _
                    have q3 : wr.cell? ⟨(ad.add (k * 11)).block, (ad.add (k * 11)).off + 3, none⟩ = some (.int .i64 x.w.K) := (celX hc).2 2 _ rfl
                    have p3 : wr.cell? ⟨gw, k * 10 + 2, none⟩ = some (.int .i64 x.w.K) := (hC.cell _).trans (hA k x (Nat.le_refl _) HX.out 2 _ rfl)
                    have f3 : wr.frozen? ⟨gw, k * 10 + 2, none⟩ = false := hC.free _
                    have q4 : wr.cell? ⟨(ad.add (k * 11)).block, (ad.add (k * 11)).off + 4, none⟩ = some (.string x.w.ky) := (celX hc).2 3 _ rfl
                    have p4 : wr.cell? ⟨gw, k * 10 + 3, none⟩ = some (.string x.w.ky) := (hC.cell _).trans (hA k x (Nat.le_refl _) HX.out 3 _ rfl)
                    have f4 : wr.frozen? ⟨gw, k * 10 + 3, none⟩ = false := hC.free _
                    have q5 : wr.cell? ⟨(ad.add (k * 11)).block, (ad.add (k * 11)).off + 5, none⟩ = some (.int .i64 x.w.ka) := (celX hc).2 4 _ rfl
                    have p5 : wr.cell? ⟨gw, k * 10 + 4, none⟩ = some (.int .i64 x.w.ka) := (hC.cell _).trans (hA k x (Nat.le_refl _) HX.out 4 _ rfl)
                    have f5 : wr.frozen? ⟨gw, k * 10 + 4, none⟩ = false := hC.free _
                    have q6 : wr.cell? ⟨(ad.add (k * 11)).block, (ad.add (k * 11)).off + 6, none⟩ = some (.int .i64 x.w.na) := (celX hc).2 5 _ rfl
                    have p6 : wr.cell? ⟨gw, k * 10 + 5, none⟩ = some (.int .i64 x.w.na) := (hC.cell _).trans (hA k x (Nat.le_refl _) HX.out 5 _ rfl)
                    have f6 : wr.frozen? ⟨gw, k * 10 + 5, none⟩ = false := hC.free _
                    have q7 : wr.cell? ⟨(ad.add (k * 11)).block, (ad.add (k * 11)).off + 7, none⟩ = some (.string x.w.sa) := (celX hc).2 6 _ rfl
                    have p7 : wr.cell? ⟨gw, k * 10 + 6, none⟩ = some (.string x.w.sa) := (hC.cell _).trans (hA k x (Nat.le_refl _) HX.out 6 _ rfl)
                    have f7 : wr.frozen? ⟨gw, k * 10 + 6, none⟩ = false := hC.free _
                    have q8 : wr.cell? ⟨(ad.add (k * 11)).block, (ad.add (k * 11)).off + 8, none⟩ = some (.int .i64 x.w.kb) := (celX hc).2 7 _ rfl
                    have p8 : wr.cell? ⟨gw, k * 10 + 7, none⟩ = some (.int .i64 x.w.kb) := (hC.cell _).trans (hA k x (Nat.le_refl _) HX.out 7 _ rfl)
                    have f8 : wr.frozen? ⟨gw, k * 10 + 7, none⟩ = false := hC.free _
                    have q9 : wr.cell? ⟨(ad.add (k * 11)).block, (ad.add (k * 11)).off + 9, none⟩ = some (.int .i64 x.w.nb) := (celX hc).2 8 _ rfl
                    have p9 : wr.cell? ⟨gw, k * 10 + 8, none⟩ = some (.int .i64 x.w.nb) := (hC.cell _).trans (hA k x (Nat.le_refl _) HX.out 8 _ rfl)
                    have f9 : wr.frozen? ⟨gw, k * 10 + 8, none⟩ = false := hC.free _
                    have q10 : wr.cell? ⟨(ad.add (k * 11)).block, (ad.add (k * 11)).off + 10, none⟩ = some (.string x.w.sb) := (celX hc).2 9 _ rfl
                    have p10 : wr.cell? ⟨gw, k * 10 + 9, none⟩ = some (.string x.w.sb) := (hC.cell _).trans (hA k x (Nat.le_refl _) HX.out 9 _ rfl)
                    have f10 : wr.frozen? ⟨gw, k * 10 + 9, none⟩ = false := hC.free _
                    have hgz := hC.lt
                    have hNext := Lib.hid (fun W (h : Blk W gw cs 47) => wrp_zero h hcs hA)
                    clear hc hA hcs hWP
                    go_wp2_with fail
                    go_quiet (fail)
                    go_wp2_with fail
                    go_roundw
                    case rel =>
                      clear q1 p1 f1 q2 p2 f2 q3 p3 f3 q4 p4 f4 q5 p5 f5 q6 p6 f6 q7 p7 f7 q8 p8 f8 q9 p9 f9 q10 p10 f10 he
                      exact ⟨k + 1, hk1, by go_num, by (refine hNext.out _ ?_; exact hC), by (refine below10X ?_ hgw (k * 10) (.int .i64 0) (.int .i64 0) (.int .i64 0) (.string ⟨#[]⟩) (.int .i64 0) (.int .i64 0) (.string ⟨#[]⟩) (.int .i64 0) (.int .i64 0) (.string ⟨#[]⟩); first | exact hW.drew | exact hW.trans (((Drn.refl _).draws _).below _))⟩
                    case measure => clear q1 p1 f1 q2 p2 f2 q3 p3 f3 q4 p4 f4 q5 p5 f5 q6 p6 f6 q7 p7 f7 q8 p8 f8 q9 p9 f9 q10 p10 f10 he; simp [intOf]; omega
                  · have hq : ¬ (k : Int) < (n : Int) := by omega
                    have hBB := HB.out _ hW
                    have C1 := M2.out _ (HY.out _ hW) (HZ.out _ hW)
                    clear hWP hW hgw R1 R4 cv4 cv5 hY5 hneY hA5 hB5 hB6 hg0 HY HZ HB M2 L1 L2 WR hLK HN HT hK hK2
                    go_wp2_with fail
                    ((with_reducible refine C1.mono ?_); clear C1; rintro e w20 ⟨⟨A8, c8, rfl, hO8⟩, hb20⟩)
                    have hB20 := bt hBB hb20
                    clear hBB hb20
                    have C2 := L0.out _ hB20
                    go_wp2_with fail
                    ((with_reducible refine C2.mono ?_); clear C2; rintro e w21 ⟨⟨A9, c9, rfl, hO9⟩, hb21⟩)
                    replace hO8 := hO8.keep hb21
                    have hB21 := bt hB20 hb21
                    have C3 := R3.out _ _ _ _ _ _ _ hO8 hO9
                    clear hB20 hb21 R3
                    go_wp2_with fail
                    ((with_reducible refine C3.mono ?_); clear C3; rintro e w22 ⟨rfl, hD22⟩)
                    go_wp2_with fail
                    go_ret
                    exact ⟨rfl, hB21.trans (hD22.below _)⟩
              exact AllReadyH.nil
            exact AllReadyH.nil
          exact AllReadyH.nil
        exact AllReadyH.nil
      exact AllReadyH.nil
    exact AllReadyH.nil
  exact AllReadyH.nil
theorem lawRollLines_all (S : Addr) (A : Option Addr) (n c : Nat) (l : List Ln) (A2 : Option Addr) (m d : Nat) (bh : List UInt8) (w : World) (hn : l.length = n) (hr : RdX 11 w.heap.size w A (l.map Ln.cells)) (_hm : n ≤ maxLen) (hf : ∀ x, x ∈ l → x.fits) (hn2 : bh.length = m) (hr2 : RdB w.heap.size w A2 bh) (_hc2 : m ≤ d) (_hm2 : d ≤ maxLen) (hL : LaidP S w) :
    Calls Tryz.prog 3 #[.slice A n c, .slice A2 m d] w fun e w' => e = .returned (.bool true) ∧ Below w.heap.size w w' := by
  by_cases hs : 100 < n
  · exact lawRollLines_bad A A2 n c m d l w hn hr hf (.inl hs)
  cases hg : goodLns l with
  | false => exact lawRollLines_bad A A2 n c m d l w hn hr hf (.inr (.inl ⟨by omega, hg⟩))
  | true =>
    by_cases hs2 : 1000 < m
    · exact lawRollLines_bad A A2 n c m d l w hn hr hf (.inr (.inr ⟨by omega, hg, hs2⟩))
    exact lawRollLines_good S A A2 n c m d l bh w hn hr hf hn2 hr2 hL (by omega) (by omega) hg
end Go.Proofs.YtpjleeeligahaaaGreatDoor
