/-
  WHAT IS PROVED: the law of the statement RollCells answers true. Conditions: those typed in the theorem.
-/
import Derived.Test.YtnlnbgcmmlpniaaDoorM6
import Derived.Test.YtnlnbgcmmlpniaaDoorRRefPut
import Derived.Test.YtnlnbgcmmlpniaaDoorM9
import Derived.Test.YtnlnbgcmmlpniaaDoorRSame
import Derived.Test.YtnlnbgcmmlpniaaDoorM10
import Derived.Test.YtnlnbgcmmlpniaaDoorM3
import Derived.Test.YtnlnbgcmmlpniaaDoorM1
namespace Go.Proofs.YtnlnbgcmmlpniaaDoor
open Go.RowKit

/-- What stands through the last region: the reader, the rest of the memory. -/
def HC (S : Addr) (g : Nat) (bh : List UInt8) (w0 W : World) : Prop := RdrP S W g (some bh) ∧ w0.grownBy W (some g)
section
variable {S : Addr} {g : Nat} {bh : List UInt8} {w0 W W1 : World}
theorem hc_0 (hR : RdrP S W g (some bh)) : HC S g bh W W.drew :=
  have hb := (Below.refl W.heap.size W).drew
  ⟨hR.below hb, grown_below hb _⟩
theorem hc_1 (h : HC S g bh w0 W) (hb : Below W.heap.size W W1) : HC S g bh w0 W1 := ⟨h.1.below hb, h.2.trans (grown_below hb _)⟩
theorem hc_e (h : HC S g bh w0 W) (hR : RdrP S W1 g (some bh)) (hg : W.grownBy W1 (some g)) : HC S g bh w0 W1 := ⟨hR, h.2.trans hg⟩
theorem hc_b {w : World} (h : HC S g bh w0 W) (hB : Below w.heap.size w w0) (hg : w.heap.size ≤ g) : Below w.heap.size w W := hB.trans (below_grown h.2 hg hB.size)
end

set_option maxRecDepth 100000 in
set_option maxHeartbeats 4000000 in
theorem lawRollCells_bad (A A2 : Option Addr) (n c m d : Nat) (l : List Cl) (w : World) (hn : l.length = n) (hr : RdX 4 w.heap.size w A (l.map Cl.cells)) (hm : n ≤ maxLen) (hf : ∀ x, x ∈ l → x.fits)
    (hb : 200 < n ∨ (n ≤ 200 ∧ goodCls l = false) ∨ (n ≤ 200 ∧ goodCls l = true ∧ 1000 < m)) :
    Calls Tryd.prog 3 #[.slice A n c, .slice A2 m d] w fun e w' => e = .returned (.bool true) ∧ Below w.heap.size w w' := by
  have F1 := Lib.hid (fun (b : Bool) (e : goodCls l = b) W (h : Below w.heap.size w W) => e ▸ refGoodCs_any (B := w.heap.size) A n c l W hn (hr.keep h (Nat.le_refl _)) h.size hm hf)
  clear hr hn hm hf
  rcases hb with hs | ⟨hs, hb⟩ | ⟨hs, hb, hs2⟩
  · have i1 : (200 : Int) < (n : Int) := by omega
    have i2 : decide (200 < n) = true := decide_eq_true hs
    go_enter Tryd.func3, Tryd.ntmps3
    go_wp2_with first
      | (go_at_call 4; refine (rollAwake w).mono ?_; rintro e w1 ⟨rfl, hb1⟩)
      | (go_at_call 4; refine (rollAwake w1).mono ?_; rintro e w3 ⟨rfl, hb3⟩)
    go_ret
    exact ⟨rfl, bt hb1 hb3⟩
  · have i1 : ¬ (200 : Int) < (n : Int) := by omega
    have i2 : decide (200 < n) = false := decide_eq_false (by omega)
    go_enter Tryd.func3, Tryd.ntmps3
    go_wp2_with first
      | (go_at_call 4; refine (rollAwake w).mono ?_; rintro e w1 ⟨rfl, hb1⟩)
      | (go_at_call 5; refine (F1.out _ hb _ hb1).mono ?_; rintro e w2 ⟨rfl, hb2⟩; have hB2 := bt hb1 hb2)
      | (go_at_call 4; refine (rollAwake w2).mono ?_; rintro e w3 ⟨rfl, hb3⟩)
    go_ret
    exact ⟨rfl, bt hB2 hb3⟩
  · have i1 : ¬ (200 : Int) < (n : Int) := by omega
    have i2 : decide (200 < n) = false := decide_eq_false (by omega)
    have i3 : (1000 : Int) < (m : Int) := by omega
    have i4 : decide (1000 < m) = true := decide_eq_true hs2
    go_enter Tryd.func3, Tryd.ntmps3
    go_wp2_with first
      | (go_at_call 4; refine (rollAwake w).mono ?_; rintro e w1 ⟨rfl, hb1⟩)
      | (go_at_call 5; refine (F1.out _ hb _ hb1).mono ?_; rintro e w2 ⟨rfl, hb2⟩; have hB2 := bt hb1 hb2)
      | (go_at_call 4; refine (rollAwake w2).mono ?_; rintro e w3 ⟨rfl, hb3⟩)
    go_ret
    exact ⟨rfl, bt hB2 hb3⟩

set_option maxRecDepth 100000 in
set_option maxHeartbeats 16000000 in
theorem lawRollCells_good (S : Addr) (A A2 : Option Addr) (n c m d : Nat) (l : List Cl) (bh : List UInt8) (w : World) (hn : l.length = n) (hr : RdX 4 w.heap.size w A (l.map Cl.cells)) (hf : ∀ x, x ∈ l → x.fits) (hm : bh.length = m) (hr2 : RdB w.heap.size w A2 bh) (hL : LaidP S w)
    (hs : n ≤ 200) (hs2 : m ≤ 1000) (hg : goodCls l = true) :
    Calls Tryd.prog 3 #[.slice A n c, .slice A2 m d] w fun e w' => e = .returned (.bool true) ∧ Below w.heap.size w w' := by
  have hall : ∀ x, x ∈ l → x.good = true ∧ x.fits := fun x hx => ⟨goodLs_mem hg hx, hf x hx⟩
  have hz1 := flat_most (E := clB) (m := 300) l fun x hx => clB_most (hall x hx).1 (hall x hx).2
  have hz3 := numB_small (n := n) (by omega)
  have ht : outG takeClB goodCls (some (numB n ++ l.flatMap clB ++ bh)) 18446744073709551615 = some (l, bh) := by
    rw [← hn]
    exact out_put (f := takeClB) (E := clB) _ (by omega) (by omega) (fun x hx => take_cl (hall x hx).1 (hall x hx).2) (fun x hx => clB_pos (hall x hx).1) hg
  obtain ⟨i0, hi0, hz0, hz1', hz2⟩ := info_parts byt_info
  have hK := Lib.hid (fun W (h : Below w.heap.size w W) => hr.keep h (Nat.le_refl _))
  have hK2 := Lib.hid (fun W (h : Below w.heap.size w W) => hr2.keep h (Nat.le_refl _))
  have hLK := Lib.hid (fun W (h : Below w.heap.size w W) => hL.keep (W' := W) h)
  have F1 := Lib.hid (fun W (h : Below w.heap.size w W) => hg ▸ refGoodCs_any (B := w.heap.size) A n c l W hn (hK.out W h) h.size (by unfold maxLen; omega) hf)
  have P1 := Lib.hid (fun W A3 n3 c3 B (h : Below w.heap.size w W) (hO : OwnB B W A3 n3 c3 [9]) => putC_any A3 A n3 c3 n c [9] l W hO.len (by have := hO.len; simp at this; omega) hO.cap.1 hO.rd hn (by omega) ((hK.out W h).more h.size) hall)
  have R1 := Lib.hid (fun W (h : Below w.heap.size w W) => refPutC_any (B := w.heap.size) A n c l W hn (hK.out W h) h.size (by omega) hall)
  generalize hLR : numB n ++ l.flatMap clB = LR at P1 ht R1
  have zR : LR.length ≤ 70000 := by rw [← hLR, List.length_append]; omega
  have hLR1 : 1 ≤ LR.length := by rw [← hLR, List.length_append, numB_len]; omega
  have i1 : ¬ (200 : Int) < (n : Int) := by omega
  have i2 : decide (200 < n) = false := decide_eq_false (by omega)
  have i3 : ¬ (1000 : Int) < (m : Int) := by omega
  have i4 : decide (1000 < m) = false := decide_eq_false (by omega)
  have hSame : sameG l l = true := sameG_yes rfl
  have HN := Lib.hid (And.intro hn hm)
  have HT := Lib.hid ht
  clear hr hr2 hall hz1 hz3 ht hg hLR hn hL hf
  go_enter Tryd.func3, Tryd.ntmps3
  go_upto_region 3 with first
    | (go_at_call 4; refine (rollAwake w).mono ?_; rintro e w1 ⟨rfl, hB1⟩)
    | (go_at_call 5; refine (F1.out _ hB1).mono ?_; rintro e w2 ⟨rfl, hb2⟩; have hB2 := bt hB1 hb2)
  have hlit9 : OwnB w2.heap.size (w2.alloc (.cells #[.int .u8 9] 5)) (some ⟨w2.heap.size, 0, none⟩) 1 1 [9] := litB w2 9 9 rfl (Nat.le_refl _)
  go_upto_region 4 with (go_at_call 6; refine (P1.out _ _ _ _ _ (ba hB2 (.cells #[.int .u8 9] 5)) hlit9).mono ?_; rintro e w3 ⟨⟨A3, n3, c3, rfl, hO3⟩, hb3⟩; have hB3 := bt (ba hB2 (.cells #[.int .u8 9] 5)) hb3)
  have hl3 := hO3.len
  have hr3 := hO3.rd
  have hc3 := hO3.cap
  have hl3' : n3 = LR.length + 1 := by simp at hl3; omega
  obtain ⟨g3, cap3, hA3e, _, _⟩ := hO3.form (by omega)
  injection hA3e with hA3e _ hA3c
  subst hA3e
  clear hA3c
  have zR1 : 1 ≤ LR.length := hLR1
  subst hl3'
  have hc1 : ¬ c3 = 1 := by omega
  have hc2 : ¬ (c3 : Int) = 1 := by omega
  have hcc1 : (1 : Int) ≤ ((LR.length + 1 : Nat) : Int) := by omega
  have hcc2 : LR.length + 1 - 1 = LR.length := by omega
  have hcut1 : cutA (some ⟨g3, 0, none⟩) c3 1 = some ⟨g3, 1, none⟩ := by unfold cutA; rw [if_neg hc1]; rfl
  have hlit : OwnB w3.heap.size (w3.alloc (.cells #[] 5)) (some ⟨w3.heap.size, 0, none⟩) 0 0 [] := OwnB.lit w3 #[] [] rfl rfl (Nat.le_refl _) (Nat.zero_le _)
  have hrA : RdB w3.heap.size (w3.alloc (.cells #[] 5)) (some ⟨g3, 1, none⟩) LR := hcut1 ▸ ((hr3.cut (p := 1) (c := c3) (by rw [hl3]; exact hc3.1)).keep (b0 w3 _) (Nat.le_refl _))
  clear hlit9 hb3 hb2 hB1 hB2 hO3 P1 F1 hcut1
  go_upto_region 5 with first
    | (at_builtin; refine wpList_apB (base := w3.heap.size) (n := 0) (m := LR.length) (l := []) (l2 := LR) (by rfl) _ _ (by rfl) Tryd.underlying23 Tryd.underlying23 hi0 hz0 hz1' hz2 (by rfl) (by rfl) hlit hrA rfl LR.length (Nat.zero_add _) (by omega) (by simp) ?_; intro A21 c21 w21 hO21 hb21 hg21; rw [List.nil_append] at hO21; have B21 := (hB3.alloc hB3.size (.cells #[] 5)).trans (hb21.mono hB3.size); have C21 := (Below.refl w3.heap.size w3).alloc (Nat.le_refl _) (.cells #[] 5) |>.trans hb21; have z21 := hb21.size)
    | (at_builtin; refine wpList_apB (base := w3.heap.size) (n := LR.length) (m := m) (l := LR) (l2 := bh) (by rfl) _ _ (by rfl) Tryd.underlying23 Tryd.underlying23 hi0 hz0 hz1' hz2 (by rfl) (by rfl) hO21 (hK2.out _ B21) HN.out.2 (LR.length + m) rfl (by omega) (Nat.le_trans (by simp) z21) ?_; intro A22 c22 w22 hO22 hb22 hg22; have B22 := B21.trans (hb22.mono hB3.size); have C22 := C21.trans hb22)
    | (go_at_call 7; refine (rOpen_any S A22 (LR.length + m) c22 (LR ++ bh) w22 hO22.len (by omega) hO22.rd).mono ?_; rintro e w4 ⟨⟨g, rfl, hA4, hg4⟩, hb4⟩; have hB4 := bt B22 hb4; have hQ4 := bt C22 hb4; have hg0 := Nat.le_trans B22.size hg4; have hg3 := Nat.le_trans C22.size hg4)
  clear hlit hrA hO21 hO22 hb21 hg21 hb22 hg22 z21 hb4 hg4 B21 B22 C21 C22
  have G1 := takeC_any S g (some (LR ++ bh)) w4 (hLK.out w4 hB4).s hA4
  rw [HT.out] at G1
  have hlg := hA4.lt
  go_wp2_with fail
  refine G1.mono ?_
  clear G1
  rintro e w5 h5
  obtain ⟨⟨⟨Y, m3, d3, rfl, hY5⟩, hA5⟩, hgr⟩ := h5
  have hB5 := hB4.trans (below_grown hgr hg0 hB4.size)
  have hQ5 := hQ4.trans (below_grown hgr hg3 hQ4.size)
  have hneY : ∀ ad, Y = some ad → some ad.block ≠ some g := fun ad e h => by have := hY5.blk e; injection h with h; omega
  clear hB4 hQ4 hA4 hgr
  go_upto_region 6 with fail
  obtain ⟨sa, sb, k1, k2, had, heq⟩ := cat_one 9 LR (by omega)
  have cv4 := Lib.hid (fun W (h : HC S g bh w5 W) => k1 ▸ conv_rd W (some ⟨g3, 0, none⟩) (LR.length + 1) c3 ([9] ++ LR) hl3 (hr3.keep (hQ5.trans (below_grown h.2 hg3 hQ5.size)) (Nat.le_refl _)))
  have cv5 := Lib.hid (fun W A n c B (h : OwnB B W A n c LR) => k2 ▸ conv_rd W A n c LR h.len h.rd)
  replace R1 := Lib.hid (fun W (h : HC S g bh w5 W) => R1.out W (hc_b h hB5 hg0))
  have hm3 := hY5.len
  rw [List.length_map] at hm3
  have R3 := Lib.hid (fun W (h : HC S g bh w5 W) => hSame ▸ refSameC_any (B := w5.heap.size) (C := w.heap.size) Y A m3 d3 n c l l W hm3 (hY5.rd.grown h.2 (Nat.le_refl _) hneY) (by have := HN.out.1; omega) HN.out.1 (hK.out W (hc_b h hB5 hg0)))
  have hmm := HN.out.2
  clear k1 k2 hm3 hneY hY5 hr3 hQ5 hc3 hl3 hc1 hc2 hcc1 hcc2 zR1
  rcases end_cases hmm with ⟨hend, h0⟩ | ⟨hend, h0⟩
  · have e0 : (m : Int) = 0 := by omega
    have e1 : decide (m = 0) = true := decide_eq_true (by omega)
    have e2 : ((m : Int) == 0) = true := beq_iff_eq.2 (by omega)
    have R4 := Lib.hid (fun W (h : HC S g bh w5 W) => (show Calls Tryd.prog 11 #[.pointer (some ⟨g, 0, none⟩)] W fun e w' => e = .returned (.int .i64 0) ∧ RdrP S w' g (some bh) ∧ W.grownBy w' (some g) from hend ▸ rEnd_any S g (some bh) W (hLK.out W (hc_b h hB5 hg0)) h.1))
    clear hend
    refine wp_region_held_drew (S := (fun w' => HC S g bh w5 w')) (by kernel_rfl) ?_ (fun hHeld => ?_)
    · first | exact hHeld | exact hc_0 hA5 | exact hc_1 hHeld (by assumption) | exact hc_e hHeld hA17 hg17
    refine wpAnyH_take (i := 0) (oi := ⟨some 42, _, _, _, _, _⟩) (v := ?_) (by rfl) (by kernel_rfl) (by kernel_rfl) (by kernel_rfl) (fun _ _ _ h => h) (Or.inl ⟨by rfl, ?hy⟩) (by assumption) ?_
    case hy => (intro w hSw; (try dsimp only at hSw); go_simp; try with_reducible rfl)
    try simp only [Act.put, List.setIfInBounds_toArray, List.set_cons_zero, List.set_cons_succ]
    refine wpAnyH_take (i := 1) (oi := ⟨some 43, _, _, _, _, _⟩) (v := .string sa) (by rfl) (by kernel_rfl) (by kernel_rfl) (by kernel_rfl) (fun _ _ _ h => h) (.inl ⟨by rfl, fun w hSw => by have hc := cv4.out w hSw; go_simp⟩) (by assumption) ?_
    try simp only [Act.put, List.setIfInBounds_toArray, List.set_cons_zero, List.set_cons_succ]
    refine wpAnyH_take (i := 2) (oi := ⟨some 44, _, _, _, _, _⟩) (v := ?_) (by rfl) (by kernel_rfl) (by kernel_rfl) (by kernel_rfl) (fun _ _ _ h => h) (Or.inl ⟨by rfl, ?hy⟩) (by assumption) ?_
    case hy => (intro w hSw; (try dsimp only at hSw); go_simp; try with_reducible rfl)
    try simp only [Act.put, List.setIfInBounds_toArray, List.set_cons_zero, List.set_cons_succ]
    refine wpAnyH_ready (rs := [3]) (by kernel_rfl) (by simp) ?_
    refine AllReadyH.cons (o := ⟨some 45, _, _, _, _, _⟩) (by rfl) (fun K hK => ?_) ?_
    · (go_simp; (go_at_call 9; ((with_reducible refine (R1.out _ hHeld).mono ?_); rintro e w6 ⟨⟨A5, n5, c5, rfl, hO5⟩, hb5⟩; have hcv5 := cv5.out w6 A5 n5 c5 _ hO5)); go_wp2_with fail)
      refine hK.out _ _ ?_ (fun hHeld => ?_)
      · first | exact hHeld | exact hc_0 hA5 | exact hc_1 hHeld (by assumption) | exact hc_e hHeld hA17 hg17
      clear hK K
      try simp only [Act.put, List.setIfInBounds_toArray, List.set_cons_zero, List.set_cons_succ]
      refine wpAnyH_ready (rs := [4]) (by kernel_rfl) (by simp) ?_
      refine AllReadyH.cons (o := ⟨some 46, _, _, _, _, _⟩) (by rfl) (fun K hK => ?_) ?_
      · (go_simp)
        refine hK.out _ _ ?_ (fun hHeld => ?_)
        · first | exact hHeld | exact hc_0 hA5 | exact hc_1 hHeld (by assumption) | exact hc_e hHeld hA17 hg17
        clear hK K
        try simp only [Act.put, List.setIfInBounds_toArray, List.set_cons_zero, List.set_cons_succ]
        refine wpAnyH_take (i := 5) (oi := ⟨some 47, _, _, _, _, _⟩) (v := ?_) (by rfl) (by kernel_rfl) (by kernel_rfl) (by kernel_rfl) (fun _ _ _ h => h) (Or.inl ⟨by rfl, ?hy⟩) (by assumption) ?_
        case hy => (intro w hSw; (try dsimp only at hSw); go_simp; try with_reducible rfl)
        try simp only [Act.put, List.setIfInBounds_toArray, List.set_cons_zero, List.set_cons_succ]
        refine wpAnyH_take (i := 6) (oi := ⟨some 48, _, _, _, _, _⟩) (v := ?_) (by rfl) (by kernel_rfl) (by kernel_rfl) (by kernel_rfl) (fun _ _ _ h => h) (Or.inl ⟨by rfl, ?hy⟩) (by assumption) ?_
        case hy => (intro w hSw; (try dsimp only at hSw); go_simp; try with_reducible rfl)
        try simp only [Act.put, List.setIfInBounds_toArray, List.set_cons_zero, List.set_cons_succ]
        refine wpAnyH_take (i := 7) (oi := ⟨some 49, _, _, _, _, _⟩) (v := ?_) (by rfl) (by kernel_rfl) (by kernel_rfl) (by kernel_rfl) (fun _ _ _ h => h) (Or.inl ⟨by rfl, ?hy⟩) (by assumption) ?_
        case hy => (intro w hSw; (try dsimp only at hSw); go_simp; try with_reducible rfl)
        try simp only [Act.put, List.setIfInBounds_toArray, List.set_cons_zero, List.set_cons_succ]
        refine wpAnyH_take (i := 8) (oi := ⟨some 50, _, _, _, _, _⟩) (v := ?_) (by rfl) (by kernel_rfl) (by kernel_rfl) (by kernel_rfl) (fun _ _ _ h => h) (Or.inl ⟨by rfl, ?hy⟩) (by assumption) ?_
        case hy => (intro w hSw; (try dsimp only at hSw); go_simp; try with_reducible rfl)
        try simp only [Act.put, List.setIfInBounds_toArray, List.set_cons_zero, List.set_cons_succ]
        refine wpAnyH_take (i := 9) (oi := ⟨some 51, _, _, _, _, _⟩) (v := ?_) (by rfl) (by kernel_rfl) (by kernel_rfl) (by kernel_rfl) (fun _ _ _ h => h) (Or.inl ⟨by rfl, ?hy⟩) (by assumption) ?_
        case hy => (intro w hSw; (try dsimp only at hSw); go_simp; try with_reducible rfl)
        try simp only [Act.put, List.setIfInBounds_toArray, List.set_cons_zero, List.set_cons_succ]
        refine wpAnyH_take (i := 10) (oi := ⟨some 52, _, _, _, _, _⟩) (v := ?_) (by rfl) (by kernel_rfl) (by kernel_rfl) (by kernel_rfl) (fun _ _ _ h => h) (Or.inl ⟨by rfl, ?hy⟩) (by assumption) ?_
        case hy => (intro w hSw; (try dsimp only at hSw); go_simp; try with_reducible rfl)
        try simp only [Act.put, List.setIfInBounds_toArray, List.set_cons_zero, List.set_cons_succ]
        refine wpAnyH_take (i := 11) (oi := ⟨some 53, _, _, _, _, _⟩) (v := ?_) (by rfl) (by kernel_rfl) (by kernel_rfl) (by kernel_rfl) (fun _ _ _ h => h) (Or.inl ⟨by rfl, ?hy⟩) (by assumption) ?_
        case hy => (intro w hSw; (try dsimp only at hSw); go_simp; try with_reducible rfl)
        try simp only [Act.put, List.setIfInBounds_toArray, List.set_cons_zero, List.set_cons_succ]
        refine wpAnyH_take (i := 12) (oi := ⟨some 54, _, _, _, _, _⟩) (v := ?_) (by rfl) (by kernel_rfl) (by kernel_rfl) (by kernel_rfl) (fun _ _ _ h => h) (Or.inl ⟨by rfl, ?hy⟩) (by assumption) ?_
        case hy => (intro w hSw; (try dsimp only at hSw); go_simp; try with_reducible rfl)
        try simp only [Act.put, List.setIfInBounds_toArray, List.set_cons_zero, List.set_cons_succ]
        refine wpAnyH_take (i := 13) (oi := ⟨some 55, _, _, _, _, _⟩) (v := ?_) (by rfl) (by kernel_rfl) (by kernel_rfl) (by kernel_rfl) (fun _ _ _ h => h) (Or.inl ⟨by rfl, ?hy⟩) (by assumption) ?_
        case hy => (intro w hSw; (try dsimp only at hSw); go_simp; try with_reducible rfl)
        try simp only [Act.put, List.setIfInBounds_toArray, List.set_cons_zero, List.set_cons_succ]
        refine wpAnyH_ready (rs := [14]) (by kernel_rfl) (by simp) ?_
        refine AllReadyH.cons (o := ⟨some 56, _, _, _, _, _⟩) (by rfl) (fun K hK => ?_) ?_
        · (go_simp; (go_at_call 10; ((with_reducible refine (R3.out _ hHeld).mono ?_); rintro e w16 ⟨rfl, hD16⟩; have hb16 := hD16.below w6.heap.size)); go_wp2_with fail)
          refine hK.out _ _ ?_ (fun hHeld => ?_)
          · first | exact hHeld | exact hc_0 hA5 | exact hc_1 hHeld (by assumption) | exact hc_e hHeld hA17 hg17
          clear hK K
          try simp only [Act.put, List.setIfInBounds_toArray, List.set_cons_zero, List.set_cons_succ]
          refine wpAnyH_take (i := 15) (oi := ⟨some 57, _, _, _, _, _⟩) (v := ?_) (by rfl) (by kernel_rfl) (by kernel_rfl) (by kernel_rfl) (fun _ _ _ h => h) (Or.inl ⟨by rfl, ?hy⟩) (by assumption) ?_
          case hy => (intro w hSw; (try dsimp only at hSw); go_simp; try with_reducible rfl)
          try simp only [Act.put, List.setIfInBounds_toArray, List.set_cons_zero, List.set_cons_succ]
          refine wpAnyH_take (i := 16) (oi := ⟨some 58, _, _, _, _, _⟩) (v := ?_) (by rfl) (by kernel_rfl) (by kernel_rfl) (by kernel_rfl) (fun _ _ _ h => h) (Or.inl ⟨by rfl, ?hy⟩) (by assumption) ?_
          case hy => (intro w hSw; (try dsimp only at hSw); go_simp; try with_reducible rfl)
          try simp only [Act.put, List.setIfInBounds_toArray, List.set_cons_zero, List.set_cons_succ]
          refine wpAnyH_take (i := 17) (oi := ⟨some 59, _, _, _, _, _⟩) (v := ?_) (by rfl) (by kernel_rfl) (by kernel_rfl) (by kernel_rfl) (fun _ _ _ h => h) (Or.inl ⟨by rfl, ?hy⟩) (by assumption) ?_
          case hy => (intro w hSw; (try dsimp only at hSw); go_simp; try with_reducible rfl)
          try simp only [Act.put, List.setIfInBounds_toArray, List.set_cons_zero, List.set_cons_succ]
          refine wpAnyH_take (i := 20) (oi := ⟨some 62, _, _, _, _, _⟩) (v := ?_) (by rfl) (by kernel_rfl) (by kernel_rfl) (by kernel_rfl) (fun _ _ _ h => h) (Or.inl ⟨by rfl, ?hy⟩) (by assumption) ?_
          case hy => (intro w hSw; (try dsimp only at hSw); go_simp; try with_reducible rfl)
          try simp only [Act.put, List.setIfInBounds_toArray, List.set_cons_zero, List.set_cons_succ]
          refine wpAnyH_take (i := 21) (oi := ⟨some 63, _, _, _, _, _⟩) (v := ?_) (by rfl) (by kernel_rfl) (by kernel_rfl) (by kernel_rfl) (fun _ _ _ h => h) (Or.inl ⟨by rfl, ?hy⟩) (by assumption) ?_
          case hy => (intro w hSw; (try dsimp only at hSw); go_simp; try with_reducible rfl)
          try simp only [Act.put, List.setIfInBounds_toArray, List.set_cons_zero, List.set_cons_succ]
          refine wpAnyH_take (i := 22) (oi := ⟨some 64, _, _, _, _, _⟩) (v := ?_) (by rfl) (by kernel_rfl) (by kernel_rfl) (by kernel_rfl) (fun _ _ _ h => h) (Or.inl ⟨by rfl, ?hy⟩) (by assumption) ?_
          case hy => (intro w hSw; (try dsimp only at hSw); go_simp; try with_reducible rfl)
          try simp only [Act.put, List.setIfInBounds_toArray, List.set_cons_zero, List.set_cons_succ]
          refine wpAnyH_ready (rs := [18]) (by kernel_rfl) (by simp) ?_
          refine AllReadyH.cons (o := ⟨some 60, _, _, _, _, _⟩) (by rfl) (fun K hK => ?_) ?_
          · (go_simp; (go_at_call 11; ((with_reducible refine (R4.out _ hHeld).mono ?_); rintro e w17 ⟨rfl, hA17, hg17⟩)); go_wp2_with fail)
            refine hK.out _ _ ?_ (fun hHeld => ?_)
            · first | exact hHeld | exact hc_0 hA5 | exact hc_1 hHeld (by assumption) | exact hc_e hHeld hA17 hg17
            clear hK K
            try simp only [Act.put, List.setIfInBounds_toArray, List.set_cons_zero, List.set_cons_succ]
            refine wpAnyH_take (i := 19) (oi := ⟨some 61, _, _, _, _, _⟩) (v := ?_) (by rfl) (by kernel_rfl) (by kernel_rfl) (by kernel_rfl) (fun _ _ _ h => h) (Or.inl ⟨by rfl, ?hy⟩) (by assumption) ?_
            case hy => (intro w hSw; (try dsimp only at hSw); go_simp; try with_reducible rfl)
            try simp only [Act.put, List.setIfInBounds_toArray, List.set_cons_zero, List.set_cons_succ]
            refine wpAnyH_take (i := 23) (oi := ⟨some 65, _, _, _, _, _⟩) (v := ?_) (by rfl) (by kernel_rfl) (by kernel_rfl) (by kernel_rfl) (fun _ _ _ h => h) (Or.inl ⟨by rfl, ?hy⟩) (by assumption) ?_
            case hy => (intro w hSw; (try dsimp only at hSw); go_simp; try with_reducible rfl)
            try simp only [Act.put, List.setIfInBounds_toArray, List.set_cons_zero, List.set_cons_succ]
            refine wpAnyH_take (i := 24) (oi := ⟨some 66, _, _, _, _, _⟩) (v := ?_) (by rfl) (by kernel_rfl) (by kernel_rfl) (by kernel_rfl) (fun _ _ _ h => h) (Or.inl ⟨by rfl, ?hy⟩) (by assumption) ?_
            case hy => (intro w hSw; (try dsimp only at hSw); go_simp; try with_reducible rfl)
            try simp only [Act.put, List.setIfInBounds_toArray, List.set_cons_zero, List.set_cons_succ]
            refine wpAnyH_take (i := 25) (oi := ⟨some 4, _, _, _, _, _⟩) (v := ?_) (by rfl) (by kernel_rfl) (by kernel_rfl) (by kernel_rfl) (fun _ _ _ h => h) (Or.inl ⟨by rfl, ?hy⟩) (by assumption) ?_
            case hy => (intro w hSw; (try dsimp only at hSw); go_simp; try with_reducible rfl)
            try simp only [Act.put, List.setIfInBounds_toArray, List.set_cons_zero, List.set_cons_succ]
            refine wpAnyH_done (by kernel_rfl) ?_ _
            have hfin := hc_b hHeld hB5 hg0
            go_wp2_with fail
            go_ret
            exact ⟨rfl, hfin⟩
          exact AllReadyH.nil
        exact AllReadyH.nil
      exact AllReadyH.nil
    exact AllReadyH.nil
  · have e0 : ¬ (m : Int) = 0 := by omega
    have e1 : decide (m = 0) = false := decide_eq_false (by omega)
    have e2 : ((m : Int) == 0) = false := beq_eq_false_iff_ne.2 (by omega)
    have R4 := Lib.hid (fun W (h : HC S g bh w5 W) => (show Calls Tryd.prog 11 #[.pointer (some ⟨g, 0, none⟩)] W fun e w' => e = .returned (.int .i64 2) ∧ RdrP S w' g (some bh) ∧ W.grownBy w' (some g) from hend ▸ rEnd_any S g (some bh) W (hLK.out W (hc_b h hB5 hg0)) h.1))
    clear hend
    refine wp_region_held_drew (S := (fun w' => HC S g bh w5 w')) (by kernel_rfl) ?_ (fun hHeld => ?_)
    · first | exact hHeld | exact hc_0 hA5 | exact hc_1 hHeld (by assumption) | exact hc_e hHeld hA17 hg17
    refine wpAnyH_take (i := 0) (oi := ⟨some 42, _, _, _, _, _⟩) (v := ?_) (by rfl) (by kernel_rfl) (by kernel_rfl) (by kernel_rfl) (fun _ _ _ h => h) (Or.inl ⟨by rfl, ?hy⟩) (by assumption) ?_
    case hy => (intro w hSw; (try dsimp only at hSw); go_simp; try with_reducible rfl)
    try simp only [Act.put, List.setIfInBounds_toArray, List.set_cons_zero, List.set_cons_succ]
    refine wpAnyH_take (i := 1) (oi := ⟨some 43, _, _, _, _, _⟩) (v := .string sa) (by rfl) (by kernel_rfl) (by kernel_rfl) (by kernel_rfl) (fun _ _ _ h => h) (.inl ⟨by rfl, fun w hSw => by have hc := cv4.out w hSw; go_simp⟩) (by assumption) ?_
    try simp only [Act.put, List.setIfInBounds_toArray, List.set_cons_zero, List.set_cons_succ]
    refine wpAnyH_take (i := 2) (oi := ⟨some 44, _, _, _, _, _⟩) (v := ?_) (by rfl) (by kernel_rfl) (by kernel_rfl) (by kernel_rfl) (fun _ _ _ h => h) (Or.inl ⟨by rfl, ?hy⟩) (by assumption) ?_
    case hy => (intro w hSw; (try dsimp only at hSw); go_simp; try with_reducible rfl)
    try simp only [Act.put, List.setIfInBounds_toArray, List.set_cons_zero, List.set_cons_succ]
    refine wpAnyH_ready (rs := [3]) (by kernel_rfl) (by simp) ?_
    refine AllReadyH.cons (o := ⟨some 45, _, _, _, _, _⟩) (by rfl) (fun K hK => ?_) ?_
    · (go_simp; (go_at_call 9; ((with_reducible refine (R1.out _ hHeld).mono ?_); rintro e w6 ⟨⟨A5, n5, c5, rfl, hO5⟩, hb5⟩; have hcv5 := cv5.out w6 A5 n5 c5 _ hO5)); go_wp2_with fail)
      refine hK.out _ _ ?_ (fun hHeld => ?_)
      · first | exact hHeld | exact hc_0 hA5 | exact hc_1 hHeld (by assumption) | exact hc_e hHeld hA17 hg17
      clear hK K
      try simp only [Act.put, List.setIfInBounds_toArray, List.set_cons_zero, List.set_cons_succ]
      refine wpAnyH_ready (rs := [4]) (by kernel_rfl) (by simp) ?_
      refine AllReadyH.cons (o := ⟨some 46, _, _, _, _, _⟩) (by rfl) (fun K hK => ?_) ?_
      · (go_simp)
        refine hK.out _ _ ?_ (fun hHeld => ?_)
        · first | exact hHeld | exact hc_0 hA5 | exact hc_1 hHeld (by assumption) | exact hc_e hHeld hA17 hg17
        clear hK K
        try simp only [Act.put, List.setIfInBounds_toArray, List.set_cons_zero, List.set_cons_succ]
        refine wpAnyH_take (i := 5) (oi := ⟨some 47, _, _, _, _, _⟩) (v := ?_) (by rfl) (by kernel_rfl) (by kernel_rfl) (by kernel_rfl) (fun _ _ _ h => h) (Or.inl ⟨by rfl, ?hy⟩) (by assumption) ?_
        case hy => (intro w hSw; (try dsimp only at hSw); go_simp; try with_reducible rfl)
        try simp only [Act.put, List.setIfInBounds_toArray, List.set_cons_zero, List.set_cons_succ]
        refine wpAnyH_take (i := 6) (oi := ⟨some 48, _, _, _, _, _⟩) (v := ?_) (by rfl) (by kernel_rfl) (by kernel_rfl) (by kernel_rfl) (fun _ _ _ h => h) (Or.inl ⟨by rfl, ?hy⟩) (by assumption) ?_
        case hy => (intro w hSw; (try dsimp only at hSw); go_simp; try with_reducible rfl)
        try simp only [Act.put, List.setIfInBounds_toArray, List.set_cons_zero, List.set_cons_succ]
        refine wpAnyH_take (i := 7) (oi := ⟨some 49, _, _, _, _, _⟩) (v := ?_) (by rfl) (by kernel_rfl) (by kernel_rfl) (by kernel_rfl) (fun _ _ _ h => h) (Or.inl ⟨by rfl, ?hy⟩) (by assumption) ?_
        case hy => (intro w hSw; (try dsimp only at hSw); go_simp; try with_reducible rfl)
        try simp only [Act.put, List.setIfInBounds_toArray, List.set_cons_zero, List.set_cons_succ]
        refine wpAnyH_take (i := 8) (oi := ⟨some 50, _, _, _, _, _⟩) (v := ?_) (by rfl) (by kernel_rfl) (by kernel_rfl) (by kernel_rfl) (fun _ _ _ h => h) (Or.inl ⟨by rfl, ?hy⟩) (by assumption) ?_
        case hy => (intro w hSw; (try dsimp only at hSw); go_simp; try with_reducible rfl)
        try simp only [Act.put, List.setIfInBounds_toArray, List.set_cons_zero, List.set_cons_succ]
        refine wpAnyH_take (i := 9) (oi := ⟨some 51, _, _, _, _, _⟩) (v := ?_) (by rfl) (by kernel_rfl) (by kernel_rfl) (by kernel_rfl) (fun _ _ _ h => h) (Or.inl ⟨by rfl, ?hy⟩) (by assumption) ?_
        case hy => (intro w hSw; (try dsimp only at hSw); go_simp; try with_reducible rfl)
        try simp only [Act.put, List.setIfInBounds_toArray, List.set_cons_zero, List.set_cons_succ]
        refine wpAnyH_take (i := 10) (oi := ⟨some 52, _, _, _, _, _⟩) (v := ?_) (by rfl) (by kernel_rfl) (by kernel_rfl) (by kernel_rfl) (fun _ _ _ h => h) (Or.inl ⟨by rfl, ?hy⟩) (by assumption) ?_
        case hy => (intro w hSw; (try dsimp only at hSw); go_simp; try with_reducible rfl)
        try simp only [Act.put, List.setIfInBounds_toArray, List.set_cons_zero, List.set_cons_succ]
        refine wpAnyH_take (i := 11) (oi := ⟨some 53, _, _, _, _, _⟩) (v := ?_) (by rfl) (by kernel_rfl) (by kernel_rfl) (by kernel_rfl) (fun _ _ _ h => h) (Or.inl ⟨by rfl, ?hy⟩) (by assumption) ?_
        case hy => (intro w hSw; (try dsimp only at hSw); go_simp; try with_reducible rfl)
        try simp only [Act.put, List.setIfInBounds_toArray, List.set_cons_zero, List.set_cons_succ]
        refine wpAnyH_take (i := 12) (oi := ⟨some 54, _, _, _, _, _⟩) (v := ?_) (by rfl) (by kernel_rfl) (by kernel_rfl) (by kernel_rfl) (fun _ _ _ h => h) (Or.inl ⟨by rfl, ?hy⟩) (by assumption) ?_
        case hy => (intro w hSw; (try dsimp only at hSw); go_simp; try with_reducible rfl)
        try simp only [Act.put, List.setIfInBounds_toArray, List.set_cons_zero, List.set_cons_succ]
        refine wpAnyH_take (i := 13) (oi := ⟨some 55, _, _, _, _, _⟩) (v := ?_) (by rfl) (by kernel_rfl) (by kernel_rfl) (by kernel_rfl) (fun _ _ _ h => h) (Or.inl ⟨by rfl, ?hy⟩) (by assumption) ?_
        case hy => (intro w hSw; (try dsimp only at hSw); go_simp; try with_reducible rfl)
        try simp only [Act.put, List.setIfInBounds_toArray, List.set_cons_zero, List.set_cons_succ]
        refine wpAnyH_ready (rs := [14]) (by kernel_rfl) (by simp) ?_
        refine AllReadyH.cons (o := ⟨some 56, _, _, _, _, _⟩) (by rfl) (fun K hK => ?_) ?_
        · (go_simp; (go_at_call 10; ((with_reducible refine (R3.out _ hHeld).mono ?_); rintro e w16 ⟨rfl, hD16⟩; have hb16 := hD16.below w6.heap.size)); go_wp2_with fail)
          refine hK.out _ _ ?_ (fun hHeld => ?_)
          · first | exact hHeld | exact hc_0 hA5 | exact hc_1 hHeld (by assumption) | exact hc_e hHeld hA17 hg17
          clear hK K
          try simp only [Act.put, List.setIfInBounds_toArray, List.set_cons_zero, List.set_cons_succ]
          refine wpAnyH_take (i := 15) (oi := ⟨some 57, _, _, _, _, _⟩) (v := ?_) (by rfl) (by kernel_rfl) (by kernel_rfl) (by kernel_rfl) (fun _ _ _ h => h) (Or.inl ⟨by rfl, ?hy⟩) (by assumption) ?_
          case hy => (intro w hSw; (try dsimp only at hSw); go_simp; try with_reducible rfl)
          try simp only [Act.put, List.setIfInBounds_toArray, List.set_cons_zero, List.set_cons_succ]
          refine wpAnyH_take (i := 16) (oi := ⟨some 58, _, _, _, _, _⟩) (v := ?_) (by rfl) (by kernel_rfl) (by kernel_rfl) (by kernel_rfl) (fun _ _ _ h => h) (Or.inl ⟨by rfl, ?hy⟩) (by assumption) ?_
          case hy => (intro w hSw; (try dsimp only at hSw); go_simp; try with_reducible rfl)
          try simp only [Act.put, List.setIfInBounds_toArray, List.set_cons_zero, List.set_cons_succ]
          refine wpAnyH_take (i := 17) (oi := ⟨some 59, _, _, _, _, _⟩) (v := ?_) (by rfl) (by kernel_rfl) (by kernel_rfl) (by kernel_rfl) (fun _ _ _ h => h) (Or.inl ⟨by rfl, ?hy⟩) (by assumption) ?_
          case hy => (intro w hSw; (try dsimp only at hSw); go_simp; try with_reducible rfl)
          try simp only [Act.put, List.setIfInBounds_toArray, List.set_cons_zero, List.set_cons_succ]
          refine wpAnyH_take (i := 20) (oi := ⟨some 62, _, _, _, _, _⟩) (v := ?_) (by rfl) (by kernel_rfl) (by kernel_rfl) (by kernel_rfl) (fun _ _ _ h => h) (Or.inl ⟨by rfl, ?hy⟩) (by assumption) ?_
          case hy => (intro w hSw; (try dsimp only at hSw); go_simp; try with_reducible rfl)
          try simp only [Act.put, List.setIfInBounds_toArray, List.set_cons_zero, List.set_cons_succ]
          refine wpAnyH_take (i := 21) (oi := ⟨some 63, _, _, _, _, _⟩) (v := ?_) (by rfl) (by kernel_rfl) (by kernel_rfl) (by kernel_rfl) (fun _ _ _ h => h) (Or.inl ⟨by rfl, ?hy⟩) (by assumption) ?_
          case hy => (intro w hSw; (try dsimp only at hSw); go_simp; try with_reducible rfl)
          try simp only [Act.put, List.setIfInBounds_toArray, List.set_cons_zero, List.set_cons_succ]
          refine wpAnyH_take (i := 22) (oi := ⟨some 64, _, _, _, _, _⟩) (v := ?_) (by rfl) (by kernel_rfl) (by kernel_rfl) (by kernel_rfl) (fun _ _ _ h => h) (Or.inl ⟨by rfl, ?hy⟩) (by assumption) ?_
          case hy => (intro w hSw; (try dsimp only at hSw); go_simp; try with_reducible rfl)
          try simp only [Act.put, List.setIfInBounds_toArray, List.set_cons_zero, List.set_cons_succ]
          refine wpAnyH_ready (rs := [18]) (by kernel_rfl) (by simp) ?_
          refine AllReadyH.cons (o := ⟨some 60, _, _, _, _, _⟩) (by rfl) (fun K hK => ?_) ?_
          · (go_simp; (go_at_call 11; ((with_reducible refine (R4.out _ hHeld).mono ?_); rintro e w17 ⟨rfl, hA17, hg17⟩)); go_wp2_with fail)
            refine hK.out _ _ ?_ (fun hHeld => ?_)
            · first | exact hHeld | exact hc_0 hA5 | exact hc_1 hHeld (by assumption) | exact hc_e hHeld hA17 hg17
            clear hK K
            try simp only [Act.put, List.setIfInBounds_toArray, List.set_cons_zero, List.set_cons_succ]
            refine wpAnyH_take (i := 19) (oi := ⟨some 61, _, _, _, _, _⟩) (v := ?_) (by rfl) (by kernel_rfl) (by kernel_rfl) (by kernel_rfl) (fun _ _ _ h => h) (Or.inl ⟨by rfl, ?hy⟩) (by assumption) ?_
            case hy => (intro w hSw; (try dsimp only at hSw); go_simp; try with_reducible rfl)
            try simp only [Act.put, List.setIfInBounds_toArray, List.set_cons_zero, List.set_cons_succ]
            refine wpAnyH_take (i := 23) (oi := ⟨some 65, _, _, _, _, _⟩) (v := ?_) (by rfl) (by kernel_rfl) (by kernel_rfl) (by kernel_rfl) (fun _ _ _ h => h) (Or.inl ⟨by rfl, ?hy⟩) (by assumption) ?_
            case hy => (intro w hSw; (try dsimp only at hSw); go_simp; try with_reducible rfl)
            try simp only [Act.put, List.setIfInBounds_toArray, List.set_cons_zero, List.set_cons_succ]
            refine wpAnyH_take (i := 24) (oi := ⟨some 66, _, _, _, _, _⟩) (v := ?_) (by rfl) (by kernel_rfl) (by kernel_rfl) (by kernel_rfl) (fun _ _ _ h => h) (Or.inl ⟨by rfl, ?hy⟩) (by assumption) ?_
            case hy => (intro w hSw; (try dsimp only at hSw); go_simp; try with_reducible rfl)
            try simp only [Act.put, List.setIfInBounds_toArray, List.set_cons_zero, List.set_cons_succ]
            refine wpAnyH_take (i := 25) (oi := ⟨some 4, _, _, _, _, _⟩) (v := ?_) (by rfl) (by kernel_rfl) (by kernel_rfl) (by kernel_rfl) (fun _ _ _ h => h) (Or.inl ⟨by rfl, ?hy⟩) (by assumption) ?_
            case hy => (intro w hSw; (try dsimp only at hSw); go_simp; try with_reducible rfl)
            try simp only [Act.put, List.setIfInBounds_toArray, List.set_cons_zero, List.set_cons_succ]
            refine wpAnyH_done (by kernel_rfl) ?_ _
            have hfin := hc_b hHeld hB5 hg0
            go_wp2_with fail
            go_ret
            exact ⟨rfl, hfin⟩
          exact AllReadyH.nil
        exact AllReadyH.nil
      exact AllReadyH.nil
    exact AllReadyH.nil
theorem lawRollCells_all (S : Addr) (A : Option Addr) (n c : Nat) (l : List Cl) (A2 : Option Addr) (m d : Nat) (bh : List UInt8) (w : World) (hn : l.length = n) (hr : RdX 4 w.heap.size w A (l.map Cl.cells)) (hm : n ≤ maxLen) (hf : ∀ x, x ∈ l → x.fits) (hn2 : bh.length = m) (hr2 : RdB w.heap.size w A2 bh) (_hc2 : m ≤ d) (_hm2 : d ≤ maxLen) (hL : LaidP S w) :
    Calls Tryd.prog 3 #[.slice A n c, .slice A2 m d] w fun e w' => e = .returned (.bool true) ∧ Below w.heap.size w w' := by
  by_cases hs : 200 < n
  · exact lawRollCells_bad A A2 n c m d l w hn hr hm hf (.inl hs)
  cases hg : goodCls l with
  | false => exact lawRollCells_bad A A2 n c m d l w hn hr hm hf (.inr (.inl ⟨by omega, hg⟩))
  | true =>
    by_cases hs2 : 1000 < m
    · exact lawRollCells_bad A A2 n c m d l w hn hr hm hf (.inr (.inr ⟨by omega, hg, hs2⟩))
    exact lawRollCells_good S A A2 n c m d l bh w hn hr hf hn2 hr2 hL (by omega) (by omega) hg
end Go.Proofs.YtnlnbgcmmlpniaaDoor
