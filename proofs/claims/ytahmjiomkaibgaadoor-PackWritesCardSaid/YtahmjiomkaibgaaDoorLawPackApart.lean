/-
  WHAT IS PROVED: the statement PackApart's law answers true for every two numbers, texts and values, if package pack's calls answer as PackC2 says. Conditions: those typed in the theorem.
-/
import Derived.Test.YtahmjiomkaibgaaDoorApart
import Derived.Test.YtahmjiomkaibgaaDoorMGood
import Derived.Test.YtahmjiomkaibgaaDoorMWords
import Derived.BigRegion
import Derived.Deep.RegionHeld3
import Derived.Test.YtahmjiomkaibgaaDoorLawPackPuts
namespace Go.Proofs.YtahmjiomkaibgaaDoor
open Go.RowKit

theorem goodV_is (k n : Int) (s : ByteArray) (w : World) (b : Bool) (hb : goodB k n s = b) (hs : s.size ≤ maxLen) :
    Calls Tryd.prog 40 #[.agg #[.int .i64 k, .int .i64 n, .string s]] w fun e w' => e = .returned (.bool b) ∧ Below w.heap.size w w' := by
  subst hb
  exact refGood_any k n s w hs

theorem cell_lt {W : World} {b o : Nat} {v : Value} (h : W.cell? ⟨b, o, none⟩ = some v) : b < W.heap.size := by
  by_cases g : b < W.heap.size
  · exact g
  · unfold World.cell? at h
    rw [Array.getElem?_eq_none (by simpa using g)] at h
    cases h
section
variable {w w1 w2 : World} {b c : Nat} {v0 v1 v2 v3 v4 v5 v6 v7 : Value}
theorem apS0 (h0 : w1.cell? ⟨b, 0, none⟩ = some v0) (h1 : w1.cell? ⟨b, 1, none⟩ = some v1) (h2 : w1.cell? ⟨c, 0, none⟩ = some v2) (h3 : w1.cell? ⟨c, 1, none⟩ = some v3) (h4 : w1.cell? ⟨c, 2, none⟩ = some v4) (h5 : w1.cell? ⟨c, 3, none⟩ = some v5) (h6 : w1.cell? ⟨c, 4, none⟩ = some v6) (h7 : w1.cell? ⟨c, 5, none⟩ = some v7) (hB : Below w.heap.size w w1) : w1.drew.cell? ⟨b, 0, none⟩ = some v0 ∧ w1.drew.cell? ⟨b, 1, none⟩ = some v1 ∧ w1.drew.cell? ⟨c, 0, none⟩ = some v2 ∧ w1.drew.cell? ⟨c, 1, none⟩ = some v3 ∧ w1.drew.cell? ⟨c, 2, none⟩ = some v4 ∧ w1.drew.cell? ⟨c, 3, none⟩ = some v5 ∧ w1.drew.cell? ⟨c, 4, none⟩ = some v6 ∧ w1.drew.cell? ⟨c, 5, none⟩ = some v7 ∧ Below w.heap.size w w1.drew := ⟨h0, h1, h2, h3, h4, h5, h6, h7, hB.drew⟩
theorem apS1 (h : w1.cell? ⟨b, 0, none⟩ = some v0 ∧ w1.cell? ⟨b, 1, none⟩ = some v1 ∧ w1.cell? ⟨c, 0, none⟩ = some v2 ∧ w1.cell? ⟨c, 1, none⟩ = some v3 ∧ w1.cell? ⟨c, 2, none⟩ = some v4 ∧ w1.cell? ⟨c, 3, none⟩ = some v5 ∧ w1.cell? ⟨c, 4, none⟩ = some v6 ∧ w1.cell? ⟨c, 5, none⟩ = some v7 ∧ Below w.heap.size w w1) (hb : Below w1.heap.size w1 w2) : w2.cell? ⟨b, 0, none⟩ = some v0 ∧ w2.cell? ⟨b, 1, none⟩ = some v1 ∧ w2.cell? ⟨c, 0, none⟩ = some v2 ∧ w2.cell? ⟨c, 1, none⟩ = some v3 ∧ w2.cell? ⟨c, 2, none⟩ = some v4 ∧ w2.cell? ⟨c, 3, none⟩ = some v5 ∧ w2.cell? ⟨c, 4, none⟩ = some v6 ∧ w2.cell? ⟨c, 5, none⟩ = some v7 ∧ Below w.heap.size w w2 := by
  obtain ⟨h0, h1, h2, h3, h4, h5, h6, h7, hB⟩ := h
  have k := (bcell hb).1
  have l := cell_lt h0
  have m := cell_lt h2
  exact ⟨(k _ _ l).trans h0, (k _ _ l).trans h1, (k _ _ m).trans h2, (k _ _ m).trans h3, (k _ _ m).trans h4, (k _ _ m).trans h5, (k _ _ m).trans h6, (k _ _ m).trans h7, bt hB hb⟩
theorem bS (h : w1.cell? ⟨b, 0, none⟩ = some v0 ∧ w1.cell? ⟨b, 1, none⟩ = some v1 ∧ w1.cell? ⟨c, 0, none⟩ = some v2 ∧ w1.cell? ⟨c, 1, none⟩ = some v3 ∧ w1.cell? ⟨c, 2, none⟩ = some v4 ∧ w1.cell? ⟨c, 3, none⟩ = some v5 ∧ w1.cell? ⟨c, 4, none⟩ = some v6 ∧ w1.cell? ⟨c, 5, none⟩ = some v7 ∧ Below w.heap.size w w1) : Below w.heap.size w w1 := h.2.2.2.2.2.2.2.2
end
theorem val_eql (k n k' n' : Int) (p q : ByteArray) {b : Bool} (hb : decide (k = k' ∧ n = n' ∧ p.data.toList = q.data.toList) = b) (W : World) : (binOp .eql 44 (.agg #[.int .i64 k, .int .i64 n, .string p]) (.agg #[.int .i64 k', .int .i64 n', .string q])).run Tryd.prog W = .ok (.bool b) W := by
  by_cases h : k = k' ∧ n = n' ∧ p.data.toList = q.data.toList
  · rw [decide_eq_true h] at hb
    subst hb
    obtain ⟨rfl, rfl, e⟩ := h
    have e2 : p = q := by
      cases p
      cases q
      simp only [ByteArray.mk.injEq]
      exact Array.ext' e
    subst e2
    go_simp
  · rw [decide_eq_false h] at hb
    subst hb
    go_simp
    intro h0 h1 h2
    rw [ByteArray.toList_eq, ByteArray.toList_eq] at h2
    exact h ⟨h0, h1, h2⟩
theorem blk_c2 {W : World} {b : Nat} {v0 v1 : Value} {t : TypeId} (h : Blk W b #[v0, v1] t) : W.cell? ⟨b, 0, none⟩ = some v0 ∧ W.cell? ⟨b, 1, none⟩ = some v1 ∧ b < W.heap.size := ⟨h.cell 0, h.cell 1, h.lt⟩
theorem blk_drew {W : World} {b : Nat} {cs : Array Value} {t : TypeId} (h : Blk W b cs t) : Blk W.drew b cs t := h
set_option maxRecDepth 100000 in
set_option maxHeartbeats 4000000 in
theorem lawPackApart_good {S : Addr} {Rdr : World → Nat → Rest → Prop} (hC : PackC2 S Rdr) (x y : Nat) (s t : ByteArray) (k n k' n' : Int) (p q : ByteArray) (w : World) (hL : LaidP S w) (hx : x < 18446744073709551616) (hy : y < 18446744073709551616)
    (hs : s.size ≤ 2000) (ht : t.size ≤ 2000) (hp : p.size ≤ maxLen) (hq : q.size ≤ maxLen) (hn : -9223372036854775808 ≤ n ∧ n ≤ 9223372036854775807) (hn' : -9223372036854775808 ≤ n' ∧ n' ≤ 9223372036854775807) (hg : goodB k n p = true) (hg' : goodB k' n' q = true) :
    Calls Tryd.prog 7 #[.agg #[.int .u64 x, .int .u64 y], .agg #[.string s, .string t], .agg #[.int .i64 k, .int .i64 n, .string p, .int .i64 k', .int .i64 n', .string q]] w fun e w' => e = .returned (.bool true) ∧ Below w.heap.size w w' := by
  have g1 : (s.size : Int) ≤ 2000 := by omega
  have g2 : (t.size : Int) ≤ 2000 := by omega
  have HC := Lib.hid hC
  have HX := Lib.hid hx
  have HY := Lib.hid hy
  have HN := Lib.hid hn
  have HN' := Lib.hid hn'
  have HG := Lib.hid hg
  have HG' := Lib.hid hg'
  have hLs : s.data.toList.length = s.size := Array.length_toList
  have hLt : t.data.toList.length = t.size := Array.length_toList
  obtain ⟨exy, hxy⟩ : ∃ b, Hid (decide (x = y) = b) := ⟨_, rfl⟩
  obtain ⟨mx, hmx⟩ : ∃ m, wrap64 (x : Int) = m := ⟨_, rfl⟩
  obtain ⟨my, hmy⟩ : ∃ m, wrap64 (y : Int) = m := ⟨_, rfl⟩
  have hmx2 : IntKind.i64.wrap (x : Int) = mx := (IntWalk.i64_left _).trans hmx
  have hmy2 : IntKind.i64.wrap (y : Int) = my := (IntWalk.i64_left _).trans hmy
  have hmb : Hid (-9223372036854775808 ≤ mx ∧ mx ≤ 9223372036854775807) := by rw [← hmx]; exact wrap64_in _
  have hmb2 : Hid (-9223372036854775808 ≤ my ∧ my ≤ 9223372036854775807) := by rw [← hmy]; exact wrap64_in _
  have hxy2 : Hid (decide (mx = my) = exy) := by
    show _ = _
    rw [← hxy.out, ← hmx, ← hmy]
    have e : wrap64 (x : Int) = wrap64 (y : Int) ↔ x = y := by unfold wrap64; omega
    exact decide_eq_decide.2 e
  obtain ⟨est, hst⟩ : ∃ b, Hid (decide (s.data.toList = t.data.toList) = b) := ⟨_, rfl⟩
  obtain ⟨evv, hvv⟩ : ∃ b, Hid (decide (k = k' ∧ n = n' ∧ p.data.toList = q.data.toList) = b) := ⟨_, rfl⟩
  have t1 : ((x : Int) == (y : Int)) = exy := by
    rw [← hxy.out, Bool.eq_iff_iff, beq_iff_eq, decide_eq_true_eq]
    omega
  have t2 : (s.toList == t.toList) = est := by
    rw [← hst.out, ByteArray.toList_eq, ByteArray.toList_eq, Bool.eq_iff_iff, beq_iff_eq, decide_eq_true_eq]
  have t3 := fun W => val_eql k n k' n' p q hvv.out W
  clear hC hx hy hn hn' hg hg'
  go_enter Tryd.func7, Tryd.ntmps7
  go_wp2_with fail
  have hb0 := b0 w (.cells #[.int .u64 x, .int .u64 y] 81)
  have hb1 := ba hb0 (.cells #[.string s, .string t] 82)
  have hb2 := ba hb1 (.cells #[.int .i64 k, .int .i64 n, .string p, .int .i64 k', .int .i64 n', .string q] 83)
  have hk0 := Lib.hid (((blk_new w #[.int .u64 x, .int .u64 y] 81).alloc (.cells #[.string s, .string t] 82)).alloc (.cells #[.int .i64 k, .int .i64 n, .string p, .int .i64 k', .int .i64 n', .string q] 83))
  have hk1 := Lib.hid ((blk_at (w := w.alloc (.cells #[.int .u64 x, .int .u64 y] 81)) (b := w.heap.size + 1) (by simp) #[.string s, .string t] 82).alloc (.cells #[.int .i64 k, .int .i64 n, .string p, .int .i64 k', .int .i64 n', .string q] 83))
  have hk2 := Lib.hid (blk_at (w := (w.alloc (.cells #[.int .u64 x, .int .u64 y] 81)).alloc (.cells #[.string s, .string t] 82)) (b := w.heap.size + 1 + 1) (by simp) #[.int .i64 k, .int .i64 n, .string p, .int .i64 k', .int .i64 n', .string q] 83)
  generalize ((w.alloc (.cells #[.int .u64 x, .int .u64 y] 81)).alloc (.cells #[.string s, .string t] 82)).alloc (.cells #[.int .i64 k, .int .i64 n, .string p, .int .i64 k', .int .i64 n', .string q] 83) = W at hb2 hk0 hk1 hk2 ⊢
  have c00 := hk0.out.cell 0
  have c01 := hk0.out.cell 1
  clear hb0 hb1
  go_wp2_with fail
  go_region
  replace hb2 := hb2.drew
  replace hk0 := Lib.hid (blk_drew hk0.out)
  replace hk1 := Lib.hid (blk_drew hk1.out)
  replace hk2 := Lib.hid (blk_drew hk2.out)
  clear c00 c01
  generalize W.drew = W at hb2 hk0 hk1 hk2 ⊢
  go_wp2_with fail
  refine (packAwake HC.out.toPackC _ (hL.keep hb2)).mono ?_
  rintro e w1 ⟨rfl, hb3⟩
  have B1 := bt hb2 hb3
  replace hk1 := Lib.hid (hk1.out.keep hb3)
  replace hk2 := Lib.hid (hk2.out.keep hb3)
  clear hk0 hb2 hb3
  obtain ⟨a0, a1, _⟩ := blk_c2 hk1.out
  obtain ⟨d0, d1, d2, d3, d4, d5, _⟩ := hk2.out.c6
  go_wp2_with fail
  refine (goodV_is k n p _ true HG.out hp).mono ?_
  rintro e w2 ⟨rfl, hb2⟩
  have B2 := bt B1 hb2
  replace hk1 := Lib.hid (hk1.out.keep hb2)
  replace hk2 := Lib.hid (hk2.out.keep hb2)
  clear a0 a1 d0 d1 d2 d3 d4 d5 hb2
  obtain ⟨a0, a1, _⟩ := blk_c2 hk1.out
  obtain ⟨d0, d1, d2, d3, d4, d5, _⟩ := hk2.out.c6
  go_wp2_with fail
  refine (goodV_is k' n' q _ true HG'.out hq).mono ?_
  rintro e w3 ⟨rfl, hb3⟩
  have B3 := bt B2 hb3
  replace hk1 := Lib.hid (hk1.out.keep hb3)
  replace hk2 := Lib.hid (hk2.out.keep hb3)
  clear a0 a1 d0 d1 d2 d3 d4 d5 hb3
  obtain ⟨a0, a1, _⟩ := blk_c2 hk1.out
  obtain ⟨d0, d1, d2, d3, d4, d5, _⟩ := hk2.out.c6
  -- from here
  have Fnumber0 : Hid (∀ W' : World, Below w.heap.size w W' → Calls Tryd.prog 10 #[.slice none 0 0, .int .u64 x] W' fun e w' => PutR W' (numB x) e w') := fun W' hB => HC.out.number none 0 0 [] x W' (hL.keep hB) rfl (by omega) (RdB.nil _ _ _) (Nat.le_refl 0) HX.out
  have Fnumber1 : Hid (∀ W' : World, Below w.heap.size w W' → Calls Tryd.prog 10 #[.slice none 0 0, .int .u64 y] W' fun e w' => PutR W' (numB y) e w') := fun W' hB => HC.out.number none 0 0 [] y W' (hL.keep hB) rfl (by omega) (RdB.nil _ _ _) (Nat.le_refl 0) HY.out
  have Fnumber2 : Hid (∀ (A A2 : Option Addr) (nn cc mm dd : Nat) (W' : World), (numB x).length = nn → RdB W'.heap.size W' A (numB x) → (numB y).length = mm → RdB W'.heap.size W' A2 (numB y) → Calls Tryd.prog 41 #[.slice A nn cc, .slice A2 mm dd, .bool exy] W' fun e w' => e = .returned (.bool true) ∧ Below W'.heap.size W' w') :=
    fun A A2 nn cc mm dd W' h1 h2 h3 h4 => apart_any A A2 nn cc mm dd _ _ _ W' true (apB_num HX.out HY.out hxy.out) h1 h2 h3 h4
  have Fint0 : Hid (∀ W' : World, Below w.heap.size w W' → Calls Tryd.prog 12 #[.slice none 0 0, .int .i64 mx] W' fun e w' => PutR W' (numB (zig mx)) e w') := fun W' hB => HC.out.int none 0 0 [] mx W' (hL.keep hB) rfl (by omega) (RdB.nil _ _ _) (Nat.le_refl 0) hmb.out.1 hmb.out.2
  have Fint1 : Hid (∀ W' : World, Below w.heap.size w W' → Calls Tryd.prog 12 #[.slice none 0 0, .int .i64 my] W' fun e w' => PutR W' (numB (zig my)) e w') := fun W' hB => HC.out.int none 0 0 [] my W' (hL.keep hB) rfl (by omega) (RdB.nil _ _ _) (Nat.le_refl 0) hmb2.out.1 hmb2.out.2
  have Fint2 : Hid (∀ (A A2 : Option Addr) (nn cc mm dd : Nat) (W' : World), (numB (zig mx)).length = nn → RdB W'.heap.size W' A (numB (zig mx)) → (numB (zig my)).length = mm → RdB W'.heap.size W' A2 (numB (zig my)) → Calls Tryd.prog 41 #[.slice A nn cc, .slice A2 mm dd, .bool exy] W' fun e w' => e = .returned (.bool true) ∧ Below W'.heap.size W' w') :=
    fun A A2 nn cc mm dd W' h1 h2 h3 h4 => apart_any A A2 nn cc mm dd _ _ _ W' true (apB_int hmb.out hmb2.out hxy2.out) h1 h2 h3 h4
  have Ftext0 : Hid (∀ W' : World, Below w.heap.size w W' → Calls Tryd.prog 14 #[.slice none 0 0, .string s] W' fun e w' => PutR W' (textB s.data.toList) e w') := fun W' hB => HC.out.text none 0 0 [] s W' (hL.keep hB) rfl (by omega) (RdB.nil _ _ _) (Nat.le_refl 0) (by omega)
  have Ftext1 : Hid (∀ W' : World, Below w.heap.size w W' → Calls Tryd.prog 14 #[.slice none 0 0, .string t] W' fun e w' => PutR W' (textB t.data.toList) e w') := fun W' hB => HC.out.text none 0 0 [] t W' (hL.keep hB) rfl (by omega) (RdB.nil _ _ _) (Nat.le_refl 0) (by omega)
  have Ftext2 : Hid (∀ (A A2 : Option Addr) (nn cc mm dd : Nat) (W' : World), (textB s.data.toList).length = nn → RdB W'.heap.size W' A (textB s.data.toList) → (textB t.data.toList).length = mm → RdB W'.heap.size W' A2 (textB t.data.toList) → Calls Tryd.prog 41 #[.slice A nn cc, .slice A2 mm dd, .bool est] W' fun e w' => e = .returned (.bool true) ∧ Below W'.heap.size W' w') :=
    fun A A2 nn cc mm dd W' h1 h2 h3 h4 => apart_any A A2 nn cc mm dd _ _ _ W' true (apB_text (by omega) (by omega) hst.out) h1 h2 h3 h4
  have Fvalue0 : Hid (∀ W' : World, Below w.heap.size w W' → Calls Tryd.prog 43 #[.slice none 0 0, .agg #[.int .i64 k, .int .i64 n, .string p]] W' fun e w' => PutR W' (valB k n p.data.toList) e w') := fun W' hB => HC.out.value none 0 0 [] k n p W' (hL.keep hB) rfl (by omega) (RdB.nil _ _ _) (Nat.le_refl 0) HG.out HN.out.1 HN.out.2
  have Fvalue1 : Hid (∀ W' : World, Below w.heap.size w W' → Calls Tryd.prog 43 #[.slice none 0 0, .agg #[.int .i64 k', .int .i64 n', .string q]] W' fun e w' => PutR W' (valB k' n' q.data.toList) e w') := fun W' hB => HC.out.value none 0 0 [] k' n' q W' (hL.keep hB) rfl (by omega) (RdB.nil _ _ _) (Nat.le_refl 0) HG'.out HN'.out.1 HN'.out.2
  have Fvalue2 : Hid (∀ (A A2 : Option Addr) (nn cc mm dd : Nat) (W' : World), (valB k n p.data.toList).length = nn → RdB W'.heap.size W' A (valB k n p.data.toList) → (valB k' n' q.data.toList).length = mm → RdB W'.heap.size W' A2 (valB k' n' q.data.toList) → Calls Tryd.prog 41 #[.slice A nn cc, .slice A2 mm dd, .bool evv] W' fun e w' => e = .returned (.bool true) ∧ Below W'.heap.size W' w') :=
    fun A A2 nn cc mm dd W' h1 h2 h3 h4 => apart_any A A2 nn cc mm dd _ _ _ W' true (apB_val HG.out HN.out HG'.out HN'.out hvv.out) h1 h2 h3 h4
  clear HC HX HY HN HN' HG HG'
  have hS0 := apS0 a0 a1 d0 d1 d2 d3 d4 d5 B3
  clear a0 a1 d0 d1 d2 d3 d4 d5
  go_wp2_with fail
  go_region_held3 (fun w' => w'.cell? ⟨w.heap.size + 1, 0, none⟩ = some (.string s) ∧ w'.cell? ⟨w.heap.size + 1, 1, none⟩ = some (.string t) ∧ w'.cell? ⟨w.heap.size + 1 + 1, 0, none⟩ = some (.int .i64 k) ∧ w'.cell? ⟨w.heap.size + 1 + 1, 1, none⟩ = some (.int .i64 n) ∧ w'.cell? ⟨w.heap.size + 1 + 1, 2, none⟩ = some (.string p) ∧ w'.cell? ⟨w.heap.size + 1 + 1, 3, none⟩ = some (.int .i64 k') ∧ w'.cell? ⟨w.heap.size + 1 + 1, 4, none⟩ = some (.int .i64 n') ∧ w'.cell? ⟨w.heap.size + 1 + 1, 5, none⟩ = some (.string q) ∧ Below w.heap.size w w')
    (first | assumption | exact hS0 | exact apS1 (by assumption) (by assumption))
    (first
      | (go_at_call 10; ((with_reducible refine (Fnumber0.out _ (bS (by assumption))).mono ?_); rintro e w4 ⟨⟨A4, n4, c4, rfl, hn4, hr4, qhr4⟩, hb4⟩))
      | (go_at_call 10; ((with_reducible refine (Fnumber1.out _ (bS (by assumption))).mono ?_); rintro e w5 ⟨⟨A5, n5, c5, rfl, hn5, hr5, qhr5⟩, hb5⟩; replace hr4 := (hr4.keep hb5 (Nat.le_refl _)).more hb5.size))
      | (go_at_call 41; ((with_reducible refine (Fnumber2.out A4 A5 n4 c4 n5 c5 _ hn4 hr4 hn5 hr5).mono ?_); rintro e w6 ⟨rfl, hb6⟩; clear hr4 hr5))
      | (go_at_call 12; ((with_reducible refine (Fint0.out _ (bS (by assumption))).mono ?_); rintro e w7 ⟨⟨A7, n7, c7, rfl, hn7, hr7, qhr7⟩, hb7⟩))
      | (go_at_call 12; ((with_reducible refine (Fint1.out _ (bS (by assumption))).mono ?_); rintro e w8 ⟨⟨A8, n8, c8, rfl, hn8, hr8, qhr8⟩, hb8⟩; replace hr7 := (hr7.keep hb8 (Nat.le_refl _)).more hb8.size))
      | (go_at_call 41; ((with_reducible refine (Fint2.out A7 A8 n7 c7 n8 c8 _ hn7 hr7 hn8 hr8).mono ?_); rintro e w9 ⟨rfl, hb9⟩; clear hr7 hr8))
      | (go_at_call 14; ((with_reducible refine (Ftext0.out _ (bS (by assumption))).mono ?_); rintro e w10 ⟨⟨A10, n10, c10, rfl, hn10, hr10, qhr10⟩, hb10⟩))
      | (go_at_call 14; ((with_reducible refine (Ftext1.out _ (bS (by assumption))).mono ?_); rintro e w11 ⟨⟨A11, n11, c11, rfl, hn11, hr11, qhr11⟩, hb11⟩; replace hr10 := (hr10.keep hb11 (Nat.le_refl _)).more hb11.size))
      | (go_at_call 41; ((with_reducible refine (Ftext2.out A10 A11 n10 c10 n11 c11 _ hn10 hr10 hn11 hr11).mono ?_); rintro e w12 ⟨rfl, hb12⟩; clear hr10 hr11))
      | (go_at_call 43; ((with_reducible refine (Fvalue0.out _ (bS (by assumption))).mono ?_); rintro e w13 ⟨⟨A13, n13, c13, rfl, hn13, hr13, qhr13⟩, hb13⟩))
      | (go_at_call 43; ((with_reducible refine (Fvalue1.out _ (bS (by assumption))).mono ?_); rintro e w14 ⟨⟨A14, n14, c14, rfl, hn14, hr14, qhr14⟩, hb14⟩; replace hr13 := (hr13.keep hb14 (Nat.le_refl _)).more hb14.size))
      | (go_at_call 41; ((with_reducible refine (Fvalue2.out A13 A14 n13 c13 n14 c14 _ hn13 hr13 hn14 hr14).mono ?_); rintro e w15 ⟨rfl, hb15⟩; clear hr13 hr14)))
  go_wp2_with fail
  go_ret
  exact ⟨rfl, bS (by assumption)⟩
end Go.Proofs.YtahmjiomkaibgaaDoor
