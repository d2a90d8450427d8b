/-
  WHAT IS PROVED: package roll's calls that put reaches, cells, lines and lasts behind other bytes (PutReach, PutCells, PutLines, PutLasts): the document's bytes, behind what was handed in, which stays. Conditions: those typed in each theorem. · words for an array of twelve numbers; package roll's PutLasts: the document's bytes, behind what was handed in, which stays. Conditions: those typed in each theorem. · cell.Good answers what the document's Good does, goodB, for every value. No condition. · package pack's reader: Value: what it answers and leaves, as the chapter says. Conditions: those typed in each theorem. · plain facts: the steps by which package pack's reader takes a write come to what the chapter says is taken. No program is spoken of. · deed.Good answers what the document's Good does, opB, for every operation. Condition: the texts are no longer than the form's reach. · stamp.Good answers what the document's Good of a write does. Condition: the texts are no longer than the form's reach.
-/
import Derived.Test.YtnlnbgcmmlpniaaGreatDoorM7
import Derived.Test.YtnlnbgcmmlpniaaGreatDoorM0
import Derived.Test.YtnlnbgcmmlpniaaGreatDoorM1
import Derived.WalkKit
import Derived.WalkSpells
import Derived.WalkLawsBesides
import Derived.Lib.Hide
import Derived.Test.YtnlnbgcmmlpniaaGreatDoorM4
import Derived.Test.YtnlnbgcmmlpniaaGreatDoorM2
namespace Go.Proofs.YtnlnbgcmmlpniaaGreatDoor
open Go.RowKit

section
variable {W w0 w' w1 : World} {b : Nat} {v0 v1 v2 v3 : Value} {t : TypeId}
theorem sb4_0 (h : Blk W b #[v0, v1, v2, v3] t) (hB : Below b w0 W) : W.drew.cell? ⟨b, 0, none⟩ = some v0 ∧ W.drew.cell? ⟨b, 1, none⟩ = some v1 ∧ W.drew.cell? ⟨b, 2, none⟩ = some v2 ∧ W.drew.cell? ⟨b, 3, none⟩ = some v3 ∧ Blk W.drew b #[v0, v1, v2, v3] t ∧ Below b w0 W.drew :=
  ⟨h.cell 0, h.cell 1, h.cell 2, h.cell 3, h, hB.drew⟩
theorem sb4_1 (h : w'.cell? ⟨b, 0, none⟩ = some v0 ∧ w'.cell? ⟨b, 1, none⟩ = some v1 ∧ w'.cell? ⟨b, 2, none⟩ = some v2 ∧ w'.cell? ⟨b, 3, none⟩ = some v3 ∧ Blk w' b #[v0, v1, v2, v3] t ∧ Below b w0 w') (hb : Below w'.heap.size w' w1) : w1.cell? ⟨b, 0, none⟩ = some v0 ∧ w1.cell? ⟨b, 1, none⟩ = some v1 ∧ w1.cell? ⟨b, 2, none⟩ = some v2 ∧ w1.cell? ⟨b, 3, none⟩ = some v3 ∧ Blk w1 b #[v0, v1, v2, v3] t ∧ Below b w0 w1 := by
  have k := Blk.keep h.2.2.2.2.1 hb
  exact ⟨k.cell 0, k.cell 1, k.cell 2, k.cell 3, k, h.2.2.2.2.2.trans (hb.mono (Nat.le_of_lt (Blk.lt h.2.2.2.2.1)))⟩
theorem sb4_b (h : w'.cell? ⟨b, 0, none⟩ = some v0 ∧ w'.cell? ⟨b, 1, none⟩ = some v1 ∧ w'.cell? ⟨b, 2, none⟩ = some v2 ∧ w'.cell? ⟨b, 3, none⟩ = some v3 ∧ Blk w' b #[v0, v1, v2, v3] t ∧ Below b w0 w') : Below b w0 w' := h.2.2.2.2.2
end

section
variable {W w0 w' w1 : World} {b : Nat} {v0 v1 v2 v3 v4 v5 v6 v7 v8 v9 v10 : Value} {t : TypeId}
theorem sb11_0 (h : Blk W b #[v0, v1, v2, v3, v4, v5, v6, v7, v8, v9, v10] t) (hB : Below b w0 W) : W.drew.cell? ⟨b, 0, none⟩ = some v0 ∧ W.drew.cell? ⟨b, 1, none⟩ = some v1 ∧ W.drew.cell? ⟨b, 2, none⟩ = some v2 ∧ W.drew.cell? ⟨b, 3, none⟩ = some v3 ∧ W.drew.cell? ⟨b, 4, none⟩ = some v4 ∧ W.drew.cell? ⟨b, 5, none⟩ = some v5 ∧ W.drew.cell? ⟨b, 6, none⟩ = some v6 ∧ W.drew.cell? ⟨b, 7, none⟩ = some v7 ∧ W.drew.cell? ⟨b, 8, none⟩ = some v8 ∧ W.drew.cell? ⟨b, 9, none⟩ = some v9 ∧ W.drew.cell? ⟨b, 10, none⟩ = some v10 ∧ Blk W.drew b #[v0, v1, v2, v3, v4, v5, v6, v7, v8, v9, v10] t ∧ Below b w0 W.drew :=
  ⟨h.cell 0, h.cell 1, h.cell 2, h.cell 3, h.cell 4, h.cell 5, h.cell 6, h.cell 7, h.cell 8, h.cell 9, h.cell 10, h, hB.drew⟩
theorem sb11_1 (h : w'.cell? ⟨b, 0, none⟩ = some v0 ∧ w'.cell? ⟨b, 1, none⟩ = some v1 ∧ w'.cell? ⟨b, 2, none⟩ = some v2 ∧ w'.cell? ⟨b, 3, none⟩ = some v3 ∧ w'.cell? ⟨b, 4, none⟩ = some v4 ∧ w'.cell? ⟨b, 5, none⟩ = some v5 ∧ w'.cell? ⟨b, 6, none⟩ = some v6 ∧ w'.cell? ⟨b, 7, none⟩ = some v7 ∧ w'.cell? ⟨b, 8, none⟩ = some v8 ∧ w'.cell? ⟨b, 9, none⟩ = some v9 ∧ w'.cell? ⟨b, 10, none⟩ = some v10 ∧ Blk w' b #[v0, v1, v2, v3, v4, v5, v6, v7, v8, v9, v10] t ∧ Below b w0 w') (hb : Below w'.heap.size w' w1) : w1.cell? ⟨b, 0, none⟩ = some v0 ∧ w1.cell? ⟨b, 1, none⟩ = some v1 ∧ w1.cell? ⟨b, 2, none⟩ = some v2 ∧ w1.cell? ⟨b, 3, none⟩ = some v3 ∧ w1.cell? ⟨b, 4, none⟩ = some v4 ∧ w1.cell? ⟨b, 5, none⟩ = some v5 ∧ w1.cell? ⟨b, 6, none⟩ = some v6 ∧ w1.cell? ⟨b, 7, none⟩ = some v7 ∧ w1.cell? ⟨b, 8, none⟩ = some v8 ∧ w1.cell? ⟨b, 9, none⟩ = some v9 ∧ w1.cell? ⟨b, 10, none⟩ = some v10 ∧ Blk w1 b #[v0, v1, v2, v3, v4, v5, v6, v7, v8, v9, v10] t ∧ Below b w0 w1 := by
  have k := Blk.keep h.2.2.2.2.2.2.2.2.2.2.2.1 hb
  exact ⟨k.cell 0, k.cell 1, k.cell 2, k.cell 3, k.cell 4, k.cell 5, k.cell 6, k.cell 7, k.cell 8, k.cell 9, k.cell 10, k, h.2.2.2.2.2.2.2.2.2.2.2.2.trans (hb.mono (Nat.le_of_lt (Blk.lt h.2.2.2.2.2.2.2.2.2.2.2.1)))⟩
theorem sb11_b (h : w'.cell? ⟨b, 0, none⟩ = some v0 ∧ w'.cell? ⟨b, 1, none⟩ = some v1 ∧ w'.cell? ⟨b, 2, none⟩ = some v2 ∧ w'.cell? ⟨b, 3, none⟩ = some v3 ∧ w'.cell? ⟨b, 4, none⟩ = some v4 ∧ w'.cell? ⟨b, 5, none⟩ = some v5 ∧ w'.cell? ⟨b, 6, none⟩ = some v6 ∧ w'.cell? ⟨b, 7, none⟩ = some v7 ∧ w'.cell? ⟨b, 8, none⟩ = some v8 ∧ w'.cell? ⟨b, 9, none⟩ = some v9 ∧ w'.cell? ⟨b, 10, none⟩ = some v10 ∧ Blk w' b #[v0, v1, v2, v3, v4, v5, v6, v7, v8, v9, v10] t ∧ Below b w0 w') : Below b w0 w' := h.2.2.2.2.2.2.2.2.2.2.2.2
end

theorem enters_putR : ∀ args w, (callFunc 39 args).run Tryz.prog w = .ok (.enter 39 args) w := enters_of Tryz.func39 (by kernel_rfl) rfl
theorem enters_putC : ∀ args w, (callFunc 74 args).run Tryz.prog w = .ok (.enter 74 args) w := enters_of Tryz.func74 (by kernel_rfl) rfl
theorem enters_putL : ∀ args w, (callFunc 54 args).run Tryz.prog w = .ok (.enter 54 args) w := enters_of Tryz.func54 (by kernel_rfl) rfl
theorem enters_num : ∀ args w, (callFunc 37 args).run Tryz.prog w = .ok (.enter 37 args) w := enters_of Tryz.func37 (by kernel_rfl) rfl

set_option maxRecDepth 100000 in
theorem putR1_any (s : ByteArray) (w : World) (hs : s.size ≤ 100000) :
    Calls Tryz.prog 39 #[.string s] w fun e w' => PutR w (textB s.data.toList) e w' := by
  go_enter Tryz.func39, Tryz.ntmps39
  go_wp2_with fail
  refine (packText_any none 0 0 [] s w rfl (by omega) (RdB.nil _ _ _) (Nat.le_refl _) hs).mono ?_
  rintro e w1 ⟨⟨A1, n1, c1, rfl, hl1, hr1, hc1⟩, hb1⟩
  go_wp2_with fail
  go_ret
  exact ⟨⟨A1, n1, c1, rfl, hl1, hr1, hc1⟩, hb1⟩
set_option maxRecDepth 100000 in
theorem number_any (x : Int) (w : World) (h0 : 0 ≤ x) (h1 : x ≤ 1000000) :
    Calls Tryz.prog 37 #[.int .i64 x] w fun e w' => PutR w (numB x.toNat) e w' := by
  obtain ⟨n, rfl⟩ : ∃ n : Nat, x = (n : Int) := ⟨x.toNat, by omega⟩
  have wn : IntKind.u64.wrap (n : Int) = (n : Int) := wrap_size (by omega)
  go_enter Tryz.func37, Tryz.ntmps37
  go_wp2_with fail
  refine (packNumber_any none 0 0 [] n w rfl (by omega) (RdB.nil _ _ _) (Nat.le_refl _) (by omega)).mono ?_
  rintro e w1 ⟨⟨A1, n1, c1, rfl, hl1, hr1, hc1⟩, hb1⟩
  go_wp2_with fail
  go_ret
  exact ⟨⟨A1, n1, c1, rfl, hl1, hr1, hc1⟩, hb1⟩

set_option maxRecDepth 100000 in
set_option maxHeartbeats 4000000 in
theorem putC1_any (c : Cl) (w : World) (hg : c.good = true) (hf : c.fits) :
    Calls Tryz.prog 74 #[clV c] w fun e w' => PutR w (clB c) e w' := by
  obtain ⟨h1, h2, h3, h4, h5⟩ := cl_in hg
  have HT := Lib.hid (fun W => (packText_any none 0 0 [] c.ky W rfl (by omega) (RdB.nil _ _ _) (Nat.le_refl _) (by omega)).mono fun e w' h => (show PutR W (textB c.ky.data.toList) e w' from h))
  have HV := Lib.hid (fun W A n d (hl : (textB c.ky.data.toList).length = n) (hn : n ≤ 100000) (hr : RdB W.heap.size W A (textB c.ky.data.toList)) (hc : n ≤ d) => packValue_any A n d (textB c.ky.data.toList) c.k c.x c.s W hl hn hr hc h5 hf.2.2.1 hf.2.2.2)
  have hts : (textB c.ky.data.toList).length ≤ 1000009 := textB_small (by omega)
  have hts2 : (textB c.ky.data.toList).length ≤ 100000 := by
    have e : c.ky.data.toList.length = c.ky.size := Array.length_toList
    have := numB_small (n := c.ky.data.toList.length) (by omega)
    unfold textB
    rw [List.length_append]
    omega
  clear h1 h2 h3 h4 h5 hg hf hts
  unfold clB
  obtain ⟨ky, k, x, s⟩ := c
  dsimp only at HT HV hts2 ⊢
  go_enter Tryz.func74, Tryz.ntmps74
  go_wp2_with fail
  have hC := blk_new w (clI ky k x s) 128
  have hB := b0 w (.cells (clI ky k x s) 128)
  generalize w.alloc (.cells (clI ky k x s) 128) = W at hC hB ⊢
  generalize hb : w.heap.size = b at hC hB ⊢
  go_region_held3 (fun w' => w'.cell? ⟨b, 0, none⟩ = some (.string ky) ∧ w'.cell? ⟨b, 1, none⟩ = some (.int .i64 k) ∧ w'.cell? ⟨b, 2, none⟩ = some (.int .i64 x) ∧ w'.cell? ⟨b, 3, none⟩ = some (.string s) ∧ Blk w' b #[.string ky, .int .i64 k, .int .i64 x, .string s] 128 ∧ Below b w w')
    (first | assumption | exact sb4_0 hC hB | exact sb4_1 (by assumption) (by assumption))
    (first
      | (go_at_call 40; ((with_reducible refine (HT.out _).mono ?_); rintro e w1 ⟨⟨A1, n1, c1, rfl, hl1, hr1, hc1⟩, hb1⟩))
      | (go_at_call 75; ((with_reducible refine (HV.out _ A1 n1 c1 hl1 (by rw [← hl1]; exact hts2) hr1 hc1).mono ?_); rintro e w2 ⟨⟨A2, n2, c2, rfl, hl2, hr2, hc2⟩, hb2⟩)))
  have hfin := sb4_b (w' := w2) (by assumption)
  go_wp2_with fail
  go_ret
  exact ⟨⟨A2, n2, c2, rfl, hl2, hr2, hc2⟩, by rw [hb]; exact hfin⟩

set_option maxRecDepth 100000 in
set_option maxHeartbeats 4000000 in
theorem putL1_any (c : Ln) (w : World) (hg : c.good = true) (hf : c.fits) :
    Calls Tryz.prog 54 #[lnV c] w fun e w' => PutR w (lnB c) e w' := by
  obtain ⟨h1, h2⟩ := ln_in hg
  have HT := Lib.hid (fun W => number_any c.pl W (by omega) (by omega))
  have HV := Lib.hid (fun W A n d (hl : (numB c.pl.toNat).length = n) (hn : n ≤ 100000) (hr : RdB W.heap.size W A (numB c.pl.toNat)) (hc : n ≤ d) => packWrite_any A n d (numB c.pl.toNat) c.w W hl hn hr hc h2 hf)
  have hts2 : (numB c.pl.toNat).length ≤ 100000 := Nat.le_trans (numB_small (by omega)) (by omega)
  clear h1 h2 hg hf
  unfold lnB
  obtain ⟨pl, dev, seq, K, ky, ka, na, sa, kb, nb, sb⟩ := c
  dsimp only at HT HV hts2 ⊢
  go_enter Tryz.func54, Tryz.ntmps54
  go_wp2_with fail
  have hC := blk_new w (lnI pl dev seq K ky ka na sa kb nb sb) 65
  have hB := b0 w (.cells (lnI pl dev seq K ky ka na sa kb nb sb) 65)
  generalize w.alloc (.cells (lnI pl dev seq K ky ka na sa kb nb sb) 65) = W at hC hB ⊢
  generalize hb : w.heap.size = b at hC hB ⊢
  go_region_held3 (fun w' => w'.cell? ⟨b, 0, none⟩ = some (.int .i64 pl) ∧ w'.cell? ⟨b, 1, none⟩ = some (.int .i64 dev) ∧ w'.cell? ⟨b, 2, none⟩ = some (.int .i64 seq) ∧ w'.cell? ⟨b, 3, none⟩ = some (.int .i64 K) ∧ w'.cell? ⟨b, 4, none⟩ = some (.string ky) ∧ w'.cell? ⟨b, 5, none⟩ = some (.int .i64 ka) ∧ w'.cell? ⟨b, 6, none⟩ = some (.int .i64 na) ∧ w'.cell? ⟨b, 7, none⟩ = some (.string sa) ∧ w'.cell? ⟨b, 8, none⟩ = some (.int .i64 kb) ∧ w'.cell? ⟨b, 9, none⟩ = some (.int .i64 nb) ∧ w'.cell? ⟨b, 10, none⟩ = some (.string sb) ∧ Blk w' b #[.int .i64 pl, .int .i64 dev, .int .i64 seq, .int .i64 K, .string ky, .int .i64 ka, .int .i64 na, .string sa, .int .i64 kb, .int .i64 nb, .string sb] 65 ∧ Below b w w')
    (first | assumption | exact sb11_0 hC hB | exact sb11_1 (by assumption) (by assumption))
    (first
      | (go_at_call 37; ((with_reducible refine (HT.out _).mono ?_); rintro e w1 ⟨⟨A1, n1, c1, rfl, hl1, hr1, hc1⟩, hb1⟩))
      | (go_at_call 55; ((with_reducible refine (HV.out _ A1 n1 c1 hl1 (by rw [← hl1]; exact hts2) hr1 hc1).mono ?_); rintro e w2 ⟨⟨A2, n2, c2, rfl, hl2, hr2, hc2⟩, hb2⟩)))
  have hfin := sb11_b (w' := w2) (by assumption)
  go_wp2_with fail
  go_ret
  exact ⟨⟨A2, n2, c2, rfl, hl2, hr2, hc2⟩, by rw [hb]; exact hfin⟩

theorem clB_small {c : Cl} (h : c.good = true) (hf : c.fits) : (clB c).length ≤ 3000000 := by
  obtain ⟨h1, h2, h3, h4, h5⟩ := cl_in h
  have a := textB_small (s := c.ky) (by omega)
  have b := valB_small (s := c.s) (goodB_in h5).1 hf.2.2.1 hf.2.2.2 (by omega)
  unfold clB
  rw [List.length_append]
  omega
theorem lnB_small {x : Ln} (h : x.good = true) (hf : x.fits) : (lnB x).length ≤ 5000000 := by
  obtain ⟨h1, h2⟩ := ln_in h
  obtain ⟨g1, g2, g3, g4, g5, g6⟩ := good_in h2
  obtain ⟨_, _, _, f1, f2⟩ := hf
  have a0 := numB_small (n := x.pl.toNat) (by omega)
  have a1 := numB_small (n := x.w.dev.toNat) (by omega)
  have a2 := numB_small (n := x.w.seq.toNat) (by omega)
  have a3 := numB_small (n := x.w.K.toNat) (by omega)
  have a4 := textB_small (s := x.w.ky) (by omega)
  have a5 := valB_small (s := x.w.sa) g5.1 f1.1 f1.2 (by omega)
  have a6 := valB_small (s := x.w.sb) g6.1 f2.1 f2.2 (by omega)
  unfold lnB wB wrB
  simp only [List.length_append]
  omega

set_option maxRecDepth 100000 in
theorem putR_any (A A2 : Option Addr) (n c m d : Nat) (L : List UInt8) (l : List ByteArray) (w : World) (hl : L.length = n) (hn : n ≤ 1000000) (hc : n ≤ c) (hr : RdB w.heap.size w A L) (hm : l.length = m) (hm1 : m ≤ 100000) (hr2 : RdX 1 w.heap.size w A2 (l.map strC)) (hg : ∀ x, x ∈ l → x.size ≤ 1000) :
    Calls Tryz.prog 10 #[.slice A n c, .slice A2 m d] w fun e w' => PutX w.heap.size w (L ++ (numB m ++ l.flatMap (fun s : ByteArray => textB s.data.toList))) e w' := by
  have hE : ∀ x, x ∈ l → 0 < ((fun s : ByteArray => textB s.data.toList) x).length ∧ ((fun s : ByteArray => textB s.data.toList) x).length ≤ 5000000 := fun x hx => ⟨text_pos _, Nat.le_trans (textB_small (s := x) (by have := hg x hx; omega)) (by omega)⟩
  have hF : PutsF 39 Value.string (fun s : ByteArray => textB s.data.toList) l := fun x hx W => putR1_any x W (by have := hg x hx; omega)
  have HP := Lib.hid (putListS_any 39 (fun s : ByteArray => textB s.data.toList) enters_putR A A2 n c m d L l w hl hn hc hr hm hm1 hr2 hE hF)
  clear hE hF
  go_enter Tryz.func10, Tryz.ntmps10
  go_wp2_with fail
  refine HP.out.mono ?_
  rintro e w1 ⟨⟨A1, n1, c1, rfl, hO1⟩, hb1⟩
  go_wp2_with fail
  go_ret
  exact ⟨⟨A1, n1, c1, rfl, hO1⟩, hb1⟩

set_option maxRecDepth 100000 in
theorem putC_any (A A2 : Option Addr) (n c m d : Nat) (L : List UInt8) (l : List Cl) (w : World) (hl : L.length = n) (hn : n ≤ 1000000) (hc : n ≤ c) (hr : RdB w.heap.size w A L) (hm : l.length = m) (hm1 : m ≤ 100000) (hr2 : RdX 4 w.heap.size w A2 (l.map Cl.cells)) (hg : ∀ x, x ∈ l → x.good = true ∧ x.fits) :
    Calls Tryz.prog 31 #[.slice A n c, .slice A2 m d] w fun e w' => PutX w.heap.size w (L ++ (numB m ++ l.flatMap clB)) e w' := by
  have hE : ∀ x, x ∈ l → 0 < (clB x).length ∧ (clB x).length ≤ 5000000 := fun x hx => ⟨Nat.pos_of_ne_zero (clB_pos (hg x hx).1), Nat.le_trans (clB_small (hg x hx).1 (hg x hx).2) (by omega)⟩
  have hF : PutsF 74 clV clB l := fun x hx W => putC1_any x W (hg x hx).1 (hg x hx).2
  have HP := Lib.hid (putListC_any 74 clB enters_putC A A2 n c m d L l w hl hn hc hr hm hm1 hr2 hE hF)
  clear hE hF
  go_enter Tryz.func31, Tryz.ntmps31
  go_wp2_with fail
  refine HP.out.mono ?_
  rintro e w1 ⟨⟨A1, n1, c1, rfl, hO1⟩, hb1⟩
  go_wp2_with fail
  go_ret
  exact ⟨⟨A1, n1, c1, rfl, hO1⟩, hb1⟩

set_option maxRecDepth 100000 in
theorem putL_any (A A2 : Option Addr) (n c m d : Nat) (L : List UInt8) (l : List Ln) (w : World) (hl : L.length = n) (hn : n ≤ 1000000) (hc : n ≤ c) (hr : RdB w.heap.size w A L) (hm : l.length = m) (hm1 : m ≤ 100000) (hr2 : RdX 11 w.heap.size w A2 (l.map Ln.cells)) (hg : ∀ x, x ∈ l → x.good = true ∧ x.fits) :
    Calls Tryz.prog 20 #[.slice A n c, .slice A2 m d] w fun e w' => PutX w.heap.size w (L ++ (numB m ++ l.flatMap lnB)) e w' := by
  have hE : ∀ x, x ∈ l → 0 < (lnB x).length ∧ (lnB x).length ≤ 5000000 := fun x hx => ⟨Nat.pos_of_ne_zero (lnB_pos x), lnB_small (hg x hx).1 (hg x hx).2⟩
  have hF : PutsF 54 lnV lnB l := fun x hx W => putL1_any x W (hg x hx).1 (hg x hx).2
  have HP := Lib.hid (putListL_any 54 lnB enters_putL A A2 n c m d L l w hl hn hc hr hm hm1 hr2 hE hF)
  clear hE hF
  go_enter Tryz.func20, Tryz.ntmps20
  go_wp2_with fail
  refine HP.out.mono ?_
  rintro e w1 ⟨⟨A1, n1, c1, rfl, hO1⟩, hb1⟩
  go_wp2_with fail
  go_ret
  exact ⟨⟨A1, n1, c1, rfl, hO1⟩, hb1⟩
end Go.Proofs.YtnlnbgcmmlpniaaGreatDoor

namespace Go.Proofs.YtnlnbgcmmlpniaaGreatDoor
open Go.RowKit

abbrev laI (a0 a1 a2 a3 a4 a5 a6 a7 a8 a9 a10 a11 : Int) : Array Value := #[.int .i64 a0, .int .i64 a1, .int .i64 a2, .int .i64 a3, .int .i64 a4, .int .i64 a5, .int .i64 a6, .int .i64 a7, .int .i64 a8, .int .i64 a9, .int .i64 a10, .int .i64 a11]
abbrev laL (a0 a1 a2 a3 a4 a5 a6 a7 a8 a9 a10 a11 : Int) : List Int := [a0, a1, a2, a3, a4, a5, a6, a7, a8, a9, a10, a11]
/-- A block of one-cell things, as a slice over it reads. -/
theorem blk_rdx1 {W : World} {b : Nat} {cs : Array Value} {t : TypeId} (h : Blk W b cs t) : RdX 1 (b + 1) W (some ⟨b, 0, none⟩) (cs.toList.map fun v => #[v]) := by
  intro k c hk
  rw [List.getElem?_map, Array.getElem?_toList] at hk
  cases hv : cs[k]? with
  | none => rw [hv] at hk; cases hk
  | some v =>
    rw [hv] at hk
    injection hk with hk
    subst hk
    refine ⟨_, rfl, Nat.lt_succ_self _, fun j u hj => ?_⟩
    have hj0 : j = 0 := by
      have := (Array.getElem?_eq_some_iff.1 hj).1
      simp at this
      omega
    subst hj0
    injection hj with hj
    subst hj
    rw [Nat.mul_one, Nat.add_zero, zeroX_at, h.cell k]
    exact hv
theorem blk_la {W : World} {b : Nat} {a0 a1 a2 a3 a4 a5 a6 a7 a8 a9 a10 a11 : Int} {t : TypeId} (h : Blk W b (laI a0 a1 a2 a3 a4 a5 a6 a7 a8 a9 a10 a11) t) : RdX 1 (b + 1) W (some ⟨b, 0, none⟩) ((laL a0 a1 a2 a3 a4 a5 a6 a7 a8 a9 a10 a11).map intC) := blk_rdx1 h
set_option maxRecDepth 100000 in
theorem clip_any (A : Option Addr) (n c : Nat) (w : World) (hc : n ≤ c) :
    Calls Tryz.prog 36 #[.slice A n c] w fun e w' => e = .returned (.slice A n n) ∧ w' = w := by
  go_enter Tryz.func36, Tryz.ntmps36
  go_wp2_with fail
  go_ret
  exact ⟨rfl, rfl⟩
theorem blkB_0 {W w0 : World} {b : Nat} {cs : Array Value} {t : TypeId} (h : Blk W b cs t) (hB : Below b w0 W) : Blk W.drew b cs t ∧ Below b w0 W.drew := ⟨h, hB.drew⟩
theorem blkB_1 {W w0 w1 : World} {b : Nat} {cs : Array Value} {t : TypeId} (h : Blk W b cs t ∧ Below b w0 W) (hb : Below (b + 1) W w1) : Blk w1 b cs t ∧ Below b w0 w1 :=
  ⟨(hb.block b (Nat.lt_succ_self _)).trans h.1, h.2.trans (hb.mono (Nat.le_succ _))⟩

set_option maxRecDepth 100000 in
set_option maxHeartbeats 4000000 in
theorem putLa_any (A : Option Addr) (n c : Nat) (L : List UInt8) (a0 a1 a2 a3 a4 a5 a6 a7 a8 a9 a10 a11 : Int) (w : World) (hl : L.length = n) (hn : n ≤ 1000000) (hc : n ≤ c) (hr : RdB w.heap.size w A L) (hg : ∀ x, x ∈ laL a0 a1 a2 a3 a4 a5 a6 a7 a8 a9 a10 a11 → 0 ≤ x ∧ x ≤ 1000000) :
    Calls Tryz.prog 9 #[.slice A n c, .agg (laI a0 a1 a2 a3 a4 a5 a6 a7 a8 a9 a10 a11)] w fun e w' => PutX w.heap.size w (L ++ laB (laL a0 a1 a2 a3 a4 a5 a6 a7 a8 a9 a10 a11)) e w' := by
  have HV : Hid (∀ W (_ : Blk W w.heap.size (laI a0 a1 a2 a3 a4 a5 a6 a7 a8 a9 a10 a11) 25 ∧ Below w.heap.size w W), Calls Tryz.prog 35 #[.slice A n n, .slice (some ⟨w.heap.size, 0, none⟩) 12 12, .func (.func 37) #[] #[]] W fun e w' => PutX (w.heap.size + 1) W (L ++ laB (laL a0 a1 a2 a3 a4 a5 a6 a7 a8 a9 a10 a11)) e w') :=
    fun W hS => putAllI_any (w.heap.size + 1) 37 (fun x => numB x.toNat) enters_num A (some ⟨w.heap.size, 0, none⟩) n n 12 12 L (laL a0 a1 a2 a3 a4 a5 a6 a7 a8 a9 a10 a11) W (.inr ⟨(hr.keep hS.2 (Nat.le_refl _)).more hS.2.size, hl, rfl, hn⟩) (.inr (by omega)) hS.1.lt (by omega) rfl (by omega) (blk_la hS.1)
      (fun x hx => ⟨by rw [numB_len]; omega, Nat.le_trans (numB_small (by have := hg x hx; omega)) (by omega)⟩) (fun x hx W => number_any x W (hg x hx).1 (hg x hx).2)
  clear hg hr hl
  go_enter Tryz.func9, Tryz.ntmps9
  go_wp2_with fail
  have hC := blk_new w (laI a0 a1 a2 a3 a4 a5 a6 a7 a8 a9 a10 a11) 25
  have hB := b0 w (.cells (laI a0 a1 a2 a3 a4 a5 a6 a7 a8 a9 a10 a11) 25)
  generalize w.alloc (.cells (laI a0 a1 a2 a3 a4 a5 a6 a7 a8 a9 a10 a11) 25) = W at hC hB ⊢
  generalize hb : w.heap.size = b at hC hB HV ⊢
  go_region_held3 (fun w' => Blk w' b (laI a0 a1 a2 a3 a4 a5 a6 a7 a8 a9 a10 a11) 25 ∧ Below b w w')
    (first | assumption | exact blkB_0 hC hB | exact blkB_1 (by assumption) (by assumption))
    (first
      | (go_at_call 36; ((with_reducible refine (clip_any A n c _ hc).mono ?_); rintro e w1 ⟨rfl, rfl⟩))
      | (go_at_call 35; ((with_reducible refine (HV.out _ (by assumption)).mono ?_); rintro e w2 ⟨⟨A2, n2, c2, rfl, hO2⟩, hb2⟩)))
  have hfin : Blk w2 b (laI a0 a1 a2 a3 a4 a5 a6 a7 a8 a9 a10 a11) 25 ∧ Below b w w2 := by assumption
  go_wp2_with fail
  go_ret
  exact ⟨⟨A2, n2, c2, rfl, by rw [hb]; exact hO2.less (Nat.le_succ _)⟩, by rw [hb]; exact hfin.2⟩
end Go.Proofs.YtnlnbgcmmlpniaaGreatDoor

namespace Go.Proofs.YtnlnbgcmmlpniaaGreatDoor
open Go.RowKit

set_option maxHeartbeats 1000000 in
theorem good_any (k n : Int) (s : ByteArray) (w : World) (hs : s.size ≤ maxLen) :
    Calls Tryz.prog 110 #[.agg #[.int .i64 k, .int .i64 n, .string s]] w fun e w' => e = .returned (.bool (goodB k n s)) ∧ Below w.heap.size w w' := by
  unfold maxLen at hs
  go_enter Tryz.func110, Tryz.ntmps110
  go_wp2
  all_goals go_ret
  all_goals refine ⟨ret_bool ?_, b0 _ _⟩
  all_goals unfold goodB
  all_goals rw [Bool.eq_iff_iff]
  all_goals simp only [beq_iff_eq, beq_eq_false_iff_ne, decide_eq_true_eq, isEmpty_iff, Bool.false_eq_true, false_iff] at *
  all_goals omega
end Go.Proofs.YtnlnbgcmmlpniaaGreatDoor

namespace Go.Proofs.YtnlnbgcmmlpniaaGreatDoor
open Go.RowKit

theorem below3_at {B b : Nat} {w W : World} (h : Below B w W) (hb : B ≤ b) (v0 v1 v2 : Value) : Below B w (((W.setCell ⟨b, 0, none⟩ v0).setCell ⟨b, 1, none⟩ v1).setCell ⟨b, 2, none⟩ v2) :=
  ((h.setCell (p := ⟨b, 0, none⟩) hb v0).setCell (p := ⟨b, 1, none⟩) hb v1).setCell (p := ⟨b, 2, none⟩) hb v2

set_option maxRecDepth 100000 in
set_option maxHeartbeats 1000000 in
theorem soundV_any (S : Addr) (g : Nat) (st : Rest) (k x : Int) (s : ByteArray) (w : World) (hR : RdrP S w g st) :
    Calls Tryz.prog 111 #[.pointer (some ⟨g, 0, none⟩), .agg #[.int .i64 k, .int .i64 x, .string s]] w fun e w' => e = .returned (soundM (.agg #[.int .i64 0, .int .i64 0, .string ⟨#[]⟩]) st (.agg #[.int .i64 k, .int .i64 x, .string s])) ∧ Below w.heap.size w w' := by
  have hlt := hR.lt
  cases st with
  | none =>
    obtain ⟨e1, he1, hb⟩ := hR
    obtain ⟨t1, v1, rfl⟩ := errP_nil he1
    have c1 := hb.cell 1
    go_enter Tryz.func111, Tryz.ntmps111
    go_wp2_with fail
    exact bodyPost_ret (v := .agg #[.int .i64 0, .int .i64 0, .string ⟨#[]⟩]) (by simp [results, Tryz.results111, go_sem]) rfl ⟨rfl, by repeat (first | exact Below.refl _ _ | (refine Below.alloc ?_ (by simp <;> omega) _) | (refine Below.setCell ?_ (by simp <;> omega) _))⟩
  | some b =>
    obtain ⟨hl, s1, hs, hb⟩ := hR
    have c1 := hb.cell 1
    go_enter Tryz.func111, Tryz.ntmps111
    go_wp2_with fail
    exact bodyPost_ret (v := .agg #[.int .i64 k, .int .i64 x, .string s]) (by simp [results, Tryz.results111, go_sem]) rfl ⟨rfl, by repeat (first | exact Below.refl _ _ | (refine Below.alloc ?_ (by simp <;> omega) _) | (refine Below.setCell ?_ (by simp <;> omega) _))⟩

theorem getM (st : Rest) (k x : Int) (l : List UInt8) (s : ByteArray) (hs : s.data.toList = l) :
    ∃ s2 : ByteArray, soundM (.agg #[.int .i64 0, .int .i64 0, .string ⟨#[]⟩]) st (.agg #[.int .i64 k, .int .i64 x, .string s]) = Value.agg #[.int .i64 (soundM valZ st (k, x, l)).1, .int .i64 (soundM valZ st (k, x, l)).2.1, .string s2] ∧ s2.data.toList = (soundM valZ st (k, x, l)).2.2 := by
  cases st with
  | none => exact ⟨⟨#[]⟩, rfl, rfl⟩
  | some b => exact ⟨s, rfl, hs⟩
theorem RdrP.set3 {S : Addr} {W : World} {g b : Nat} {st : Rest} (h : RdrP S W g st) (hne : b ≠ g) (v0 v1 v2 : Value) : RdrP S (((W.setCell ⟨b, 0, none⟩ v0).setCell ⟨b, 1, none⟩ v1).setCell ⟨b, 2, none⟩ v2) g st := by
  have hr : some b ≠ some g := by intro e; injection e; omega
  exact ((h.keep set_grown hr).keep set_grown hr).keep set_grown hr
theorem grown_set {w W : World} {g b i : Nat} {v : Value} (h : w.grownBy W (some g)) (hb : w.heap.size ≤ b) : w.grownBy (W.setCell ⟨b, i, none⟩ v) (some g) :=
  h.andThen (set_grown (g := b)) (fun j e => by injection e with e; exact .inl (by omega))
theorem textOf_most (st : Rest) (most : Nat) : (textOf st most).1.length ≤ most := by
  rw [← text_is]
  exact Nat.le_trans (takeM_len _ _) (numOf_lt st most).1
theorem good_one (x : Int) : goodB 1 x ⟨#[]⟩ = true := by
  unfold goodB
  simp
  rfl
theorem good_two (s : ByteArray) (h : s.size ≤ 40) : goodB 2 0 s = true := by
  unfold goodB
  simp [h]
theorem good_nat (k : Nat) (h1 : ¬ k = 1) (h2 : ¬ k = 2) : goodB (k : Int) 0 ⟨#[]⟩ = decide (k = 0) := by
  have h1' : ¬ (k : Int) = 1 := by omega
  have h2' : ¬ (k : Int) = 2 := by omega
  unfold goodB
  rw [Bool.eq_iff_iff]
  simp [h1', h2']
  intro _
  rfl
set_option maxRecDepth 100000 in
set_option maxHeartbeats 2000000 in
theorem rValue_any (S : Addr) (g : Nat) (st : Rest) (w : World) (hL : LaidS S w) (hR : RdrP S w g st) :
    Calls Tryz.prog 70 #[.pointer (some ⟨g, 0, none⟩)] w fun e w' => (∃ s : ByteArray, e = .returned (.agg #[.int .i64 (valOf st).1.1, .int .i64 (valOf st).1.2.1, .string s]) ∧ s.data.toList = (valOf st).1.2.2) ∧ RdrP S w' g (valOf st).2 ∧ w.grownBy w' (some g) := by
  rw [← val_is]
  unfold valM
  have hlt := hR.lt
  have hB := b0 w (.cells #[.int .i64 0, .int .i64 0, .string ⟨#[]⟩] 59)
  have hK0 := blk_new w #[.int .i64 0, .int .i64 0, .string ⟨#[]⟩] 59
  have HL := Lib.hid (fun W' (hg : w.grownBy W' (some g)) => hL.grown hR hg)
  have HM := Lib.hid (fun W (hb : Below w.heap.size w W) => small_any S g st W (hL.keep hb) (hR.below hb))
  have hn := (numOf_lt st 9223372036854775807).1
  generalize numOf st 9223372036854775807 = p at HM hn ⊢
  obtain ⟨k, st1⟩ := p
  dsimp only at HM hn ⊢
  clear hL hR
  have hk3 : k = 1 ∨ k = 2 ∨ (¬ k = 1 ∧ ¬ k = 2) := by omega
  rcases hk3 with rfl | rfl | ⟨hk1, hk2⟩
  · rw [if_pos rfl]
    have HI := Lib.hid (fun W hL hR => rInt_any S g st1 W hL hR)
    generalize intOfR st1 = q at HI ⊢
    obtain ⟨x, st2⟩ := q
    dsimp only at HI ⊢
    go_enter Tryz.func70, Tryz.ntmps70
    go_wp2_with fail
    have hM := HM.out _ hB
    generalize w.alloc (.cells #[.int .i64 0, .int .i64 0, .string ⟨#[]⟩] 59) = W at hB hK0 hM ⊢
    have hG0 := grown_below hB (some g)
    refine hM.mono ?_
    rintro e w1 ⟨rfl, hR1, hg1⟩
    have hK1 := blk_grown hK0 hg1 (by intro e; injection e; omega)
    have hG1 := hG0.trans hg1
    have hvb := hG1.size
    clear hM hK0 hG0 hg1 hB
    generalize hrb : w.heap.size = rb at hK1 hlt ⊢
    go_wp2_with fail
    have hB1 := b0 w1 (.cells #[.int .i64 1, .int .i64 0, .string ⟨#[]⟩] 59)
    have hV1 := blk_new w1 #[.int .i64 1, .int .i64 0, .string ⟨#[]⟩] 59
    have hlg1 := hR1.lt
    have hlb1 := hK1.lt
    replace hK1 := hK1.keep hB1
    replace hR1 := hR1.below hB1
    replace hG1 := hG1.trans (grown_below hB1 (some g))
    generalize w1.alloc (.cells #[.int .i64 1, .int .i64 0, .string ⟨#[]⟩] 59) = W1 at hV1 hK1 hR1 hG1 ⊢
    generalize w1.heap.size = vb at hV1 hlg1 hlb1 hvb ⊢
    have hne1 : vb ≠ g := by omega
    have hne2 : vb ≠ rb := by omega
    have hne3 : rb ≠ g := by omega
    refine (HI.out W1 (HL.out W1 hG1) hR1).mono ?_
    rintro e w2 ⟨rfl, hR2, hg2⟩
    have hV2 := blk_grown hV1 hg2 (by intro e; injection e; omega)
    have hK2 := blk_grown hK1 hg2 (by intro e; injection e; omega)
    have hG2 := hG1.trans hg2
    clear hV1 hK1 hg2 hG1 hR1 hB1
    obtain ⟨c0, c1, c2, c3⟩ := hV2.c3
    obtain ⟨f0, f1, f2⟩ := hV2.f3
    go_wp2_with fail
    have hV3 : Blk (w2.setCell ⟨vb, 1, none⟩ (.int .i64 x)) vb #[.int .i64 1, .int .i64 x, .string ⟨#[]⟩] 59 := hV2.set 1 (.int .i64 x)
    have hK3 := blk_grown hK2 (set_grown (W := w2) (g := vb) (i := 1) (v := (.int .i64 x))) (by intro e; injection e; omega)
    have hR3 := hR2.keep (set_grown (W := w2) (g := vb) (i := 1) (v := (.int .i64 x))) (by intro e; injection e; omega)
    have hG3 := grown_set (i := 1) (v := (.int .i64 x)) hG2 hvb
    clear c0 c1 c2 c3 f0 f1 f2 hV2 hK2 hR2 hG2
    generalize w2.setCell ⟨vb, 1, none⟩ (.int .i64 x) = W2 at hV3 hK3 hR3 hG3 ⊢
    refine (good_any 1 x ⟨#[]⟩ W2 (by decide)).mono ?_
    rintro e w3 ⟨rfl, hb3⟩
    rw [good_one x]
    replace hV3 := hV3.keep hb3
    replace hK3 := hK3.keep hb3
    replace hR3 := hR3.below hb3
    replace hG3 := hG3.trans (grown_below hb3 (some g))
    clear hb3
    obtain ⟨c0, c1, c2, c3⟩ := hV3.c3
    go_wp2_with fail
    refine (must_any S g _ _ _ w3 hR3).mono ?_
    rintro e w4 ⟨rfl, hR4, hg4⟩
    replace hV3 := blk_grown hV3 hg4 (by intro e; injection e; omega)
    replace hK3 := blk_grown hK3 hg4 (by intro e; injection e; omega)
    replace hG3 := hG3.trans hg4
    clear hg4 hR3 c0 c1 c2 c3
    obtain ⟨c0, c1, c2, c3⟩ := hV3.c3
    go_wp2_with fail
    refine (soundV_any S g _ 1 x ⟨#[]⟩ w4 hR4).mono ?_
    rintro e w5 ⟨rfl, hb5⟩
    obtain ⟨s9, e9, hs9⟩ := getM (mustM true st2) 1 x [] ⟨#[]⟩ rfl
    rw [e9]
    replace hK3 := hK3.keep hb5
    replace hR4 := hR4.below hb5
    replace hG3 := hG3.trans (grown_below hb5 (some g))
    have hS9 := Lib.hid hs9
    clear hb5 c0 c1 c2 c3 hV3 e9 hs9
    obtain ⟨c0, c1, c2, c3⟩ := hK3.c3
    obtain ⟨f0, f1, f2⟩ := hK3.f3
    go_wp2_with fail
    exact bodyPost_ret (v := .agg #[.int .i64 (soundM valZ (mustM true st2) (1, x, [])).1, .int .i64 (soundM valZ (mustM true st2) (1, x, [])).2.1, .string s9]) (by simp [results, Tryz.results70, go_sem, c0, c1, c2]) rfl ⟨⟨s9, rfl, hS9.out⟩, hR4.set3 hne3 _ _ _, grown_set (grown_set (grown_set hG3 (by omega)) (by omega)) (by omega)⟩
  · rw [if_neg (by omega), if_pos rfl]
    have HI := Lib.hid (fun W hL hR => rText_any S g st1 40 W hL hR (by omega))
    have h40 := textOf_most st1 40
    generalize textOf st1 40 = q at HI h40 ⊢
    obtain ⟨l, st2⟩ := q
    dsimp only at HI h40 ⊢
    go_enter Tryz.func70, Tryz.ntmps70
    go_wp2_with fail
    have hM := HM.out _ hB
    generalize w.alloc (.cells #[.int .i64 0, .int .i64 0, .string ⟨#[]⟩] 59) = W at hB hK0 hM ⊢
    have hG0 := grown_below hB (some g)
    refine hM.mono ?_
    rintro e w1 ⟨rfl, hR1, hg1⟩
    have hK1 := blk_grown hK0 hg1 (by intro e; injection e; omega)
    have hG1 := hG0.trans hg1
    have hvb := hG1.size
    clear hM hK0 hG0 hg1 hB
    generalize hrb : w.heap.size = rb at hK1 hlt ⊢
    go_wp2_with fail
    have hB1 := b0 w1 (.cells #[.int .i64 2, .int .i64 0, .string ⟨#[]⟩] 59)
    have hV1 := blk_new w1 #[.int .i64 2, .int .i64 0, .string ⟨#[]⟩] 59
    have hlg1 := hR1.lt
    have hlb1 := hK1.lt
    replace hK1 := hK1.keep hB1
    replace hR1 := hR1.below hB1
    replace hG1 := hG1.trans (grown_below hB1 (some g))
    generalize w1.alloc (.cells #[.int .i64 2, .int .i64 0, .string ⟨#[]⟩] 59) = W1 at hV1 hK1 hR1 hG1 ⊢
    generalize w1.heap.size = vb at hV1 hlg1 hlb1 hvb ⊢
    have hne1 : vb ≠ g := by omega
    have hne2 : vb ≠ rb := by omega
    have hne3 : rb ≠ g := by omega
    refine (HI.out W1 (HL.out W1 hG1) hR1).mono ?_
    rintro e w2 ⟨⟨s, rfl, hs⟩, hR2, hg2⟩
    have hV2 := blk_grown hV1 hg2 (by intro e; injection e; omega)
    have hK2 := blk_grown hK1 hg2 (by intro e; injection e; omega)
    have hG2 := hG1.trans hg2
    clear hV1 hK1 hg2 hG1 hR1 hB1
    obtain ⟨c0, c1, c2, c3⟩ := hV2.c3
    obtain ⟨f0, f1, f2⟩ := hV2.f3
    go_wp2_with fail
    have hV3 : Blk (w2.setCell ⟨vb, 2, none⟩ (.string s)) vb #[.int .i64 2, .int .i64 0, .string s] 59 := hV2.set 2 (.string s)
    have hK3 := blk_grown hK2 (set_grown (W := w2) (g := vb) (i := 2) (v := (.string s))) (by intro e; injection e; omega)
    have hR3 := hR2.keep (set_grown (W := w2) (g := vb) (i := 2) (v := (.string s))) (by intro e; injection e; omega)
    have hG3 := grown_set (i := 2) (v := (.string s)) hG2 hvb
    clear c0 c1 c2 c3 f0 f1 f2 hV2 hK2 hR2 hG2
    generalize w2.setCell ⟨vb, 2, none⟩ (.string s) = W2 at hV3 hK3 hR3 hG3 ⊢
    have hs40 : s.size ≤ 40 := by
      have : s.size = s.data.toList.length := Array.length_toList.symm
      rw [this, hs]
      exact h40
    refine (good_any 2 0 s W2 (by unfold maxLen; omega)).mono ?_
    rintro e w3 ⟨rfl, hb3⟩
    rw [good_two s hs40]
    replace hV3 := hV3.keep hb3
    replace hK3 := hK3.keep hb3
    replace hR3 := hR3.below hb3
    replace hG3 := hG3.trans (grown_below hb3 (some g))
    clear hb3
    obtain ⟨c0, c1, c2, c3⟩ := hV3.c3
    go_wp2_with fail
    refine (must_any S g _ _ _ w3 hR3).mono ?_
    rintro e w4 ⟨rfl, hR4, hg4⟩
    replace hV3 := blk_grown hV3 hg4 (by intro e; injection e; omega)
    replace hK3 := blk_grown hK3 hg4 (by intro e; injection e; omega)
    replace hG3 := hG3.trans hg4
    clear hg4 hR3 c0 c1 c2 c3
    obtain ⟨c0, c1, c2, c3⟩ := hV3.c3
    go_wp2_with fail
    refine (soundV_any S g _ 2 0 s w4 hR4).mono ?_
    rintro e w5 ⟨rfl, hb5⟩
    obtain ⟨s9, e9, hs9⟩ := getM (mustM true st2) 2 0 l s hs
    rw [e9]
    replace hK3 := hK3.keep hb5
    replace hR4 := hR4.below hb5
    replace hG3 := hG3.trans (grown_below hb5 (some g))
    have hS9 := Lib.hid hs9
    clear hb5 c0 c1 c2 c3 hV3 e9 hs9
    obtain ⟨c0, c1, c2, c3⟩ := hK3.c3
    obtain ⟨f0, f1, f2⟩ := hK3.f3
    go_wp2_with fail
    exact bodyPost_ret (v := .agg #[.int .i64 (soundM valZ (mustM true st2) (2, 0, l)).1, .int .i64 (soundM valZ (mustM true st2) (2, 0, l)).2.1, .string s9]) (by simp [results, Tryz.results70, go_sem, c0, c1, c2]) rfl ⟨⟨s9, rfl, hS9.out⟩, hR4.set3 hne3 _ _ _, grown_set (grown_set (grown_set hG3 (by omega)) (by omega)) (by omega)⟩
  · rw [if_neg hk1, if_neg hk2]
    have hq1 : ¬ (k : Int) = 1 := by omega
    have hq2 : ¬ (k : Int) = 2 := by omega
    go_enter Tryz.func70, Tryz.ntmps70
    go_wp2_with fail
    have hM := HM.out _ hB
    generalize w.alloc (.cells #[.int .i64 0, .int .i64 0, .string ⟨#[]⟩] 59) = W at hB hK0 hM ⊢
    have hG0 := grown_below hB (some g)
    refine hM.mono ?_
    rintro e w1 ⟨rfl, hR1, hg1⟩
    have hK1 := blk_grown hK0 hg1 (by intro e; injection e; omega)
    have hG1 := hG0.trans hg1
    have hvb := hG1.size
    clear hM hK0 hG0 hg1 hB
    generalize hrb : w.heap.size = rb at hK1 hlt ⊢
    go_wp2_with fail
    have hB1 := b0 w1 (.cells #[.int .i64 k, .int .i64 0, .string ⟨#[]⟩] 59)
    have hV1 := blk_new w1 #[.int .i64 k, .int .i64 0, .string ⟨#[]⟩] 59
    have hlg1 := hR1.lt
    have hlb1 := hK1.lt
    replace hK1 := hK1.keep hB1
    replace hR1 := hR1.below hB1
    replace hG1 := hG1.trans (grown_below hB1 (some g))
    generalize w1.alloc (.cells #[.int .i64 k, .int .i64 0, .string ⟨#[]⟩] 59) = W1 at hV1 hK1 hR1 hG1 ⊢
    generalize w1.heap.size = vb at hV1 hlg1 hlb1 hvb ⊢
    have hne1 : vb ≠ g := by omega
    have hne2 : vb ≠ rb := by omega
    have hne3 : rb ≠ g := by omega
    have hV3 := hV1
    have hK3 := hK1
    have hR3 := hR1
    have hG3 := hG1
    clear hV1 hK1 hR1 hG1 hB1
    have hzz : soundM valZ (mustM (decide (k = 0)) st1) ((k : Int), 0, []) = valZ := by
      by_cases hk0 : k = 0
      · subst hk0
        cases st1 <;> rfl
      · simp [mustM, hk0, soundM]
    generalize W1 = W2 at hV3 hK3 hR3 hG3 ⊢
    refine (good_any k 0 ⟨#[]⟩ W2 (by decide)).mono ?_
    rintro e w3 ⟨rfl, hb3⟩
    rw [good_nat k hk1 hk2]
    replace hV3 := hV3.keep hb3
    replace hK3 := hK3.keep hb3
    replace hR3 := hR3.below hb3
    replace hG3 := hG3.trans (grown_below hb3 (some g))
    clear hb3
    obtain ⟨c0, c1, c2, c3⟩ := hV3.c3
    go_wp2_with fail
    refine (must_any S g _ _ _ w3 hR3).mono ?_
    rintro e w4 ⟨rfl, hR4, hg4⟩
    replace hV3 := blk_grown hV3 hg4 (by intro e; injection e; omega)
    replace hK3 := blk_grown hK3 hg4 (by intro e; injection e; omega)
    replace hG3 := hG3.trans hg4
    clear hg4 hR3 c0 c1 c2 c3
    obtain ⟨c0, c1, c2, c3⟩ := hV3.c3
    go_wp2_with fail
    refine (soundV_any S g _ k 0 ⟨#[]⟩ w4 hR4).mono ?_
    rintro e w5 ⟨rfl, hb5⟩
    obtain ⟨s9, e9, hs9⟩ := getM (mustM (decide (k = 0)) st1) k 0 [] ⟨#[]⟩ rfl
    rw [hzz] at e9 hs9
    rw [e9]
    replace hK3 := hK3.keep hb5
    replace hR4 := hR4.below hb5
    replace hG3 := hG3.trans (grown_below hb5 (some g))
    have hS9 := Lib.hid hs9
    clear hb5 c0 c1 c2 c3 hV3 e9 hs9
    obtain ⟨c0, c1, c2, c3⟩ := hK3.c3
    obtain ⟨f0, f1, f2⟩ := hK3.f3
    go_wp2_with fail
    exact bodyPost_ret (v := .agg #[.int .i64 valZ.1, .int .i64 valZ.2.1, .string s9]) (by simp [results, Tryz.results70, go_sem, c0, c1, c2]) rfl ⟨⟨s9, rfl, hS9.out⟩, hR4.set3 hne3 _ _ _, grown_set (grown_set (grown_set hG3 (by omega)) (by omega)) (by omega)⟩
end Go.Proofs.YtnlnbgcmmlpniaaGreatDoor

namespace Go.Proofs.YtnlnbgcmmlpniaaGreatDoor

/-- What a reader takes of a write behind its three numbers. -/
def wrX (d q kk : Nat) (st3 : Rest) : Wr := ⟨(d : Int), (q : Int), (kk : Int), ⟨(textOf st3 20).1.toArray⟩, (valOf (textOf st3 20).2).1.1, (valOf (textOf st3 20).2).1.2.1, ⟨(valOf (textOf st3 20).2).1.2.2.toArray⟩, (valOf (valOf (textOf st3 20).2).2).1.1, (valOf (valOf (textOf st3 20).2).2).1.2.1, ⟨(valOf (valOf (textOf st3 20).2).2).1.2.2.toArray⟩⟩
def wrS (d q kk : Nat) (st3 : Rest) : Rest := mustM (wrX d q kk st3).good (valOf (valOf (textOf st3 20).2).2).2
def wrC2 (d q kk : Nat) (st3 : Rest) : Wr × Rest := (soundM wrNo (wrS d q kk st3) (wrX d q kk st3), wrS d q kk st3)
def wrM (m : Nat) (st : Rest) : Wr × Rest := wrC2 (numOf st m).1 (numOf (numOf st m).2 m).1 (numOf (numOf (numOf st m).2 m).2 m).1 (numOf (numOf (numOf st m).2 m).2 m).2
theorem wrC_none (d q kk : Nat) : wrC2 d q kk none = (wrNo, none) := by
  have e : wrS d q kk none = none := mustM_none _
  unfold wrC2
  rw [e]
  rfl
theorem wrC_bad {d q kk : Nat} {st3 : Rest} (h : (wrX d q kk st3).good = false) : wrC2 d q kk st3 = (wrNo, none) := by
  have e : wrS d q kk st3 = none := by unfold wrS; rw [h]; rfl
  unfold wrC2
  rw [e]
  rfl
theorem wrC_big {d q kk : Nat} (st3 : Rest) (h : 1000 < d ∨ 1000 < q ∨ 1000 < kk) : wrC2 d q kk st3 = (wrNo, none) := by
  refine wrC_bad ?_
  cases hg : (wrX d q kk st3).good with
  | false => rfl
  | true =>
    have := good_in hg
    have h1 : (wrX d q kk st3).dev = (d : Int) := rfl
    have h2 : (wrX d q kk st3).seq = (q : Int) := rfl
    have h3 : (wrX d q kk st3).K = (kk : Int) := rfl
    rw [h1, h2, h3] at this
    omega
theorem wrM_less (st : Rest) : wrM 9223372036854775807 st = wrM 1000 st := by
  have hM : (1000 : Nat) ≤ 9223372036854775807 := by omega
  unfold wrM
  have e1 := numOf_most st hM
  by_cases h1 : (numOf st 9223372036854775807).1 ≤ 1000
  · rw [if_pos h1] at e1
    rw [e1]
    generalize numOf st 9223372036854775807 = p1
    have e2 := numOf_most p1.2 hM
    by_cases h2 : (numOf p1.2 9223372036854775807).1 ≤ 1000
    · rw [if_pos h2] at e2
      rw [e2]
      generalize numOf p1.2 9223372036854775807 = p2
      have e3 := numOf_most p2.2 hM
      by_cases h3 : (numOf p2.2 9223372036854775807).1 ≤ 1000
      · rw [if_pos h3] at e3
        rw [e3]
      · rw [if_neg h3] at e3
        rw [e3, wrC_big _ (by omega)]
        exact (wrC_none _ _ _).symm
    · rw [if_neg h2] at e2
      rw [e2, wrC_big _ (by omega)]
      exact (wrC_none _ _ _).symm
  · rw [if_neg h1] at e1
    rw [e1, wrC_big _ (by omega)]
    exact (wrC_none _ _ _).symm

theorem numOf_at (l : List UInt8) (j : Nat) : numOf (some (l.drop (posW l j))) 1000 = if (numW l j).2 = 0 then (0, none) else ((numW l j).1, some (l.drop (posW l (j + 1)))) := by
  rw [posW_succ, ← List.drop_drop]
  rfl
theorem wr_is (st : Rest) : wrM 9223372036854775807 st = wrOf st := by
  rw [wrM_less]
  cases st with
  | none => exact wrC_none _ _ _
  | some l =>
    have hno : ¬ stdW l → wrOf (some l) = (wrNo, none) := fun h => by
      unfold wrOf
      dsimp only
      rw [takeWr_no h]
      rfl
    unfold wrM
    have e0 : numOf (some l) 1000 = if (numW l 0).2 = 0 then (0, none) else ((numW l 0).1, some (l.drop (posW l 1))) := numOf_at l 0
    by_cases h0 : (numW l 0).2 = 0
    · rw [if_pos h0] at e0
      rw [e0, hno (fun h => h.1 0 (by omega) h0)]
      exact wrC_none _ _ _
    rw [if_neg h0] at e0
    rw [e0]
    dsimp only
    have e1 : numOf (some (l.drop (posW l 1))) 1000 = if (numW l 1).2 = 0 then (0, none) else ((numW l 1).1, some (l.drop (posW l 2))) := numOf_at l 1
    by_cases h1 : (numW l 1).2 = 0
    · rw [if_pos h1] at e1
      rw [e1, hno (fun h => h.1 1 (by omega) h1)]
      exact wrC_none _ _ _
    rw [if_neg h1] at e1
    rw [e1]
    dsimp only
    have e2 : numOf (some (l.drop (posW l 2))) 1000 = if (numW l 2).2 = 0 then (0, none) else ((numW l 2).1, some (l.drop (posW l 3))) := numOf_at l 2
    by_cases h2 : (numW l 2).2 = 0
    · rw [if_pos h2] at e2
      rw [e2, hno (fun h => h.1 2 (by omega) h2)]
      exact wrC_none _ _ _
    rw [if_neg h2] at e2
    rw [e2]
    dsimp only
    have e3 : textOf (some (l.drop (posW l 3))) 20 = if (textW l).2 = 0 then ([], none) else ((textW l).1, some (l.drop (posW l 3 + (textW l).2))) := by
      rw [← List.drop_drop]
      rfl
    have e4 : valOf (some (l.drop (posW l 3 + (textW l).2))) = if (val1W l).2 = 0 then (valZ, none) else ((val1W l).1, some (l.drop (posW l 3 + (textW l).2 + (val1W l).2))) := by
      rw [show l.drop (posW l 3 + (textW l).2 + (val1W l).2) = (l.drop (posW l 3 + (textW l).2)).drop (val1W l).2 from List.drop_drop.symm]
      rfl
    have e5 : valOf (some (l.drop (posW l 3 + (textW l).2 + (val1W l).2))) = if (val2W l).2 = 0 then (valZ, none) else ((val2W l).1, some (l.drop (posW l 3 + (textW l).2 + (val1W l).2 + (val2W l).2))) := by
      rw [show l.drop (posW l 3 + (textW l).2 + (val1W l).2 + (val2W l).2) = (l.drop (posW l 3 + (textW l).2 + (val1W l).2)).drop (val2W l).2 from List.drop_drop.symm]
      rfl
    have hz : valOf none = (valZ, none) := rfl
    by_cases h3 : (textW l).2 = 0
    · rw [if_pos h3] at e3
      rw [hno (fun h => h.2.1 h3)]
      unfold wrC2 wrS
      rw [e3]
      dsimp only
      rw [hz]
      dsimp only
      rw [hz, mustM_none]
      rfl
    rw [if_neg h3] at e3
    by_cases h4 : (val1W l).2 = 0
    · rw [if_pos h4] at e4
      rw [hno (fun h => h.2.2.1 h4)]
      unfold wrC2 wrS
      rw [e3]
      dsimp only
      rw [e4]
      dsimp only
      rw [hz, mustM_none]
      rfl
    rw [if_neg h4] at e4
    by_cases h5 : (val2W l).2 = 0
    · rw [if_pos h5] at e5
      rw [hno (fun h => h.2.2.2.1 h5)]
      unfold wrC2 wrS
      rw [e3]
      dsimp only
      rw [e4]
      dsimp only
      rw [e5, mustM_none]
      rfl
    rw [if_neg h5] at e5
    have ex : wrX (numW l 0).1 (numW l 1).1 (numW l 2).1 (some (l.drop (posW l 3))) = gotW l := by
      simp only [wrX, e3, e4, e5, gotW]
    have es : wrS (numW l 0).1 (numW l 1).1 (numW l 2).1 (some (l.drop (posW l 3))) = mustM (gotW l).good (some (l.drop (posW l 3 + (textW l).2 + (val1W l).2 + (val2W l).2))) := by
      unfold wrS
      rw [ex, e3]
      dsimp only
      rw [e4]
      dsimp only
      rw [e5]
    unfold wrC2
    rw [ex, es]
    cases hg : (gotW l).good with
    | false =>
      rw [hno (fun h => by have h9 := h.2.2.2.2; rw [hg] at h9; cases h9)]
      rfl
    | true =>
      have hstd : stdW l := ⟨fun m hm => by
        have : m = 0 ∨ m = 1 ∨ m = 2 := by omega
        rcases this with rfl | rfl | rfl
        · exact h0
        · exact h1
        · exact h2, h3, h4, h5, hg⟩
      unfold wrOf
      dsimp only
      rw [takeWr_yes hstd]
      have hpos : ¬ posW l 3 + (textW l).2 + (val1W l).2 + (val2W l).2 = 0 := by omega
      rw [if_neg hpos]
      rfl

theorem int_fits (st : Rest) : -9223372036854775808 ≤ (intOfR st).1 ∧ (intOfR st).1 ≤ 9223372036854775807 := by
  cases st with
  | none => exact ⟨by show (-9223372036854775808 : Int) ≤ 0; omega, by show (0 : Int) ≤ 9223372036854775807; omega⟩
  | some b =>
    unfold intOfR takeIntB
    dsimp only
    by_cases h : (takeNum b 18446744073709551615).2 = 0
    · rw [if_pos h]
      exact ⟨by show (-9223372036854775808 : Int) ≤ 0; omega, by show (0 : Int) ≤ 9223372036854775807; omega⟩
    · rw [if_neg h]
      exact unzig_in (num_take (show takeNum b 18446744073709551615 = ((takeNum b 18446744073709551615).1, (takeNum b 18446744073709551615).2) from rfl) h).2.1
theorem val_fits (st : Rest) : (-9223372036854775808 ≤ (valOf st).1.2.1 ∧ (valOf st).1.2.1 ≤ 9223372036854775807) ∧ (valOf st).1.2.2.length ≤ 40 := by
  have hz : ((-9223372036854775808 : Int) ≤ valZ.2.1 ∧ valZ.2.1 ≤ 9223372036854775807) ∧ valZ.2.2.length ≤ 40 := ⟨⟨by show (-9223372036854775808 : Int) ≤ 0; omega, by show (0 : Int) ≤ 9223372036854775807; omega⟩, Nat.zero_le _⟩
  have hs : ∀ (st : Rest) (v : Int × Int × List UInt8), ((-9223372036854775808 ≤ v.2.1 ∧ v.2.1 ≤ 9223372036854775807) ∧ v.2.2.length ≤ 40) → ((-9223372036854775808 ≤ (soundM valZ st v).2.1 ∧ (soundM valZ st v).2.1 ≤ 9223372036854775807) ∧ (soundM valZ st v).2.2.length ≤ 40) := by
    intro st v hv
    cases st with
    | none => exact hz
    | some b => exact hv
  rw [← val_is]
  unfold valM
  split
  · exact hs _ _ ⟨int_fits _, Nat.zero_le _⟩
  · split
    · exact hs _ _ ⟨⟨by show (-9223372036854775808 : Int) ≤ 0; omega, by show (0 : Int) ≤ 9223372036854775807; omega⟩, by rw [← text_is]; exact Nat.le_trans (takeM_len _ _) (numOf_lt _ 40).1⟩
    · exact hz
end Go.Proofs.YtnlnbgcmmlpniaaGreatDoor

namespace Go.Proofs.YtnlnbgcmmlpniaaGreatDoor
open Go.RowKit

/-- A value is nothing. -/
def noneB (k n : Int) (s : ByteArray) : Bool := decide (k = 0 ∧ n = 0 ∧ s.size = 0)
set_option maxHeartbeats 1000000 in
theorem nothing_any (k n : Int) (s : ByteArray) (w : World) :
    Calls Tryz.prog 146 #[.agg #[.int .i64 k, .int .i64 n, .string s]] w fun e w' => e = .returned (.bool (noneB k n s)) ∧ Below w.heap.size w w' := by
  have hs : s.data.toList.length = s.size := Array.length_toList
  have he : s.toList = [] ↔ s.size = 0 := by rw [ByteArray.toList_eq, ← List.length_eq_zero_iff, hs]
  have He := Lib.hid he
  clear he hs
  go_enter Tryz.func146, Tryz.ntmps146
  go_wp2
  all_goals go_ret
  all_goals refine ⟨ret_bool ?_, b0 _ _⟩
  all_goals unfold noneB
  all_goals rw [Bool.eq_iff_iff]
  all_goals simp only [He.out, decide_eq_true_eq, Bool.false_eq_true, false_iff, true_iff] at *
  all_goals omega

set_option maxHeartbeats 2000000 in
theorem deedGood_any (K ka na kb nb : Int) (ky sa sb : ByteArray) (w : World) (hk : ky.size ≤ maxLen) (ha : sa.size ≤ maxLen) (hb : sb.size ≤ maxLen) :
    Calls Tryz.prog 134 #[opV K ky ka na sa kb nb sb] w fun e w' => e = .returned (.bool (opB K ky ka na sa kb nb sb)) ∧ Below w.heap.size w w' := by
  go_enter Tryz.func134, Tryz.ntmps134
  go_wp2_with fail
  have hC := Lib.hid (blk_new w (opC K ky ka na sa kb nb sb) 61)
  have hB := b0 w (.cells (opC K ky ka na sa kb nb sb) 61)
  generalize w.alloc (.cells (opC K ky ka na sa kb nb sb) 61) = W at hC hB ⊢
  refine (key_any _ _ hk).mono ?_
  rintro e w1 ⟨rfl, hb1⟩
  replace hB := bt hB hb1
  replace hC := Lib.hid (hC.out.keep hb1)
  clear hb1
  obtain ⟨c0, c1, c2, c3, c4, c5, c6, c7, c8⟩ := hC.out.c8
  cases gk : keyB ky.data.toList
  · have R : Hid (opB K ky ka na sa kb nb sb = false) := by show _ = _; unfold opB; rw [gk]; rfl
    go_wp2_with fail
    go_ret
    exact ⟨ret_bool R.out.symm, hB⟩
  · have Gk := Lib.hid gk
    clear gk
    go_wp2_with (first | (go_at_call 110; refine (good_any _ _ _ _ (by assumption)).mono ?_; rintro e w2 ⟨rfl, hb2⟩; replace hB := bt hB hb2; replace hC := Lib.hid (hC.out.keep hb2); obtain ⟨d0, d1, d2, d3, d4, d5, d6, d7, d8⟩ := hC.out.c8) | (go_at_call 146; refine (nothing_any _ _ _ _).mono ?_; rintro e w2 ⟨rfl, hb2⟩; replace hB := bt hB hb2; replace hC := Lib.hid (hC.out.keep hb2); obtain ⟨d0, d1, d2, d3, d4, d5, d6, d7, d8⟩ := hC.out.c8))
    all_goals go_ret
    all_goals refine ⟨ret_bool ?_, hB⟩
    all_goals unfold opB
    all_goals rw [Gk.out, Bool.eq_iff_iff]
    all_goals simp only [goodB, noneB, Bool.and_eq_true, Bool.true_and, decide_eq_true_eq, beq_iff_eq, beq_eq_false_iff_ne, bne_iff_ne, bne_eq_false_iff_eq, Bool.false_eq_true, false_iff] at *
    all_goals clear hC
    all_goals omega
end Go.Proofs.YtnlnbgcmmlpniaaGreatDoor

namespace Go.Proofs.YtnlnbgcmmlpniaaGreatDoor
open Go.RowKit

set_option maxHeartbeats 1000000 in
theorem goodId_any (dev seq : Int) (w : World) :
    Calls Tryz.prog 133 #[.agg #[.int .i64 dev, .int .i64 seq]] w fun e w' => e = .returned (.bool (idB dev seq)) ∧ Below w.heap.size w w' := by
  go_enter Tryz.func133, Tryz.ntmps133
  go_wp2
  all_goals go_ret
  all_goals refine ⟨ret_bool ?_, b0 _ _⟩
  all_goals unfold idB
  all_goals rw [Bool.eq_iff_iff]
  all_goals simp only [decide_eq_true_eq, Bool.false_eq_true, false_iff] at *
  all_goals omega

set_option maxHeartbeats 2000000 in
theorem stampGood_any (x : Wr) (w : World) (hf : x.fits) :
    Calls Tryz.prog 100 #[.agg x.cells] w fun e w' => e = .returned (.bool x.good) ∧ Below w.heap.size w w' := by
  obtain ⟨dev, seq, K, ky, ka, na, sa, kb, nb, sb⟩ := x
  obtain ⟨hk, ha, hb, -, -⟩ := hf
  dsimp only at hk ha hb
  go_enter Tryz.func100, Tryz.ntmps100
  go_wp2_with fail
  have hC := Lib.hid (blk_new w (wrI dev seq K ky ka na sa kb nb sb) 63)
  have hB := b0 w (.cells (wrI dev seq K ky ka na sa kb nb sb) 63)
  generalize w.alloc (.cells (wrI dev seq K ky ka na sa kb nb sb) 63) = W at hC hB ⊢
  refine (goodId_any _ _ _).mono ?_
  rintro e w1 ⟨rfl, hb1⟩
  replace hB := bt hB hb1
  replace hC := Lib.hid (hC.out.keep hb1)
  clear hb1
  obtain ⟨c0, c1, c2, c3, c4, c5, c6, c7, c8, c9, c10⟩ := blk_c10 hC.out
  cases gi : idB dev seq
  · have R : Hid (Wr.good ⟨dev, seq, K, ky, ka, na, sa, kb, nb, sb⟩ = false) := by show wrGoodB dev seq K ky ka na sa kb nb sb = _; unfold wrGoodB; rw [gi]; rfl
    clear gi
    go_wp2_with fail
    go_ret
    exact ⟨ret_bool R.out.symm, hB⟩
  · have R : Hid (Wr.good ⟨dev, seq, K, ky, ka, na, sa, kb, nb, sb⟩ = opB K ky ka na sa kb nb sb) := by show wrGoodB dev seq K ky ka na sa kb nb sb = _; unfold wrGoodB; rw [gi]; rfl
    clear gi
    go_wp2_with fail
    refine (deedGood_any _ _ _ _ _ _ _ _ _ hk ha hb).mono ?_
    rintro e w2 ⟨rfl, hb2⟩
    replace hB := bt hB hb2
    go_wp2_with fail
    go_ret
    exact ⟨ret_bool R.out.symm, hB⟩
end Go.Proofs.YtnlnbgcmmlpniaaGreatDoor
