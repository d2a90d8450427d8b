/-
  WHAT IS PROVED: package roll's calls that put reaches, cells, lines and lasts behind other bytes (PutReach, PutCells, PutLines, PutLasts): the document's bytes, behind what was handed in, which stays. Conditions: those typed in each theorem. · words for an array of twelve numbers; package roll's PutLasts: the document's bytes, behind what was handed in, which stays. Conditions: those typed in each theorem. · arguments that are a slice of cells, a slice of lines, twelve numbers: opened (own work, over any program that bears the types named). · the chapter's examples hold (awake answers true), if package pack's calls answer as PackC says. · the chapter's examples hold (awake answers true). Conditions: none.
-/
import Derived.Test.YtpjleeeligahaaaGreatDoorRPut
import Derived.Test.YtpjleeeligahaaaGreatDoorGQ3
import Derived.Test.YtpjleeeligahaaaGreatDoorGQ1
import Derived.Test.YtpjleeeligahaaaGreatDoorGQ4
import Derived.Test.YtpjleeeligahaaaGreatDoorGQ9
import Derived.Lib.SmallJoins
import Derived.Deep.Slices
namespace Go.Proofs.YtpjleeeligahaaaGreatDoor
open Go.RowKit

section
variable {W w0 w' w1 : World} {b : Nat} {v0 v1 v2 v3 : Value} {t : TypeId}
theorem sb4_0 (h : Blk W b #[v0, v1, v2, v3] t) (hB : Below b w0 W) : W.drew.cell? ⟨b, 0, none⟩ = some v0 ∧ W.drew.cell? ⟨b, 1, none⟩ = some v1 ∧ W.drew.cell? ⟨b, 2, none⟩ = some v2 ∧ W.drew.cell? ⟨b, 3, none⟩ = some v3 ∧ Blk W.drew b #[v0, v1, v2, v3] t ∧ Below b w0 W.drew :=
  ⟨h.cell 0, h.cell 1, h.cell 2, h.cell 3, h, hB.drew⟩
theorem sb4_1 (h : w'.cell? ⟨b, 0, none⟩ = some v0 ∧ w'.cell? ⟨b, 1, none⟩ = some v1 ∧ w'.cell? ⟨b, 2, none⟩ = some v2 ∧ w'.cell? ⟨b, 3, none⟩ = some v3 ∧ Blk w' b #[v0, v1, v2, v3] t ∧ Below b w0 w') (hb : Below w'.heap.size w' w1) : w1.cell? ⟨b, 0, none⟩ = some v0 ∧ w1.cell? ⟨b, 1, none⟩ = some v1 ∧ w1.cell? ⟨b, 2, none⟩ = some v2 ∧ w1.cell? ⟨b, 3, none⟩ = some v3 ∧ Blk w1 b #[v0, v1, v2, v3] t ∧ Below b w0 w1 := by
  have k := Blk.keep h.2.2.2.2.1 hb
  exact ⟨k.cell 0, k.cell 1, k.cell 2, k.cell 3, k, h.2.2.2.2.2.trans (hb.mono (Nat.le_of_lt (Blk.lt h.2.2.2.2.1)))⟩
theorem sb4_b (h : w'.cell? ⟨b, 0, none⟩ = some v0 ∧ w'.cell? ⟨b, 1, none⟩ = some v1 ∧ w'.cell? ⟨b, 2, none⟩ = some v2 ∧ w'.cell? ⟨b, 3, none⟩ = some v3 ∧ Blk w' b #[v0, v1, v2, v3] t ∧ Below b w0 w') : Below b w0 w' := h.2.2.2.2.2
end

section
variable {W w0 w' w1 : World} {b : Nat} {v0 v1 v2 v3 v4 v5 v6 v7 v8 v9 v10 : Value} {t : TypeId}
theorem sb11_0 (h : Blk W b #[v0, v1, v2, v3, v4, v5, v6, v7, v8, v9, v10] t) (hB : Below b w0 W) : W.drew.cell? ⟨b, 0, none⟩ = some v0 ∧ W.drew.cell? ⟨b, 1, none⟩ = some v1 ∧ W.drew.cell? ⟨b, 2, none⟩ = some v2 ∧ W.drew.cell? ⟨b, 3, none⟩ = some v3 ∧ W.drew.cell? ⟨b, 4, none⟩ = some v4 ∧ W.drew.cell? ⟨b, 5, none⟩ = some v5 ∧ W.drew.cell? ⟨b, 6, none⟩ = some v6 ∧ W.drew.cell? ⟨b, 7, none⟩ = some v7 ∧ W.drew.cell? ⟨b, 8, none⟩ = some v8 ∧ W.drew.cell? ⟨b, 9, none⟩ = some v9 ∧ W.drew.cell? ⟨b, 10, none⟩ = some v10 ∧ Blk W.drew b #[v0, v1, v2, v3, v4, v5, v6, v7, v8, v9, v10] t ∧ Below b w0 W.drew :=
  ⟨h.cell 0, h.cell 1, h.cell 2, h.cell 3, h.cell 4, h.cell 5, h.cell 6, h.cell 7, h.cell 8, h.cell 9, h.cell 10, h, hB.drew⟩
theorem sb11_1 (h : w'.cell? ⟨b, 0, none⟩ = some v0 ∧ w'.cell? ⟨b, 1, none⟩ = some v1 ∧ w'.cell? ⟨b, 2, none⟩ = some v2 ∧ w'.cell? ⟨b, 3, none⟩ = some v3 ∧ w'.cell? ⟨b, 4, none⟩ = some v4 ∧ w'.cell? ⟨b, 5, none⟩ = some v5 ∧ w'.cell? ⟨b, 6, none⟩ = some v6 ∧ w'.cell? ⟨b, 7, none⟩ = some v7 ∧ w'.cell? ⟨b, 8, none⟩ = some v8 ∧ w'.cell? ⟨b, 9, none⟩ = some v9 ∧ w'.cell? ⟨b, 10, none⟩ = some v10 ∧ Blk w' b #[v0, v1, v2, v3, v4, v5, v6, v7, v8, v9, v10] t ∧ Below b w0 w') (hb : Below w'.heap.size w' w1) : w1.cell? ⟨b, 0, none⟩ = some v0 ∧ w1.cell? ⟨b, 1, none⟩ = some v1 ∧ w1.cell? ⟨b, 2, none⟩ = some v2 ∧ w1.cell? ⟨b, 3, none⟩ = some v3 ∧ w1.cell? ⟨b, 4, none⟩ = some v4 ∧ w1.cell? ⟨b, 5, none⟩ = some v5 ∧ w1.cell? ⟨b, 6, none⟩ = some v6 ∧ w1.cell? ⟨b, 7, none⟩ = some v7 ∧ w1.cell? ⟨b, 8, none⟩ = some v8 ∧ w1.cell? ⟨b, 9, none⟩ = some v9 ∧ w1.cell? ⟨b, 10, none⟩ = some v10 ∧ Blk w1 b #[v0, v1, v2, v3, v4, v5, v6, v7, v8, v9, v10] t ∧ Below b w0 w1 := by
  have k := Blk.keep h.2.2.2.2.2.2.2.2.2.2.2.1 hb
  exact ⟨k.cell 0, k.cell 1, k.cell 2, k.cell 3, k.cell 4, k.cell 5, k.cell 6, k.cell 7, k.cell 8, k.cell 9, k.cell 10, k, h.2.2.2.2.2.2.2.2.2.2.2.2.trans (hb.mono (Nat.le_of_lt (Blk.lt h.2.2.2.2.2.2.2.2.2.2.2.1)))⟩
theorem sb11_b (h : w'.cell? ⟨b, 0, none⟩ = some v0 ∧ w'.cell? ⟨b, 1, none⟩ = some v1 ∧ w'.cell? ⟨b, 2, none⟩ = some v2 ∧ w'.cell? ⟨b, 3, none⟩ = some v3 ∧ w'.cell? ⟨b, 4, none⟩ = some v4 ∧ w'.cell? ⟨b, 5, none⟩ = some v5 ∧ w'.cell? ⟨b, 6, none⟩ = some v6 ∧ w'.cell? ⟨b, 7, none⟩ = some v7 ∧ w'.cell? ⟨b, 8, none⟩ = some v8 ∧ w'.cell? ⟨b, 9, none⟩ = some v9 ∧ w'.cell? ⟨b, 10, none⟩ = some v10 ∧ Blk w' b #[v0, v1, v2, v3, v4, v5, v6, v7, v8, v9, v10] t ∧ Below b w0 w') : Below b w0 w' := h.2.2.2.2.2.2.2.2.2.2.2.2
end

theorem enters_putR : ∀ args w, (callFunc 54 args).run Tryz.prog w = .ok (.enter 54 args) w := enters_of Tryz.func54 (by kernel_rfl) rfl
theorem enters_putC : ∀ args w, (callFunc 57 args).run Tryz.prog w = .ok (.enter 57 args) w := enters_of Tryz.func57 (by kernel_rfl) rfl
theorem enters_putL : ∀ args w, (callFunc 27 args).run Tryz.prog w = .ok (.enter 27 args) w := enters_of Tryz.func27 (by kernel_rfl) rfl
theorem enters_num : ∀ args w, (callFunc 29 args).run Tryz.prog w = .ok (.enter 29 args) w := enters_of Tryz.func29 (by kernel_rfl) rfl

set_option maxRecDepth 100000 in
theorem putR1_any (s : ByteArray) (w : World) (hs : s.size ≤ 100000) :
    Calls Tryz.prog 54 #[.string s] w fun e w' => PutR w (textB s.data.toList) e w' := by
  go_enter Tryz.func54, Tryz.ntmps54
  go_wp2_with fail
  refine (packText_any none 0 0 [] s w rfl (by omega) (RdB.nil _ _ _) (Nat.le_refl _) hs).mono ?_
  rintro e w1 ⟨⟨A1, n1, c1, rfl, hl1, hr1, hc1⟩, hb1⟩
  go_wp2_with fail
  go_ret
  exact ⟨⟨A1, n1, c1, rfl, hl1, hr1, hc1⟩, hb1⟩
set_option maxRecDepth 100000 in
theorem number_any (x : Int) (w : World) (h0 : 0 ≤ x) (h1 : x ≤ 1000000) :
    Calls Tryz.prog 29 #[.int .i64 x] w fun e w' => PutR w (numB x.toNat) e w' := by
  obtain ⟨n, rfl⟩ : ∃ n : Nat, x = (n : Int) := ⟨x.toNat, by omega⟩
  have wn : IntKind.u64.wrap (n : Int) = (n : Int) := wrap_size (by omega)
  go_enter Tryz.func29, Tryz.ntmps29
  go_wp2_with fail
  refine (packNumber_any none 0 0 [] n w rfl (by omega) (RdB.nil _ _ _) (Nat.le_refl _) (by omega)).mono ?_
  rintro e w1 ⟨⟨A1, n1, c1, rfl, hl1, hr1, hc1⟩, hb1⟩
  go_wp2_with fail
  go_ret
  exact ⟨⟨A1, n1, c1, rfl, hl1, hr1, hc1⟩, hb1⟩

set_option maxRecDepth 100000 in
set_option maxHeartbeats 4000000 in
theorem putC1_any (c : Cl) (w : World) (hg : c.good = true) (hf : c.fits) :
    Calls Tryz.prog 57 #[clV c] w fun e w' => PutR w (clB c) e w' := by
  obtain ⟨h1, h2, h3, h4, h5⟩ := cl_in hg
  have HT := Lib.hid (fun W => (packText_any none 0 0 [] c.ky W rfl (by omega) (RdB.nil _ _ _) (Nat.le_refl _) (by omega)).mono fun e w' h => (show PutR W (textB c.ky.data.toList) e w' from h))
  have HV := Lib.hid (fun W A n d (hl : (textB c.ky.data.toList).length = n) (hn : n ≤ 100000) (hr : RdB W.heap.size W A (textB c.ky.data.toList)) (hc : n ≤ d) => packValue_any A n d (textB c.ky.data.toList) c.k c.x c.s W hl hn hr hc h5 hf.2.2.1 hf.2.2.2)
  have hts : (textB c.ky.data.toList).length ≤ 1000009 := textB_small (by omega)
  have hts2 : (textB c.ky.data.toList).length ≤ 100000 := by
    have e : c.ky.data.toList.length = c.ky.size := Array.length_toList
    have := numB_small (n := c.ky.data.toList.length) (by omega)
    unfold textB
    rw [List.length_append]
    omega
  clear h1 h2 h3 h4 h5 hg hf hts
  unfold clB
  obtain ⟨ky, k, x, s⟩ := c
  dsimp only at HT HV hts2 ⊢
  go_enter Tryz.func57, Tryz.ntmps57
  go_wp2_with fail
  have hC := blk_new w (clI ky k x s) 61
  have hB := b0 w (.cells (clI ky k x s) 61)
  generalize w.alloc (.cells (clI ky k x s) 61) = W at hC hB ⊢
  generalize hb : w.heap.size = b at hC hB ⊢
  go_region_held3 (fun w' => w'.cell? ⟨b, 0, none⟩ = some (.string ky) ∧ w'.cell? ⟨b, 1, none⟩ = some (.int .i64 k) ∧ w'.cell? ⟨b, 2, none⟩ = some (.int .i64 x) ∧ w'.cell? ⟨b, 3, none⟩ = some (.string s) ∧ Blk w' b #[.string ky, .int .i64 k, .int .i64 x, .string s] 61 ∧ Below b w w')
    (first | assumption | exact sb4_0 hC hB | exact sb4_1 (by assumption) (by assumption))
    (first
      | (go_at_call 55; ((with_reducible refine (HT.out _).mono ?_); rintro e w1 ⟨⟨A1, n1, c1, rfl, hl1, hr1, hc1⟩, hb1⟩))
      | (go_at_call 58; ((with_reducible refine (HV.out _ A1 n1 c1 hl1 (by rw [← hl1]; exact hts2) hr1 hc1).mono ?_); rintro e w2 ⟨⟨A2, n2, c2, rfl, hl2, hr2, hc2⟩, hb2⟩)))
  have hfin := sb4_b (w' := w2) (by assumption)
  go_wp2_with fail
  go_ret
  exact ⟨⟨A2, n2, c2, rfl, hl2, hr2, hc2⟩, by rw [hb]; exact hfin⟩

set_option maxRecDepth 100000 in
set_option maxHeartbeats 4000000 in
theorem putL1_any (c : Ln) (w : World) (hg : c.good = true) (hf : c.fits) :
    Calls Tryz.prog 27 #[lnV c] w fun e w' => PutR w (lnB c) e w' := by
  obtain ⟨h1, h2⟩ := ln_in hg
  have HT := Lib.hid (fun W => number_any c.pl W (by omega) (by omega))
  have HV := Lib.hid (fun W A n d (hl : (numB c.pl.toNat).length = n) (hn : n ≤ 100000) (hr : RdB W.heap.size W A (numB c.pl.toNat)) (hc : n ≤ d) => packWrite_any A n d (numB c.pl.toNat) c.w W hl hn hr hc h2 hf)
  have hts2 : (numB c.pl.toNat).length ≤ 100000 := Nat.le_trans (numB_small (by omega)) (by omega)
  clear h1 h2 hg hf
  unfold lnB
  obtain ⟨pl, dev, seq, K, ky, ka, na, sa, kb, nb, sb⟩ := c
  dsimp only at HT HV hts2 ⊢
  go_enter Tryz.func27, Tryz.ntmps27
  go_wp2_with fail
  have hC := blk_new w (lnI pl dev seq K ky ka na sa kb nb sb) 49
  have hB := b0 w (.cells (lnI pl dev seq K ky ka na sa kb nb sb) 49)
  generalize w.alloc (.cells (lnI pl dev seq K ky ka na sa kb nb sb) 49) = W at hC hB ⊢
  generalize hb : w.heap.size = b at hC hB ⊢
  go_region_held3 (fun w' => w'.cell? ⟨b, 0, none⟩ = some (.int .i64 pl) ∧ w'.cell? ⟨b, 1, none⟩ = some (.int .i64 dev) ∧ w'.cell? ⟨b, 2, none⟩ = some (.int .i64 seq) ∧ w'.cell? ⟨b, 3, none⟩ = some (.int .i64 K) ∧ w'.cell? ⟨b, 4, none⟩ = some (.string ky) ∧ w'.cell? ⟨b, 5, none⟩ = some (.int .i64 ka) ∧ w'.cell? ⟨b, 6, none⟩ = some (.int .i64 na) ∧ w'.cell? ⟨b, 7, none⟩ = some (.string sa) ∧ w'.cell? ⟨b, 8, none⟩ = some (.int .i64 kb) ∧ w'.cell? ⟨b, 9, none⟩ = some (.int .i64 nb) ∧ w'.cell? ⟨b, 10, none⟩ = some (.string sb) ∧ Blk w' b #[.int .i64 pl, .int .i64 dev, .int .i64 seq, .int .i64 K, .string ky, .int .i64 ka, .int .i64 na, .string sa, .int .i64 kb, .int .i64 nb, .string sb] 49 ∧ Below b w w')
    (first | assumption | exact sb11_0 hC hB | exact sb11_1 (by assumption) (by assumption))
    (first
      | (go_at_call 29; ((with_reducible refine (HT.out _).mono ?_); rintro e w1 ⟨⟨A1, n1, c1, rfl, hl1, hr1, hc1⟩, hb1⟩))
      | (go_at_call 28; ((with_reducible refine (HV.out _ A1 n1 c1 hl1 (by rw [← hl1]; exact hts2) hr1 hc1).mono ?_); rintro e w2 ⟨⟨A2, n2, c2, rfl, hl2, hr2, hc2⟩, hb2⟩)))
  have hfin := sb11_b (w' := w2) (by assumption)
  go_wp2_with fail
  go_ret
  exact ⟨⟨A2, n2, c2, rfl, hl2, hr2, hc2⟩, by rw [hb]; exact hfin⟩

theorem clB_small {c : Cl} (h : c.good = true) (hf : c.fits) : (clB c).length ≤ 3000000 := by
  obtain ⟨h1, h2, h3, h4, h5⟩ := cl_in h
  have a := textB_small (s := c.ky) (by omega)
  have b := valB_small (s := c.s) (goodB_in h5).1 hf.2.2.1 hf.2.2.2 (by omega)
  unfold clB
  rw [List.length_append]
  omega
theorem lnB_small {x : Ln} (h : x.good = true) (hf : x.fits) : (lnB x).length ≤ 5000000 := by
  obtain ⟨h1, h2⟩ := ln_in h
  obtain ⟨g1, g2, g3, g4, g5, g6⟩ := good_in h2
  obtain ⟨_, _, _, f1, f2⟩ := hf
  have a0 := numB_small (n := x.pl.toNat) (by omega)
  have a1 := numB_small (n := x.w.dev.toNat) (by omega)
  have a2 := numB_small (n := x.w.seq.toNat) (by omega)
  have a3 := numB_small (n := x.w.K.toNat) (by omega)
  have a4 := textB_small (s := x.w.ky) (by omega)
  have a5 := valB_small (s := x.w.sa) g5.1 f1.1 f1.2 (by omega)
  have a6 := valB_small (s := x.w.sb) g6.1 f2.1 f2.2 (by omega)
  unfold lnB wB wrB
  simp only [List.length_append]
  omega

set_option maxRecDepth 100000 in
theorem putR_any (A A2 : Option Addr) (n c m d : Nat) (L : List UInt8) (l : List ByteArray) (w : World) (hl : L.length = n) (hn : n ≤ 1000000) (hc : n ≤ c) (hr : RdB w.heap.size w A L) (hm : l.length = m) (hm1 : m ≤ 100000) (hr2 : RdX 1 w.heap.size w A2 (l.map strC)) (hg : ∀ x, x ∈ l → x.size ≤ 1000) :
    Calls Tryz.prog 23 #[.slice A n c, .slice A2 m d] w fun e w' => PutX w.heap.size w (L ++ (numB m ++ l.flatMap (fun s : ByteArray => textB s.data.toList))) e w' := by
  have hE : ∀ x, x ∈ l → 0 < ((fun s : ByteArray => textB s.data.toList) x).length ∧ ((fun s : ByteArray => textB s.data.toList) x).length ≤ 5000000 := fun x hx => ⟨text_pos _, Nat.le_trans (textB_small (s := x) (by have := hg x hx; omega)) (by omega)⟩
  have hF : PutsF 54 Value.string (fun s : ByteArray => textB s.data.toList) l := fun x hx W => putR1_any x W (by have := hg x hx; omega)
  have HP := Lib.hid (putListS_any 54 (fun s : ByteArray => textB s.data.toList) enters_putR A A2 n c m d L l w hl hn hc hr hm hm1 hr2 hE hF)
  clear hE hF
  go_enter Tryz.func23, Tryz.ntmps23
  go_wp2_with fail
  refine HP.out.mono ?_
  rintro e w1 ⟨⟨A1, n1, c1, rfl, hO1⟩, hb1⟩
  go_wp2_with fail
  go_ret
  exact ⟨⟨A1, n1, c1, rfl, hO1⟩, hb1⟩

set_option maxRecDepth 100000 in
theorem putC_any (A A2 : Option Addr) (n c m d : Nat) (L : List UInt8) (l : List Cl) (w : World) (hl : L.length = n) (hn : n ≤ 1000000) (hc : n ≤ c) (hr : RdB w.heap.size w A L) (hm : l.length = m) (hm1 : m ≤ 100000) (hr2 : RdX 4 w.heap.size w A2 (l.map Cl.cells)) (hg : ∀ x, x ∈ l → x.good = true ∧ x.fits) :
    Calls Tryz.prog 24 #[.slice A n c, .slice A2 m d] w fun e w' => PutX w.heap.size w (L ++ (numB m ++ l.flatMap clB)) e w' := by
  have hE : ∀ x, x ∈ l → 0 < (clB x).length ∧ (clB x).length ≤ 5000000 := fun x hx => ⟨Nat.pos_of_ne_zero (clB_pos (hg x hx).1), Nat.le_trans (clB_small (hg x hx).1 (hg x hx).2) (by omega)⟩
  have hF : PutsF 57 clV clB l := fun x hx W => putC1_any x W (hg x hx).1 (hg x hx).2
  have HP := Lib.hid (putListC_any 57 clB enters_putC A A2 n c m d L l w hl hn hc hr hm hm1 hr2 hE hF)
  clear hE hF
  go_enter Tryz.func24, Tryz.ntmps24
  go_wp2_with fail
  refine HP.out.mono ?_
  rintro e w1 ⟨⟨A1, n1, c1, rfl, hO1⟩, hb1⟩
  go_wp2_with fail
  go_ret
  exact ⟨⟨A1, n1, c1, rfl, hO1⟩, hb1⟩

set_option maxRecDepth 100000 in
theorem putL_any (A A2 : Option Addr) (n c m d : Nat) (L : List UInt8) (l : List Ln) (w : World) (hl : L.length = n) (hn : n ≤ 1000000) (hc : n ≤ c) (hr : RdB w.heap.size w A L) (hm : l.length = m) (hm1 : m ≤ 100000) (hr2 : RdX 11 w.heap.size w A2 (l.map Ln.cells)) (hg : ∀ x, x ∈ l → x.good = true ∧ x.fits) :
    Calls Tryz.prog 9 #[.slice A n c, .slice A2 m d] w fun e w' => PutX w.heap.size w (L ++ (numB m ++ l.flatMap lnB)) e w' := by
  have hE : ∀ x, x ∈ l → 0 < (lnB x).length ∧ (lnB x).length ≤ 5000000 := fun x hx => ⟨Nat.pos_of_ne_zero (lnB_pos x), lnB_small (hg x hx).1 (hg x hx).2⟩
  have hF : PutsF 27 lnV lnB l := fun x hx W => putL1_any x W (hg x hx).1 (hg x hx).2
  have HP := Lib.hid (putListL_any 27 lnB enters_putL A A2 n c m d L l w hl hn hc hr hm hm1 hr2 hE hF)
  clear hE hF
  go_enter Tryz.func9, Tryz.ntmps9
  go_wp2_with fail
  refine HP.out.mono ?_
  rintro e w1 ⟨⟨A1, n1, c1, rfl, hO1⟩, hb1⟩
  go_wp2_with fail
  go_ret
  exact ⟨⟨A1, n1, c1, rfl, hO1⟩, hb1⟩
end Go.Proofs.YtpjleeeligahaaaGreatDoor

namespace Go.Proofs.YtpjleeeligahaaaGreatDoor
open Go.RowKit

/-- A block of one-cell things, as a slice over it reads. -/
theorem blk_rdx1 {W : World} {b : Nat} {cs : Array Value} {t : TypeId} (h : Blk W b cs t) : RdX 1 (b + 1) W (some ⟨b, 0, none⟩) (cs.toList.map fun v => #[v]) := by
  intro k c hk
  rw [List.getElem?_map, Array.getElem?_toList] at hk
  cases hv : cs[k]? with
  | none => rw [hv] at hk; cases hk
  | some v =>
    rw [hv] at hk
    injection hk with hk
    subst hk
    refine ⟨_, rfl, Nat.lt_succ_self _, fun j u hj => ?_⟩
    have hj0 : j = 0 := by
      have := (Array.getElem?_eq_some_iff.1 hj).1
      simp at this
      omega
    subst hj0
    injection hj with hj
    subst hj
    rw [Nat.mul_one, Nat.add_zero, zeroX_at, h.cell k]
    exact hv
theorem blk_la {W : World} {b : Nat} {a0 a1 a2 a3 a4 a5 a6 a7 a8 a9 a10 a11 : Int} {t : TypeId} (h : Blk W b (laI a0 a1 a2 a3 a4 a5 a6 a7 a8 a9 a10 a11) t) : RdX 1 (b + 1) W (some ⟨b, 0, none⟩) ((laL a0 a1 a2 a3 a4 a5 a6 a7 a8 a9 a10 a11).map intC) := blk_rdx1 h
set_option maxRecDepth 100000 in
theorem clip_any (A : Option Addr) (n c : Nat) (w : World) (hc : n ≤ c) :
    Calls Tryz.prog 144 #[.slice A n c] w fun e w' => e = .returned (.slice A n n) ∧ w' = w := by
  go_enter Tryz.func144, Tryz.ntmps144
  go_wp2_with fail
  go_ret
  exact ⟨rfl, rfl⟩
theorem blkB_0 {W w0 : World} {b : Nat} {cs : Array Value} {t : TypeId} (h : Blk W b cs t) (hB : Below b w0 W) : Blk W.drew b cs t ∧ Below b w0 W.drew := ⟨h, hB.drew⟩
theorem blkB_1 {W w0 w1 : World} {b : Nat} {cs : Array Value} {t : TypeId} (h : Blk W b cs t ∧ Below b w0 W) (hb : Below (b + 1) W w1) : Blk w1 b cs t ∧ Below b w0 w1 :=
  ⟨(hb.block b (Nat.lt_succ_self _)).trans h.1, h.2.trans (hb.mono (Nat.le_succ _))⟩

set_option maxRecDepth 100000 in
set_option maxHeartbeats 4000000 in
theorem putLa_any (A : Option Addr) (n c : Nat) (L : List UInt8) (a0 a1 a2 a3 a4 a5 a6 a7 a8 a9 a10 a11 : Int) (w : World) (hl : L.length = n) (hn : n ≤ 1000000) (hc : n ≤ c) (hr : RdB w.heap.size w A L) (hg : ∀ x, x ∈ laL a0 a1 a2 a3 a4 a5 a6 a7 a8 a9 a10 a11 → 0 ≤ x ∧ x ≤ 1000000) :
    Calls Tryz.prog 101 #[.slice A n c, .agg (laI a0 a1 a2 a3 a4 a5 a6 a7 a8 a9 a10 a11)] w fun e w' => PutX w.heap.size w (L ++ laB (laL a0 a1 a2 a3 a4 a5 a6 a7 a8 a9 a10 a11)) e w' := by
  have HV : Hid (∀ W (_ : Blk W w.heap.size (laI a0 a1 a2 a3 a4 a5 a6 a7 a8 a9 a10 a11) 56 ∧ Below w.heap.size w W), Calls Tryz.prog 143 #[.slice A n n, .slice (some ⟨w.heap.size, 0, none⟩) 12 12, .func (.func 29) #[] #[]] W fun e w' => PutX (w.heap.size + 1) W (L ++ laB (laL a0 a1 a2 a3 a4 a5 a6 a7 a8 a9 a10 a11)) e w') :=
    fun W hS => putAllI_any (w.heap.size + 1) 29 (fun x => numB x.toNat) enters_num A (some ⟨w.heap.size, 0, none⟩) n n 12 12 L (laL a0 a1 a2 a3 a4 a5 a6 a7 a8 a9 a10 a11) W (.inr ⟨(hr.keep hS.2 (Nat.le_refl _)).more hS.2.size, hl, rfl, hn⟩) (.inr (by omega)) hS.1.lt (by omega) rfl (by omega) (blk_la hS.1)
      (fun x hx => ⟨by rw [numB_len]; omega, Nat.le_trans (numB_small (by have := hg x hx; omega)) (by omega)⟩) (fun x hx W => number_any x W (hg x hx).1 (hg x hx).2)
  clear hg hr hl
  go_enter Tryz.func101, Tryz.ntmps101
  go_wp2_with fail
  have hC := blk_new w (laI a0 a1 a2 a3 a4 a5 a6 a7 a8 a9 a10 a11) 56
  have hB := b0 w (.cells (laI a0 a1 a2 a3 a4 a5 a6 a7 a8 a9 a10 a11) 56)
  generalize w.alloc (.cells (laI a0 a1 a2 a3 a4 a5 a6 a7 a8 a9 a10 a11) 56) = W at hC hB ⊢
  generalize hb : w.heap.size = b at hC hB HV ⊢
  go_region_held3 (fun w' => Blk w' b (laI a0 a1 a2 a3 a4 a5 a6 a7 a8 a9 a10 a11) 56 ∧ Below b w w')
    (first | assumption | exact blkB_0 hC hB | exact blkB_1 (by assumption) (by assumption))
    (first
      | (go_at_call 144; ((with_reducible refine (clip_any A n c _ hc).mono ?_); rintro e w1 ⟨rfl, rfl⟩))
      | (go_at_call 143; ((with_reducible refine (HV.out _ (by assumption)).mono ?_); rintro e w2 ⟨⟨A2, n2, c2, rfl, hO2⟩, hb2⟩)))
  have hfin : Blk w2 b (laI a0 a1 a2 a3 a4 a5 a6 a7 a8 a9 a10 a11) 56 ∧ Below b w w2 := by assumption
  go_wp2_with fail
  go_ret
  exact ⟨⟨A2, n2, c2, rfl, by rw [hb]; exact hO2.less (Nat.le_succ _)⟩, by rw [hb]; exact hfin.2⟩
end Go.Proofs.YtpjleeeligahaaaGreatDoor

namespace Go.Proofs.YtpjleeeligahaaaGreatDoor
open Go.RowKit Go.WideShapes Go.ChangeShapes

section
open Go.Joins Go.Deep
variable {H : Type} {enc : TypeId × Value → H}
theorem cellsCr : Tryz.prog.cellsOf 61 = 4 := by kernel_rfl
theorem cellsLr : Tryz.prog.cellsOf 49 = 11 := by kernel_rfl
set_option maxRecDepth 100000 in
/-- An argument that is a slice of elements of z cells each, opened. -/
theorem open_rowX {X : Type} (f : X → Array Value) (P : X → Prop) (x0 : X) {z : Nat} (hz : 0 < z) (hs : ∀ x, (f x).size = z) {t te : TypeId} (ht : Tryz.prog.underlying t = some (.slice te)) (hce : Tryz.prog.cellsOf te = z) {W : World}
    (hE : ∀ {base : Nat} {spare : Nat → Bool} {held : Bool} {fuel : Nat} {cs : List Value} {y : DataW H × List MemPlace}, cs.length = z → DataW.trod enc Tryz.prog W base spare held fuel te cs = some y → ∃ x : X, cs = (f x).toList ∧ P x)
    {r : Reach} {b0 : Nat} {v : Value} {d : DataW H} {p : List MemPlace} (hv : Value.okWide Tryz.prog W r b0 t v) (h : DataW.Trod enc Tryz.prog W 0 (fun _ => true) true t v d p) :
    ∃ (A : Option Addr) (n c : Nat) (l : List X), v = .slice A n c ∧ l.length = n ∧ RdX z W.heap.size W A (l.map f) ∧ n ≤ maxLen ∧ ∀ x, x ∈ l → P x := by
  obtain ⟨A, n, c, rfl⟩ := okWide_slice ht hv
  obtain ⟨fuel, hf⟩ := h
  rcases open_slice ht hf with ⟨hcs, _⟩ | ⟨a, len, cap, m, fu, D, Pl, hcs, _, hl, hm, hmm, _, hi⟩
  · simp [Value.cells] at hcs
    obtain ⟨rfl, rfl, rfl⟩ := hcs
    exact ⟨none, 0, 0, [], rfl, rfl, RdX.nil _ _ _ _, Nat.zero_le _, fun x hx => by simp at hx⟩
  · simp [Value.cells] at hcs
    obtain ⟨rfl, rfl, rfl⟩ := hcs
    have hle : n ≤ m := by rw [hmm]; simp; omega
    have hx : ∀ i, ∃ x : X, i < n → P x ∧ ∀ j v, (f x)[j]? = some v → W.cell? (a.add (i * z + j)) = some v := by
      intro i
      by_cases hin : i < n
      · obtain ⟨cs', hc, ht'⟩ := hi i (by omega)
        rw [hce] at hc
        obtain ⟨_, hlen, hcell⟩ := World.cells?_some hc
        obtain ⟨x, rfl, hfx⟩ := hE hlen ht'
        refine ⟨x, fun _ => ⟨hfx, fun j v hj => ?_⟩⟩
        have hj10 : j < z := by
          have := (Array.getElem?_eq_some_iff.1 hj).1
          rw [hs] at this
          exact this
        rw [← add_add', hcell j hj10, Array.getElem?_toList]
        exact hj
      · exact ⟨x0, fun h => absurd h hin⟩
    have hF : ∃ g : Nat → X, ∀ i, i < n → P (g i) ∧ ∀ j v, (f (g i))[j]? = some v → W.cell? (a.add (i * z + j)) = some v := ⟨fun i => Classical.choose (hx i), fun i => Classical.choose_spec (hx i)⟩
    obtain ⟨g, hg⟩ := hF
    refine ⟨some a, n, c, (List.range n).map g, rfl, by simp, fun k x hx => ?_, by omega, fun x hx => ?_⟩
    · have hk : k < n := by
        have := (List.getElem?_eq_some_iff.1 hx).1
        simpa using this
      have e : x = f (g k) := by
        rw [List.getElem?_map, List.getElem?_map, List.getElem?_range hk] at hx
        injection hx with hx
        exact hx.symm
      subst e
      have h0 : 0 < (f (g k)).size := by rw [hs]; exact hz
      have hc := (hg k hk).2 0 _ (Array.getElem?_eq_getElem h0)
      have hb := World.block_lt_of_cell? W _ hc
      rw [add_block] at hb
      exact ⟨a, rfl, hb, (hg k hk).2⟩
    · obtain ⟨k, hk, rfl⟩ := List.mem_map.1 hx
      exact (hg k (List.mem_range.1 hk)).1
set_option maxRecDepth 100000 in
/-- Four cells that read as a cell. -/
theorem open_clR {W : World} {base : Nat} {spare : Nat → Bool} {held : Bool} {fuel : Nat} {cs : List Value} {y : DataW H × List MemPlace} (hl : cs.length = 4) (h : DataW.trod enc Tryz.prog W base spare held fuel 61 cs = some y) : ∃ x : Cl, cs = x.cells.toList ∧ x.fits := by
  match cs, hl with
  | [c0, c1, c2, c3], _ =>
    obtain ⟨y0, y1, n, _, _, h0, h1⟩ := trod_struct2 Tryz.underlying61 h
    simp only [cellsSw, cellsVw, List.drop_zero, List.drop_succ_cons, List.take_succ_cons, List.take_zero] at h0 h1
    obtain ⟨ky, e0, rfl, wk⟩ := DataW.trod_string Tryz.underlying9 h0
    simp at e0
    subst e0
    obtain ⟨k, n, s, rfl, rfl, rfl, wn, ws⟩ := open_valW h1
    exact ⟨⟨ky, k, n, s⟩, rfl, wk, ws, (wf_i64 wn).1, (wf_i64 wn).2⟩
set_option maxRecDepth 100000 in
theorem open_cells {t : TypeId} (ht : Tryz.prog.underlying t = some (.slice 61)) {W : World} {r : Reach} {b0 : Nat} {v : Value} {d : DataW H} {p : List MemPlace} (hv : Value.okWide Tryz.prog W r b0 t v) (h : DataW.Trod enc Tryz.prog W 0 (fun _ => true) true t v d p) :
    ∃ (A : Option Addr) (n c : Nat) (l : List Cl), v = .slice A n c ∧ l.length = n ∧ RdX 4 W.heap.size W A (l.map Cl.cells) ∧ n ≤ maxLen ∧ ∀ x, x ∈ l → x.fits :=
  open_rowX Cl.cells Cl.fits ⟨⟨#[]⟩, 0, 0, ⟨#[]⟩⟩ (by omega) (fun _ => rfl) ht cellsCr (fun hl h => open_clR hl h) hv h
set_option maxRecDepth 100000 in
/-- Eleven cells that read as a line. -/
theorem open_lnR {W : World} {base : Nat} {spare : Nat → Bool} {held : Bool} {fuel : Nat} {cs : List Value} {y : DataW H × List MemPlace} (hl : cs.length = 11) (h : DataW.trod enc Tryz.prog W base spare held fuel 49 cs = some y) : ∃ x : Ln, cs = x.cells.toList ∧ x.fits := by
  match cs, hl with
  | [c0, c1, c2, c3, c4, c5, c6, c7, c8, c9, c10], _ =>
    obtain ⟨y0, y1, n, _, _, h0, h1⟩ := trod_struct2 Tryz.underlying49 h
    simp only [cellsIw, cellsWw, List.drop_zero, List.drop_succ_cons, List.take_succ_cons, List.take_zero] at h0 h1
    obtain ⟨pl, e0, rfl, _⟩ := DataW.trod_int Tryz.underlying3 h0
    simp at e0
    subst e0
    obtain ⟨x, hx, hf⟩ := open_wrW (by rfl) h1
    exact ⟨⟨pl, x⟩, by rw [hx], hf⟩
set_option maxRecDepth 100000 in
theorem open_lines {t : TypeId} (ht : Tryz.prog.underlying t = some (.slice 49)) {W : World} {r : Reach} {b0 : Nat} {v : Value} {d : DataW H} {p : List MemPlace} (hv : Value.okWide Tryz.prog W r b0 t v) (h : DataW.Trod enc Tryz.prog W 0 (fun _ => true) true t v d p) :
    ∃ (A : Option Addr) (n c : Nat) (l : List Ln), v = .slice A n c ∧ l.length = n ∧ RdX 11 W.heap.size W A (l.map Ln.cells) ∧ n ≤ maxLen ∧ ∀ x, x ∈ l → x.fits :=
  open_rowX Ln.cells Ln.fits ⟨0, ⟨0, 0, 0, ⟨#[]⟩, 0, 0, ⟨#[]⟩, 0, 0, ⟨#[]⟩⟩⟩ (by omega) (fun _ => rfl) ht cellsLr (fun hl h => open_lnR hl h) hv h
end
end Go.Proofs.YtpjleeeligahaaaGreatDoor

namespace Go.Proofs.YtpjleeeligahaaaGreatDoor
open Go.RowKit

theorem beB_one {n : Nat} (h : 0 < n) (h2 : n < 256) : beB n = [UInt8.ofNat n] := by
  rw [beB_pos (by omega), show n / 256 = 0 by omega, beB_zero, show n % 256 = n by omega]
  rfl
theorem numB_300 : numB 300 = [2, 1, 44] := by
  unfold numB
  rw [beB_pos (by omega), show 300 / 256 = 1 by omega, beB_one (by omega) (by omega)]
  decide
theorem numB_zig : numB (zig (-1)) = [1, 1] := by
  unfold numB
  rw [show zig (-1) = 1 by decide, beB_one (by omega) (by omega)]
  decide
theorem numB_2 : numB 2 = [1, 2] := by
  unfold numB
  rw [beB_one (by omega) (by omega)]
  decide
theorem textB_ab : textB [97, 98] = [1, 2, 97, 98] := by
  unfold textB
  rw [show ([97, 98] : List UInt8).length = 2 from rfl, numB_2]
  rfl
theorem str_is {l m : List UInt8} (h : l = m) : ((⟨l.toArray⟩ : ByteArray).toList == m) = true := by
  rw [ByteArray.toList_eq, h]
  simp

theorem num_10 : numOf (some [1, 0]) 9 = (0, none) := by decide
theorem grown_of {w w' : World} (h : Below w.heap.size w w') : w.grownBy w' none := ⟨h.os, h.tape, h.output, h.size, fun k hk _ => h.block k hk⟩

end Go.Proofs.YtpjleeeligahaaaGreatDoor

namespace Go.Proofs.YtpjleeeligahaaaGreatDoor
open Go.RowKit

theorem numB_1 : numB 1 = [1, 1] := by
  unfold numB
  rw [beB_one (by omega) (by omega)]
  decide
theorem numB_0 : numB 0 = [0] := by
  unfold numB
  rw [beB_zero]
  decide
theorem ab_bytes : ([] : List UInt8) ++ (numB 2 ++ ([⟨#[97]⟩, ⟨#[98]⟩] : List ByteArray).flatMap (fun s : ByteArray => textB s.data.toList)) = [1, 2, 1, 1, 97, 1, 1, 98] := by
  have h : ∀ c : UInt8, textB [c] = [1, 1, c] := fun c => by
    unfold textB
    rw [show ([c] : List UInt8).length = 1 from rfl, numB_1]
    rfl
  show numB 2 ++ (textB [97] ++ (textB [98] ++ [])) = _
  rw [numB_2, h, h]
  rfl
theorem no_bytes : ([] : List UInt8) ++ (numB 0 ++ ([] : List Cl).flatMap clB) = [0] := by
  rw [numB_0]
  rfl
set_option maxRecDepth 100000 in
set_option maxHeartbeats 2000000 in
theorem rollAwake (w : World) : Calls Tryz.prog 6 #[] w fun e w' => e = .returned (.bool true) ∧ Below w.heap.size w w' := by
  have hX := blk_new w #[.string ⟨#[97]⟩, .string ⟨#[98]⟩] 9
  have hB := b0 w (.cells #[.string ⟨#[97]⟩, .string ⟨#[98]⟩] 9)
  have HP := Lib.hid (putR_any none (some ⟨w.heap.size, 0, none⟩) 0 0 2 2 [] [⟨#[97]⟩, ⟨#[98]⟩] (w.alloc (.cells #[.string ⟨#[97]⟩, .string ⟨#[98]⟩] 9)) rfl (by omega) (Nat.le_refl _) (RdB.nil _ _ _) rfl (by omega) ((blk_rdx1 hX).more hX.lt) (fun x hx => by
    simp only [List.mem_cons, List.not_mem_nil, or_false] at hx
    rcases hx with rfl | rfl
    · exact (by decide : (⟨#[97]⟩ : ByteArray).size ≤ 1000)
    · exact (by decide : (⟨#[98]⟩ : ByteArray).size ≤ 1000)))
  have HC := Lib.hid (fun W => putC_any none none 0 0 0 0 [] [] W rfl (by omega) (Nat.le_refl _) (RdB.nil _ _ _) rfl (by omega) (RdX.nil _ _ _ _) (fun x hx => by cases hx))
  rw [ab_bytes] at HP
  rw [no_bytes] at HC
  clear hX
  go_enter Tryz.func6, Tryz.ntmps6
  go_wp2_with first
    | (go_at_call 23; refine HP.out.mono ?_; rintro e w1 ⟨⟨A1, n1, c1, rfl, hO1⟩, hb1⟩; have hB1 := bt hB hb1; have hcv1 := conv_rd w1 A1 n1 c1 _ hO1.len hO1.rd)
    | (go_at_call 24; refine (HC.out _).mono ?_; rintro e w2 ⟨⟨A2, n2, c2, rfl, hO2⟩, hb2⟩; have hB2 := bt hB1 hb2; have hcv2 := conv_rd w2 A2 n2 c2 _ hO2.len hO2.rd)
  go_ret
  exact ⟨rfl, hB2⟩
end Go.Proofs.YtpjleeeligahaaaGreatDoor
