/-
  WHAT IS PROVED: the statement PackTakes' law answers true for all bytes of at most 5,000 at whose front an int stands, if package pack's calls answer as PackC2 says. Conditions: those typed in the theorem.
-/
import Derived.Test.YtahmjiomkaibgaaDoorTakesWords
namespace Go.Proofs.YtahmjiomkaibgaaDoor
open Go.RowKit
set_option maxRecDepth 100000 in
set_option maxHeartbeats 16000000 in
theorem lawPackTakes_yes {S : Addr} {Rdr : World → Nat → Rest → Prop} (hC : PackC2 S Rdr) (A : Option Addr) (n c most : Nat) (b : List UInt8) (w : World) (hL : LaidP S w) (hn : b.length = n) (hr : RdB w.heap.size w A b) (hc : n ≤ c) (hm : n ≤ 5000) (hmost : most < 18446744073709551616) (hkk : ¬ (takeIntB b).2 = 0) :
    Calls Tryd.prog 5 #[.slice A n c, .int .u64 most] w fun e w' => e = .returned (.bool true) ∧ Below w.heap.size w w' := by
  have HN := Lib.hid hn
  have HC := Lib.hid hC
  have HM := Lib.hid hmost
  have g5 : (n : Int) ≤ 5000 := by omega
  have hle := Nat.le_refl w.heap.size
  have r5 : (most : Int) % 5000 = ((most % 5000 : Nat) : Int) := by omega
  have r2 : (most : Int) % 200 = ((most % 200 : Nat) : Int) := by omega
  have m5 : most % 5000 < 5000 := Nat.mod_lt _ (by omega)
  have m2 : most % 200 < 200 := Nat.mod_lt _ (by omega)
  generalize most % 5000 = mo5 at r5 m5
  generalize most % 200 = mo2 at r2 m2
  clear hn hC hmost
  go_enter Tryd.func5, Tryd.ntmps5
  go_wp2_with fail
  refine (packAwake HC.out.toPackC w hL).mono ?_
  rintro e w1 ⟨rfl, B1⟩
  have hr1 := hr.keep B1 hle
  go_wp2_with fail
  refine (refTakeNum_is A n c b most w1 HN.out hr1 (by omega) HM.out).mono ?_
  rintro e w2 ⟨rfl, hD2⟩
  have B2 := bt B1 (hD2.below _)
  have l1 := takeNum_lt b most
  obtain ⟨v1, k1, h1⟩ : ∃ v k, takeNum b most = (v, k) := ⟨_, _, rfl⟩
  have H1 := Lib.hid h1
  rw [h1] at l1 ⊢
  clear h1
  simp only at l1
  go_wp2_with fail
  refine (refTakeInt_any A n c b w2 HN.out (hr.keep B2 hle) (by omega)).mono ?_
  rintro e w3 ⟨rfl, hD3⟩
  have B3 := bt B2 (hD3.below _)
  have l2 := takeInt_le b
  obtain ⟨v2, k2, h2⟩ : ∃ v k, takeIntB b = (v, k) := ⟨_, _, rfl⟩
  have H2 := Lib.hid h2
  rw [h2] at hkk
  have HK : Hid (¬ k2 = 0) := hkk
  clear hkk
  rw [h2] at l2 ⊢
  clear h2
  simp only at l2
  go_wp2_with fail
  refine (refTakeText_any A n c b mo5 w3 HN.out (hr.keep B3 hle) (by omega) hc (by omega)).mono ?_
  rintro e w4 ⟨⟨s3, rfl, hs3⟩, hD4⟩
  have B4 := bt B3 (hD4.below _)
  have l3 := takeText_le b mo5
  obtain ⟨v3, k3, h3⟩ : ∃ v k, takeTextB b mo5 = (v, k) := ⟨_, _, rfl⟩
  have H3 := Lib.hid h3
  rw [h3] at l3 hs3 ⊢
  have HS3 := Lib.hid hs3
  clear h3 hs3
  simp only at l3
  go_wp2_with fail
  refine (refTakeFlag_any A n c b w4 HN.out (hr.keep B4 hle) (by omega)).mono ?_
  rintro e w5 ⟨rfl, rfl⟩
  have l4 := takeFlag_le b
  obtain ⟨v4, k4, h4⟩ : ∃ v k, takeFlagB b = (v, k) := ⟨_, _, rfl⟩
  have H4 := Lib.hid h4
  rw [h4] at l4 ⊢
  clear h4
  simp only at l4
  go_wp2_with fail
  refine (refTakeValue_any A n c b w4 HN.out (hr.keep B4 hle) B4.size (by omega) hc).mono ?_
  rintro e w5 ⟨⟨s5, rfl, hs5⟩, hb5⟩
  have B5 := bt B4 hb5
  have l5 := takeVal_le b
  obtain ⟨⟨vk, vn, vs⟩, k5, h5⟩ : ∃ v k, takeValB b = (v, k) := ⟨_, _, rfl⟩
  have H5 := Lib.hid h5
  rw [h5] at l5 hs5 ⊢
  have HS5 := Lib.hid hs5
  clear h5 hs5 hb5
  simp only at l5
  go_wp2_with fail
  have hV := blk_new w5 #[.int .i64 vk, .int .i64 vn, .string s5] 44
  have B5' := bt B5 (b0 w5 (.cells #[.int .i64 vk, .int .i64 vn, .string s5] 44))
  have hbv := B5.size
  generalize w5.alloc (.cells #[.int .i64 vk, .int .i64 vn, .string s5] 44) = W5 at hV B5' ⊢
  generalize w5.heap.size = bv at hV hbv ⊢
  refine (refTakeWrite_any A n c b W5 HN.out (hr.keep B5' hle) B5'.size (by omega) hc).mono ?_
  rintro e w6 ⟨rfl, hb6⟩
  have B6 := bt B5' hb6
  replace hV := hV.keep hb6
  have l6 := takeWr_le b
  obtain ⟨x6, k6, h6⟩ : ∃ v k, takeWrB b = (v, k) := ⟨_, _, rfl⟩
  have H6 := Lib.hid h6
  rw [h6] at l6 ⊢
  clear h6 hb6
  simp only at l6
  go_wp2_with fail
  have hW := blk_new w6 x6.cells 48
  have B6' := bt B6 (b0 w6 (.cells x6.cells 48))
  have hvw := hV.lt
  replace hV := hV.keep (b0 w6 (.cells x6.cells 48))
  have hbw := B6.size
  generalize w6.alloc (.cells x6.cells 48) = W6 at hV hW B6' ⊢
  generalize w6.heap.size = bw at hW hbw hvw ⊢
  refine (refTakeWrites_any A n c b mo2 W6 HN.out (hr.keep B6' hle) B6'.size (by omega) hc (by omega)).mono ?_
  rintro e w7 ⟨⟨A7, n7, c7, rfl, hO7⟩, hb7⟩
  have B7 := bt B6' hb7
  replace hV := hV.keep hb7
  replace hW := hW.keep hb7
  have l7 := takeWrs_le b mo2
  have f7 := takeWrs_few b mo2
  obtain ⟨y7, k7, h7⟩ : ∃ v k, takeWrsB b mo2 = (v, k) := ⟨_, _, rfl⟩
  have H7 := Lib.hid h7
  rw [h7] at l7 f7 hO7 ⊢
  clear h7 hb7
  simp only at l7 f7 hO7
  have hr7 := hO7.rd
  have hn7 := hO7.len
  clear hO7
  go_wp2_with fail
  have hR := blk_new w7 (rowP []) 73
  rw [rowP_nil] at hR
  have hV0 := hV
  have hW0 := hW
  have hb0 := b0 w7 (.cells #[.pointer none, .pointer none, .pointer none, .pointer none, .pointer none, .pointer none, .pointer none] 73)
  have hvr := hV.lt
  have hwr := hW.lt
  have hwa := B7.size
  generalize w7.alloc (.cells #[.pointer none, .pointer none, .pointer none, .pointer none, .pointer none, .pointer none, .pointer none] 73) = Wa at hR hb0 ⊢
  generalize hra : w7.heap.size = ra at hR hvr hwr hwa ⊢
  have HRA := Lib.hid hra
  clear hra
  clear hV hW
  go_loopw [73] (fun i wr => ∃ gs : List Nat, gs.length ≤ 7 ∧ i = .int .i64 gs.length ∧ Blk wr ra (rowP gs) 73 ∧ Hid (∀ g, g ∈ gs → Rdr wr g (some b) ∧ ra < g) ∧ Hid (gs.Pairwise (· < ·)) ∧ Below w7.heap.size w7 wr) (fun i _ => 7 - (intOf i).toNat)
  case atStart => exact ⟨[], by simp, rfl, hR, fun g hg => (by cases hg), List.Pairwise.nil, hb0⟩
  case round =>
    obtain ⟨gs, hgl, rfl, hBl, hG, hP, hB⟩ := hrel
    clear hR hb0
    by_cases hlt : gs.length < 7
    · have i1 : (0 : Int) ≤ (gs.length : Int) := by omega
      have i2 : (gs.length : Int) < 7 := by omega
      have BW := bt B7 hB
      have hopen := HC.out.open_ A n c b wr (hL.keep BW) HN.out (by omega) ((hr.keep BW hle).more BW.size)
      have HO := Lib.hid hopen
      clear hopen
      have hrag : ra < wr.heap.size := hBl.lt
      have hst : ∀ w8 g, Below wr.heap.size wr w8 → Rdr w8 g (some b) → wr.heap.size ≤ g → ∃ gs' : List Nat, gs'.length = gs.length + 1 ∧ Blk (w8.setCell ⟨ra, gs.length, none⟩ (.pointer (some ⟨g, 0, none⟩))) ra (rowP gs') 73 ∧ Hid (∀ g', g' ∈ gs' → Rdr (w8.setCell ⟨ra, gs.length, none⟩ (.pointer (some ⟨g, 0, none⟩))) g' (some b) ∧ ra < g') ∧ Hid (gs'.Pairwise (· < ·)) ∧ Below w7.heap.size w7 (w8.setCell ⟨ra, gs.length, none⟩ (.pointer (some ⟨g, 0, none⟩))) := by
        intro w8 g hb8 hR8 hg
        refine ⟨gs ++ [g], by simp, ?_, ?_, ?_, ?_⟩
        · rw [← rowP_set hlt g]
          exact (hBl.keep hb8).set gs.length _
        · intro g' hg'
          have hk : ∀ g', Rdr w8 g' (some b) → ra < g' → Rdr (w8.setCell ⟨ra, gs.length, none⟩ (.pointer (some ⟨g, 0, none⟩))) g' (some b) := fun g' h1 h2 =>
            HC.out.keep _ _ g' _ (some ra) h1 (grown_setCell w8 ⟨ra, gs.length, none⟩ _) (by intro e; injection e with e; omega)
          rcases List.mem_append.1 hg' with h | h
          · have h1 := hG.out g' h
            exact ⟨hk g' (rdr_below HC.out h1.1 hb8) h1.2, h1.2⟩
          · rw [List.mem_singleton] at h
            subst h
            exact ⟨hk g' hR8 (by omega), by omega⟩
        · refine List.pairwise_append.2 ⟨hP.out, List.pairwise_singleton _ _, fun x hx y hy => ?_⟩
          rw [List.mem_singleton] at hy
          subst hy
          have := HC.out.lt wr x _ (hG.out x hx).1
          omega
        · exact (bt hB hb8).setCell (p := ⟨ra, gs.length, none⟩) (by rw [HRA.out]; exact Nat.le_refl _) _
      have HST := Lib.hid hst
      clear hst hG hP
      go_wp2_with fail
      refine HO.out.mono ?_
      rintro e w8 ⟨⟨g, rfl, hR8, hg⟩, hb8⟩
      obtain ⟨gs', j1, j2, j3, j4, j5⟩ := HST.out w8 g hb8 hR8 hg
      have q0 : w8.cell? ⟨ra, gs.length, none⟩ = some (.pointer none) := by rw [(hBl.keep hb8).cell]; exact rowP_at hlt
      have q1 := (hBl.keep hb8).free gs.length
      have q2 : ra < w8.heap.size := (hBl.keep hb8).lt
      clear HST HO hR8
      go_wp2_with fail
      go_roundw
      case rel => exact ⟨gs', by omega, by rw [j1]; go_num, j2, j3, j4, j5⟩
      case measure => simp [intOf]; omega
    · have hq : ¬ (gs.length : Int) < 7 := by omega
      have h7 : gs.length = 7 := by omega
      clear hlt hgl
      obtain ⟨p0, p1, p2, p3, p4, p5, p6, rfl⟩ := seven h7
      clear h7
      have BW := bt B7 hB
      have hp := hP.out
      simp only [List.pairwise_cons, List.mem_cons, List.not_mem_nil, or_false, forall_eq_or_imp, forall_eq, List.Pairwise.nil, and_true, false_implies, implies_true] at hp
      have R0 := rdr_below HC.out (hG.out p0 (by simp)).1 (Below.refl wr.heap.size wr).drew
      have R1 := rdr_below HC.out (hG.out p1 (by simp)).1 (Below.refl wr.heap.size wr).drew
      have R2 := rdr_below HC.out (hG.out p2 (by simp)).1 (Below.refl wr.heap.size wr).drew
      have R3 := rdr_below HC.out (hG.out p3 (by simp)).1 (Below.refl wr.heap.size wr).drew
      have R4 := rdr_below HC.out (hG.out p4 (by simp)).1 (Below.refl wr.heap.size wr).drew
      have R5 := rdr_below HC.out (hG.out p5 (by simp)).1 (Below.refl wr.heap.size wr).drew
      have R6 := rdr_below HC.out (hG.out p6 (by simp)).1 (Below.refl wr.heap.size wr).drew
      have hp0 := (hG.out p0 (by simp)).2
      have hra7 : w7.heap.size ≤ ra := by rw [HRA.out]; exact Nat.le_refl _
      have HP := Lib.hid hp
      have hS0 := tS (blk_drew hBl) hV0 hW0 hB.drew
      clear hP hG hp
      have NE : p0 < p1 ∧ p0 < p2 ∧ p0 < p3 ∧ p0 < p4 ∧ p0 < p5 ∧ p0 < p6 ∧ p1 < p2 ∧ p1 < p3 ∧ p1 < p4 ∧ p1 < p5 ∧ p1 < p6 ∧ p2 < p3 ∧ p2 < p4 ∧ p2 < p5 ∧ p2 < p6 ∧ p3 < p4 ∧ p3 < p5 ∧ p3 < p6 ∧ p4 < p5 ∧ p4 < p6 ∧ p5 < p6 := by
        have hp := HP.out
        refine ⟨?_, ?_, ?_, ?_, ?_, ?_, ?_, ?_, ?_, ?_, ?_, ?_, ?_, ?_, ?_, ?_, ?_, ?_, ?_, ?_, ?_⟩ <;> omega
      obtain ⟨n01, n02, n03, n04, n05, n06, n12, n13, n14, n15, n16, n23, n24, n25, n26, n34, n35, n36, n45, n46, n56⟩ := NE
      clear HP
      have F0 : Hid (∀ W' : World, LaidP S W' → Rdr W' p0 (some b) → Calls Tryd.prog 35 #[.pointer (some ⟨p0, 0, none⟩), .int .u64 most] W' fun e w' => e = .returned (.int .u64 (v1 : Nat)) ∧ Rdr w' p0 (stOf b k1) ∧ W'.grownBy w' (some p0)) := fun W' h1 h2 => by
        have h := HC.out.rNumber p0 (some b) most W' h1 h2 HM.out
        rw [numOf_st, H1.out] at h
        exact h
      have F1 : Hid (∀ W' : World, LaidP S W' → Rdr W' p1 (some b) → Calls Tryd.prog 36 #[.pointer (some ⟨p1, 0, none⟩)] W' fun e w' => e = .returned (.int .i64 (if k2 = 0 then 0 else v2)) ∧ Rdr w' p1 (stOf b k2) ∧ W'.grownBy w' (some p1)) := fun W' h1 h2 => by
        have h := HC.out.rInt p1 (some b) W' h1 h2
        rw [intOf_st, H2.out] at h
        exact h
      have F2 : Hid (∀ W' : World, LaidP S W' → Rdr W' p2 (some b) → Calls Tryd.prog 37 #[.pointer (some ⟨p2, 0, none⟩), .int .i64 mo5] W' fun e w' => e = .returned (.string s3) ∧ Rdr w' p2 (stOf b k3) ∧ W'.grownBy w' (some p2)) := fun W' h1 h2 => by
        have h := HC.out.rText p2 (some b) mo5 W' h1 h2 (by omega)
        rw [textOf_st, H3.out] at h
        refine h.mono fun e w' hh => ?_
        obtain ⟨⟨s, rfl, hs⟩, hx⟩ := hh
        exact ⟨by rw [eqb hs HS3.out], hx⟩
      have F3 : Hid (∀ W' : World, LaidP S W' → Rdr W' p3 (some b) → Calls Tryd.prog 38 #[.pointer (some ⟨p3, 0, none⟩)] W' fun e w' => e = .returned (.bool v4) ∧ Rdr w' p3 (stOf b k4) ∧ W'.grownBy w' (some p3)) := fun W' h1 h2 => by
        have h := HC.out.rFlag p3 (some b) W' h1 h2
        rw [flagOf_st, H4.out] at h
        exact h
      have F4 : Hid (∀ W' : World, LaidP S W' → Rdr W' p4 (some b) → Calls Tryd.prog 39 #[.pointer (some ⟨p4, 0, none⟩)] W' fun e w' => e = .returned (.agg #[.int .i64 vk, .int .i64 vn, .string s5]) ∧ Rdr w' p4 (stOf b k5) ∧ W'.grownBy w' (some p4)) := fun W' h1 h2 => by
        have h := HC.out.rValue p4 (some b) W' h1 h2
        rw [valOf_st, H5.out] at h
        refine h.mono fun e w' hh => ?_
        obtain ⟨⟨s, rfl, hs⟩, hx⟩ := hh
        exact ⟨by rw [eqb hs HS5.out], hx⟩
      have F5 : Hid (∀ W' : World, LaidP S W' → Rdr W' p5 (some b) → Calls Tryd.prog 24 #[.pointer (some ⟨p5, 0, none⟩)] W' fun e w' => e = .returned (.agg x6.cells) ∧ Rdr w' p5 (stOf b k6) ∧ W'.grownBy w' (some p5)) := fun W' h1 h2 => by
        have h := HC.out.rWrite p5 (some b) W' h1 h2
        rw [wrOf_st, H6.out] at h
        exact h
      have F6 : Hid (∀ W' : World, LaidP S W' → Rdr W' p6 (some b) → Calls Tryd.prog 26 #[.pointer (some ⟨p6, 0, none⟩), .int .i64 mo2] W' fun e w' => (∃ (A : Option Addr) (n c : Nat), e = .returned (.slice A n c) ∧ y7.length = n ∧ RdW w'.heap.size w' A y7) ∧ Rdr w' p6 (stOf b k7) ∧ W'.grownBy w' (some p6)) := fun W' h1 h2 => by
        have h := HC.out.rWrites p6 (some b) mo2 W' h1 h2 (by omega)
        rw [wrsOf_st, H7.out] at h
        refine h.mono fun e w' hh => ?_
        obtain ⟨⟨A', n', c', he, hn', hr', _⟩, hx⟩ := hh
        exact ⟨⟨A', n', c', he, hn', hr'⟩, hx⟩
      have hvs := fun W => val_same vk vn s5 W
      have hws := fun W => wr_eq x6 W
      have wi5 : IntKind.i64.wrap (mo5 : Int) = (mo5 : Int) := IntWalk.i64_in _ (by omega)
      have wi2 : IntKind.i64.wrap (mo2 : Int) = (mo2 : Int) := IntWalk.i64_in _ (by omega)
      have wu5 : IntKind.u64.wrap (mo5 : Int) = (mo5 : Int) := wrap_size (by omega)
      have wu2 : IntKind.u64.wrap (mo2 : Int) = (mo2 : Int) := wrap_size (by omega)
      have tm5 : (most : Int).tmod 5000 = (mo5 : Int) := (Int.tmod_eq_emod_of_nonneg (by omega)).trans r5
      have tm2 : (most : Int).tmod 200 = (mo2 : Int) := (Int.tmod_eq_emod_of_nonneg (by omega)).trans r2
      have hk2 := HK.out
      simp only [hk2, if_false] at F1
      have hkp : (0 : Int) < (k2 : Int) := by omega
      have hkn : ¬ (k2 : Int) = 0 := by omega
      have hkd : decide ((0 : Int) < (k2 : Int)) = true := decide_eq_true hkp
      have hkd2 : decide (0 < k2) = true := decide_eq_true (by omega)
      have hkb2 : (k2 == 0) = false := by rw [beq_eq_false_iff_ne]; exact hk2
      have hkb3 : decide (k2 = 0) = false := decide_eq_false hk2
      have hkb : ((k2 : Int) == 0) = false := by rw [beq_eq_false_iff_ne]; omega
      clear r5 r2
      go_wp2_with fail
      refine wp_region_noPanic ?_
      refine wp_region_held_drew (S := (fun w' => ((w'.cell? ⟨ra, 0, none⟩ = some (.pointer (some ⟨p0, 0, none⟩)) ∧ w'.cell? ⟨ra, 1, none⟩ = some (.pointer (some ⟨p1, 0, none⟩)) ∧ w'.cell? ⟨ra, 2, none⟩ = some (.pointer (some ⟨p2, 0, none⟩)) ∧ w'.cell? ⟨ra, 3, none⟩ = some (.pointer (some ⟨p3, 0, none⟩)) ∧ w'.cell? ⟨ra, 4, none⟩ = some (.pointer (some ⟨p4, 0, none⟩)) ∧ w'.cell? ⟨ra, 5, none⟩ = some (.pointer (some ⟨p5, 0, none⟩)) ∧ w'.cell? ⟨ra, 6, none⟩ = some (.pointer (some ⟨p6, 0, none⟩))) ∧ (w'.cell? ⟨bv, 0, none⟩ = some (.int .i64 vk) ∧ w'.cell? ⟨bv, 1, none⟩ = some (.int .i64 vn) ∧ w'.cell? ⟨bv, 2, none⟩ = some (.string s5)) ∧ (w'.cell? ⟨bw, 0, none⟩ = some (.int .i64 x6.dev) ∧ w'.cell? ⟨bw, 1, none⟩ = some (.int .i64 x6.seq) ∧ w'.cell? ⟨bw, 2, none⟩ = some (.int .i64 x6.K) ∧ w'.cell? ⟨bw, 3, none⟩ = some (.string x6.ky) ∧ w'.cell? ⟨bw, 4, none⟩ = some (.int .i64 x6.ka) ∧ w'.cell? ⟨bw, 5, none⟩ = some (.int .i64 x6.na) ∧ w'.cell? ⟨bw, 6, none⟩ = some (.string x6.sa) ∧ w'.cell? ⟨bw, 7, none⟩ = some (.int .i64 x6.kb) ∧ w'.cell? ⟨bw, 8, none⟩ = some (.int .i64 x6.nb) ∧ w'.cell? ⟨bw, 9, none⟩ = some (.string x6.sb))) ∧ Blk w' ra (rowP [p0, p1, p2, p3, p4, p5, p6]) 73 ∧ Below w7.heap.size w7 w')) (by kernel_rfl) ?_ (fun hHeld => ?_)
      · (first | assumption | exact hS0)
      refine wpAnyH_take (i := 0) (oi := ⟨some 85, _, _, _, _, _⟩) (v := ?_) (by rfl) (by kernel_rfl) (by kernel_rfl) (by kernel_rfl) (fun _ _ _ h => h) (Or.inl ⟨by rfl, ?hy⟩) (by assumption) ?_
      case hy => (intro w hSw; (try dsimp only at hSw); go_simp; try with_reducible rfl)
      try simp only [Act.put, List.setIfInBounds_toArray, List.set_cons_zero, List.set_cons_succ]
      refine wpAnyH_take (i := 1) (oi := ⟨some 86, _, _, _, _, _⟩) (v := ?_) (by rfl) (by kernel_rfl) (by kernel_rfl) (by kernel_rfl) (fun _ _ _ h => h) (Or.inl ⟨by rfl, ?hy⟩) (by assumption) ?_
      case hy => (intro w hSw; (try dsimp only at hSw); go_simp; try with_reducible rfl)
      try simp only [Act.put, List.setIfInBounds_toArray, List.set_cons_zero, List.set_cons_succ]
      refine wpAnyH_take (i := 2) (oi := ⟨some 87, _, _, _, _, _⟩) (v := ?_) (by rfl) (by kernel_rfl) (by kernel_rfl) (by kernel_rfl) (fun _ _ _ h => h) (Or.inl ⟨by rfl, ?hy⟩) (by assumption) ?_
      case hy => (intro w hSw; (try dsimp only at hSw); go_simp; try with_reducible rfl)
      try simp only [Act.put, List.setIfInBounds_toArray, List.set_cons_zero, List.set_cons_succ]
      refine wpAnyH_take (i := 4) (oi := ⟨some 89, _, _, _, _, _⟩) (v := ?_) (by rfl) (by kernel_rfl) (by kernel_rfl) (by kernel_rfl) (fun _ _ _ h => h) (Or.inl ⟨by rfl, ?hy⟩) (by assumption) ?_
      case hy => (intro w hSw; (try dsimp only at hSw); go_simp; try with_reducible rfl)
      try simp only [Act.put, List.setIfInBounds_toArray, List.set_cons_zero, List.set_cons_succ]
      refine wpAnyH_ready (rs := [3]) (by kernel_rfl) (by simp) ?_
      refine AllReadyH.cons (o := ⟨some 88, _, _, _, _, _⟩) (by rfl) (fun K hK => ?_) ?_
      · (go_simp; (go_at_call 35; ((with_reducible refine (F0.out _ (hL.keep (bt B7 (And.right (And.right hS0)))) R0).mono ?_); rintro e u0 ⟨rfl, T0, hg0⟩; replace R1 := HC.out.keep _ _ _ _ (some p0) R1 hg0 (by intro e; injection e with e; omega); replace R2 := HC.out.keep _ _ _ _ (some p0) R2 hg0 (by intro e; injection e with e; omega); replace R3 := HC.out.keep _ _ _ _ (some p0) R3 hg0 (by intro e; injection e with e; omega); replace R4 := HC.out.keep _ _ _ _ (some p0) R4 hg0 (by intro e; injection e with e; omega); replace R5 := HC.out.keep _ _ _ _ (some p0) R5 hg0 (by intro e; injection e with e; omega); replace R6 := HC.out.keep _ _ _ _ (some p0) R6 hg0 (by intro e; injection e with e; omega); replace R0 := T0; have hS1 := tS (Blk.grown (And.left (And.right hS0)) hg0 (by omega)) hV0 hW0 (below_g (And.right (And.right hS0)) hg0 (by omega)))); go_wp2_with fail)
        refine hK.out _ _ ?_ (fun hHeld => ?_)
        · (first | assumption | exact hS0)
        clear hK K
        try simp only [Act.put, List.setIfInBounds_toArray, List.set_cons_zero, List.set_cons_succ]
        refine wpAnyH_take (i := 5) (oi := ⟨some 90, _, _, _, _, _⟩) (v := ?_) (by rfl) (by kernel_rfl) (by kernel_rfl) (by kernel_rfl) (fun _ _ _ h => h) (Or.inl ⟨by rfl, ?hy⟩) (by assumption) ?_
        case hy => (intro w hSw; (try dsimp only at hSw); go_simp; try with_reducible rfl)
        try simp only [Act.put, List.setIfInBounds_toArray, List.set_cons_zero, List.set_cons_succ]
        refine wpAnyH_take (i := 6) (oi := ⟨some 91, _, _, _, _, _⟩) (v := ?_) (by rfl) (by kernel_rfl) (by kernel_rfl) (by kernel_rfl) (fun _ _ _ h => h) (Or.inl ⟨by rfl, ?hy⟩) (by assumption) ?_
        case hy => (intro w hSw; (try dsimp only at hSw); go_simp; try with_reducible rfl)
        try simp only [Act.put, List.setIfInBounds_toArray, List.set_cons_zero, List.set_cons_succ]
        refine wpAnyH_take (i := 7) (oi := ⟨some 92, _, _, _, _, _⟩) (v := ?_) (by rfl) (by kernel_rfl) (by kernel_rfl) (by kernel_rfl) (fun _ _ _ h => h) (Or.inl ⟨by rfl, ?hy⟩) (by assumption) ?_
        case hy => (intro w hSw; (try dsimp only at hSw); go_simp; try with_reducible rfl)
        try simp only [Act.put, List.setIfInBounds_toArray, List.set_cons_zero, List.set_cons_succ]
        refine wpAnyH_take (i := 8) (oi := ⟨some 93, _, _, _, _, _⟩) (v := ?_) (by rfl) (by kernel_rfl) (by kernel_rfl) (by kernel_rfl) (fun _ _ _ h => h) (Or.inl ⟨by rfl, ?hy⟩) (by assumption) ?_
        case hy => (intro w hSw; (try dsimp only at hSw); go_simp; try with_reducible rfl)
        try simp only [Act.put, List.setIfInBounds_toArray, List.set_cons_zero, List.set_cons_succ]
        refine wpAnyH_take (i := 9) (oi := ⟨some 94, _, _, _, _, _⟩) (v := ?_) (by rfl) (by kernel_rfl) (by kernel_rfl) (by kernel_rfl) (fun _ _ _ h => h) (Or.inl ⟨by rfl, ?hy⟩) (by assumption) ?_
        case hy => (intro w hSw; (try dsimp only at hSw); go_simp; try with_reducible rfl)
        try simp only [Act.put, List.setIfInBounds_toArray, List.set_cons_zero, List.set_cons_succ]
        refine wpAnyH_take (i := 10) (oi := ⟨some 95, _, _, _, _, _⟩) (v := ?_) (by rfl) (by kernel_rfl) (by kernel_rfl) (by kernel_rfl) (fun _ _ _ h => h) (Or.inl ⟨by rfl, ?hy⟩) (by assumption) ?_
        case hy => (intro w hSw; (try dsimp only at hSw); go_simp; try with_reducible rfl)
        try simp only [Act.put, List.setIfInBounds_toArray, List.set_cons_zero, List.set_cons_succ]
        refine wpAnyH_take (i := 11) (oi := ⟨some 96, _, _, _, _, _⟩) (v := ?_) (by rfl) (by kernel_rfl) (by kernel_rfl) (by kernel_rfl) (fun _ _ _ h => h) (Or.inl ⟨by rfl, ?hy⟩) (by assumption) ?_
        case hy => (intro w hSw; (try dsimp only at hSw); go_simp; try with_reducible rfl)
        try simp only [Act.put, List.setIfInBounds_toArray, List.set_cons_zero, List.set_cons_succ]
        refine wpAnyH_take (i := 13) (oi := ⟨some 98, _, _, _, _, _⟩) (v := ?_) (by rfl) (by kernel_rfl) (by kernel_rfl) (by kernel_rfl) (fun _ _ _ h => h) (Or.inl ⟨by rfl, ?hy⟩) (by assumption) ?_
        case hy => (intro w hSw; (try dsimp only at hSw); go_simp; try with_reducible rfl)
        try simp only [Act.put, List.setIfInBounds_toArray, List.set_cons_zero, List.set_cons_succ]
        refine wpAnyH_ready (rs := [12]) (by kernel_rfl) (by simp) ?_
        refine AllReadyH.cons (o := ⟨some 97, _, _, _, _, _⟩) (by rfl) (fun K hK => ?_) ?_
        · (go_simp; (go_at_call 36; ((with_reducible refine (F1.out _ (hL.keep (bt B7 (And.right (And.right hS1)))) R1).mono ?_); rintro e u1 ⟨rfl, T1, hg1⟩; replace R0 := HC.out.keep _ _ _ _ (some p1) R0 hg1 (by intro e; injection e with e; omega); replace R2 := HC.out.keep _ _ _ _ (some p1) R2 hg1 (by intro e; injection e with e; omega); replace R3 := HC.out.keep _ _ _ _ (some p1) R3 hg1 (by intro e; injection e with e; omega); replace R4 := HC.out.keep _ _ _ _ (some p1) R4 hg1 (by intro e; injection e with e; omega); replace R5 := HC.out.keep _ _ _ _ (some p1) R5 hg1 (by intro e; injection e with e; omega); replace R6 := HC.out.keep _ _ _ _ (some p1) R6 hg1 (by intro e; injection e with e; omega); replace R1 := T1; have hS2 := tS (Blk.grown (And.left (And.right hS1)) hg1 (by omega)) hV0 hW0 (below_g (And.right (And.right hS1)) hg1 (by omega)))); go_wp2_with fail)
          refine hK.out _ _ ?_ (fun hHeld => ?_)
          · (first | assumption | exact hS0)
          clear hK K
          try simp only [Act.put, List.setIfInBounds_toArray, List.set_cons_zero, List.set_cons_succ]
          refine wpAnyH_take (i := 14) (oi := ⟨some 99, _, _, _, _, _⟩) (v := ?_) (by rfl) (by kernel_rfl) (by kernel_rfl) (by kernel_rfl) (fun _ _ _ h => h) (Or.inl ⟨by rfl, ?hy⟩) (by assumption) ?_
          case hy => (intro w hSw; (try dsimp only at hSw); go_simp; try with_reducible rfl)
          try simp only [Act.put, List.setIfInBounds_toArray, List.set_cons_zero, List.set_cons_succ]
          refine wpAnyH_take (i := 15) (oi := ⟨some 100, _, _, _, _, _⟩) (v := ?_) (by rfl) (by kernel_rfl) (by kernel_rfl) (by kernel_rfl) (fun _ _ _ h => h) (Or.inl ⟨by rfl, ?hy⟩) (by assumption) ?_
          case hy => (intro w hSw; (try dsimp only at hSw); go_simp; try with_reducible rfl)
          try simp only [Act.put, List.setIfInBounds_toArray, List.set_cons_zero, List.set_cons_succ]
          refine wpAnyH_take (i := 16) (oi := ⟨some 101, _, _, _, _, _⟩) (v := ?_) (by rfl) (by kernel_rfl) (by kernel_rfl) (by kernel_rfl) (fun _ _ _ h => h) (Or.inl ⟨by rfl, ?hy⟩) (by assumption) ?_
          case hy => (intro w hSw; (try dsimp only at hSw); go_simp; try with_reducible rfl)
          try simp only [Act.put, List.setIfInBounds_toArray, List.set_cons_zero, List.set_cons_succ]
          refine wpAnyH_take (i := 17) (oi := ⟨some 102, _, _, _, _, _⟩) (v := ?_) (by rfl) (by kernel_rfl) (by kernel_rfl) (by kernel_rfl) (fun _ _ _ h => h) (Or.inl ⟨by rfl, ?hy⟩) (by assumption) ?_
          case hy => (intro w hSw; (try dsimp only at hSw); go_simp; try with_reducible rfl)
          try simp only [Act.put, List.setIfInBounds_toArray, List.set_cons_zero, List.set_cons_succ]
          refine wpAnyH_take (i := 18) (oi := ⟨some 103, _, _, _, _, _⟩) (v := ?_) (by rfl) (by kernel_rfl) (by kernel_rfl) (by kernel_rfl) (fun _ _ _ h => h) (Or.inl ⟨by rfl, ?hy⟩) (by assumption) ?_
          case hy => (intro w hSw; (try dsimp only at hSw); go_simp; try with_reducible rfl)
          try simp only [Act.put, List.setIfInBounds_toArray, List.set_cons_zero, List.set_cons_succ]
          refine wpAnyH_take (i := 19) (oi := ⟨some 104, _, _, _, _, _⟩) (v := ?_) (by rfl) (by kernel_rfl) (by kernel_rfl) (by kernel_rfl) (fun _ _ _ h => h) (Or.inl ⟨by rfl, ?hy⟩) (by assumption) ?_
          case hy => (intro w hSw; (try dsimp only at hSw); go_simp; try with_reducible rfl)
          try simp only [Act.put, List.setIfInBounds_toArray, List.set_cons_zero, List.set_cons_succ]
          refine wpAnyH_take (i := 20) (oi := ⟨some 105, _, _, _, _, _⟩) (v := ?_) (by rfl) (by kernel_rfl) (by kernel_rfl) (by kernel_rfl) (fun _ _ _ h => h) (Or.inl ⟨by rfl, ?hy⟩) (by assumption) ?_
          case hy => (intro w hSw; (try dsimp only at hSw); go_simp; try with_reducible rfl)
          try simp only [Act.put, List.setIfInBounds_toArray, List.set_cons_zero, List.set_cons_succ]
          refine wpAnyH_take (i := 21) (oi := ⟨some 106, _, _, _, _, _⟩) (v := undef) (by rfl) (by kernel_rfl) (by kernel_rfl) (by kernel_rfl) (fun _ _ _ h => h) (Or.inr ⟨by rfl, rfl⟩) (by assumption) ?_
          try simp only [Act.put, List.setIfInBounds_toArray, List.set_cons_zero, List.set_cons_succ]
          refine wpAnyH_take (i := 22) (oi := ⟨some 107, _, _, _, _, _⟩) (v := undef) (by rfl) (by kernel_rfl) (by kernel_rfl) (by kernel_rfl) (fun _ _ _ h => h) (Or.inr ⟨by rfl, rfl⟩) (by assumption) ?_
          try simp only [Act.put, List.setIfInBounds_toArray, List.set_cons_zero, List.set_cons_succ]
          refine wpAnyH_ready (rs := [23]) (by kernel_rfl) (by simp) ?_
          refine AllReadyH.cons (o := ⟨some 108, _, _, _, _, _⟩) (by rfl) (fun K hK => ?_) ?_
          · go_simp
            refine hK.out _ _ ?_ (fun hHeld => ?_)
            · (first | assumption | exact hS0)
            clear hK K
            try simp only [Act.put, List.setIfInBounds_toArray, List.set_cons_zero, List.set_cons_succ]
            refine wpAnyH_take (i := 24) (oi := ⟨some 109, _, _, _, _, _⟩) (v := undef) (by rfl) (by kernel_rfl) (by kernel_rfl) (by kernel_rfl) (fun _ _ _ h => h) (Or.inr ⟨by rfl, rfl⟩) (by assumption) ?_
            try simp only [Act.put, List.setIfInBounds_toArray, List.set_cons_zero, List.set_cons_succ]
            refine wpAnyH_take (i := 25) (oi := ⟨some 110, _, _, _, _, _⟩) (v := ?_) (by rfl) (by kernel_rfl) (by kernel_rfl) (by kernel_rfl) (fun _ _ _ h => h) (Or.inl ⟨by rfl, ?hy⟩) (by assumption) ?_
            case hy => (intro w hSw; (try dsimp only at hSw); go_simp; try with_reducible rfl)
            try simp only [Act.put, List.setIfInBounds_toArray, List.set_cons_zero, List.set_cons_succ]
            refine wpAnyH_take (i := 26) (oi := ⟨some 111, _, _, _, _, _⟩) (v := ?_) (by rfl) (by kernel_rfl) (by kernel_rfl) (by kernel_rfl) (fun _ _ _ h => h) (Or.inl ⟨by rfl, ?hy⟩) (by assumption) ?_
            case hy => (intro w hSw; (try dsimp only at hSw); go_simp; try with_reducible rfl)
            try simp only [Act.put, List.setIfInBounds_toArray, List.set_cons_zero, List.set_cons_succ]
            refine wpAnyH_take (i := 27) (oi := ⟨some 112, _, _, _, _, _⟩) (v := ?_) (by rfl) (by kernel_rfl) (by kernel_rfl) (by kernel_rfl) (fun _ _ _ h => h) (Or.inl ⟨by rfl, ?hy⟩) (by assumption) ?_
            case hy => (intro w hSw; (try dsimp only at hSw); go_simp; try with_reducible rfl)
            try simp only [Act.put, List.setIfInBounds_toArray, List.set_cons_zero, List.set_cons_succ]
            refine wpAnyH_take (i := 28) (oi := ⟨some 113, _, _, _, _, _⟩) (v := ?_) (by rfl) (by kernel_rfl) (by kernel_rfl) (by kernel_rfl) (fun _ _ _ h => h) (Or.inl ⟨by rfl, ?hy⟩) (by assumption) ?_
            case hy => (intro w hSw; (try dsimp only at hSw); go_simp; try with_reducible rfl)
            try simp only [Act.put, List.setIfInBounds_toArray, List.set_cons_zero, List.set_cons_succ]
            refine wpAnyH_take (i := 29) (oi := ⟨some 114, _, _, _, _, _⟩) (v := ?_) (by rfl) (by kernel_rfl) (by kernel_rfl) (by kernel_rfl) (fun _ _ _ h => h) (Or.inl ⟨by rfl, ?hy⟩) (by assumption) ?_
            case hy => (intro w hSw; (try dsimp only at hSw); go_simp; try with_reducible rfl)
            try simp only [Act.put, List.setIfInBounds_toArray, List.set_cons_zero, List.set_cons_succ]
            refine wpAnyH_take (i := 30) (oi := ⟨some 115, _, _, _, _, _⟩) (v := ?_) (by rfl) (by kernel_rfl) (by kernel_rfl) (by kernel_rfl) (fun _ _ _ h => h) (Or.inl ⟨by rfl, ?hy⟩) (by assumption) ?_
            case hy => (intro w hSw; (try dsimp only at hSw); go_simp; try with_reducible rfl)
            try simp only [Act.put, List.setIfInBounds_toArray, List.set_cons_zero, List.set_cons_succ]
            refine wpAnyH_take (i := 31) (oi := ⟨some 116, _, _, _, _, _⟩) (v := ?_) (by rfl) (by kernel_rfl) (by kernel_rfl) (by kernel_rfl) (fun _ _ _ h => h) (Or.inl ⟨by rfl, ?hy⟩) (by assumption) ?_
            case hy => (intro w hSw; (try dsimp only at hSw); go_simp; try with_reducible rfl)
            try simp only [Act.put, List.setIfInBounds_toArray, List.set_cons_zero, List.set_cons_succ]
            refine wpAnyH_take (i := 32) (oi := ⟨some 117, _, _, _, _, _⟩) (v := ?_) (by rfl) (by kernel_rfl) (by kernel_rfl) (by kernel_rfl) (fun _ _ _ h => h) (Or.inl ⟨by rfl, ?hy⟩) (by assumption) ?_
            case hy => (intro w hSw; (try dsimp only at hSw); go_simp; try with_reducible rfl)
            try simp only [Act.put, List.setIfInBounds_toArray, List.set_cons_zero, List.set_cons_succ]
            refine wpAnyH_take (i := 34) (oi := ⟨some 119, _, _, _, _, _⟩) (v := ?_) (by rfl) (by kernel_rfl) (by kernel_rfl) (by kernel_rfl) (fun _ _ _ h => h) (Or.inl ⟨by rfl, ?hy⟩) (by assumption) ?_
            case hy => (intro w hSw; (try dsimp only at hSw); go_simp; try with_reducible rfl)
            try simp only [Act.put, List.setIfInBounds_toArray, List.set_cons_zero, List.set_cons_succ]
            refine wpAnyH_ready (rs := [33]) (by kernel_rfl) (by simp) ?_
            refine AllReadyH.cons (o := ⟨some 118, _, _, _, _, _⟩) (by rfl) (fun K hK => ?_) ?_
            · (go_simp; (go_at_call 37; ((with_reducible refine (F2.out _ (hL.keep (bt B7 (And.right (And.right hS2)))) R2).mono ?_); rintro e u2 ⟨rfl, T2, hg2⟩; replace R0 := HC.out.keep _ _ _ _ (some p2) R0 hg2 (by intro e; injection e with e; omega); replace R1 := HC.out.keep _ _ _ _ (some p2) R1 hg2 (by intro e; injection e with e; omega); replace R3 := HC.out.keep _ _ _ _ (some p2) R3 hg2 (by intro e; injection e with e; omega); replace R4 := HC.out.keep _ _ _ _ (some p2) R4 hg2 (by intro e; injection e with e; omega); replace R5 := HC.out.keep _ _ _ _ (some p2) R5 hg2 (by intro e; injection e with e; omega); replace R6 := HC.out.keep _ _ _ _ (some p2) R6 hg2 (by intro e; injection e with e; omega); replace R2 := T2; have hS3 := tS (Blk.grown (And.left (And.right hS2)) hg2 (by omega)) hV0 hW0 (below_g (And.right (And.right hS2)) hg2 (by omega)))); go_wp2_with fail)
              refine hK.out _ _ ?_ (fun hHeld => ?_)
              · (first | assumption | exact hS0)
              clear hK K
              try simp only [Act.put, List.setIfInBounds_toArray, List.set_cons_zero, List.set_cons_succ]
              refine wpAnyH_take (i := 35) (oi := ⟨some 120, _, _, _, _, _⟩) (v := ?_) (by rfl) (by kernel_rfl) (by kernel_rfl) (by kernel_rfl) (fun _ _ _ h => h) (Or.inl ⟨by rfl, ?hy⟩) (by assumption) ?_
              case hy => (intro w hSw; (try dsimp only at hSw); go_simp; try with_reducible rfl)
              try simp only [Act.put, List.setIfInBounds_toArray, List.set_cons_zero, List.set_cons_succ]
              refine wpAnyH_take (i := 36) (oi := ⟨some 121, _, _, _, _, _⟩) (v := ?_) (by rfl) (by kernel_rfl) (by kernel_rfl) (by kernel_rfl) (fun _ _ _ h => h) (Or.inl ⟨by rfl, ?hy⟩) (by assumption) ?_
              case hy => (intro w hSw; (try dsimp only at hSw); go_simp; try with_reducible rfl)
              try simp only [Act.put, List.setIfInBounds_toArray, List.set_cons_zero, List.set_cons_succ]
              refine wpAnyH_take (i := 37) (oi := ⟨some 122, _, _, _, _, _⟩) (v := ?_) (by rfl) (by kernel_rfl) (by kernel_rfl) (by kernel_rfl) (fun _ _ _ h => h) (Or.inl ⟨by rfl, ?hy⟩) (by assumption) ?_
              case hy => (intro w hSw; (try dsimp only at hSw); go_simp; try with_reducible rfl)
              try simp only [Act.put, List.setIfInBounds_toArray, List.set_cons_zero, List.set_cons_succ]
              refine wpAnyH_take (i := 38) (oi := ⟨some 123, _, _, _, _, _⟩) (v := ?_) (by rfl) (by kernel_rfl) (by kernel_rfl) (by kernel_rfl) (fun _ _ _ h => h) (Or.inl ⟨by rfl, ?hy⟩) (by assumption) ?_
              case hy => (intro w hSw; (try dsimp only at hSw); go_simp; try with_reducible rfl)
              try simp only [Act.put, List.setIfInBounds_toArray, List.set_cons_zero, List.set_cons_succ]
              refine wpAnyH_take (i := 39) (oi := ⟨some 124, _, _, _, _, _⟩) (v := ?_) (by rfl) (by kernel_rfl) (by kernel_rfl) (by kernel_rfl) (fun _ _ _ h => h) (Or.inl ⟨by rfl, ?hy⟩) (by assumption) ?_
              case hy => (intro w hSw; (try dsimp only at hSw); go_simp; try with_reducible rfl)
              try simp only [Act.put, List.setIfInBounds_toArray, List.set_cons_zero, List.set_cons_succ]
              refine wpAnyH_take (i := 41) (oi := ⟨some 126, _, _, _, _, _⟩) (v := ?_) (by rfl) (by kernel_rfl) (by kernel_rfl) (by kernel_rfl) (fun _ _ _ h => h) (Or.inl ⟨by rfl, ?hy⟩) (by assumption) ?_
              case hy => (intro w hSw; (try dsimp only at hSw); go_simp; try with_reducible rfl)
              try simp only [Act.put, List.setIfInBounds_toArray, List.set_cons_zero, List.set_cons_succ]
              refine wpAnyH_ready (rs := [40]) (by kernel_rfl) (by simp) ?_
              refine AllReadyH.cons (o := ⟨some 125, _, _, _, _, _⟩) (by rfl) (fun K hK => ?_) ?_
              · (go_simp; (go_at_call 38; ((with_reducible refine (F3.out _ (hL.keep (bt B7 (And.right (And.right hS3)))) R3).mono ?_); rintro e u3 ⟨rfl, T3, hg3⟩; replace R0 := HC.out.keep _ _ _ _ (some p3) R0 hg3 (by intro e; injection e with e; omega); replace R1 := HC.out.keep _ _ _ _ (some p3) R1 hg3 (by intro e; injection e with e; omega); replace R2 := HC.out.keep _ _ _ _ (some p3) R2 hg3 (by intro e; injection e with e; omega); replace R4 := HC.out.keep _ _ _ _ (some p3) R4 hg3 (by intro e; injection e with e; omega); replace R5 := HC.out.keep _ _ _ _ (some p3) R5 hg3 (by intro e; injection e with e; omega); replace R6 := HC.out.keep _ _ _ _ (some p3) R6 hg3 (by intro e; injection e with e; omega); replace R3 := T3; have hS4 := tS (Blk.grown (And.left (And.right hS3)) hg3 (by omega)) hV0 hW0 (below_g (And.right (And.right hS3)) hg3 (by omega)))); go_wp2_with fail)
                refine hK.out _ _ ?_ (fun hHeld => ?_)
                · (first | assumption | exact hS0)
                clear hK K
                try simp only [Act.put, List.setIfInBounds_toArray, List.set_cons_zero, List.set_cons_succ]
                refine wpAnyH_take (i := 42) (oi := ⟨some 127, _, _, _, _, _⟩) (v := ?_) (by rfl) (by kernel_rfl) (by kernel_rfl) (by kernel_rfl) (fun _ _ _ h => h) (Or.inl ⟨by rfl, ?hy⟩) (by assumption) ?_
                case hy => (intro w hSw; (try dsimp only at hSw); go_simp; try with_reducible rfl)
                try simp only [Act.put, List.setIfInBounds_toArray, List.set_cons_zero, List.set_cons_succ]
                refine wpAnyH_take (i := 43) (oi := ⟨some 128, _, _, _, _, _⟩) (v := ?_) (by rfl) (by kernel_rfl) (by kernel_rfl) (by kernel_rfl) (fun _ _ _ h => h) (Or.inl ⟨by rfl, ?hy⟩) (by assumption) ?_
                case hy => (intro w hSw; (try dsimp only at hSw); go_simp; try with_reducible rfl)
                try simp only [Act.put, List.setIfInBounds_toArray, List.set_cons_zero, List.set_cons_succ]
                refine wpAnyH_take (i := 44) (oi := ⟨some 129, _, _, _, _, _⟩) (v := ?_) (by rfl) (by kernel_rfl) (by kernel_rfl) (by kernel_rfl) (fun _ _ _ h => h) (Or.inl ⟨by rfl, ?hy⟩) (by assumption) ?_
                case hy => (intro w hSw; (try dsimp only at hSw); go_simp; try with_reducible rfl)
                try simp only [Act.put, List.setIfInBounds_toArray, List.set_cons_zero, List.set_cons_succ]
                refine wpAnyH_take (i := 45) (oi := ⟨some 130, _, _, _, _, _⟩) (v := ?_) (by rfl) (by kernel_rfl) (by kernel_rfl) (by kernel_rfl) (fun _ _ _ h => h) (Or.inl ⟨by rfl, ?hy⟩) (by assumption) ?_
                case hy => (intro w hSw; (try dsimp only at hSw); go_simp; try with_reducible rfl)
                try simp only [Act.put, List.setIfInBounds_toArray, List.set_cons_zero, List.set_cons_succ]
                refine wpAnyH_take (i := 46) (oi := ⟨some 131, _, _, _, _, _⟩) (v := ?_) (by rfl) (by kernel_rfl) (by kernel_rfl) (by kernel_rfl) (fun _ _ _ h => h) (Or.inl ⟨by rfl, ?hy⟩) (by assumption) ?_
                case hy => (intro w hSw; (try dsimp only at hSw); go_simp; try with_reducible rfl)
                try simp only [Act.put, List.setIfInBounds_toArray, List.set_cons_zero, List.set_cons_succ]
                refine wpAnyH_take (i := 48) (oi := ⟨some 133, _, _, _, _, _⟩) (v := ?_) (by rfl) (by kernel_rfl) (by kernel_rfl) (by kernel_rfl) (fun _ _ _ h => h) (Or.inl ⟨by rfl, ?hy⟩) (by assumption) ?_
                case hy => (intro w hSw; (try dsimp only at hSw); go_simp; try with_reducible rfl)
                try simp only [Act.put, List.setIfInBounds_toArray, List.set_cons_zero, List.set_cons_succ]
                refine wpAnyH_ready (rs := [47]) (by kernel_rfl) (by simp) ?_
                refine AllReadyH.cons (o := ⟨some 132, _, _, _, _, _⟩) (by rfl) (fun K hK => ?_) ?_
                · (go_simp; (go_at_call 39; ((with_reducible refine (F4.out _ (hL.keep (bt B7 (And.right (And.right hS4)))) R4).mono ?_); rintro e u4 ⟨rfl, T4, hg4⟩; replace R0 := HC.out.keep _ _ _ _ (some p4) R0 hg4 (by intro e; injection e with e; omega); replace R1 := HC.out.keep _ _ _ _ (some p4) R1 hg4 (by intro e; injection e with e; omega); replace R2 := HC.out.keep _ _ _ _ (some p4) R2 hg4 (by intro e; injection e with e; omega); replace R3 := HC.out.keep _ _ _ _ (some p4) R3 hg4 (by intro e; injection e with e; omega); replace R5 := HC.out.keep _ _ _ _ (some p4) R5 hg4 (by intro e; injection e with e; omega); replace R6 := HC.out.keep _ _ _ _ (some p4) R6 hg4 (by intro e; injection e with e; omega); replace R4 := T4; have hS5 := tS (Blk.grown (And.left (And.right hS4)) hg4 (by omega)) hV0 hW0 (below_g (And.right (And.right hS4)) hg4 (by omega)))); go_wp2_with fail)
                  refine hK.out _ _ ?_ (fun hHeld => ?_)
                  · (first | assumption | exact hS0)
                  clear hK K
                  try simp only [Act.put, List.setIfInBounds_toArray, List.set_cons_zero, List.set_cons_succ]
                  refine wpAnyH_take (i := 49) (oi := ⟨some 134, _, _, _, _, _⟩) (v := ?_) (by rfl) (by kernel_rfl) (by kernel_rfl) (by kernel_rfl) (fun _ _ _ h => h) (Or.inl ⟨by rfl, ?hy⟩) (by assumption) ?_
                  case hy => (intro w hSw; (try dsimp only at hSw); go_simp; try with_reducible rfl)
                  try simp only [Act.put, List.setIfInBounds_toArray, List.set_cons_zero, List.set_cons_succ]
                  refine wpAnyH_take (i := 50) (oi := ⟨some 135, _, _, _, _, _⟩) (v := ?_) (by rfl) (by kernel_rfl) (by kernel_rfl) (by kernel_rfl) (fun _ _ _ h => h) (Or.inl ⟨by rfl, ?hy⟩) (by assumption) ?_
                  case hy => (intro w hSw; (try dsimp only at hSw); go_simp; try with_reducible rfl)
                  try simp only [Act.put, List.setIfInBounds_toArray, List.set_cons_zero, List.set_cons_succ]
                  refine wpAnyH_take (i := 51) (oi := ⟨some 136, _, _, _, _, _⟩) (v := ?_) (by rfl) (by kernel_rfl) (by kernel_rfl) (by kernel_rfl) (fun _ _ _ h => h) (Or.inl ⟨by rfl, ?hy⟩) (by assumption) ?_
                  case hy => (intro w hSw; (try dsimp only at hSw); go_simp; try with_reducible rfl)
                  try simp only [Act.put, List.setIfInBounds_toArray, List.set_cons_zero, List.set_cons_succ]
                  refine wpAnyH_take (i := 52) (oi := ⟨some 137, _, _, _, _, _⟩) (v := ?_) (by rfl) (by kernel_rfl) (by kernel_rfl) (by kernel_rfl) (fun _ _ _ h => h) (Or.inl ⟨by rfl, ?hy⟩) (by assumption) ?_
                  case hy => (intro w hSw; (try dsimp only at hSw); go_simp; try with_reducible rfl)
                  try simp only [Act.put, List.setIfInBounds_toArray, List.set_cons_zero, List.set_cons_succ]
                  refine wpAnyH_take (i := 53) (oi := ⟨some 138, _, _, _, _, _⟩) (v := ?_) (by rfl) (by kernel_rfl) (by kernel_rfl) (by kernel_rfl) (fun _ _ _ h => h) (Or.inl ⟨by rfl, ?hy⟩) (by assumption) ?_
                  case hy => (intro w hSw; (try dsimp only at hSw); go_simp; try with_reducible rfl)
                  try simp only [Act.put, List.setIfInBounds_toArray, List.set_cons_zero, List.set_cons_succ]
                  refine wpAnyH_take (i := 55) (oi := ⟨some 140, _, _, _, _, _⟩) (v := ?_) (by rfl) (by kernel_rfl) (by kernel_rfl) (by kernel_rfl) (fun _ _ _ h => h) (Or.inl ⟨by rfl, ?hy⟩) (by assumption) ?_
                  case hy => (intro w hSw; (try dsimp only at hSw); go_simp; try with_reducible rfl)
                  try simp only [Act.put, List.setIfInBounds_toArray, List.set_cons_zero, List.set_cons_succ]
                  refine wpAnyH_ready (rs := [54]) (by kernel_rfl) (by simp) ?_
                  refine AllReadyH.cons (o := ⟨some 139, _, _, _, _, _⟩) (by rfl) (fun K hK => ?_) ?_
                  · (go_simp; (go_at_call 24; ((with_reducible refine (F5.out _ (hL.keep (bt B7 (And.right (And.right hS5)))) R5).mono ?_); rintro e u5 ⟨rfl, T5, hg5⟩; replace R0 := HC.out.keep _ _ _ _ (some p5) R0 hg5 (by intro e; injection e with e; omega); replace R1 := HC.out.keep _ _ _ _ (some p5) R1 hg5 (by intro e; injection e with e; omega); replace R2 := HC.out.keep _ _ _ _ (some p5) R2 hg5 (by intro e; injection e with e; omega); replace R3 := HC.out.keep _ _ _ _ (some p5) R3 hg5 (by intro e; injection e with e; omega); replace R4 := HC.out.keep _ _ _ _ (some p5) R4 hg5 (by intro e; injection e with e; omega); replace R6 := HC.out.keep _ _ _ _ (some p5) R6 hg5 (by intro e; injection e with e; omega); replace R5 := T5; have hS6 := tS (Blk.grown (And.left (And.right hS5)) hg5 (by omega)) hV0 hW0 (below_g (And.right (And.right hS5)) hg5 (by omega)))); go_wp2_with fail)
                    refine hK.out _ _ ?_ (fun hHeld => ?_)
                    · (first | assumption | exact hS0)
                    clear hK K
                    try simp only [Act.put, List.setIfInBounds_toArray, List.set_cons_zero, List.set_cons_succ]
                    refine wpAnyH_take (i := 56) (oi := ⟨some 141, _, _, _, _, _⟩) (v := ?_) (by rfl) (by kernel_rfl) (by kernel_rfl) (by kernel_rfl) (fun _ _ _ h => h) (Or.inl ⟨by rfl, ?hy⟩) (by assumption) ?_
                    case hy => (intro w hSw; (try dsimp only at hSw); go_simp; try with_reducible rfl)
                    try simp only [Act.put, List.setIfInBounds_toArray, List.set_cons_zero, List.set_cons_succ]
                    refine wpAnyH_take (i := 57) (oi := ⟨some 142, _, _, _, _, _⟩) (v := ?_) (by rfl) (by kernel_rfl) (by kernel_rfl) (by kernel_rfl) (fun _ _ _ h => h) (Or.inl ⟨by rfl, ?hy⟩) (by assumption) ?_
                    case hy => (intro w hSw; (try dsimp only at hSw); go_simp; try with_reducible rfl)
                    try simp only [Act.put, List.setIfInBounds_toArray, List.set_cons_zero, List.set_cons_succ]
                    refine wpAnyH_take (i := 58) (oi := ⟨some 143, _, _, _, _, _⟩) (v := ?_) (by rfl) (by kernel_rfl) (by kernel_rfl) (by kernel_rfl) (fun _ _ _ h => h) (Or.inl ⟨by rfl, ?hy⟩) (by assumption) ?_
                    case hy => (intro w hSw; (try dsimp only at hSw); go_simp; try with_reducible rfl)
                    try simp only [Act.put, List.setIfInBounds_toArray, List.set_cons_zero, List.set_cons_succ]
                    refine wpAnyH_take (i := 59) (oi := ⟨some 144, _, _, _, _, _⟩) (v := ?_) (by rfl) (by kernel_rfl) (by kernel_rfl) (by kernel_rfl) (fun _ _ _ h => h) (Or.inl ⟨by rfl, ?hy⟩) (by assumption) ?_
                    case hy => (intro w hSw; (try dsimp only at hSw); go_simp; try with_reducible rfl)
                    try simp only [Act.put, List.setIfInBounds_toArray, List.set_cons_zero, List.set_cons_succ]
                    refine wpAnyH_take (i := 60) (oi := ⟨some 145, _, _, _, _, _⟩) (v := ?_) (by rfl) (by kernel_rfl) (by kernel_rfl) (by kernel_rfl) (fun _ _ _ h => h) (Or.inl ⟨by rfl, ?hy⟩) (by assumption) ?_
                    case hy => (intro w hSw; (try dsimp only at hSw); go_simp; try with_reducible rfl)
                    try simp only [Act.put, List.setIfInBounds_toArray, List.set_cons_zero, List.set_cons_succ]
                    refine wpAnyH_take (i := 61) (oi := ⟨some 146, _, _, _, _, _⟩) (v := ?_) (by rfl) (by kernel_rfl) (by kernel_rfl) (by kernel_rfl) (fun _ _ _ h => h) (Or.inl ⟨by rfl, ?hy⟩) (by assumption) ?_
                    case hy => (intro w hSw; (try dsimp only at hSw); go_simp; try with_reducible rfl)
                    try simp only [Act.put, List.setIfInBounds_toArray, List.set_cons_zero, List.set_cons_succ]
                    refine wpAnyH_take (i := 62) (oi := ⟨some 147, _, _, _, _, _⟩) (v := ?_) (by rfl) (by kernel_rfl) (by kernel_rfl) (by kernel_rfl) (fun _ _ _ h => h) (Or.inl ⟨by rfl, ?hy⟩) (by assumption) ?_
                    case hy => (intro w hSw; (try dsimp only at hSw); go_simp; try with_reducible rfl)
                    try simp only [Act.put, List.setIfInBounds_toArray, List.set_cons_zero, List.set_cons_succ]
                    refine wpAnyH_take (i := 63) (oi := ⟨some 148, _, _, _, _, _⟩) (v := ?_) (by rfl) (by kernel_rfl) (by kernel_rfl) (by kernel_rfl) (fun _ _ _ h => h) (Or.inl ⟨by rfl, ?hy⟩) (by assumption) ?_
                    case hy => (intro w hSw; (try dsimp only at hSw); go_simp; try with_reducible rfl)
                    try simp only [Act.put, List.setIfInBounds_toArray, List.set_cons_zero, List.set_cons_succ]
                    refine wpAnyH_take (i := 65) (oi := ⟨some 150, _, _, _, _, _⟩) (v := ?_) (by rfl) (by kernel_rfl) (by kernel_rfl) (by kernel_rfl) (fun _ _ _ h => h) (Or.inl ⟨by rfl, ?hy⟩) (by assumption) ?_
                    case hy => (intro w hSw; (try dsimp only at hSw); go_simp; try with_reducible rfl)
                    try simp only [Act.put, List.setIfInBounds_toArray, List.set_cons_zero, List.set_cons_succ]
                    refine wpAnyH_ready (rs := [64]) (by kernel_rfl) (by simp) ?_
                    refine AllReadyH.cons (o := ⟨some 149, _, _, _, _, _⟩) (by rfl) (fun K hK => ?_) ?_
                    · (go_simp; (go_at_call 26; ((with_reducible refine (F6.out _ (hL.keep (bt B7 (And.right (And.right hS6)))) R6).mono ?_); rintro e u6 ⟨⟨A9, n9, c9, rfl, hn9, hr9⟩, T6, hg6⟩; replace R0 := HC.out.keep _ _ _ _ (some p6) R0 hg6 (by intro e; injection e with e; omega); replace R1 := HC.out.keep _ _ _ _ (some p6) R1 hg6 (by intro e; injection e with e; omega); replace R2 := HC.out.keep _ _ _ _ (some p6) R2 hg6 (by intro e; injection e with e; omega); replace R3 := HC.out.keep _ _ _ _ (some p6) R3 hg6 (by intro e; injection e with e; omega); replace R4 := HC.out.keep _ _ _ _ (some p6) R4 hg6 (by intro e; injection e with e; omega); replace R5 := HC.out.keep _ _ _ _ (some p6) R5 hg6 (by intro e; injection e with e; omega); replace R6 := T6; have hS7 := tS (Blk.grown (And.left (And.right hS6)) hg6 (by omega)) hV0 hW0 (below_g (And.right (And.right hS6)) hg6 (by omega)))); go_wp2_with fail)
                      refine hK.out _ _ ?_ (fun hHeld => ?_)
                      · (first | assumption | exact hS0)
                      clear hK K
                      try simp only [Act.put, List.setIfInBounds_toArray, List.set_cons_zero, List.set_cons_succ]
                      refine wpAnyH_ready (rs := [66]) (by kernel_rfl) (by simp) ?_
                      refine AllReadyH.cons (o := ⟨some 151, _, _, _, _, _⟩) (by rfl) (fun K hK => ?_) ?_
                      · (go_simp; (go_at_call 27; ((with_reducible refine (wrSame_is A9 A7 n9 c9 n7 c7 y7 u6 hn9 hr9 (Nat.le_refl _) (by omega) hn7 (hr7.keep (And.right (And.right hS7)) (Nat.le_refl _)) (And.right (And.right hS7)).size).mono ?_); rintro e u7 ⟨rfl, hD7⟩; have hb7 := hD7.below u6.heap.size; replace R0 := rdr_below HC.out R0 hb7; replace R1 := rdr_below HC.out R1 hb7; replace R2 := rdr_below HC.out R2 hb7; replace R3 := rdr_below HC.out R3 hb7; replace R4 := rdr_below HC.out R4 hb7; replace R5 := rdr_below HC.out R5 hb7; replace R6 := rdr_below HC.out R6 hb7; have hS8 := tS (Blk.keep (And.left (And.right hS7)) hb7) hV0 hW0 (bt (And.right (And.right hS7)) hb7))); go_wp2_with fail)
                        refine hK.out _ _ ?_ (fun hHeld => ?_)
                        · (first | assumption | exact hS0)
                        clear hK K
                        try simp only [Act.put, List.setIfInBounds_toArray, List.set_cons_zero, List.set_cons_succ]
                        refine wpAnyH_take (i := 67) (oi := ⟨some 152, _, _, _, _, _⟩) (v := ?_) (by rfl) (by kernel_rfl) (by kernel_rfl) (by kernel_rfl) (fun _ _ _ h => h) (Or.inl ⟨by rfl, ?hy⟩) (by assumption) ?_
                        case hy => (intro w hSw; (try dsimp only at hSw); go_simp; try with_reducible rfl)
                        try simp only [Act.put, List.setIfInBounds_toArray, List.set_cons_zero, List.set_cons_succ]
                        refine wpAnyH_take (i := 68) (oi := ⟨some 153, _, _, _, _, _⟩) (v := ?_) (by rfl) (by kernel_rfl) (by kernel_rfl) (by kernel_rfl) (fun _ _ _ h => h) (Or.inl ⟨by rfl, ?hy⟩) (by assumption) ?_
                        case hy => (intro w hSw; (try dsimp only at hSw); go_simp; try with_reducible rfl)
                        try simp only [Act.put, List.setIfInBounds_toArray, List.set_cons_zero, List.set_cons_succ]
                        refine wpAnyH_done (by kernel_rfl) ?_ _
                        refine NoPanic.normal ?_
                        clear F0 F1 F2 F3 F4 F5 F6 hS0 hS1 hS2 hS3 hS4 hS5 hS6 hS7 hvs hws hg0 hg1 hg2 hg3 hg4 hg5 hg6 hr9 hb7
                        have hBlF := hHeld.2.1
                        have hBF := hHeld.2.2
                        clear hHeld hS8
                        go_wp2_with fail
                        go_loopw [162] (fun i wr => ∃ k : Nat, k ≤ 7 ∧ i = .int .i64 k ∧ Blk wr ra (rowP [p0, p1, p2, p3, p4, p5, p6]) 73 ∧ Hid (Rdr wr p0 (stOf b k1) ∧ Rdr wr p1 (stOf b k2) ∧ Rdr wr p2 (stOf b k3) ∧ Rdr wr p3 (stOf b k4) ∧ Rdr wr p4 (stOf b k5) ∧ Rdr wr p5 (stOf b k6) ∧ Rdr wr p6 (stOf b k7)) ∧ Below w7.heap.size w7 wr) (fun i _ => 7 - (intOf i).toNat)
                        case atStart => exact ⟨0, by omega, rfl, hBlF, ⟨R0, R1, R2, R3, R4, R5, R6⟩, hBF⟩
                        case round =>
                          clear R0 R1 R2 R3 R4 R5 R6 hBlF hBF
                          obtain ⟨k, hk, rfl, hBl2, hRR, hB2⟩ := hrel
                          by_cases hlt2 : k < 7
                          · have BW2 := bt B7 hB2
                            obtain ⟨c0, c1, c2, c3, c4, c5, c6⟩ := row_cells hBl2
                            rcases (show k = 0 ∨ k = 1 ∨ k = 2 ∨ k = 3 ∨ k = 4 ∨ k = 5 ∨ k = 6 by omega) with rfl | rfl | rfl | rfl | rfl | rfl | rfl
                            · have hRj := hRR.out.1
                              have ix : ∀ W, (Instr.index 78 (.agg #[.int .i64 (k1 : Nat), .int .i64 (k2 : Nat), .int .i64 (k3 : Nat), .int .i64 (k4 : Nat), .int .i64 (k5 : Nat), .int .i64 (k6 : Nat), .int .i64 (k7 : Nat)]) (.int .i64 0)).run Tryd.prog W = .ok (.int .i64 (k1 : Nat)) W := fun _ => by kernel_rfl
                              rcases end3 l1.2.2.2 HN.out with ⟨a1, a2, a3, a4, a5, a6⟩ | ⟨a1, a2, a6⟩ | ⟨a1, a2, a3, a4, a5, a6⟩
                              · have FE := HC.out.rEnd p0 _ wr (hL.keep BW2) hRj
                                rw [a6] at FE
                                have FH := Lib.hid FE
                                clear FE a6
                                go_wp2_with fail
                                refine FH.out.mono ?_
                                rintro e uE ⟨rfl, T, hgE⟩
                                clear FH
                                go_wp2_with fail
                                go_roundw
                                case rel => exact ⟨1, by omega, by go_num, hBl2.grown hgE (by omega), ⟨T, HC.out.keep _ _ _ _ (some p0) hRR.out.2.1 hgE (by intro e; injection e with e; omega), HC.out.keep _ _ _ _ (some p0) hRR.out.2.2.1 hgE (by intro e; injection e with e; omega), HC.out.keep _ _ _ _ (some p0) hRR.out.2.2.2.1 hgE (by intro e; injection e with e; omega), HC.out.keep _ _ _ _ (some p0) hRR.out.2.2.2.2.1 hgE (by intro e; injection e with e; omega), HC.out.keep _ _ _ _ (some p0) hRR.out.2.2.2.2.2.1 hgE (by intro e; injection e with e; omega), HC.out.keep _ _ _ _ (some p0) hRR.out.2.2.2.2.2.2 hgE (by intro e; injection e with e; omega)⟩, below_g hB2 hgE (by omega)⟩
                                case measure => simp [intOf]
                              · have FE := HC.out.rEnd p0 _ wr (hL.keep BW2) hRj
                                rw [a6] at FE
                                have FH := Lib.hid FE
                                clear FE a6
                                go_wp2_with fail
                                refine FH.out.mono ?_
                                rintro e uE ⟨rfl, T, hgE⟩
                                clear FH
                                go_wp2_with fail
                                go_roundw
                                case rel => exact ⟨1, by omega, by go_num, hBl2.grown hgE (by omega), ⟨T, HC.out.keep _ _ _ _ (some p0) hRR.out.2.1 hgE (by intro e; injection e with e; omega), HC.out.keep _ _ _ _ (some p0) hRR.out.2.2.1 hgE (by intro e; injection e with e; omega), HC.out.keep _ _ _ _ (some p0) hRR.out.2.2.2.1 hgE (by intro e; injection e with e; omega), HC.out.keep _ _ _ _ (some p0) hRR.out.2.2.2.2.1 hgE (by intro e; injection e with e; omega), HC.out.keep _ _ _ _ (some p0) hRR.out.2.2.2.2.2.1 hgE (by intro e; injection e with e; omega), HC.out.keep _ _ _ _ (some p0) hRR.out.2.2.2.2.2.2 hgE (by intro e; injection e with e; omega)⟩, below_g hB2 hgE (by omega)⟩
                                case measure => simp [intOf]
                              · have FE := HC.out.rEnd p0 _ wr (hL.keep BW2) hRj
                                rw [a6] at FE
                                have FH := Lib.hid FE
                                clear FE a6
                                go_wp2_with fail
                                refine FH.out.mono ?_
                                rintro e uE ⟨rfl, T, hgE⟩
                                clear FH
                                go_wp2_with fail
                                go_roundw
                                case rel => exact ⟨1, by omega, by go_num, hBl2.grown hgE (by omega), ⟨T, HC.out.keep _ _ _ _ (some p0) hRR.out.2.1 hgE (by intro e; injection e with e; omega), HC.out.keep _ _ _ _ (some p0) hRR.out.2.2.1 hgE (by intro e; injection e with e; omega), HC.out.keep _ _ _ _ (some p0) hRR.out.2.2.2.1 hgE (by intro e; injection e with e; omega), HC.out.keep _ _ _ _ (some p0) hRR.out.2.2.2.2.1 hgE (by intro e; injection e with e; omega), HC.out.keep _ _ _ _ (some p0) hRR.out.2.2.2.2.2.1 hgE (by intro e; injection e with e; omega), HC.out.keep _ _ _ _ (some p0) hRR.out.2.2.2.2.2.2 hgE (by intro e; injection e with e; omega)⟩, below_g hB2 hgE (by omega)⟩
                                case measure => simp [intOf]
                            · have hRj := hRR.out.2.1
                              have ix : ∀ W, (Instr.index 78 (.agg #[.int .i64 (k1 : Nat), .int .i64 (k2 : Nat), .int .i64 (k3 : Nat), .int .i64 (k4 : Nat), .int .i64 (k5 : Nat), .int .i64 (k6 : Nat), .int .i64 (k7 : Nat)]) (.int .i64 1)).run Tryd.prog W = .ok (.int .i64 (k2 : Nat)) W := fun _ => by kernel_rfl
                              rcases end3 l2 HN.out with ⟨a1, a2, a3, a4, a5, a6⟩ | ⟨a1, a2, a6⟩ | ⟨a1, a2, a3, a4, a5, a6⟩
                              · have FE := HC.out.rEnd p1 _ wr (hL.keep BW2) hRj
                                rw [a6] at FE
                                have FH := Lib.hid FE
                                clear FE a6
                                go_wp2_with fail
                                refine FH.out.mono ?_
                                rintro e uE ⟨rfl, T, hgE⟩
                                clear FH
                                go_wp2_with fail
                                go_roundw
                                case rel => exact ⟨2, by omega, by go_num, hBl2.grown hgE (by omega), ⟨HC.out.keep _ _ _ _ (some p1) hRR.out.1 hgE (by intro e; injection e with e; omega), T, HC.out.keep _ _ _ _ (some p1) hRR.out.2.2.1 hgE (by intro e; injection e with e; omega), HC.out.keep _ _ _ _ (some p1) hRR.out.2.2.2.1 hgE (by intro e; injection e with e; omega), HC.out.keep _ _ _ _ (some p1) hRR.out.2.2.2.2.1 hgE (by intro e; injection e with e; omega), HC.out.keep _ _ _ _ (some p1) hRR.out.2.2.2.2.2.1 hgE (by intro e; injection e with e; omega), HC.out.keep _ _ _ _ (some p1) hRR.out.2.2.2.2.2.2 hgE (by intro e; injection e with e; omega)⟩, below_g hB2 hgE (by omega)⟩
                                case measure => simp [intOf]
                              · exact absurd hkp a1
                              · have FE := HC.out.rEnd p1 _ wr (hL.keep BW2) hRj
                                rw [a6] at FE
                                have FH := Lib.hid FE
                                clear FE a6
                                go_wp2_with fail
                                refine FH.out.mono ?_
                                rintro e uE ⟨rfl, T, hgE⟩
                                clear FH
                                go_wp2_with fail
                                go_roundw
                                case rel => exact ⟨2, by omega, by go_num, hBl2.grown hgE (by omega), ⟨HC.out.keep _ _ _ _ (some p1) hRR.out.1 hgE (by intro e; injection e with e; omega), T, HC.out.keep _ _ _ _ (some p1) hRR.out.2.2.1 hgE (by intro e; injection e with e; omega), HC.out.keep _ _ _ _ (some p1) hRR.out.2.2.2.1 hgE (by intro e; injection e with e; omega), HC.out.keep _ _ _ _ (some p1) hRR.out.2.2.2.2.1 hgE (by intro e; injection e with e; omega), HC.out.keep _ _ _ _ (some p1) hRR.out.2.2.2.2.2.1 hgE (by intro e; injection e with e; omega), HC.out.keep _ _ _ _ (some p1) hRR.out.2.2.2.2.2.2 hgE (by intro e; injection e with e; omega)⟩, below_g hB2 hgE (by omega)⟩
                                case measure => simp [intOf]
                            · have hRj := hRR.out.2.2.1
                              have ix : ∀ W, (Instr.index 78 (.agg #[.int .i64 (k1 : Nat), .int .i64 (k2 : Nat), .int .i64 (k3 : Nat), .int .i64 (k4 : Nat), .int .i64 (k5 : Nat), .int .i64 (k6 : Nat), .int .i64 (k7 : Nat)]) (.int .i64 2)).run Tryd.prog W = .ok (.int .i64 (k3 : Nat)) W := fun _ => by kernel_rfl
                              rcases end3 l3 HN.out with ⟨a1, a2, a3, a4, a5, a6⟩ | ⟨a1, a2, a6⟩ | ⟨a1, a2, a3, a4, a5, a6⟩
                              · have FE := HC.out.rEnd p2 _ wr (hL.keep BW2) hRj
                                rw [a6] at FE
                                have FH := Lib.hid FE
                                clear FE a6
                                go_wp2_with fail
                                refine FH.out.mono ?_
                                rintro e uE ⟨rfl, T, hgE⟩
                                clear FH
                                go_wp2_with fail
                                go_roundw
                                case rel => exact ⟨3, by omega, by go_num, hBl2.grown hgE (by omega), ⟨HC.out.keep _ _ _ _ (some p2) hRR.out.1 hgE (by intro e; injection e with e; omega), HC.out.keep _ _ _ _ (some p2) hRR.out.2.1 hgE (by intro e; injection e with e; omega), T, HC.out.keep _ _ _ _ (some p2) hRR.out.2.2.2.1 hgE (by intro e; injection e with e; omega), HC.out.keep _ _ _ _ (some p2) hRR.out.2.2.2.2.1 hgE (by intro e; injection e with e; omega), HC.out.keep _ _ _ _ (some p2) hRR.out.2.2.2.2.2.1 hgE (by intro e; injection e with e; omega), HC.out.keep _ _ _ _ (some p2) hRR.out.2.2.2.2.2.2 hgE (by intro e; injection e with e; omega)⟩, below_g hB2 hgE (by omega)⟩
                                case measure => simp [intOf]
                              · have FE := HC.out.rEnd p2 _ wr (hL.keep BW2) hRj
                                rw [a6] at FE
                                have FH := Lib.hid FE
                                clear FE a6
                                go_wp2_with fail
                                refine FH.out.mono ?_
                                rintro e uE ⟨rfl, T, hgE⟩
                                clear FH
                                go_wp2_with fail
                                go_roundw
                                case rel => exact ⟨3, by omega, by go_num, hBl2.grown hgE (by omega), ⟨HC.out.keep _ _ _ _ (some p2) hRR.out.1 hgE (by intro e; injection e with e; omega), HC.out.keep _ _ _ _ (some p2) hRR.out.2.1 hgE (by intro e; injection e with e; omega), T, HC.out.keep _ _ _ _ (some p2) hRR.out.2.2.2.1 hgE (by intro e; injection e with e; omega), HC.out.keep _ _ _ _ (some p2) hRR.out.2.2.2.2.1 hgE (by intro e; injection e with e; omega), HC.out.keep _ _ _ _ (some p2) hRR.out.2.2.2.2.2.1 hgE (by intro e; injection e with e; omega), HC.out.keep _ _ _ _ (some p2) hRR.out.2.2.2.2.2.2 hgE (by intro e; injection e with e; omega)⟩, below_g hB2 hgE (by omega)⟩
                                case measure => simp [intOf]
                              · have FE := HC.out.rEnd p2 _ wr (hL.keep BW2) hRj
                                rw [a6] at FE
                                have FH := Lib.hid FE
                                clear FE a6
                                go_wp2_with fail
                                refine FH.out.mono ?_
                                rintro e uE ⟨rfl, T, hgE⟩
                                clear FH
                                go_wp2_with fail
                                go_roundw
                                case rel => exact ⟨3, by omega, by go_num, hBl2.grown hgE (by omega), ⟨HC.out.keep _ _ _ _ (some p2) hRR.out.1 hgE (by intro e; injection e with e; omega), HC.out.keep _ _ _ _ (some p2) hRR.out.2.1 hgE (by intro e; injection e with e; omega), T, HC.out.keep _ _ _ _ (some p2) hRR.out.2.2.2.1 hgE (by intro e; injection e with e; omega), HC.out.keep _ _ _ _ (some p2) hRR.out.2.2.2.2.1 hgE (by intro e; injection e with e; omega), HC.out.keep _ _ _ _ (some p2) hRR.out.2.2.2.2.2.1 hgE (by intro e; injection e with e; omega), HC.out.keep _ _ _ _ (some p2) hRR.out.2.2.2.2.2.2 hgE (by intro e; injection e with e; omega)⟩, below_g hB2 hgE (by omega)⟩
                                case measure => simp [intOf]
                            · have hRj := hRR.out.2.2.2.1
                              have ix : ∀ W, (Instr.index 78 (.agg #[.int .i64 (k1 : Nat), .int .i64 (k2 : Nat), .int .i64 (k3 : Nat), .int .i64 (k4 : Nat), .int .i64 (k5 : Nat), .int .i64 (k6 : Nat), .int .i64 (k7 : Nat)]) (.int .i64 3)).run Tryd.prog W = .ok (.int .i64 (k4 : Nat)) W := fun _ => by kernel_rfl
                              rcases end3 l4 HN.out with ⟨a1, a2, a3, a4, a5, a6⟩ | ⟨a1, a2, a6⟩ | ⟨a1, a2, a3, a4, a5, a6⟩
                              · have FE := HC.out.rEnd p3 _ wr (hL.keep BW2) hRj
                                rw [a6] at FE
                                have FH := Lib.hid FE
                                clear FE a6
                                go_wp2_with fail
                                refine FH.out.mono ?_
                                rintro e uE ⟨rfl, T, hgE⟩
                                clear FH
                                go_wp2_with fail
                                go_roundw
                                case rel => exact ⟨4, by omega, by go_num, hBl2.grown hgE (by omega), ⟨HC.out.keep _ _ _ _ (some p3) hRR.out.1 hgE (by intro e; injection e with e; omega), HC.out.keep _ _ _ _ (some p3) hRR.out.2.1 hgE (by intro e; injection e with e; omega), HC.out.keep _ _ _ _ (some p3) hRR.out.2.2.1 hgE (by intro e; injection e with e; omega), T, HC.out.keep _ _ _ _ (some p3) hRR.out.2.2.2.2.1 hgE (by intro e; injection e with e; omega), HC.out.keep _ _ _ _ (some p3) hRR.out.2.2.2.2.2.1 hgE (by intro e; injection e with e; omega), HC.out.keep _ _ _ _ (some p3) hRR.out.2.2.2.2.2.2 hgE (by intro e; injection e with e; omega)⟩, below_g hB2 hgE (by omega)⟩
                                case measure => simp [intOf]
                              · have FE := HC.out.rEnd p3 _ wr (hL.keep BW2) hRj
                                rw [a6] at FE
                                have FH := Lib.hid FE
                                clear FE a6
                                go_wp2_with fail
                                refine FH.out.mono ?_
                                rintro e uE ⟨rfl, T, hgE⟩
                                clear FH
                                go_wp2_with fail
                                go_roundw
                                case rel => exact ⟨4, by omega, by go_num, hBl2.grown hgE (by omega), ⟨HC.out.keep _ _ _ _ (some p3) hRR.out.1 hgE (by intro e; injection e with e; omega), HC.out.keep _ _ _ _ (some p3) hRR.out.2.1 hgE (by intro e; injection e with e; omega), HC.out.keep _ _ _ _ (some p3) hRR.out.2.2.1 hgE (by intro e; injection e with e; omega), T, HC.out.keep _ _ _ _ (some p3) hRR.out.2.2.2.2.1 hgE (by intro e; injection e with e; omega), HC.out.keep _ _ _ _ (some p3) hRR.out.2.2.2.2.2.1 hgE (by intro e; injection e with e; omega), HC.out.keep _ _ _ _ (some p3) hRR.out.2.2.2.2.2.2 hgE (by intro e; injection e with e; omega)⟩, below_g hB2 hgE (by omega)⟩
                                case measure => simp [intOf]
                              · have FE := HC.out.rEnd p3 _ wr (hL.keep BW2) hRj
                                rw [a6] at FE
                                have FH := Lib.hid FE
                                clear FE a6
                                go_wp2_with fail
                                refine FH.out.mono ?_
                                rintro e uE ⟨rfl, T, hgE⟩
                                clear FH
                                go_wp2_with fail
                                go_roundw
                                case rel => exact ⟨4, by omega, by go_num, hBl2.grown hgE (by omega), ⟨HC.out.keep _ _ _ _ (some p3) hRR.out.1 hgE (by intro e; injection e with e; omega), HC.out.keep _ _ _ _ (some p3) hRR.out.2.1 hgE (by intro e; injection e with e; omega), HC.out.keep _ _ _ _ (some p3) hRR.out.2.2.1 hgE (by intro e; injection e with e; omega), T, HC.out.keep _ _ _ _ (some p3) hRR.out.2.2.2.2.1 hgE (by intro e; injection e with e; omega), HC.out.keep _ _ _ _ (some p3) hRR.out.2.2.2.2.2.1 hgE (by intro e; injection e with e; omega), HC.out.keep _ _ _ _ (some p3) hRR.out.2.2.2.2.2.2 hgE (by intro e; injection e with e; omega)⟩, below_g hB2 hgE (by omega)⟩
                                case measure => simp [intOf]
                            · have hRj := hRR.out.2.2.2.2.1
                              have ix : ∀ W, (Instr.index 78 (.agg #[.int .i64 (k1 : Nat), .int .i64 (k2 : Nat), .int .i64 (k3 : Nat), .int .i64 (k4 : Nat), .int .i64 (k5 : Nat), .int .i64 (k6 : Nat), .int .i64 (k7 : Nat)]) (.int .i64 4)).run Tryd.prog W = .ok (.int .i64 (k5 : Nat)) W := fun _ => by kernel_rfl
                              rcases end3 l5 HN.out with ⟨a1, a2, a3, a4, a5, a6⟩ | ⟨a1, a2, a6⟩ | ⟨a1, a2, a3, a4, a5, a6⟩
                              · have FE := HC.out.rEnd p4 _ wr (hL.keep BW2) hRj
                                rw [a6] at FE
                                have FH := Lib.hid FE
                                clear FE a6
                                go_wp2_with fail
                                refine FH.out.mono ?_
                                rintro e uE ⟨rfl, T, hgE⟩
                                clear FH
                                go_wp2_with fail
                                go_roundw
                                case rel => exact ⟨5, by omega, by go_num, hBl2.grown hgE (by omega), ⟨HC.out.keep _ _ _ _ (some p4) hRR.out.1 hgE (by intro e; injection e with e; omega), HC.out.keep _ _ _ _ (some p4) hRR.out.2.1 hgE (by intro e; injection e with e; omega), HC.out.keep _ _ _ _ (some p4) hRR.out.2.2.1 hgE (by intro e; injection e with e; omega), HC.out.keep _ _ _ _ (some p4) hRR.out.2.2.2.1 hgE (by intro e; injection e with e; omega), T, HC.out.keep _ _ _ _ (some p4) hRR.out.2.2.2.2.2.1 hgE (by intro e; injection e with e; omega), HC.out.keep _ _ _ _ (some p4) hRR.out.2.2.2.2.2.2 hgE (by intro e; injection e with e; omega)⟩, below_g hB2 hgE (by omega)⟩
                                case measure => simp [intOf]
                              · have FE := HC.out.rEnd p4 _ wr (hL.keep BW2) hRj
                                rw [a6] at FE
                                have FH := Lib.hid FE
                                clear FE a6
                                go_wp2_with fail
                                refine FH.out.mono ?_
                                rintro e uE ⟨rfl, T, hgE⟩
                                clear FH
                                go_wp2_with fail
                                go_roundw
                                case rel => exact ⟨5, by omega, by go_num, hBl2.grown hgE (by omega), ⟨HC.out.keep _ _ _ _ (some p4) hRR.out.1 hgE (by intro e; injection e with e; omega), HC.out.keep _ _ _ _ (some p4) hRR.out.2.1 hgE (by intro e; injection e with e; omega), HC.out.keep _ _ _ _ (some p4) hRR.out.2.2.1 hgE (by intro e; injection e with e; omega), HC.out.keep _ _ _ _ (some p4) hRR.out.2.2.2.1 hgE (by intro e; injection e with e; omega), T, HC.out.keep _ _ _ _ (some p4) hRR.out.2.2.2.2.2.1 hgE (by intro e; injection e with e; omega), HC.out.keep _ _ _ _ (some p4) hRR.out.2.2.2.2.2.2 hgE (by intro e; injection e with e; omega)⟩, below_g hB2 hgE (by omega)⟩
                                case measure => simp [intOf]
                              · have FE := HC.out.rEnd p4 _ wr (hL.keep BW2) hRj
                                rw [a6] at FE
                                have FH := Lib.hid FE
                                clear FE a6
                                go_wp2_with fail
                                refine FH.out.mono ?_
                                rintro e uE ⟨rfl, T, hgE⟩
                                clear FH
                                go_wp2_with fail
                                go_roundw
                                case rel => exact ⟨5, by omega, by go_num, hBl2.grown hgE (by omega), ⟨HC.out.keep _ _ _ _ (some p4) hRR.out.1 hgE (by intro e; injection e with e; omega), HC.out.keep _ _ _ _ (some p4) hRR.out.2.1 hgE (by intro e; injection e with e; omega), HC.out.keep _ _ _ _ (some p4) hRR.out.2.2.1 hgE (by intro e; injection e with e; omega), HC.out.keep _ _ _ _ (some p4) hRR.out.2.2.2.1 hgE (by intro e; injection e with e; omega), T, HC.out.keep _ _ _ _ (some p4) hRR.out.2.2.2.2.2.1 hgE (by intro e; injection e with e; omega), HC.out.keep _ _ _ _ (some p4) hRR.out.2.2.2.2.2.2 hgE (by intro e; injection e with e; omega)⟩, below_g hB2 hgE (by omega)⟩
                                case measure => simp [intOf]
                            · have hRj := hRR.out.2.2.2.2.2.1
                              have ix : ∀ W, (Instr.index 78 (.agg #[.int .i64 (k1 : Nat), .int .i64 (k2 : Nat), .int .i64 (k3 : Nat), .int .i64 (k4 : Nat), .int .i64 (k5 : Nat), .int .i64 (k6 : Nat), .int .i64 (k7 : Nat)]) (.int .i64 5)).run Tryd.prog W = .ok (.int .i64 (k6 : Nat)) W := fun _ => by kernel_rfl
                              rcases end3 l6 HN.out with ⟨a1, a2, a3, a4, a5, a6⟩ | ⟨a1, a2, a6⟩ | ⟨a1, a2, a3, a4, a5, a6⟩
                              · have FE := HC.out.rEnd p5 _ wr (hL.keep BW2) hRj
                                rw [a6] at FE
                                have FH := Lib.hid FE
                                clear FE a6
                                go_wp2_with fail
                                refine FH.out.mono ?_
                                rintro e uE ⟨rfl, T, hgE⟩
                                clear FH
                                go_wp2_with fail
                                go_roundw
                                case rel => exact ⟨6, by omega, by go_num, hBl2.grown hgE (by omega), ⟨HC.out.keep _ _ _ _ (some p5) hRR.out.1 hgE (by intro e; injection e with e; omega), HC.out.keep _ _ _ _ (some p5) hRR.out.2.1 hgE (by intro e; injection e with e; omega), HC.out.keep _ _ _ _ (some p5) hRR.out.2.2.1 hgE (by intro e; injection e with e; omega), HC.out.keep _ _ _ _ (some p5) hRR.out.2.2.2.1 hgE (by intro e; injection e with e; omega), HC.out.keep _ _ _ _ (some p5) hRR.out.2.2.2.2.1 hgE (by intro e; injection e with e; omega), T, HC.out.keep _ _ _ _ (some p5) hRR.out.2.2.2.2.2.2 hgE (by intro e; injection e with e; omega)⟩, below_g hB2 hgE (by omega)⟩
                                case measure => simp [intOf]
                              · have FE := HC.out.rEnd p5 _ wr (hL.keep BW2) hRj
                                rw [a6] at FE
                                have FH := Lib.hid FE
                                clear FE a6
                                go_wp2_with fail
                                refine FH.out.mono ?_
                                rintro e uE ⟨rfl, T, hgE⟩
                                clear FH
                                go_wp2_with fail
                                go_roundw
                                case rel => exact ⟨6, by omega, by go_num, hBl2.grown hgE (by omega), ⟨HC.out.keep _ _ _ _ (some p5) hRR.out.1 hgE (by intro e; injection e with e; omega), HC.out.keep _ _ _ _ (some p5) hRR.out.2.1 hgE (by intro e; injection e with e; omega), HC.out.keep _ _ _ _ (some p5) hRR.out.2.2.1 hgE (by intro e; injection e with e; omega), HC.out.keep _ _ _ _ (some p5) hRR.out.2.2.2.1 hgE (by intro e; injection e with e; omega), HC.out.keep _ _ _ _ (some p5) hRR.out.2.2.2.2.1 hgE (by intro e; injection e with e; omega), T, HC.out.keep _ _ _ _ (some p5) hRR.out.2.2.2.2.2.2 hgE (by intro e; injection e with e; omega)⟩, below_g hB2 hgE (by omega)⟩
                                case measure => simp [intOf]
                              · have FE := HC.out.rEnd p5 _ wr (hL.keep BW2) hRj
                                rw [a6] at FE
                                have FH := Lib.hid FE
                                clear FE a6
                                go_wp2_with fail
                                refine FH.out.mono ?_
                                rintro e uE ⟨rfl, T, hgE⟩
                                clear FH
                                go_wp2_with fail
                                go_roundw
                                case rel => exact ⟨6, by omega, by go_num, hBl2.grown hgE (by omega), ⟨HC.out.keep _ _ _ _ (some p5) hRR.out.1 hgE (by intro e; injection e with e; omega), HC.out.keep _ _ _ _ (some p5) hRR.out.2.1 hgE (by intro e; injection e with e; omega), HC.out.keep _ _ _ _ (some p5) hRR.out.2.2.1 hgE (by intro e; injection e with e; omega), HC.out.keep _ _ _ _ (some p5) hRR.out.2.2.2.1 hgE (by intro e; injection e with e; omega), HC.out.keep _ _ _ _ (some p5) hRR.out.2.2.2.2.1 hgE (by intro e; injection e with e; omega), T, HC.out.keep _ _ _ _ (some p5) hRR.out.2.2.2.2.2.2 hgE (by intro e; injection e with e; omega)⟩, below_g hB2 hgE (by omega)⟩
                                case measure => simp [intOf]
                            · have hRj := hRR.out.2.2.2.2.2.2
                              have ix : ∀ W, (Instr.index 78 (.agg #[.int .i64 (k1 : Nat), .int .i64 (k2 : Nat), .int .i64 (k3 : Nat), .int .i64 (k4 : Nat), .int .i64 (k5 : Nat), .int .i64 (k6 : Nat), .int .i64 (k7 : Nat)]) (.int .i64 6)).run Tryd.prog W = .ok (.int .i64 (k7 : Nat)) W := fun _ => by kernel_rfl
                              rcases end3 l7 HN.out with ⟨a1, a2, a3, a4, a5, a6⟩ | ⟨a1, a2, a6⟩ | ⟨a1, a2, a3, a4, a5, a6⟩
                              · have FE := HC.out.rEnd p6 _ wr (hL.keep BW2) hRj
                                rw [a6] at FE
                                have FH := Lib.hid FE
                                clear FE a6
                                go_wp2_with fail
                                refine FH.out.mono ?_
                                rintro e uE ⟨rfl, T, hgE⟩
                                clear FH
                                go_wp2_with fail
                                go_roundw
                                case rel => exact ⟨7, by omega, by go_num, hBl2.grown hgE (by omega), ⟨HC.out.keep _ _ _ _ (some p6) hRR.out.1 hgE (by intro e; injection e with e; omega), HC.out.keep _ _ _ _ (some p6) hRR.out.2.1 hgE (by intro e; injection e with e; omega), HC.out.keep _ _ _ _ (some p6) hRR.out.2.2.1 hgE (by intro e; injection e with e; omega), HC.out.keep _ _ _ _ (some p6) hRR.out.2.2.2.1 hgE (by intro e; injection e with e; omega), HC.out.keep _ _ _ _ (some p6) hRR.out.2.2.2.2.1 hgE (by intro e; injection e with e; omega), HC.out.keep _ _ _ _ (some p6) hRR.out.2.2.2.2.2.1 hgE (by intro e; injection e with e; omega), T⟩, below_g hB2 hgE (by omega)⟩
                                case measure => simp [intOf]
                              · have FE := HC.out.rEnd p6 _ wr (hL.keep BW2) hRj
                                rw [a6] at FE
                                have FH := Lib.hid FE
                                clear FE a6
                                go_wp2_with fail
                                refine FH.out.mono ?_
                                rintro e uE ⟨rfl, T, hgE⟩
                                clear FH
                                go_wp2_with fail
                                go_roundw
                                case rel => exact ⟨7, by omega, by go_num, hBl2.grown hgE (by omega), ⟨HC.out.keep _ _ _ _ (some p6) hRR.out.1 hgE (by intro e; injection e with e; omega), HC.out.keep _ _ _ _ (some p6) hRR.out.2.1 hgE (by intro e; injection e with e; omega), HC.out.keep _ _ _ _ (some p6) hRR.out.2.2.1 hgE (by intro e; injection e with e; omega), HC.out.keep _ _ _ _ (some p6) hRR.out.2.2.2.1 hgE (by intro e; injection e with e; omega), HC.out.keep _ _ _ _ (some p6) hRR.out.2.2.2.2.1 hgE (by intro e; injection e with e; omega), HC.out.keep _ _ _ _ (some p6) hRR.out.2.2.2.2.2.1 hgE (by intro e; injection e with e; omega), T⟩, below_g hB2 hgE (by omega)⟩
                                case measure => simp [intOf]
                              · have FE := HC.out.rEnd p6 _ wr (hL.keep BW2) hRj
                                rw [a6] at FE
                                have FH := Lib.hid FE
                                clear FE a6
                                go_wp2_with fail
                                refine FH.out.mono ?_
                                rintro e uE ⟨rfl, T, hgE⟩
                                clear FH
                                go_wp2_with fail
                                go_roundw
                                case rel => exact ⟨7, by omega, by go_num, hBl2.grown hgE (by omega), ⟨HC.out.keep _ _ _ _ (some p6) hRR.out.1 hgE (by intro e; injection e with e; omega), HC.out.keep _ _ _ _ (some p6) hRR.out.2.1 hgE (by intro e; injection e with e; omega), HC.out.keep _ _ _ _ (some p6) hRR.out.2.2.1 hgE (by intro e; injection e with e; omega), HC.out.keep _ _ _ _ (some p6) hRR.out.2.2.2.1 hgE (by intro e; injection e with e; omega), HC.out.keep _ _ _ _ (some p6) hRR.out.2.2.2.2.1 hgE (by intro e; injection e with e; omega), HC.out.keep _ _ _ _ (some p6) hRR.out.2.2.2.2.2.1 hgE (by intro e; injection e with e; omega), T⟩, below_g hB2 hgE (by omega)⟩
                                case measure => simp [intOf]
                          · have hq2 : ¬ (k : Int) < 7 := by omega
                            go_wp2_with fail
                            go_ret
                            exact ⟨rfl, bt B7 hB2⟩
                      exact AllReadyH.nil
                    exact AllReadyH.nil
                  exact AllReadyH.nil
                exact AllReadyH.nil
              exact AllReadyH.nil
            exact AllReadyH.nil
          exact AllReadyH.nil
        exact AllReadyH.nil
      exact AllReadyH.nil
end Go.Proofs.YtahmjiomkaibgaaDoor
