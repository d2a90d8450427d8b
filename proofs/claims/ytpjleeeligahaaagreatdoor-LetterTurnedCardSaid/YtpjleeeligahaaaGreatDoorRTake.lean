/-
  WHAT IS PROVED: package roll's TakeReach, TakeCells, TakeLines: what they answer, and leave of what the reader has, as the chapter says. Conditions: those typed in each theorem.
-/
import Derived.Test.YtpjleeeligahaaaGreatDoorGQ11
import Derived.Test.YtpjleeeligahaaaGreatDoorRGood
import Derived.Test.YtpjleeeligahaaaGreatDoorGQ10
namespace Go.Proofs.YtpjleeeligahaaaGreatDoor
open Go.RowKit

theorem enters_tkR : ∀ args w, (callFunc 146 args).run Tryz.prog w = .ok (.enter 146 args) w := enters_of Tryz.func146 (by kernel_rfl) rfl
theorem enters_tkC : ∀ args w, (callFunc 150 args).run Tryz.prog w = .ok (.enter 150 args) w := enters_of Tryz.func150 (by kernel_rfl) rfl
theorem enters_tkL : ∀ args w, (callFunc 31 args).run Tryz.prog w = .ok (.enter 31 args) w := enters_of Tryz.func31 (by kernel_rfl) rfl
theorem enters_gdR : ∀ args w, (callFunc 92 args).run Tryz.prog w = .ok (.enter 92 args) w := enters_of Tryz.func92 (by kernel_rfl) rfl
theorem enters_gdC : ∀ args w, (callFunc 94 args).run Tryz.prog w = .ok (.enter 94 args) w := enters_of Tryz.func94 (by kernel_rfl) rfl
theorem enters_gdL : ∀ args w, (callFunc 35 args).run Tryz.prog w = .ok (.enter 35 args) w := enters_of Tryz.func35 (by kernel_rfl) rfl
theorem rd_ne {S : Addr} {W : World} {g gb : Nat} {st : Rest} {a : Option Addr} (h : RdrP S W g st) (hc : W.cell? ⟨gb, 0, none⟩ = some (.pointer a)) : gb ≠ g := by
  rintro rfl
  obtain ⟨s, hs⟩ := h.str
  rw [hs] at hc
  injection hc with hc
  cases hc
theorem grown_cell {W W' : World} {g gb : Nat} {v : Value} (hc : W.cell? ⟨gb, 0, none⟩ = some v) (hg : W.grownBy W' (some g)) (hne : gb ≠ g) : W'.cell? ⟨gb, 0, none⟩ = some v :=
  hg.cell hc (by
    intro e
    injection e with e
    exact hne e)
theorem grown_row {W W' : World} {g b : Nat} {cs : Array Value} {t : TypeId} (h : Blk W b cs t) (hg : W.grownBy W' (some g)) (hne : b ≠ g) : Blk W' b cs t := blk_grown h hg (by
    intro e
    injection e with e
    exact hne e.symm)

theorem set11 {W : World} {b : Nat} {u0 u1 u2 u3 u4 u5 u6 u7 u8 u9 u10 : Value} {t : TypeId} (h : Blk W b #[u0, u1, u2, u3, u4, u5, u6, u7, u8, u9, u10] t) (v0 v1 v2 v3 v4 v5 v6 v7 v8 v9 v10 : Value) : Blk (((((((((((W.setCell ⟨b, 0, none⟩ v0).setCell ⟨b, 1, none⟩ v1).setCell ⟨b, 2, none⟩ v2).setCell ⟨b, 3, none⟩ v3).setCell ⟨b, 4, none⟩ v4).setCell ⟨b, 5, none⟩ v5).setCell ⟨b, 6, none⟩ v6).setCell ⟨b, 7, none⟩ v7).setCell ⟨b, 8, none⟩ v8).setCell ⟨b, 9, none⟩ v9).setCell ⟨b, 10, none⟩ v10) b #[v0, v1, v2, v3, v4, v5, v6, v7, v8, v9, v10] t := by
  have h0 : Blk (W.setCell ⟨b, 0, none⟩ v0) b #[v0, u1, u2, u3, u4, u5, u6, u7, u8, u9, u10] t := h.set 0 v0
  have h1 : Blk ((W.setCell ⟨b, 0, none⟩ v0).setCell ⟨b, 1, none⟩ v1) b #[v0, v1, u2, u3, u4, u5, u6, u7, u8, u9, u10] t := h0.set 1 v1
  have h2 : Blk (((W.setCell ⟨b, 0, none⟩ v0).setCell ⟨b, 1, none⟩ v1).setCell ⟨b, 2, none⟩ v2) b #[v0, v1, v2, u3, u4, u5, u6, u7, u8, u9, u10] t := h1.set 2 v2
  have h3 : Blk ((((W.setCell ⟨b, 0, none⟩ v0).setCell ⟨b, 1, none⟩ v1).setCell ⟨b, 2, none⟩ v2).setCell ⟨b, 3, none⟩ v3) b #[v0, v1, v2, v3, u4, u5, u6, u7, u8, u9, u10] t := h2.set 3 v3
  have h4 : Blk (((((W.setCell ⟨b, 0, none⟩ v0).setCell ⟨b, 1, none⟩ v1).setCell ⟨b, 2, none⟩ v2).setCell ⟨b, 3, none⟩ v3).setCell ⟨b, 4, none⟩ v4) b #[v0, v1, v2, v3, v4, u5, u6, u7, u8, u9, u10] t := h3.set 4 v4
  have h5 : Blk ((((((W.setCell ⟨b, 0, none⟩ v0).setCell ⟨b, 1, none⟩ v1).setCell ⟨b, 2, none⟩ v2).setCell ⟨b, 3, none⟩ v3).setCell ⟨b, 4, none⟩ v4).setCell ⟨b, 5, none⟩ v5) b #[v0, v1, v2, v3, v4, v5, u6, u7, u8, u9, u10] t := h4.set 5 v5
  have h6 : Blk (((((((W.setCell ⟨b, 0, none⟩ v0).setCell ⟨b, 1, none⟩ v1).setCell ⟨b, 2, none⟩ v2).setCell ⟨b, 3, none⟩ v3).setCell ⟨b, 4, none⟩ v4).setCell ⟨b, 5, none⟩ v5).setCell ⟨b, 6, none⟩ v6) b #[v0, v1, v2, v3, v4, v5, v6, u7, u8, u9, u10] t := h5.set 6 v6
  have h7 : Blk ((((((((W.setCell ⟨b, 0, none⟩ v0).setCell ⟨b, 1, none⟩ v1).setCell ⟨b, 2, none⟩ v2).setCell ⟨b, 3, none⟩ v3).setCell ⟨b, 4, none⟩ v4).setCell ⟨b, 5, none⟩ v5).setCell ⟨b, 6, none⟩ v6).setCell ⟨b, 7, none⟩ v7) b #[v0, v1, v2, v3, v4, v5, v6, v7, u8, u9, u10] t := h6.set 7 v7
  have h8 : Blk (((((((((W.setCell ⟨b, 0, none⟩ v0).setCell ⟨b, 1, none⟩ v1).setCell ⟨b, 2, none⟩ v2).setCell ⟨b, 3, none⟩ v3).setCell ⟨b, 4, none⟩ v4).setCell ⟨b, 5, none⟩ v5).setCell ⟨b, 6, none⟩ v6).setCell ⟨b, 7, none⟩ v7).setCell ⟨b, 8, none⟩ v8) b #[v0, v1, v2, v3, v4, v5, v6, v7, v8, u9, u10] t := h7.set 8 v8
  have h9 : Blk ((((((((((W.setCell ⟨b, 0, none⟩ v0).setCell ⟨b, 1, none⟩ v1).setCell ⟨b, 2, none⟩ v2).setCell ⟨b, 3, none⟩ v3).setCell ⟨b, 4, none⟩ v4).setCell ⟨b, 5, none⟩ v5).setCell ⟨b, 6, none⟩ v6).setCell ⟨b, 7, none⟩ v7).setCell ⟨b, 8, none⟩ v8).setCell ⟨b, 9, none⟩ v9) b #[v0, v1, v2, v3, v4, v5, v6, v7, v8, v9, u10] t := h8.set 9 v9
  have h10 : Blk (((((((((((W.setCell ⟨b, 0, none⟩ v0).setCell ⟨b, 1, none⟩ v1).setCell ⟨b, 2, none⟩ v2).setCell ⟨b, 3, none⟩ v3).setCell ⟨b, 4, none⟩ v4).setCell ⟨b, 5, none⟩ v5).setCell ⟨b, 6, none⟩ v6).setCell ⟨b, 7, none⟩ v7).setCell ⟨b, 8, none⟩ v8).setCell ⟨b, 9, none⟩ v9).setCell ⟨b, 10, none⟩ v10) b #[v0, v1, v2, v3, v4, v5, v6, v7, v8, v9, v10] t := h9.set 10 v10
  exact h10
theorem grown11 (W : World) (b : Nat) (v0 v1 v2 v3 v4 v5 v6 v7 v8 v9 v10 : Value) : W.grownBy (((((((((((W.setCell ⟨b, 0, none⟩ v0).setCell ⟨b, 1, none⟩ v1).setCell ⟨b, 2, none⟩ v2).setCell ⟨b, 3, none⟩ v3).setCell ⟨b, 4, none⟩ v4).setCell ⟨b, 5, none⟩ v5).setCell ⟨b, 6, none⟩ v6).setCell ⟨b, 7, none⟩ v7).setCell ⟨b, 8, none⟩ v8).setCell ⟨b, 9, none⟩ v9).setCell ⟨b, 10, none⟩ v10) (some b) := (((((((((((set_grown).trans set_grown).trans set_grown).trans set_grown).trans set_grown).trans set_grown).trans set_grown).trans set_grown).trans set_grown).trans set_grown).trans set_grown)
theorem below11 {B b : Nat} {w W : World} (h : Below B w W) (hb : B ≤ b) (v0 v1 v2 v3 v4 v5 v6 v7 v8 v9 v10 : Value) : Below B w (((((((((((W.setCell ⟨b, 0, none⟩ v0).setCell ⟨b, 1, none⟩ v1).setCell ⟨b, 2, none⟩ v2).setCell ⟨b, 3, none⟩ v3).setCell ⟨b, 4, none⟩ v4).setCell ⟨b, 5, none⟩ v5).setCell ⟨b, 6, none⟩ v6).setCell ⟨b, 7, none⟩ v7).setCell ⟨b, 8, none⟩ v8).setCell ⟨b, 9, none⟩ v9).setCell ⟨b, 10, none⟩ v10) := (((((((((((h.setCell (p := ⟨b, 0, none⟩) hb v0).setCell (p := ⟨b, 1, none⟩) hb v1).setCell (p := ⟨b, 2, none⟩) hb v2).setCell (p := ⟨b, 3, none⟩) hb v3).setCell (p := ⟨b, 4, none⟩) hb v4).setCell (p := ⟨b, 5, none⟩) hb v5).setCell (p := ⟨b, 6, none⟩) hb v6).setCell (p := ⟨b, 7, none⟩) hb v7).setCell (p := ⟨b, 8, none⟩) hb v8).setCell (p := ⟨b, 9, none⟩) hb v9).setCell (p := ⟨b, 10, none⟩) hb v10)

set_option maxRecDepth 100000 in
theorem takeR1_any (S : Addr) (g gb : Nat) (st : Rest) (w : World) (hL : LaidS S w) (hR : RdrP S w g st) (hc : w.cell? ⟨gb, 0, none⟩ = some (.pointer (some ⟨g, 0, none⟩))) :
    Calls Tryz.prog 146 #[.pointer (some ⟨gb, 0, none⟩)] w fun e w' => e = .returned (preV (preStep st).1) ∧ RdrP S w' g (preStep st).2 ∧ w.grownBy w' (some g) := by
  have HT := Lib.hid (rText_any S g st 20 w hL hR (by omega))
  unfold preStep
  generalize textOf st 20 = p at HT ⊢
  obtain ⟨x, st1⟩ := p
  dsimp only at HT ⊢
  clear hL hR
  go_enter Tryz.func146, Tryz.ntmps146
  go_wp2_with fail
  refine HT.out.mono ?_
  rintro e w1 ⟨⟨s, rfl, hs⟩, hR1, hg1⟩
  go_wp2_with fail
  go_ret
  exact ⟨by rw [ba_of hs]; rfl, hR1, hg1⟩

set_option maxRecDepth 100000 in
set_option maxHeartbeats 4000000 in
theorem takeC1_any (S : Addr) (g gb : Nat) (st : Rest) (w : World) (hL : LaidS S w) (hR : RdrP S w g st) (hc : w.cell? ⟨gb, 0, none⟩ = some (.pointer (some ⟨g, 0, none⟩))) :
    Calls Tryz.prog 150 #[.pointer (some ⟨gb, 0, none⟩)] w fun e w' => e = .returned (clV (clStep st).1) ∧ RdrP S w' g (clStep st).2 ∧ w.grownBy w' (some g) := by
  have hne := rd_ne hR hc
  have hlt := hR.lt
  have HT := Lib.hid (fun W hL hR => rText_any S g st 20 W hL hR (by omega))
  have HV := Lib.hid (fun W hL hR => rValue_any S g (textOf st 20).2 W hL hR)
  unfold clStep
  generalize valOf (textOf st 20).2 = q at HV ⊢
  obtain ⟨⟨vk, vn, vs⟩, st2⟩ := q
  generalize textOf st 20 = p at HT HV ⊢
  obtain ⟨x, st1⟩ := p
  dsimp only at HT HV ⊢
  go_enter Tryz.func150, Tryz.ntmps150
  go_upto_region 1 with fail
  have hba := b0 w (.cells (clI ⟨#[]⟩ 0 0 ⟨#[]⟩) 61)
  have hX := blk_new w (clI ⟨#[]⟩ 0 0 ⟨#[]⟩) 61
  have hca := (hba.cell (p := ⟨gb, 0, none⟩) (World.block_lt_of_cell? w _ hc)).trans hc
  have hRa := hR.below hba
  have hLa := hL.keep hba
  have hGa := grown_below hba (some g)
  clear hc hR hL
  generalize w.alloc (.cells (clI ⟨#[]⟩ 0 0 ⟨#[]⟩) 61) = W at hba hX hca hRa hLa hGa ⊢
  generalize hz : w.heap.size = b at hX hlt ⊢
  have hbg : b ≠ g := by omega
  go_wp2_with fail
  refine (HT.out W hLa hRa).mono ?_
  rintro e w1 ⟨⟨s, rfl, hs⟩, hR1, hg1⟩
  have es := ba_of hs
  subst es
  have hc1 := grown_cell hca hg1 hne
  have hX1 := grown_row hX hg1 hbg
  have hL1 := hLa.grown hRa hg1
  clear hca hX hLa hRa
  go_wp2_with fail
  refine (HV.out w1 hL1 hR1).mono ?_
  rintro e w2 ⟨⟨s2, rfl, hs2⟩, hR2, hg2⟩
  have es2 := ba_of hs2
  subst es2
  have hX2 := grown_row hX1 hg2 hbg
  have x0 := hX2.cell 0
  have x1 := hX2.cell 1
  have x2 := hX2.cell 2
  have x3 := hX2.cell 3
  have f0 := hX2.free 0
  have f1 := hX2.free 1
  have f2 := hX2.free 2
  have f3 := hX2.free 3
  have hlt2 := hX2.lt
  have hG2 := (hGa.trans hg1).trans hg2
  clear hX1 hc1 hL1
  have hF := ((((hX2.set 0 (.string ⟨x.toArray⟩)).set 1 (.int .i64 vk)).set 2 (.int .i64 vn)).set 3 (.string ⟨vs.toArray⟩))
  have hF2 : Blk _ b (clI ⟨x.toArray⟩ vk vn ⟨vs.toArray⟩) 61 := hF
  clear hF
  go_wp2_with fail
  (try simp only [Exit.inBlock, Exit.then])
  refine bodyPost_ret (results_cell_row Tryz.results150 _ _ b 61 (clI ⟨x.toArray⟩ vk vn ⟨vs.toArray⟩) (0, 0) _ (by rfl) hF2 Tryz.underlying61 (by rfl) (by kernel_rfl)) rfl ?_
  refine ⟨rfl, ?_, ?_⟩
  · exact (((hR2.keep (row := some b) set_grown (by simpa using hbg)).keep (row := some b) set_grown (by simpa using hbg)).keep (row := some b) set_grown (by simpa using hbg)).keep (row := some b) set_grown (by simpa using hbg)
  · exact grown_then' hG2 (((((Below.refl _ _).setCell (p := ⟨b, 0, none⟩) (Nat.le_of_eq hz) _).setCell (p := ⟨b, 1, none⟩) (Nat.le_of_eq hz) _).setCell (p := ⟨b, 2, none⟩) (Nat.le_of_eq hz) _).setCell (p := ⟨b, 3, none⟩) (Nat.le_of_eq hz) _)

set_option maxRecDepth 100000 in
set_option maxHeartbeats 4000000 in
theorem takeL1_any (S : Addr) (g gb : Nat) (st : Rest) (w : World) (hL : LaidS S w) (hR : RdrP S w g st) (hc : w.cell? ⟨gb, 0, none⟩ = some (.pointer (some ⟨g, 0, none⟩))) :
    Calls Tryz.prog 31 #[.pointer (some ⟨gb, 0, none⟩)] w fun e w' => e = .returned (lnV (lnStep st).1) ∧ RdrP S w' g (lnStep st).2 ∧ w.grownBy w' (some g) := by
  have hne := rd_ne hR hc
  have hlt := hR.lt
  have HT := Lib.hid (fun W hL hR => rNumber_any S g st 4095 W hL hR (by omega))
  have HV := Lib.hid (fun W hL hR => rWrite_any S g (numOf st 4095).2 W hL hR)
  have hm : (numOf st 4095).1 ≤ 4095 := (numOf_lt st 4095).1
  unfold lnStep
  generalize wrOf (numOf st 4095).2 = q at HV ⊢
  obtain ⟨⟨dev, seq, K, ky, ka, na, sa, kb, nb, sb⟩, st2⟩ := q
  generalize numOf st 4095 = p at HT HV hm ⊢
  obtain ⟨x, st1⟩ := p
  dsimp only at HT HV hm ⊢
  have hx1 : wrap64 (x : Int) = (x : Int) := by unfold wrap64; omega
  have hx2 : IntKind.i64.wrap (x : Int) = (x : Int) := IntWalk.i64_in _ (by omega)
  go_enter Tryz.func31, Tryz.ntmps31
  go_upto_region 1 with fail
  have hba := b0 w (.cells (lnI 0 0 0 0 ⟨#[]⟩ 0 0 ⟨#[]⟩ 0 0 ⟨#[]⟩) 49)
  have hX := blk_new w (lnI 0 0 0 0 ⟨#[]⟩ 0 0 ⟨#[]⟩ 0 0 ⟨#[]⟩) 49
  have hca := (hba.cell (p := ⟨gb, 0, none⟩) (World.block_lt_of_cell? w _ hc)).trans hc
  have hRa := hR.below hba
  have hLa := hL.keep hba
  have hGa := grown_below hba (some g)
  clear hc hR hL
  generalize w.alloc (.cells (lnI 0 0 0 0 ⟨#[]⟩ 0 0 ⟨#[]⟩ 0 0 ⟨#[]⟩) 49) = W at hba hX hca hRa hLa hGa ⊢
  generalize hz : w.heap.size = b at hX hlt ⊢
  have hbg : b ≠ g := by omega
  go_wp2_with fail
  refine (HT.out W hLa hRa).mono ?_
  rintro e w1 ⟨rfl, hR1, hg1⟩
  have hc1 := grown_cell hca hg1 hne
  have hX1 := grown_row hX hg1 hbg
  have hL1 := hLa.grown hRa hg1
  clear hca hX hLa hRa
  go_wp2_with fail
  refine (HV.out w1 hL1 hR1).mono ?_
  rintro e w2 ⟨rfl, hR2, hg2⟩
  have hX2 := grown_row hX1 hg2 hbg
  have x0 := hX2.cell 0
  have f0 := hX2.free 0
  have x1 := hX2.cell 1
  have f1 := hX2.free 1
  have x2 := hX2.cell 2
  have f2 := hX2.free 2
  have x3 := hX2.cell 3
  have f3 := hX2.free 3
  have x4 := hX2.cell 4
  have f4 := hX2.free 4
  have x5 := hX2.cell 5
  have f5 := hX2.free 5
  have x6 := hX2.cell 6
  have f6 := hX2.free 6
  have x7 := hX2.cell 7
  have f7 := hX2.free 7
  have x8 := hX2.cell 8
  have f8 := hX2.free 8
  have x9 := hX2.cell 9
  have f9 := hX2.free 9
  have x10 := hX2.cell 10
  have f10 := hX2.free 10
  have hlt2 := hX2.lt
  have hG2 := (hGa.trans hg1).trans hg2
  clear hX1 hc1 hL1
  have hF2 := set11 hX2 (.int .i64 (x : Int)) (.int .i64 dev) (.int .i64 seq) (.int .i64 K) (.string ky) (.int .i64 ka) (.int .i64 na) (.string sa) (.int .i64 kb) (.int .i64 nb) (.string sb)
  have hK2 := hR2.keep (row := some b) (grown11 w2 b (.int .i64 (x : Int)) (.int .i64 dev) (.int .i64 seq) (.int .i64 K) (.string ky) (.int .i64 ka) (.int .i64 na) (.string sa) (.int .i64 kb) (.int .i64 nb) (.string sb)) (by simpa using hbg)
  have hG3 := grown_then' hG2 (below11 (Below.refl w.heap.size w2) (Nat.le_of_eq hz) (.int .i64 (x : Int)) (.int .i64 dev) (.int .i64 seq) (.int .i64 K) (.string ky) (.int .i64 ka) (.int .i64 na) (.string sa) (.int .i64 kb) (.int .i64 nb) (.string sb))
  go_wp2_with fail
  (try simp only [Exit.inBlock, Exit.then])
  refine bodyPost_ret (results_cell_row Tryz.results31 _ _ b 49 (lnI (x : Int) dev seq K ky ka na sa kb nb sb) (0, 0) _ (by rfl) hF2 Tryz.underlying49 (by rfl) (by kernel_rfl)) rfl ?_
  refine ⟨rfl, ?_, ?_⟩
  · exact hK2
  · exact hG3

theorem wrNo_fits : Wr.fits wrNo := ⟨Nat.zero_le _, Nat.zero_le _, Nat.zero_le _, ⟨by show (-9223372036854775808 : Int) ≤ 0; omega, by show (0 : Int) ≤ 9223372036854775807; omega⟩, ⟨by show (-9223372036854775808 : Int) ≤ 0; omega, by show (0 : Int) ≤ 9223372036854775807; omega⟩⟩
theorem arr_fits {l : List UInt8} {n : Nat} (h : l.length ≤ n) (hn : n ≤ 1000) : (⟨l.toArray⟩ : ByteArray).size ≤ maxLen := by
  show l.toArray.size ≤ maxLen
  unfold maxLen
  simp
  omega
theorem wrX_fits (d q kk : Nat) (st3 : Rest) : (wrX d q kk st3).fits :=
  ⟨arr_fits (textOf_most st3 20) (by omega), arr_fits (val_fits _).2 (by omega), arr_fits (val_fits _).2 (by omega), (val_fits _).1, (val_fits _).1⟩
theorem wr_fits (st : Rest) : (wrOf st).1.fits := by
  rw [← wr_is]
  unfold wrM wrC2
  dsimp only
  generalize wrS _ _ _ _ = q
  cases q with
  | none => exact wrNo_fits
  | some b => exact wrX_fits _ _ _ _
theorem cl_fits (st : Rest) : (clStep st).1.fits := ⟨arr_fits (textOf_most st 20) (by omega), arr_fits (val_fits _).2 (by omega), (val_fits _).1.1, (val_fits _).1.2⟩
theorem ln_fits (st : Rest) : (lnStep st).1.fits := wr_fits _
theorem rep_all {α : Type} {s : Rest → α × Rest} {P : α → Prop} (h : ∀ st, P (s st).1) : ∀ (n : Nat) (st : Rest) (x : α), x ∈ (repG s n st).1 → P x
  | 0, st, x, hx => by cases hx
  | n + 1, none, x, hx => by cases hx
  | n + 1, some b, x, hx => by
    rw [repG_more] at hx
    rcases List.mem_cons.1 hx with e | hx
    · rw [e]
      exact h _
    · exact rep_all h n _ x hx
theorem rep_len {α : Type} (s : Rest → α × Rest) : ∀ (n : Nat) (st : Rest), (repG s n st).1.length ≤ n
  | 0, st => Nat.le_refl _
  | n + 1, none => Nat.zero_le _
  | n + 1, some b => by
    rw [repG_more, List.length_cons]
    have := rep_len s n (s (some b)).2
    omega
theorem baL_at {L : List (List UInt8)} {k : Nat} {x : ByteArray} (h : (baL L)[k]? = some x) : ∃ y, L[k]? = some y ∧ x = ⟨y.toArray⟩ := by
  unfold baL at h
  rw [List.getElem?_map] at h
  cases hy : L[k]? with
  | none => rw [hy] at h; cases h
  | some y =>
    rw [hy] at h
    injection h with h
    exact ⟨y, rfl, h.symm⟩
theorem rdS_of {B : Nat} {W : World} {A : Option Addr} {L : List (List UInt8)} (h : RdX 1 B W A (L.map preC)) : RdS B W A (baL L) := by
  intro k x hx
  obtain ⟨y, hy, rfl⟩ := baL_at hx
  obtain ⟨ad, hA, hl, hc⟩ := h k _ (map_get hy)
  refine ⟨ad, hA, hl, ?_⟩
  have := hc 0 _ rfl
  rwa [Nat.mul_one, Nat.add_zero] at this
theorem baL_sz {L : List (List UInt8)} (h : ∀ x, x ∈ L → x.length ≤ 20) : Sz 1000 (baL L) := by
  intro x hx
  obtain ⟨k, hk⟩ := List.getElem?_of_mem hx
  obtain ⟨y, hy, rfl⟩ := baL_at hk
  have := h y (List.mem_of_getElem? hy)
  show y.toArray.size ≤ 1000
  simp
  omega
/-- What such a call answers: the things, and that all is right; or nothing, and that the form is wrong. -/
def TakenX {α : Type} (S : Addr) (g : Nat) (t : TypeId) (z : Nat) (cells : α → Array Value) (r : Option (List α × List UInt8)) (w : World) (e : Ending) (w' : World) : Prop :=
  (match r with
    | some (l, b) => (∃ (A : Option Addr) (n c : Nat), e = .returned (.tuple #[.slice A n c, .int .i64 0]) ∧ OwnX t z w.heap.size w' A n c (l.map cells)) ∧ RdrP S w' g (some b)
    | none => e = .returned (.tuple #[.slice none 0 0, .int .i64 2]) ∧ ∃ st, RdrP S w' g st) ∧ w.grownBy w' (some g)

set_option maxRecDepth 100000 in
set_option maxHeartbeats 4000000 in
theorem takeC_any (S : Addr) (g : Nat) (st : Rest) (w : World) (hL : LaidS S w) (hR : RdrP S w g st) :
    Calls Tryz.prog 105 #[.pointer (some ⟨g, 0, none⟩)] w fun e w' => TakenX S g 61 4 Cl.cells (outG takeClB goodCls st 18446744073709551615) w e w' := by
  rw [← got_is (f := takeClB) (s := clStep) clStep_is]
  have hlt := hR.lt
  have hless : LessG clStep := less_of (f := takeClB) clStep_is takeCl_le
  have hsz := rep_all (P := Cl.fits) cl_fits (numOf st 18446744073709551615).1 (numOf st 18446744073709551615).2
  have hlen := Nat.le_trans (rep_len clStep (numOf st 18446744073709551615).1 (numOf st 18446744073709551615).2) (numOf_lt st 18446744073709551615).1
  have HT := Lib.hid (fun W lb hL hR hf => takeListC_any S g 150 lb clStep st 18446744073709551615 W enters_tkC hL hR (by omega) hless hf)
  unfold gotG
  generalize repG clStep (numOf st 18446744073709551615).1 (numOf st 18446744073709551615).2 = q at HT hsz hlen ⊢
  obtain ⟨L, st2⟩ := q
  dsimp only at HT hsz hlen ⊢
  suffices hh : Calls Tryz.prog 105 #[.pointer (some ⟨g, 0, none⟩)] w fun e w' => (∃ (A : Option Addr) (n c : Nat), e = .returned (if st2 ≠ none ∧ goodCls L = true then .tuple #[.slice A n c, .int .i64 0] else .tuple #[.slice none 0 0, .int .i64 2]) ∧ OwnX 61 4 w.heap.size w' A n c (L.map Cl.cells)) ∧ RdrP S w' g st2 ∧ w.grownBy w' (some g) by
    refine hh.mono fun e w' h => ?_
    obtain ⟨⟨A, n, c, he, hO⟩, hR, hG⟩ := h
    refine ⟨?_, hG⟩
    cases st2 with
    | none => exact ⟨by rw [he, if_neg (fun h => h.1 rfl)], none, hR⟩
    | some b =>
      dsimp only
      cases hgd : goodCls L with
      | false =>
        rw [if_neg Bool.false_ne_true]
        exact ⟨by rw [he, if_neg (fun h => by rw [hgd] at h; cases h.2)], some b, hR⟩
      | true =>
        rw [if_pos rfl]
        exact ⟨⟨A, n, c, by rw [he, if_pos ⟨by simp, hgd⟩], hO⟩, hR⟩
  have HGd : Hid (∀ (w1 : World) (A1 : Option Addr) (n1 c1 : Nat), OwnX 61 4 (w.heap.size + 1) w1 A1 n1 c1 (L.map Cl.cells) → Calls Tryz.prog 94 #[.slice A1 n1 c1] w1 fun e w' => e = .returned (.bool (goodCls L)) ∧ Below w1.heap.size w1 w') := by
    show ∀ (w1 : World) (A1 : Option Addr) (n1 c1 : Nat), _ → _
    intro w1 A1 n1 c1 hO1
    exact goodCs_any A1 n1 c1 L w1 (by rw [← hO1.len, List.length_map]) hO1.rd (Nat.le_trans hO1.cap.1 hO1.cap.2) hsz
  clear hsz hlen
  by_cases hq : st2 ≠ none ∧ goodCls L = true
  · simp only [if_pos hq]
    have HS := Lib.hid (fun W A n c hR hg => soundC_any S g 94 st2 A n c (goodCls L) W enters_gdC hR hg)
    simp only [if_pos hq] at HS
    clear hq
    go_enter Tryz.func105, Tryz.ntmps105
    go_upto_region 1 with fail
    have hba := b0 w (.cells #[.pointer (some ⟨g, 0, none⟩)] 29)
    have hX := blk_new w #[.pointer (some ⟨g, 0, none⟩)] 29
    have hRa := hR.below hba
    have hLa := hL.keep hba
    have hGa := grown_below hba (some g)
    have hsz1 : (w.alloc (.cells #[.pointer (some ⟨g, 0, none⟩)] 29)).heap.size = w.heap.size + 1 := by simp
    clear hR hL hless
    generalize w.alloc (.cells #[.pointer (some ⟨g, 0, none⟩)] 29) = W at hba hX hRa hLa hGa hsz1 ⊢
    have hne : w.heap.size ≠ g := by omega
    have hTF : TakesF S g 150 #[.pointer (some ⟨w.heap.size, 0, none⟩)] clV clStep W := fun W' st' hg hR' => takeC1_any S g w.heap.size st' W' (hLa.grown hRa hg) hR' (grown_cell (hX.cell 0) hg hne)
    have HT2 := Lib.hid (HT.out W _ hLa hRa hTF)
    rw [hsz1] at HT2
    have c0 := hX.cell 0
    clear HT hRa hLa
    go_wp2_with fail
    refine HT2.out.mono ?_
    rintro e w1 ⟨⟨A1, n1, c1, rfl, hO1⟩, hR1, hg1⟩
    have hX1 := grown_row hX hg1 hne
    have c1' := hX1.cell 0
    have hG1 := hGa.trans hg1
    have HS2 := Lib.hid (HS.out w1 A1 n1 c1 hR1 fun _ => HGd.out w1 A1 n1 c1 hO1)
    clear HS HGd hX hX1 HT2 hTF c0
    go_wp2_with fail
    refine HS2.out.mono ?_
    rintro e w2 ⟨rfl, hb2⟩
    go_wp2_with fail
    go_ret2
    exact ⟨⟨A1, n1, c1, rfl, (hO1.keep hb2).less (Nat.le_succ _)⟩, hR1.below hb2, hG1.trans (grown_below hb2 (some g))⟩
  · simp only [if_neg hq]
    have HS := Lib.hid (fun W A n c hR hg => soundC_any S g 94 st2 A n c (goodCls L) W enters_gdC hR hg)
    simp only [if_neg hq] at HS
    clear hq
    go_enter Tryz.func105, Tryz.ntmps105
    go_upto_region 1 with fail
    have hba := b0 w (.cells #[.pointer (some ⟨g, 0, none⟩)] 29)
    have hX := blk_new w #[.pointer (some ⟨g, 0, none⟩)] 29
    have hRa := hR.below hba
    have hLa := hL.keep hba
    have hGa := grown_below hba (some g)
    have hsz1 : (w.alloc (.cells #[.pointer (some ⟨g, 0, none⟩)] 29)).heap.size = w.heap.size + 1 := by simp
    clear hR hL hless
    generalize w.alloc (.cells #[.pointer (some ⟨g, 0, none⟩)] 29) = W at hba hX hRa hLa hGa hsz1 ⊢
    have hne : w.heap.size ≠ g := by omega
    have hTF : TakesF S g 150 #[.pointer (some ⟨w.heap.size, 0, none⟩)] clV clStep W := fun W' st' hg hR' => takeC1_any S g w.heap.size st' W' (hLa.grown hRa hg) hR' (grown_cell (hX.cell 0) hg hne)
    have HT2 := Lib.hid (HT.out W _ hLa hRa hTF)
    rw [hsz1] at HT2
    have c0 := hX.cell 0
    clear HT hRa hLa
    go_wp2_with fail
    refine HT2.out.mono ?_
    rintro e w1 ⟨⟨A1, n1, c1, rfl, hO1⟩, hR1, hg1⟩
    have hX1 := grown_row hX hg1 hne
    have c1' := hX1.cell 0
    have hG1 := hGa.trans hg1
    have HS2 := Lib.hid (HS.out w1 A1 n1 c1 hR1 fun _ => HGd.out w1 A1 n1 c1 hO1)
    clear HS HGd hX hX1 HT2 hTF c0
    go_wp2_with fail
    refine HS2.out.mono ?_
    rintro e w2 ⟨rfl, hb2⟩
    go_wp2_with fail
    go_ret2
    exact ⟨⟨A1, n1, c1, rfl, (hO1.keep hb2).less (Nat.le_succ _)⟩, hR1.below hb2, hG1.trans (grown_below hb2 (some g))⟩

set_option maxRecDepth 100000 in
set_option maxHeartbeats 4000000 in
theorem takeL_any (S : Addr) (g : Nat) (st : Rest) (w : World) (hL : LaidS S w) (hR : RdrP S w g st) :
    Calls Tryz.prog 11 #[.pointer (some ⟨g, 0, none⟩)] w fun e w' => TakenX S g 49 11 Ln.cells (outG takeLnB goodLns st 4096) w e w' := by
  rw [← got_is (f := takeLnB) (s := lnStep) lnStep_is]
  have hlt := hR.lt
  have hless : LessG lnStep := less_of (f := takeLnB) lnStep_is takeLn_le
  have hsz := rep_all (P := Ln.fits) ln_fits (numOf st 4096).1 (numOf st 4096).2
  have hlen := Nat.le_trans (rep_len lnStep (numOf st 4096).1 (numOf st 4096).2) (numOf_lt st 4096).1
  have HT := Lib.hid (fun W lb hL hR hf => takeListL_any S g 31 lb lnStep st 4096 W enters_tkL hL hR (by omega) hless hf)
  unfold gotG
  generalize repG lnStep (numOf st 4096).1 (numOf st 4096).2 = q at HT hsz hlen ⊢
  obtain ⟨L, st2⟩ := q
  dsimp only at HT hsz hlen ⊢
  suffices hh : Calls Tryz.prog 11 #[.pointer (some ⟨g, 0, none⟩)] w fun e w' => (∃ (A : Option Addr) (n c : Nat), e = .returned (if st2 ≠ none ∧ goodLns L = true then .tuple #[.slice A n c, .int .i64 0] else .tuple #[.slice none 0 0, .int .i64 2]) ∧ OwnX 49 11 w.heap.size w' A n c (L.map Ln.cells)) ∧ RdrP S w' g st2 ∧ w.grownBy w' (some g) by
    refine hh.mono fun e w' h => ?_
    obtain ⟨⟨A, n, c, he, hO⟩, hR, hG⟩ := h
    refine ⟨?_, hG⟩
    cases st2 with
    | none => exact ⟨by rw [he, if_neg (fun h => h.1 rfl)], none, hR⟩
    | some b =>
      dsimp only
      cases hgd : goodLns L with
      | false =>
        rw [if_neg Bool.false_ne_true]
        exact ⟨by rw [he, if_neg (fun h => by rw [hgd] at h; cases h.2)], some b, hR⟩
      | true =>
        rw [if_pos rfl]
        exact ⟨⟨A, n, c, by rw [he, if_pos ⟨by simp, hgd⟩], hO⟩, hR⟩
  have HGd : Hid (∀ (w1 : World) (A1 : Option Addr) (n1 c1 : Nat), OwnX 49 11 (w.heap.size + 1) w1 A1 n1 c1 (L.map Ln.cells) → Calls Tryz.prog 35 #[.slice A1 n1 c1] w1 fun e w' => e = .returned (.bool (goodLns L)) ∧ Below w1.heap.size w1 w') := by
    show ∀ (w1 : World) (A1 : Option Addr) (n1 c1 : Nat), _ → _
    intro w1 A1 n1 c1 hO1
    exact goodLs_any A1 n1 c1 L w1 (by rw [← hO1.len, List.length_map]) hO1.rd (Nat.le_trans hO1.cap.1 hO1.cap.2) hsz
  clear hsz hlen
  by_cases hq : st2 ≠ none ∧ goodLns L = true
  · simp only [if_pos hq]
    have HS := Lib.hid (fun W A n c hR hg => soundL_any S g 35 st2 A n c (goodLns L) W enters_gdL hR hg)
    simp only [if_pos hq] at HS
    clear hq
    go_enter Tryz.func11, Tryz.ntmps11
    go_upto_region 1 with fail
    have hba := b0 w (.cells #[.pointer (some ⟨g, 0, none⟩)] 29)
    have hX := blk_new w #[.pointer (some ⟨g, 0, none⟩)] 29
    have hRa := hR.below hba
    have hLa := hL.keep hba
    have hGa := grown_below hba (some g)
    have hsz1 : (w.alloc (.cells #[.pointer (some ⟨g, 0, none⟩)] 29)).heap.size = w.heap.size + 1 := by simp
    clear hR hL hless
    generalize w.alloc (.cells #[.pointer (some ⟨g, 0, none⟩)] 29) = W at hba hX hRa hLa hGa hsz1 ⊢
    have hne : w.heap.size ≠ g := by omega
    have hTF : TakesF S g 31 #[.pointer (some ⟨w.heap.size, 0, none⟩)] lnV lnStep W := fun W' st' hg hR' => takeL1_any S g w.heap.size st' W' (hLa.grown hRa hg) hR' (grown_cell (hX.cell 0) hg hne)
    have HT2 := Lib.hid (HT.out W _ hLa hRa hTF)
    rw [hsz1] at HT2
    have c0 := hX.cell 0
    clear HT hRa hLa
    go_wp2_with fail
    refine HT2.out.mono ?_
    rintro e w1 ⟨⟨A1, n1, c1, rfl, hO1⟩, hR1, hg1⟩
    have hX1 := grown_row hX hg1 hne
    have c1' := hX1.cell 0
    have hG1 := hGa.trans hg1
    have HS2 := Lib.hid (HS.out w1 A1 n1 c1 hR1 fun _ => HGd.out w1 A1 n1 c1 hO1)
    clear HS HGd hX hX1 HT2 hTF c0
    go_wp2_with fail
    refine HS2.out.mono ?_
    rintro e w2 ⟨rfl, hb2⟩
    go_wp2_with fail
    go_ret2
    exact ⟨⟨A1, n1, c1, rfl, (hO1.keep hb2).less (Nat.le_succ _)⟩, hR1.below hb2, hG1.trans (grown_below hb2 (some g))⟩
  · simp only [if_neg hq]
    have HS := Lib.hid (fun W A n c hR hg => soundL_any S g 35 st2 A n c (goodLns L) W enters_gdL hR hg)
    simp only [if_neg hq] at HS
    clear hq
    go_enter Tryz.func11, Tryz.ntmps11
    go_upto_region 1 with fail
    have hba := b0 w (.cells #[.pointer (some ⟨g, 0, none⟩)] 29)
    have hX := blk_new w #[.pointer (some ⟨g, 0, none⟩)] 29
    have hRa := hR.below hba
    have hLa := hL.keep hba
    have hGa := grown_below hba (some g)
    have hsz1 : (w.alloc (.cells #[.pointer (some ⟨g, 0, none⟩)] 29)).heap.size = w.heap.size + 1 := by simp
    clear hR hL hless
    generalize w.alloc (.cells #[.pointer (some ⟨g, 0, none⟩)] 29) = W at hba hX hRa hLa hGa hsz1 ⊢
    have hne : w.heap.size ≠ g := by omega
    have hTF : TakesF S g 31 #[.pointer (some ⟨w.heap.size, 0, none⟩)] lnV lnStep W := fun W' st' hg hR' => takeL1_any S g w.heap.size st' W' (hLa.grown hRa hg) hR' (grown_cell (hX.cell 0) hg hne)
    have HT2 := Lib.hid (HT.out W _ hLa hRa hTF)
    rw [hsz1] at HT2
    have c0 := hX.cell 0
    clear HT hRa hLa
    go_wp2_with fail
    refine HT2.out.mono ?_
    rintro e w1 ⟨⟨A1, n1, c1, rfl, hO1⟩, hR1, hg1⟩
    have hX1 := grown_row hX hg1 hne
    have c1' := hX1.cell 0
    have hG1 := hGa.trans hg1
    have HS2 := Lib.hid (HS.out w1 A1 n1 c1 hR1 fun _ => HGd.out w1 A1 n1 c1 hO1)
    clear HS HGd hX hX1 HT2 hTF c0
    go_wp2_with fail
    refine HS2.out.mono ?_
    rintro e w2 ⟨rfl, hb2⟩
    go_wp2_with fail
    go_ret2
    exact ⟨⟨A1, n1, c1, rfl, (hO1.keep hb2).less (Nat.le_succ _)⟩, hR1.below hb2, hG1.trans (grown_below hb2 (some g))⟩
end Go.Proofs.YtpjleeeligahaaaGreatDoor
