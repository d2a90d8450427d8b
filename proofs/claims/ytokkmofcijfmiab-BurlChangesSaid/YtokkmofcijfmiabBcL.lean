/-
  WHAT IS PROVED: the law BurlChanges. Conditions: those typed in each theorem.
-/
import Derived.Test.YtokkmofcijfmiabBcA
import Derived.Test.YtokkmofcijfmiabBcB
import Derived.Test.YtokkmofcijfmiabGQ18
import Derived.Test.YtokkmofcijfmiabGQ14
import Derived.Test.YtokkmofcijfmiabRefDo
import Derived.Test.YtokkmofcijfmiabBuJ
import Derived.Test.YtokkmofcijfmiabBuC
import Derived.Test.YtokkmofcijfmiabRRefGood
namespace Go.Proofs.Ytokkmofcijfmiab
open Go.RowKit

theorem en_spinney_spinneylaw28_BurlChanges : ∀ args w, (callFunc 5 args).run Try.prog w = .ok (.enter 5 args) w := enters_of Try.func5 (by kernel_rfl) rfl
theorem en_spinney_spinneyref02_Good : ∀ args w, (callFunc 16 args).run Try.prog w = .ok (.enter 16 args) w := enters_of Try.func16 (by kernel_rfl) rfl
theorem en_spinney_spinneyref02_Do : ∀ args w, (callFunc 17 args).run Try.prog w = .ok (.enter 17 args) w := enters_of Try.func17 (by kernel_rfl) rfl
theorem en_spinney_spinneyref01_Ints : ∀ args w, (callFunc 20 args).run Try.prog w = .ok (.enter 20 args) w := enters_of Try.func20 (by kernel_rfl) rfl

theorem setK_len {ky : ByteArray} {l : List Cl} (hl : Rise l) (v : Vl) : (setK ky v l).length ≤ l.length + 1 := by
  obtain ⟨A, M, B, hC⟩ := cut3 ky l hl
  rw [setK_is hC, hC.is]
  unfold vCl
  split <;> simp <;> omega
theorem burlC_size (l : List Cl) : (burlC l).size = 17 := by unfold burlC; rw [buC_size, lvTo_len l]
theorem burl_neqC (i j : Nat) (r : Nat) (L : List Nat) (hl : L.length = 16) (W : World) : ((do eqGuard .neq 39 (.tmp i) (.tmp j) (.agg (buC r L)) (.agg (buC r L)); binOp .neq 39 (.agg (buC r L)) (.agg (buC r L))) : Sem Value).run Try.prog W = .ok (.bool false) W := by
  have ha := arr_eqT L hl W
  have h0 := buC_0 r L
  have he := bu_ext r L hl
  generalize buC r L = cs at h0 he ⊢
  generalize buL L = ls at ha he
  go_simp
theorem st_buR {W : World} {b : Nat} {cs : Array Value} (l : List Cl) (hX : Blk W b cs 39) (hz : cs.size = 17) : (Instr.storeAt 39 (.pointer (some ⟨b, 0, none⟩)) (.agg (burlC l))).run Try.prog W = .ok () (W.setRow b (burlC l)) := by
  have hi : (Try.prog.info? 39).map (·.size) = some (burlC l).size := by
    rw [burlC_size]
    kernel_rfl
  simp only [Instr.storeAt, Instr.sureAddr, Sem.run_bind, Sem.run_pure, Result.andThen_ok]
  exact run_storeVar_row W b 39 39 cs (burlC l) hX hi (by rw [hz, burlC_size]) (bu_one _ _)
theorem x_alBu {w : World} {ρ : Operand → Value} {d : Option Tmp} {ty : TypeId} {p : String} {af : Array Edge} {gd : Option (Nat × Bool)} : (execOp ρ ⟨d, .alloc 39, ty, p, af, gd⟩).run Try.prog w = .ok (.value (.pointer (some ⟨w.heap.size, 0, none⟩))) (w.alloc (.cells (buC 0 (List.replicate 16 0)) 39)) := by
  unfold execOp
  dsimp only
  rw [Sem.run_bind, alBu]
  rfl
/-- A burl changed is that of the cells changed. -/
theorem chg_any (l l2 : List Cl) (ky : ByteArray) (a b : Vl) (w : World) (h : chgL (lvTo l) ky a b = lvTo l2) (ha : OkV a) (hb : OkV b) (hky : ky.size ≤ 1000) : Calls Try.prog 19 #[.agg (burlC l), .string ky, .agg #[.int .i64 a.1, .int .i64 a.2.1, .string a.2.2], .agg #[.int .i64 b.1, .int .i64 b.2.1, .string b.2.2]] w fun e w' => e = .returned (.agg (burlC l2)) ∧ Below w.heap.size w w' := by
  have c := change_any (rootL (lvTo l)) (lvTo l) ky a.1 a.2.1 b.1 b.2.1 a.2.2 b.2.2 w (lvTo_len l) (lvTo_lt l) hky ha.1 ha.2.1 ha.2.2 hb.1 hb.2.1 hb.2.2
  have e : chgL' (lvTo l) ky (shr28 ky a.1 a.2.1 a.2.2) (shr28 ky b.1 b.2.1 b.2.2) = lvTo l2 := h
  rw [e] at c
  exact c
theorem good_nil : goodCls [] = true := rise_good List.Pairwise.nil (by simp)
theorem good_tail {c : Cl} {r : List Cl} (h : goodCls (c :: r) = true) : goodCls r = true := rise_good (List.pairwise_cons.1 (good_rise h)).2 fun x hx => goodLs_mem h (List.mem_cons_of_mem _ hx)
theorem okV_cl {c : Cl} (h : c.good = true) (hf : c.fits) : OkV (c.k, c.x, c.s) := ⟨(cl_in h).2.2.2.2, hf.2.2.1, hf.2.2.2⟩
theorem partsSelf (r : Nat) (L : List Nat) : parts r r L L = [] := by unfold parts; rw [if_pos rfl]
theorem x_cut1 {w : World} {ρ : Operand → Value} {d : Option Tmp} {i : Nat} {ad : Addr} {n c : Nat} {ty : TypeId} {p : String} {af : Array Edge} {gd : Option (Nat × Bool)} (h : ρ (.tmp i) = .slice (some ad) n c) (hc : ρ (.const (.int .i64 1)) = .int .i64 1) (h1 : 1 ≤ n) (hnc : n ≤ c) : (execOp ρ ⟨d, .slice 22 (.tmp i) (some (.const (.int .i64 1))) none none, ty, p, af, gd⟩).run Try.prog w = .ok (.value (.slice (cutC ad c) (n - 1) (c - 1))) w := by
  unfold execOp
  dsimp only
  rw [h]; simp only [Option.map_none, Option.map_some, hc, Sem.run_bind, run_cutC w ad n c h1 hnc]; rfl
theorem ix_c0 (W : World) (ad : Addr) (n c : Nat) (h : 0 < n) : (Instr.indexAt 22 (.slice (some ad) n c) (.int .i64 0)).run Try.prog W = .ok (.pointer (some (ad.add (0 * 4)))) W := cix W ad n c 0 h
theorem x_ix0 {w : World} {ρ : Operand → Value} {d : Option Tmp} {i : Nat} {ad : Addr} {n c : Nat} {ty : TypeId} {p : String} {af : Array Edge} {gd : Option (Nat × Bool)} (h : ρ (.tmp i) = .slice (some ad) n c) (hc : ρ (.const (.int .i64 0)) = .int .i64 0) (hn : 0 < n) : (execOp ρ ⟨d, .indexAddr 22 (.tmp i) (.const (.int .i64 0)), ty, p, af, gd⟩).run Try.prog w = .ok (.value (.pointer (some (ad.add (0 * 4))))) w := by
  unfold execOp
  dsimp only
  rw [h, hc, Sem.run_bind, ix_c0 w ad n c hn]
  rfl
set_option maxRecDepth 100000 in
set_option maxHeartbeats 4000000 in
theorem burlChanges_m1 (A : Option Addr) (n c : Nat) (A2 : Option Addr) (m d : Nat) (w : World) (hs : 60 < n) : Calls Try.prog 5 #[.slice A n c, .slice A2 m d] w fun e w' => e = .returned (.bool true) ∧ Below w.heap.size w w' := by
  have i1 : (60 : Int) < (n : Int) := by omega
  go_enter Try.func5, Try.ntmps5
  go_wp2_with fail
  refine (awake28_any w).mono ?_
  rintro e w1 ⟨rfl, hb1⟩
  go_wp2_with fail
  refine (awake28_any _).mono ?_
  rintro e w9 ⟨rfl, hb9⟩
  go_wp2_with fail
  go_ret
  exact ⟨rfl, hb1.trans (hb9.mono hb1.size)⟩
set_option maxRecDepth 100000 in
set_option maxHeartbeats 4000000 in
theorem burlChanges_m2 (A : Option Addr) (n c : Nat) (A2 : Option Addr) (m d : Nat) (w : World) (hs : n ≤ 60) (hs2 : 40 < m) : Calls Try.prog 5 #[.slice A n c, .slice A2 m d] w fun e w' => e = .returned (.bool true) ∧ Below w.heap.size w w' := by
  have i1 : ¬ (60 : Int) < (n : Int) := by omega
  have i2 : (40 : Int) < (m : Int) := by omega
  go_enter Try.func5, Try.ntmps5
  go_wp2_with fail
  refine (awake28_any w).mono ?_
  rintro e w1 ⟨rfl, hb1⟩
  go_wp2_with fail
  refine (awake28_any _).mono ?_
  rintro e w9 ⟨rfl, hb9⟩
  go_wp2_with fail
  go_ret
  exact ⟨rfl, hb1.trans (hb9.mono hb1.size)⟩
set_option maxRecDepth 100000 in
set_option maxHeartbeats 4000000 in
theorem burlChanges_b (A : Option Addr) (n c : Nat) (A2 : Option Addr) (m d : Nat) (l : List Cl) (w : World) (hn : l.length = n) (hr : RdX 4 w.heap.size w A (l.map Cl.cells)) (hm : n ≤ 60) (hc : n ≤ c) (hf : ∀ x, x ∈ l → x.fits) (hm2 : m ≤ 40) (hg : goodCls l = false) : Calls Try.prog 5 #[.slice A n c, .slice A2 m d] w fun e w' => e = .returned (.bool true) ∧ Below w.heap.size w w' := by
  have i1 : ¬ (60 : Int) < (n : Int) := by omega
  have i2 : ¬ (40 : Int) < (m : Int) := by omega
  go_enter Try.func5, Try.ntmps5
  go_wp2_with fail
  refine (awake28_any w).mono ?_
  rintro e w1 ⟨rfl, hb1⟩
  have cG := refGoodCs_any A n c l w1 hn (hr.keep hb1 (Nat.le_refl _)) hb1.size (Nat.le_trans hm (by decide)) hf
  rw [hg] at cG
  go_wp2_with fail
  refine cG.mono ?_
  rintro e w2 ⟨rfl, hb2⟩
  have hB2 := hb1.trans (hb2.mono hb1.size)
  go_wp2_with fail
  refine (awake28_any _).mono ?_
  rintro e w9 ⟨rfl, hb9⟩
  go_wp2_with fail
  go_ret
  exact ⟨rfl, hB2.trans (hb9.mono hB2.size)⟩
set_option maxRecDepth 100000 in
set_option maxHeartbeats 4000000 in
theorem burlChanges_go (A : Option Addr) (n c : Nat) (A2 : Option Addr) (m d : Nat) (l : List Cl) (ops : List Op8) (w : World) (hn : l.length = n) (hr : RdX 4 w.heap.size w A (l.map Cl.cells)) (hm : n ≤ 60) (hc : n ≤ c) (hf : ∀ x, x ∈ l → x.fits) (hn2 : ops.length = m) (hr2 : RdX 8 w.heap.size w A2 (ops.map Op8.cells)) (hm2 : m ≤ 40) (hf2 : ∀ x, x ∈ ops → x.fits) (hg : goodCls l = true) : Calls Try.prog 5 #[.slice A n c, .slice A2 m d] w fun e w' => e = .returned (.bool true) ∧ Below w.heap.size w w' := by
  have i1 : ¬ (60 : Int) < (n : Int) := by omega
  have i2 : ¬ (40 : Int) < (m : Int) := by omega
  have HN := Lib.hid hn
  have HN2 := Lib.hid hn2
  have HR := Lib.hid (fun W (h : Below w.heap.size w W) => hr.keep (W' := W) h (Nat.le_refl _))
  have HR2 := Lib.hid (fun W (h : Below w.heap.size w W) => hr2.keep (W' := W) h (Nat.le_refl _))
  go_enter Try.func5, Try.ntmps5
  go_wp2_with fail
  refine (awake28_any w).mono ?_
  rintro e w1 ⟨rfl, hb1⟩
  have cG := refGoodCs_any A n c l w1 hn (hr.keep hb1 (Nat.le_refl _)) hb1.size (Nat.le_trans hm (by decide)) hf
  rw [hg] at cG
  go_wp2_with fail
  refine cG.mono ?_
  rintro e w2 ⟨rfl, hb2⟩
  have hB2 := hb1.trans (hb2.mono hb1.size)
  have cO := buOf_good A n c l w2 hn ((HR.out w2 hB2).more hB2.size) (by omega) hf hg
  go_upto_region 3 with fail
  refine wp_region_lit ?_
  refine fl_start ?_
  generalize ha : Act.mk _ _ = a0
  have hn : a0.tmps.size = 163 := by rw [← ha]; kernel_rfl
  have h0 : (fr a0 []).eval (.tmp 0) = .slice A n c := by rw [← ha]; kernel_rfl
  refine fl_know hn rfl h0 ?_
  clear h0
  refine g_mv hn ?_
  refine g_c1x en_spinney_burl_Of hn (R := fun v wz => v = .tuple #[.agg (burlC l), .int .i64 0] ∧ Below w2.heap.size w2 wz) (cO.mono fun _ _ ⟨he, hb3⟩ => ⟨_, he, rfl, hb3⟩) ?_
  rintro v w3a ⟨rfl, hbxa⟩
  refine g_mv hn ?_
  refine g_ex hn ?_
  refine g_ex hn ?_
  refine al_row hn (alBu w3a) ?_
  intro q1 w3b hqx hYxa hbxb
  refine g_str (c := burlC l) hYxa ?_ (hs := by rw [burlC_size]; rfl) (hi := by rw [burlC_size]; kernel_rfl) (h1 := bu_one _ _)
  intro w3 hox hYx
  refine g_as hn ?_
  refine fl_end ?_
  clear hn
  subst ha
  dsimp only [fr, cnd, Act.put, cond_true]
  simp only [List.setIfInBounds_toArray, List.set_cons_zero, List.set_cons_succ]
  have hkx : Below w2.heap.size w2 w3 := (hbxa.trans (hbxb.mono hbxa.size)).trans (hox.below (by have := hbxa.size; omega))
  have hqx' : w2.heap.size ≤ q1 := by have := hbxa.size; omega
  clear hYxa hbxa hbxb hox hqx
  have hB3 : Below w.heap.size w w3 := hB2.trans (hkx.mono hB2.size)
  have hq1w : w.heap.size ≤ q1 := by have := hB2.size; omega
  have l1 := ld_bu hYx (lvTo_len l)
  go_upto_region 4 with fail
  refine wp_region_lit ?_
  refine fl_start ?_
  generalize ha : Act.mk _ _ = a0
  have hn : a0.tmps.size = 163 := by rw [← ha]; kernel_rfl
  have h5 : (fr a0 []).eval (.tmp 5) = .pointer (some ⟨q1, 0, none⟩) := by rw [← ha]; kernel_rfl
  refine fl_know hn rfl h5 ?_
  clear h5
  refine g_ld hn ?_
  refine al_row hn (alBu w3) ?_
  intro q2 w4 hqy hYya hby
  refine g_str (c := burlC l) hYya ?_ (hs := by rw [burlC_size]; rfl) (hi := by rw [burlC_size]; kernel_rfl) (h1 := bu_one _ _)
  intro w5 hoy hYy
  refine fl_end ?_
  clear hn l1
  subst ha
  dsimp only [fr, cnd, Act.put, cond_true]
  simp only [List.setIfInBounds_toArray, List.set_cons_zero, List.set_cons_succ]
  have hky : Below w3.heap.size w3 w5 := hby.trans (hoy.below (by omega))
  have hq12 : q1 < q2 := by have := hYx.lt; omega
  have hX5 := hYx.keep hky
  have hB5 : Below w.heap.size w w5 := hB3.trans (hky.mono hB3.size)
  have hN5 : RdN 4 q1 w5.heap.size w5 A (l.map Cl.cells) := (HR.out w5 hB5).apart hq1w hB5.size
  have HGF : Hid (goodCls l = true ∧ ∀ c, c ∈ l → c.fits) := ⟨hg, hf⟩
  clear hqy hYya hby hoy hky hYx hkx hqx' cO cG hB3 hB2 hb1 hb2 hr hr2 hn hn2
  go_wp2_with fail
  go_loopw [8, 52] (fun t8 i wr => ∃ (k : Nat) (nl : List Cl) (A8 : Option Addr) (n8 c8 : Nat), k ≤ m ∧ i = .int .i64 k ∧ t8 = .slice A8 n8 c8 ∧ nl.length = n8 ∧ n8 ≤ n + k ∧ RdN 4 q1 wr.heap.size wr A8 (nl.map Cl.cells) ∧ Hid (goodCls nl = true ∧ ∀ c, c ∈ nl → c.fits) ∧ Blk wr q1 (burlC nl) 39 ∧ Blk wr q2 (burlC l) 39 ∧ Below w.heap.size w wr) (fun _ i _ => m - (intOf i).toNat)
  case atStart => exact ⟨0, l, A, n, c, Nat.zero_le _, rfl, rfl, HN.out, by omega, hN5, HGF, hX5, hYy, hB5⟩
  case round =>
    clear hX5 hYy hB5 hN5 HGF
    obtain ⟨k, nl, A8, n8, c8, hk, rfl, rfl, hl8, hn8, hN, hgf, hX, hY, hB⟩ := hrel
    by_cases hlt : k < m
    · obtain ⟨x, hx⟩ : ∃ x, ops[k]? = some x := ⟨_, List.getElem?_eq_getElem (show k < ops.length by have := HN2.out; omega)⟩
      obtain ⟨ad2, rfl, _, hcx⟩ := HR2.out wr hB k x.cells (by rw [List.getElem?_map, hx]; rfl)
      have i3 : (k : Int) < (m : Int) := by omega
      have hxf := hf2 x (List.mem_of_getElem? hx)
      have ix := oix wr ad2 m d k hlt
      have ld := old_op hcx
      clear hcx
      go_upto_region 10 with fail
      refine wp_region_lit ?_
      refine fl_start ?_
      generalize ha : Act.mk _ _ = a0
      have hn : a0.tmps.size = 163 := by rw [← ha]; kernel_rfl
      have h50 : (fr a0 []).eval (.tmp 50) = .slice (some ad2) m d := by rw [← ha]; kernel_rfl
      refine fl_know hn rfl h50 ?_
      clear h50
      have h52 : (fr a0 [(50, true, .slice (some ad2) m d)]).eval (.tmp 52) = .int .i64 (k : Int) := by rw [← ha]; kernel_rfl
      refine fl_know hn rfl h52 ?_
      clear h52
      refine g_ix hn ?_
      refine g_ld hn ?_
      refine al_row hn (alOp wr) ?_
      intro g10 w1 hqa hYa hba
      refine g_str (c := x.cells) hYa ?_ (h1 := op_oneC x)
      intro w2 hoa hO2
      refine fl_end ?_
      clear hn
      subst ha
      dsimp only [fr, cnd, Act.put, cond_true]
      simp only [List.setIfInBounds_toArray, List.set_cons_zero, List.set_cons_succ]
      have hkA : Below wr.heap.size wr w2 := hba.trans (hoa.below (by omega))
      have hg10 : wr.heap.size ≤ g10 := by omega
      have hN2 := (hN.keep hkA (Nat.le_refl _)).more hkA.size
      have hX2 := hX.keep hkA
      have hY2 := hY.keep hkA
      have hB2 : Below w.heap.size w w2 := hB.trans (hkA.mono hB.size)
      have hq10 : q1 < g10 ∧ q2 < g10 := by have := hX.lt; have := hY.lt; omega
      clear ix ld hqa hYa hba hoa hN hX hY hB hg10 hkA
      have lo := old_blk hO2
      go_upto_region 11 with fail
      refine wp_region_lit ?_
      refine fl_start ?_
      generalize ha : Act.mk _ _ = a0
      have hn : a0.tmps.size = 163 := by rw [← ha]; kernel_rfl
      have h10 : (fr a0 []).eval (.tmp 10) = .pointer (some ⟨g10, 0, none⟩) := by rw [← ha]; kernel_rfl
      refine fl_know hn rfl h10 ?_
      clear h10
      refine g_ld hn ?_
      refine g_c1x en_spinney_spinneyref02_Good hn (R := fun v wz => v = .bool (opB x.K x.ky x.ka x.na x.sa x.kb x.nb x.sb) ∧ Below w2.heap.size w2 wz) ((refOpGood_any x.K x.ka x.na x.kb x.nb x.ky x.sa x.sb w2 hxf.1 hxf.2.1 hxf.2.2.1).mono fun _ _ ⟨he, hb3⟩ => ⟨_, he, rfl, hb3⟩) ?_
      rintro v w3 ⟨rfl, hb3⟩
      refine g_nt hn ?_
      refine fl_end ?_
      clear hn lo
      subst ha
      dsimp only [fr, cnd, Act.put, cond_true]
      simp only [List.setIfInBounds_toArray, List.set_cons_zero, List.set_cons_succ]
      have hN3 := (hN2.keep hb3 (Nat.le_refl _)).more hb3.size
      have hX3 := hX2.keep hb3
      have hY3 := hY2.keep hb3
      have hO3 := hO2.keep hb3
      have hB3 : Below w.heap.size w w3 := hB2.trans (hb3.mono hB2.size)
      clear hN2 hX2 hY2 hO2 hB2 hb3
      cases hG : opB x.K x.ky x.ka x.na x.sa x.kb x.nb x.sb with
      | false =>
        go_wp2_with fail
        refine ⟨?_, ?_⟩
        · first
          | exact ⟨k + 1, nl, A8, n8, c8, by omega, by go_num, rfl, hl8, by omega, hN3, hgf, hX3, hY3, hB3⟩
          | repeat apply Exists.intro
            refine ⟨?_, rfl⟩
            exact ⟨k + 1, nl, A8, n8, c8, by omega, by go_num, rfl, hl8, by omega, hN3, hgf, hX3, hY3, hB3⟩
        · simp [intOf]; omega
      | true =>
        have hG2 := hG
        unfold opB at hG2
        simp only [Bool.and_eq_true] at hG2
        obtain ⟨⟨⟨hkB, _⟩, _⟩, hKd⟩ := hG2
        have hK4 : x.K = 1 ∨ x.K = 2 ∨ x.K = 3 ∨ x.K = 4 := by
          have h := of_decide_eq_true hKd
          omega
        have hks : x.ky.size ≤ 20 := by
          have h1 := (keyB_all hkB).2.2
          have h2 : x.ky.data.toList.length = x.ky.size := Array.length_toList
          omega
        have hRi := good_rise hgf.out.1
        have hwas := okV_at (ky := x.ky) hgf.out.1 hgf.out.2
        have hcut : ∃ was : Vl, was = atV x.ky nl := ⟨_, rfl⟩
        obtain ⟨was, hwe⟩ := hcut
        have HWE := Lib.hid hwe
        rw [← hwe] at hwas
        have cAt := refAt_any A8 n8 c8 nl x.ky w3 hl8 hN3.rd (by omega)
        rw [← hwe] at cAt
        have f1 := fop1 w3 g10
        have l1 := ld_str (hO3.cell 1)
        clear hwe
        go_upto_region 12 with fail
        refine wp_region_lit ?_
        refine fl_start ?_
        generalize ha : Act.mk _ _ = a0
        have hn : a0.tmps.size = 163 := by rw [← ha]; kernel_rfl
        have h8 : (fr a0 []).eval (.tmp 8) = .slice A8 n8 c8 := by rw [← ha]; kernel_rfl
        refine fl_know hn rfl h8 ?_
        clear h8
        have h10 : (fr a0 [(8, true, .slice A8 n8 c8)]).eval (.tmp 10) = .pointer (some ⟨g10, 0, none⟩) := by rw [← ha]; kernel_rfl
        refine fl_know hn rfl h10 ?_
        clear h10
        refine g_mv hn ?_
        refine g_fd hn ?_
        refine g_ld hn ?_
        refine g_c2x en_spinney_spinneyref12_At hn (R := fun v wz => v = .agg #[.int .i64 was.1, .int .i64 was.2.1, .string was.2.2] ∧ Below w3.heap.size w3 wz) (cAt.mono fun _ _ ⟨he, hb3⟩ => ⟨_, he, rfl, hb3⟩) ?_
        rintro v w4 ⟨rfl, hb4⟩
        refine al_row hn (alVt w4) ?_
        intro g11 w5 hqb hYb hbb
        refine g_str (c := #[.int .i64 was.1, .int .i64 was.2.1, .string was.2.2]) hYb ?_ (h1 := va_oneC _ _ _)
        intro w6 hob hW6
        refine fl_end ?_
        clear hn f1 l1 cAt
        subst ha
        dsimp only [fr, cnd, Act.put, cond_true]
        simp only [List.setIfInBounds_toArray, List.set_cons_zero, List.set_cons_succ]
        have hkB2 : Below w3.heap.size w3 w6 := (hb4.trans (hbb.mono hb4.size)).trans (hob.below (by have := hb4.size; omega))
        have hg11 : w3.heap.size ≤ g11 := by have := hb4.size; omega
        have hN6 := (hN3.keep hkB2 (Nat.le_refl _)).more hkB2.size
        have hX6 := hX3.keep hkB2
        have hY6 := hY3.keep hkB2
        have hO6 := hO3.keep hkB2
        have hB6 : Below w.heap.size w w6 := hB3.trans (hkB2.mono hB3.size)
        have hq11 : g10 < g11 := by have := hO3.lt; omega
        clear hqb hYb hbb hob hb4 hN3 hX3 hY3 hO3 hB3 hg11 hkB2
        obtain ⟨v1, v2, v3, er, hdo⟩ : ∃ v1 v2 v3 er, doV x.K x.ka x.na x.kb x.nb was.1 was.2.1 x.sa x.sb was.2.2 = (v1, v2, v3, er) := ⟨_, _, _, _, rfl⟩
        have hnow : OkV (v1, v2, v3) := do_ok hG hwas hxf.2.2.2.1 hxf.2.2.2.2 hdo
        have cDo := refDo_any x.K x.ka x.na x.kb x.nb was.1 was.2.1 x.ky x.sa x.sb was.2.2 w6 hxf.2.2.2.1 ⟨hwas.2.1, hwas.2.2⟩ v1 v2 v3 er (Lib.hid hdo) hK4
        have lo := old_blk hO6
        have lw := vld (W := w6) (b := g11) (o := 0) (hW6.cell 0) (hW6.cell 1) (hW6.cell 2)
        go_upto_region 13 with fail
        refine wp_region_lit ?_
        refine fl_start ?_
        generalize ha : Act.mk _ _ = a0
        have hn : a0.tmps.size = 163 := by rw [← ha]; kernel_rfl
        have h10 : (fr a0 []).eval (.tmp 10) = .pointer (some ⟨g10, 0, none⟩) := by rw [← ha]; kernel_rfl
        refine fl_know hn rfl h10 ?_
        clear h10
        have h11 : (fr a0 [(10, true, .pointer (some ⟨g10, 0, none⟩))]).eval (.tmp 11) = .pointer (some ⟨g11, 0, none⟩) := by rw [← ha]; kernel_rfl
        refine fl_know hn rfl h11 ?_
        clear h11
        refine g_ld hn ?_
        refine g_ld hn ?_
        refine g_c2x en_spinney_spinneyref02_Do hn (R := fun v wz => v = pairV v1 v2 v3 er ∧ Below w6.heap.size w6 wz) (cDo.mono fun _ _ ⟨he, hb3⟩ => ⟨_, he, rfl, hb3⟩) ?_
        rintro v w7 ⟨rfl, hb7⟩
        refine g_mv hn ?_
        refine g_ex hn ?_
        refine g_ex hn ?_
        refine al_row hn (alVt w7) ?_
        intro g12 w8 hqc hYc hbc
        refine g_str (c := #[.int .i64 v1, .int .i64 v2, .string v3]) hYc ?_ (h1 := va_oneC _ _ _)
        intro w9 hoc hV9
        refine g_as hn ?_
        refine fl_end ?_
        clear hn lo lw cDo
        subst ha
        dsimp only [fr, cnd, Act.put, cond_true]
        simp only [List.setIfInBounds_toArray, List.set_cons_zero, List.set_cons_succ]
        have hkC : Below w6.heap.size w6 w9 := (hb7.trans (hbc.mono hb7.size)).trans (hoc.below (by have := hb7.size; omega))
        have hg12 : w6.heap.size ≤ g12 := by have := hb7.size; omega
        have hN9 := (hN6.keep hkC (Nat.le_refl _)).more hkC.size
        have hX9 := hX6.keep hkC
        have hY9 := hY6.keep hkC
        have hO9 := hO6.keep hkC
        have hW9 := hW6.keep hkC
        have hB9 : Below w.heap.size w w9 := hB6.trans (hkC.mono hB6.size)
        have hq12 : g11 < g12 := by have := hW6.lt; omega
        clear hqc hYc hbc hoc hb7 hN6 hX6 hY6 hO6 hW6 hB6 hg12 hkC
        have hfk : ∀ c, c ∈ nl → c.ky.size ≤ maxLen := fun c hc => (hgf.out.2 c hc).1
        have cSt := refSet_any A8 n8 c8 nl x.ky (v1, v2, v3) w9 hl8 hN9.rd (by omega) hxf.1 hfk
        have hch := chg_set (ky := x.ky) hRi (v1, v2, v3)
        have hsg := set_good (v := (v1, v2, v3)) hgf.out.1 hgf.out.2 hkB hnow
        have hsl := setK_len (ky := x.ky) hRi (v1, v2, v3)
        rw [← HWE.out] at hch
        have HCH := Lib.hid hch
        have HSG := Lib.hid hsg
        clear hch hsg hfk hRi HWE
        generalize setK x.ky (v1, v2, v3) nl = nl2 at cSt HCH HSG hsl
        have f1 := fop1 w9 g10
        have l1 := ld_str (hO9.cell 1)
        have lv := vld (W := w9) (b := g12) (o := 0) (hV9.cell 0) (hV9.cell 1) (hV9.cell 2)
        go_upto_region 14 with fail
        refine wp_region_lit ?_
        refine fl_start ?_
        generalize ha : Act.mk _ _ = a0
        have hn : a0.tmps.size = 163 := by rw [← ha]; kernel_rfl
        have h8 : (fr a0 []).eval (.tmp 8) = .slice A8 n8 c8 := by rw [← ha]; kernel_rfl
        refine fl_know hn rfl h8 ?_
        clear h8
        have h10 : (fr a0 [(8, true, .slice A8 n8 c8)]).eval (.tmp 10) = .pointer (some ⟨g10, 0, none⟩) := by rw [← ha]; kernel_rfl
        refine fl_know hn rfl h10 ?_
        clear h10
        have h12 : (fr a0 [(10, true, .pointer (some ⟨g10, 0, none⟩)), (8, true, .slice A8 n8 c8)]).eval (.tmp 12) = .pointer (some ⟨g12, 0, none⟩) := by rw [← ha]; kernel_rfl
        refine fl_know hn rfl h12 ?_
        clear h12
        refine g_mv hn ?_
        refine g_fd hn ?_
        refine g_ld hn ?_
        refine g_ld hn ?_
        refine g_cvx (vs := #[.slice A8 n8 c8, .string x.ky, .agg #[.int .i64 v1, .int .i64 v2, .string v3]]) en_spinney_spinneyref12_Set hn (fun hk => by simp only [List.map_toArray, List.map_cons, List.map_nil, lk_at hk (i := 69) rfl (fun _ => rfl) rfl, lk_at hk (i := 71) rfl (fun _ => rfl) rfl, lk_at hk (i := 72) rfl (fun _ => rfl) rfl]) (R := fun v wz => ∃ A9 n9 c9, v = .slice A9 n9 c9 ∧ OwnX tCl 4 w9.heap.size wz A9 n9 c9 (nl2.map Cl.cells) ∧ Below w9.heap.size w9 wz) (cSt.mono fun _ _ ⟨A9, n9, c9, he, hO, hb3⟩ => ⟨_, he, A9, n9, c9, rfl, hO, hb3⟩) ?_
        rintro v w10 ⟨A9, n9, c9, rfl, hP10, hb10⟩
        refine g_as hn ?_
        refine fl_end ?_
        clear hn f1 l1 lv cSt
        subst ha
        dsimp only [fr, cnd, Act.put, cond_true]
        simp only [List.setIfInBounds_toArray, List.set_cons_zero, List.set_cons_succ]
        have hl9 : nl2.length = n9 := by
          have h := hP10.len
          rw [List.length_map] at h
          exact h
        have hN10 := hP10.apart (q := q1) (by have := hX9.lt; omega)
        have hX10 := hX9.keep hb10
        have hY10 := hY9.keep hb10
        have hO10 := hO9.keep hb10
        have hW10 := hW9.keep hb10
        have hV10 := hV9.keep hb10
        have hB10 : Below w.heap.size w w10 := hB9.trans (hb10.mono hB9.size)
        clear hP10 hN9 hX9 hY9 hO9 hW9 hV9 hB9 hb10
        have cCh := chg_any nl nl2 x.ky was (v1, v2, v3) w10 HCH.out.1 hwas hnow (by omega)
        have lx := ld_bu hX10 (lvTo_len nl)
        have f1 := fop1 w10 g10
        have l1 := ld_str (hO10.cell 1)
        have lw := vld (W := w10) (b := g11) (o := 0) (hW10.cell 0) (hW10.cell 1) (hW10.cell 2)
        have lv := vld (W := w10) (b := g12) (o := 0) (hV10.cell 0) (hV10.cell 1) (hV10.cell 2)
        go_upto_region 15 with fail
        refine wp_region_lit ?_
        refine fl_start ?_
        generalize ha : Act.mk _ _ = a0
        have hn : a0.tmps.size = 163 := by rw [← ha]; kernel_rfl
        have h5 : (fr a0 []).eval (.tmp 5) = .pointer (some ⟨q1, 0, none⟩) := by rw [← ha]; kernel_rfl
        refine fl_know hn rfl h5 ?_
        clear h5
        have h10 : (fr a0 [(5, true, .pointer (some ⟨q1, 0, none⟩))]).eval (.tmp 10) = .pointer (some ⟨g10, 0, none⟩) := by rw [← ha]; kernel_rfl
        refine fl_know hn rfl h10 ?_
        clear h10
        have h11 : (fr a0 [(10, true, .pointer (some ⟨g10, 0, none⟩)), (5, true, .pointer (some ⟨q1, 0, none⟩))]).eval (.tmp 11) = .pointer (some ⟨g11, 0, none⟩) := by rw [← ha]; kernel_rfl
        refine fl_know hn rfl h11 ?_
        clear h11
        have h12 : (fr a0 [(11, true, .pointer (some ⟨g11, 0, none⟩)), (10, true, .pointer (some ⟨g10, 0, none⟩)), (5, true, .pointer (some ⟨q1, 0, none⟩))]).eval (.tmp 12) = .pointer (some ⟨g12, 0, none⟩) := by rw [← ha]; kernel_rfl
        refine fl_know hn rfl h12 ?_
        clear h12
        refine g_ld hn ?_
        refine g_fd hn ?_
        refine g_ld hn ?_
        refine g_ld hn ?_
        refine g_ld hn ?_
        refine g_cvx (vs := #[.agg (burlC nl), .string x.ky, .agg #[.int .i64 was.1, .int .i64 was.2.1, .string was.2.2], .agg #[.int .i64 v1, .int .i64 v2, .string v3]]) en_spinney_burl_Change hn (fun hk => by simp only [List.map_toArray, List.map_cons, List.map_nil, lk_at hk (i := 74) rfl (fun _ => rfl) rfl, lk_at hk (i := 76) rfl (fun _ => rfl) rfl, lk_at hk (i := 77) rfl (fun _ => rfl) rfl, lk_at hk (i := 78) rfl (fun _ => rfl) rfl]; rfl) (R := fun v wz => v = .agg (burlC nl2) ∧ Below w10.heap.size w10 wz) (cCh.mono fun _ _ ⟨he, hb3⟩ => ⟨_, he, rfl, hb3⟩) ?_
        rintro v w11 ⟨rfl, hb11⟩
        refine al_row hn (alBu w11) ?_
        intro g14 w12 hqd hYd hbd
        refine g_str (c := burlC nl2) hYd ?_ (hs := by rw [burlC_size]; rfl) (hi := by rw [burlC_size]; kernel_rfl) (h1 := bu_one _ _)
        intro w13 hod hZ13
        refine fl_end ?_
        clear hn lx f1 l1 lw lv cCh
        subst ha
        dsimp only [fr, cnd, Act.put, cond_true]
        simp only [List.setIfInBounds_toArray, List.set_cons_zero, List.set_cons_succ]
        have hkD : Below w10.heap.size w10 w13 := (hb11.trans (hbd.mono hb11.size)).trans (hod.below (by have := hb11.size; omega))
        have hg14 : w10.heap.size ≤ g14 := by have := hb11.size; omega
        have hN13 := (hN10.keep hkD (Nat.le_refl _)).more hkD.size
        have hX13 := hX10.keep hkD
        have hY13 := hY10.keep hkD
        have hO13 := hO10.keep hkD
        have hW13 := hW10.keep hkD
        have hV13 := hV10.keep hkD
        have hB13 : Below w.heap.size w w13 := hB10.trans (hkD.mono hB10.size)
        have hq14 : g12 < g14 := by have := hV10.lt; omega
        clear hqd hYd hbd hod hb11 hN10 hX10 hY10 hO10 hW10 hV10 hB10 hg14 hkD
        have cO2 := buOf_good A9 n9 c9 nl2 w13 hl9 hN13.rd (by omega) HSG.out.2 HSG.out.1
        go_upto_region 16 with fail
        refine wp_region_lit ?_
        refine fl_start ?_
        generalize ha : Act.mk _ _ = a0
        have hn : a0.tmps.size = 163 := by rw [← ha]; kernel_rfl
        have h8 : (fr a0 []).eval (.tmp 8) = .slice A9 n9 c9 := by rw [← ha]; kernel_rfl
        refine fl_know hn rfl h8 ?_
        clear h8
        refine g_mv hn ?_
        refine g_c1x en_spinney_burl_Of hn (R := fun v wz => v = .tuple #[.agg (burlC nl2), .int .i64 0] ∧ Below w13.heap.size w13 wz) (cO2.mono fun _ _ ⟨he, hb3⟩ => ⟨_, he, rfl, hb3⟩) ?_
        rintro v w16a ⟨rfl, hbea⟩
        refine g_mv hn ?_
        refine g_ex hn ?_
        refine g_ex hn ?_
        refine al_row hn (alBu w16a) ?_
        intro g15 w16b hqe hYea hbeb
        refine g_str (c := burlC nl2) hYea ?_ (hs := by rw [burlC_size]; rfl) (hi := by rw [burlC_size]; kernel_rfl) (h1 := bu_one _ _)
        intro w16 hoe hYe
        refine g_as hn ?_
        refine fl_end ?_
        clear hn
        subst ha
        dsimp only [fr, cnd, Act.put, cond_true]
        simp only [List.setIfInBounds_toArray, List.set_cons_zero, List.set_cons_succ]
        have hke : Below w13.heap.size w13 w16 := (hbea.trans (hbeb.mono hbea.size)).trans (hoe.below (by have := hbea.size; omega))
        have hqe' : w13.heap.size ≤ g15 := by have := hbea.size; omega
        clear hYea hbea hbeb hoe hqe
        have hN16 := (hN13.keep hke (Nat.le_refl _)).more hke.size
        have hX16 := hX13.keep hke
        have hY16 := hY13.keep hke
        have hO16 := hO13.keep hke
        have hW16 := hW13.keep hke
        have hV16 := hV13.keep hke
        have hZ16 := hZ13.keep hke
        have hB16 : Below w.heap.size w w16 := hB13.trans (hke.mono hB13.size)
        have hq15 : g14 < g15 := by have := hZ13.lt; omega
        clear hN13 hX13 hY13 hO13 hW13 hV13 hZ13 hB13 hke hqe' cO2
        have s0 : ∀ W, (fun W => Blk W g14 (burlC nl2) 39 ∧ Blk W g15 (burlC nl2) 39 ∧ Blk W g10 x.cells tOp ∧ Blk W g12 #[.int .i64 v1, .int .i64 v2, .string v3] 31 ∧ Blk W g11 #[.int .i64 was.1, .int .i64 was.2.1, .string was.2.2] 31 ∧ Blk W q1 (burlC nl) 39) W → _ := fun W h => ld_bu h.1 (lvTo_len nl2)
        have s1 : ∀ W, (fun W => Blk W g14 (burlC nl2) 39 ∧ Blk W g15 (burlC nl2) 39 ∧ Blk W g10 x.cells tOp ∧ Blk W g12 #[.int .i64 v1, .int .i64 v2, .string v3] 31 ∧ Blk W g11 #[.int .i64 was.1, .int .i64 was.2.1, .string was.2.2] 31 ∧ Blk W q1 (burlC nl) 39) W → _ := fun W h => ld_bu h.2.1 (lvTo_len nl2)
        have s2 : ∀ W, (fun W => Blk W g14 (burlC nl2) 39 ∧ Blk W g15 (burlC nl2) 39 ∧ Blk W g10 x.cells tOp ∧ Blk W g12 #[.int .i64 v1, .int .i64 v2, .string v3] 31 ∧ Blk W g11 #[.int .i64 was.1, .int .i64 was.2.1, .string was.2.2] 31 ∧ Blk W q1 (burlC nl) 39) W → _ := fun W _ => fop1 W g10
        have s3 : ∀ W, (fun W => Blk W g14 (burlC nl2) 39 ∧ Blk W g15 (burlC nl2) 39 ∧ Blk W g10 x.cells tOp ∧ Blk W g12 #[.int .i64 v1, .int .i64 v2, .string v3] 31 ∧ Blk W g11 #[.int .i64 was.1, .int .i64 was.2.1, .string was.2.2] 31 ∧ Blk W q1 (burlC nl) 39) W → _ := fun W h => ld_str (h.2.2.1.cell 1)
        have s4 : ∀ W, (fun W => Blk W g14 (burlC nl2) 39 ∧ Blk W g15 (burlC nl2) 39 ∧ Blk W g10 x.cells tOp ∧ Blk W g12 #[.int .i64 v1, .int .i64 v2, .string v3] 31 ∧ Blk W g11 #[.int .i64 was.1, .int .i64 was.2.1, .string was.2.2] 31 ∧ Blk W q1 (burlC nl) 39) W → _ := fun W h => vld (o := 0) (h.2.2.2.1.cell 0) (h.2.2.2.1.cell 1) (h.2.2.2.1.cell 2)
        have s5 : ∀ W, (fun W => Blk W g14 (burlC nl2) 39 ∧ Blk W g15 (burlC nl2) 39 ∧ Blk W g10 x.cells tOp ∧ Blk W g12 #[.int .i64 v1, .int .i64 v2, .string v3] 31 ∧ Blk W g11 #[.int .i64 was.1, .int .i64 was.2.1, .string was.2.2] 31 ∧ Blk W q1 (burlC nl) 39) W → _ := fun W h => vld (o := 0) (h.2.2.2.2.1.cell 0) (h.2.2.2.2.1.cell 1) (h.2.2.2.2.1.cell 2)
        have s6 : ∀ W, (fun W => Blk W g14 (burlC nl2) 39 ∧ Blk W g15 (burlC nl2) 39 ∧ Blk W g10 x.cells tOp ∧ Blk W g12 #[.int .i64 v1, .int .i64 v2, .string v3] 31 ∧ Blk W g11 #[.int .i64 was.1, .int .i64 was.2.1, .string was.2.2] 31 ∧ Blk W q1 (burlC nl) 39) W → _ := fun W h => ld_bu h.2.2.2.2.2 (lvTo_len nl)
        go_upto_region 17 with fail
        refine fh_start (S := (fun W => Blk W g14 (burlC nl2) 39 ∧ Blk W g15 (burlC nl2) 39 ∧ Blk W g10 x.cells tOp ∧ Blk W g12 #[.int .i64 v1, .int .i64 v2, .string v3] 31 ∧ Blk W g11 #[.int .i64 was.1, .int .i64 was.2.1, .string was.2.2] 31 ∧ Blk W q1 (burlC nl) 39)) (by kernel_rfl) (⟨hZ16, hYe, hO16, hV16, hW16, hX16⟩) (fun hS => ?_)
        generalize ha : Act.mk _ _ = a0
        have hn : a0.tmps.size = 163 := by rw [← ha]; kernel_rfl
        have h5 : (fr a0 []).eval (.tmp 5) = .pointer (some ⟨q1, 0, none⟩) := by rw [← ha]; kernel_rfl
        refine fh_know hn rfl h5 ?_
        clear h5
        have h10 : (fr a0 [(5, true, .pointer (some ⟨q1, 0, none⟩))]).eval (.tmp 10) = .pointer (some ⟨g10, 0, none⟩) := by rw [← ha]; kernel_rfl
        refine fh_know hn rfl h10 ?_
        clear h10
        have h11 : (fr a0 [(10, true, .pointer (some ⟨g10, 0, none⟩)), (5, true, .pointer (some ⟨q1, 0, none⟩))]).eval (.tmp 11) = .pointer (some ⟨g11, 0, none⟩) := by rw [← ha]; kernel_rfl
        refine fh_know hn rfl h11 ?_
        clear h11
        have h12 : (fr a0 [(11, true, .pointer (some ⟨g11, 0, none⟩)), (10, true, .pointer (some ⟨g10, 0, none⟩)), (5, true, .pointer (some ⟨q1, 0, none⟩))]).eval (.tmp 12) = .pointer (some ⟨g12, 0, none⟩) := by rw [← ha]; kernel_rfl
        refine fh_know hn rfl h12 ?_
        clear h12
        have h14 : (fr a0 [(12, true, .pointer (some ⟨g12, 0, none⟩)), (11, true, .pointer (some ⟨g11, 0, none⟩)), (10, true, .pointer (some ⟨g10, 0, none⟩)), (5, true, .pointer (some ⟨q1, 0, none⟩))]).eval (.tmp 14) = .pointer (some ⟨g14, 0, none⟩) := by rw [← ha]; kernel_rfl
        refine fh_know hn rfl h14 ?_
        clear h14
        have h15 : (fr a0 [(14, true, .pointer (some ⟨g14, 0, none⟩)), (12, true, .pointer (some ⟨g12, 0, none⟩)), (11, true, .pointer (some ⟨g11, 0, none⟩)), (10, true, .pointer (some ⟨g10, 0, none⟩)), (5, true, .pointer (some ⟨q1, 0, none⟩))]).eval (.tmp 15) = .pointer (some ⟨g15, 0, none⟩) := by rw [← ha]; kernel_rfl
        refine fh_know hn rfl h15 ?_
        clear h15
        have h16 : (fr a0 [(15, true, .pointer (some ⟨g15, 0, none⟩)), (14, true, .pointer (some ⟨g14, 0, none⟩)), (12, true, .pointer (some ⟨g12, 0, none⟩)), (11, true, .pointer (some ⟨g11, 0, none⟩)), (10, true, .pointer (some ⟨g10, 0, none⟩)), (5, true, .pointer (some ⟨q1, 0, none⟩))]).eval (.tmp 16) = .int .i64 0 := by rw [← ha]; kernel_rfl
        refine fh_know hn rfl h16 ?_
        clear h16
        refine h_mv 0 hn hS ?_
        refine h_bc 1 hn hS ?_ (v := .bool false) (hx := fun W _ => er_neq _ 0 0 W)
        refine h_mv 2 hn hS ?_
        refine h_ld 3 hn hS ?_
        refine h_ld 4 hn hS ?_
        refine h_op 5 hn hS (v := .bool false) (fun W _ hk => x_bn (lk_at hk (i := 88) rfl (fun _ => rfl) rfl) (lk_at hk (i := 89) rfl (fun _ => rfl) rfl) (burl_neqC _ _ _ _ (lvTo_len nl2) W)) ?_
        refine h_op 6 hn hS (fun W _ hk => x_or (fun _ => rfl) (lk_at hk (i := 87) rfl (fun _ => rfl) rfl) (fun _ => lk_at hk (i := 90) rfl (fun _ => rfl) rfl)) ?_
        refine h_mv 7 hn hS ?_
        refine h_ld 8 hn hS ?_
        refine h_fd 9 hn hS ?_
        refine h_ld 10 hn hS ?_
        refine h_ld 11 hn hS ?_
        refine h_ld 12 hn hS ?_
        refine h_ld 14 hn hS ?_
        refine fh_callx 13 (d := 98) (R := fun v wz => v = .agg (burlC nl) ∧ Below w16.drew.heap.size w16.drew wz) hn rfl (fun hk => call4_is en_spinney_burl_Change _ _ _ _ _ _ _ _ _ _ _ (.agg (burlC nl2)) (.string x.ky) (.agg #[.int .i64 v1, .int .i64 v2, .string v3]) (.agg #[.int .i64 was.1, .int .i64 was.2.1, .string was.2.2]) (lk_at hk (i := 93) rfl (fun _ => rfl) rfl) (lk_at hk (i := 95) rfl (fun _ => rfl) rfl) (lk_at hk (i := 96) rfl (fun _ => rfl) rfl) (lk_at hk (i := 97) rfl (fun _ => rfl) rfl) rfl) ((chg_any nl2 nl x.ky (v1, v2, v3) was _ HCH.out.2 hnow hwas (by omega)).mono fun _ _ ⟨he, hb3⟩ => ⟨_, he, rfl, hb3⟩) ?_ rfl rfl (by kernel_rfl) rfl
        rintro v w17 ⟨rfl, hb17'⟩
        have hb17 := bel_un29 hb17'
        have hS2 : (fun W => Blk W g14 (burlC nl2) 39 ∧ Blk W g15 (burlC nl2) 39 ∧ Blk W g10 x.cells tOp ∧ Blk W g12 #[.int .i64 v1, .int .i64 v2, .string v3] 31 ∧ Blk W g11 #[.int .i64 was.1, .int .i64 was.2.1, .string was.2.2] 31 ∧ Blk W q1 (burlC nl) 39) w17 := ⟨hZ16.keep hb17, hYe.keep hb17, hO16.keep hb17, hV16.keep hb17, hW16.keep hb17, hX16.keep hb17⟩
        refine ⟨hS2, ?_⟩
        refine h_op 15 hn hS2 (v := .bool false) (fun W _ hk => x_bn (lk_at hk (i := 98) rfl (fun _ => rfl) rfl) (lk_at hk (i := 99) rfl (fun _ => rfl) rfl) (burl_neqC _ _ _ _ (lvTo_len nl) W)) ?_
        refine h_op 16 hn hS2 (fun W _ hk => x_or (fun _ => rfl) (lk_at hk (i := 92) rfl (fun _ => rfl) rfl) (fun _ => lk_at hk (i := 100) rfl (fun _ => rfl) rfl)) ?_
        refine fh_end (by kernel_rfl) ?_
        clear hn s0 s1 s2 s3 s4 s5 s6
        subst ha
        dsimp only [fr, cnd, Act.put, cond_true]
        simp only [List.setIfInBounds_toArray, List.set_cons_zero, List.set_cons_succ]
        have hN17 := (hN16.keep hb17 (Nat.le_refl _)).more hb17.size
        have hX17 := hX16.keep hb17
        have hY17 := hY16.keep hb17
        have hZ17 := hZ16.keep hb17
        have hB17 : Below w.heap.size w w17 := hB16.trans ((show Below w16.heap.size w16 w17 from hb17).mono hB16.size)
        have ly := ld_bu hZ17 (lvTo_len nl2)
        clear hS hS2 hb17 hb17' hN16 hX16 hY16 hZ16 hB16 hO16 hW16 hV16 hYe
        go_upto_region 19 with fail
        refine wp_region_lit ?_
        refine fl_start ?_
        generalize ha : Act.mk _ _ = a0
        have hn : a0.tmps.size = 163 := by rw [← ha]; kernel_rfl
        have h5 : (fr a0 []).eval (.tmp 5) = .pointer (some ⟨q1, 0, none⟩) := by rw [← ha]; kernel_rfl
        refine fl_know hn rfl h5 ?_
        clear h5
        have h14 : (fr a0 [(5, true, .pointer (some ⟨q1, 0, none⟩))]).eval (.tmp 14) = .pointer (some ⟨g14, 0, none⟩) := by rw [← ha]; kernel_rfl
        refine fl_know hn rfl h14 ?_
        clear h14
        refine g_ld hn ?_
        refine g_str (c := burlC nl2) hX17 ?_ (hs := by rw [burlC_size, burlC_size]) (hi := by rw [burlC_size]; kernel_rfl) (h1 := bu_one _ _)
        intro w18 ho18 hX18
        refine fl_end ?_
        clear hn ly
        subst ha
        dsimp only [fr, cnd, Act.put, cond_true]
        simp only [List.setIfInBounds_toArray, List.set_cons_zero, List.set_cons_succ]
        have hN18 : RdN 4 q1 w18.heap.size w18 A9 (nl2.map Cl.cells) := (hN17.only ho18).more (Nat.le_of_eq ho18.size.symm)
        have hY18 := hY17.only ho18 (by omega)
        have hB18 : Below w.heap.size w w18 := hB17.trans (ho18.below hq1w)
        have hn9 : n9 ≤ n + (k + 1) := by omega
        clear hX17 hY17 hZ17 hB17 hN17 ho18
        go_wp2_with fail
        refine ⟨?_, ?_⟩
        · first
          | exact ⟨k + 1, nl2, A9, n9, c9, by omega, by go_num, rfl, hl9, hn9, hN18, HSG, hX18, hY18, hB18⟩
          | repeat apply Exists.intro
            refine ⟨?_, rfl⟩
            exact ⟨k + 1, nl2, A9, n9, c9, by omega, by go_num, rfl, hl9, hn9, hN18, HSG, hX18, hY18, hB18⟩
        · simp [intOf]; omega
    · have i3 : ¬ (k : Int) < (m : Int) := by omega
      clear hN hX hgf
      cases l with
      | nil =>
        have hn0 : n = 0 := HN.out.symm
        subst hn0
        have cO3 := buOf_good none 0 0 [] wr rfl (RdX.nil _ _ _ _) (by omega) (by simp) good_nil
        go_upto_region 26 with fail
        refine wp_region_lit ?_
        refine fl_start ?_
        generalize ha : Act.mk _ _ = a0
        have hn : a0.tmps.size = 163 := by rw [← ha]; kernel_rfl
        skip
        refine g_cvx (vs := #[.slice none 0 0]) en_spinney_burl_Of hn (fun hk => by simp only [List.map_toArray, List.map_cons, List.map_nil]; rfl) (R := fun v wz => v = .tuple #[.agg (burlC []), .int .i64 0] ∧ Below wr.heap.size wr wz) (cO3.mono fun _ _ ⟨he, hb3⟩ => ⟨_, he, rfl, hb3⟩) ?_
        rintro v wza ⟨rfl, hbza⟩
        refine g_mv hn ?_
        refine g_ex hn ?_
        refine g_ex hn ?_
        refine al_row hn (alBu wza) ?_
        intro gz wzb hqz hYza hbzb
        refine g_str (c := burlC []) hYza ?_ (hs := by rw [burlC_size]; rfl) (hi := by rw [burlC_size]; kernel_rfl) (h1 := bu_one _ _)
        intro wz hoz hYz
        refine g_as hn ?_
        refine fl_end ?_
        clear hn
        subst ha
        dsimp only [fr, cnd, Act.put, cond_true]
        simp only [List.setIfInBounds_toArray, List.set_cons_zero, List.set_cons_succ]
        have hkz : Below wr.heap.size wr wz := (hbza.trans (hbzb.mono hbza.size)).trans (hoz.below (by have := hbza.size; omega))
        have hqz' : wr.heap.size ≤ gz := by have := hbza.size; omega
        clear hYza hbza hbzb hoz hqz
        have hY2 := hY.keep hkz
        have hBz : Below w.heap.size w wz := hB.trans (hkz.mono hB.size)
        have l1 := ld_bu hY2 (lvTo_len [])
        have l2 := ld_bu hYz (lvTo_len [])
        go_upto_region 27 with fail
        refine wp_region_lit ?_
        refine fl_start ?_
        generalize ha : Act.mk _ _ = a0
        have hn : a0.tmps.size = 163 := by rw [← ha]; kernel_rfl
        have h7 : (fr a0 []).eval (.tmp 7) = .pointer (some ⟨q2, 0, none⟩) := by rw [← ha]; kernel_rfl
        refine fl_know hn rfl h7 ?_
        clear h7
        have h21 : (fr a0 [(7, true, .pointer (some ⟨q2, 0, none⟩))]).eval (.tmp 21) = .pointer (some ⟨gz, 0, none⟩) := by rw [← ha]; kernel_rfl
        refine fl_know hn rfl h21 ?_
        clear h21
        have h22 : (fr a0 [(21, true, .pointer (some ⟨gz, 0, none⟩)), (7, true, .pointer (some ⟨q2, 0, none⟩))]).eval (.tmp 22) = .int .i64 0 := by rw [← ha]; kernel_rfl
        refine fl_know hn rfl h22 ?_
        clear h22
        refine g_mv hn ?_
        refine g_bc hn ?_ (v := .bool true) (hr := er_eql _ 0 0 _)
        refine g_mv hn ?_
        refine g_ld hn ?_
        refine g_ld hn ?_
        refine g_bn hn ?_ (v := .bool true) (hr := burl_eqlC _ (.inl rfl) _ _ _ _ (lvTo_len []) _)
        refine g_an hn ?_
        refine g_mv hn ?_
        refine g_ld hn ?_
        refine g_ld hn ?_
        refine g_c2x en_spinney_burl_Part hn (R := fun v w9 => ∃ A9 c9, v = .slice A9 0 c9 ∧ Below wz.heap.size wz w9) ((buPart_any (rootL (lvTo [])) (rootL (lvTo [])) (lvTo []) (lvTo []) wz (lvTo_len []) (lvTo_len [])).mono fun e w' hI => by
          obtain ⟨A, n, c, he, hO, hb⟩ := hI
          have h := hO.len
          rw [partsSelf] at h
          have h2 : n = 0 := h.symm
          subst h2
          exact ⟨_, he, A, c, rfl, hb⟩) ?_
        rintro v w9 ⟨A9, c9, rfl, hb9⟩
        refine g_ln hn ?_
        refine g_cvx (vs := #[.int .i64 (0 : Nat), .int .i64 0]) en_spinney_spinneyref01_Ints hn (fun hk => by simp only [List.map_toArray, List.map_cons, List.map_nil, lk_at hk (i := 159) rfl (fun _ => rfl) rfl]; rfl) (R := fun v w10 => v = .int .i64 0 ∧ w9 = w10) ((ints_any 0 0 w9).mono fun _ _ ⟨he, hb3⟩ => ⟨_, he, rfl, hb3⟩) ?_
        rintro v w10 ⟨rfl, hw10⟩
        refine g_eql hn ?_
        refine g_an hn ?_
        refine g_as hn ?_
        refine fl_end ?_
        clear hn l1 l2
        subst ha
        dsimp only [fr, cnd, Act.put, cond_true]
        simp only [List.setIfInBounds_toArray, List.set_cons_zero, List.set_cons_succ]
        subst hw10
        go_wp2_with fail
        go_ret
        exact ⟨rfl, hBz.trans (hb9.mono hBz.size)⟩
      | cons x r =>
        have hln : r.length + 1 = n := HN.out
        obtain ⟨ad, rfl, _, _⟩ := HR.out wr hB 0 x.cells rfl
        have hn1 : 0 < n := by omega
        have i4 : (0 : Int) < (n : Int) := by omega
        have hcW : ∀ W, Below w.heap.size w W → ∀ j v, x.cells[j]? = some v → W.cell? (ad.add (0 * 4 + j)) = some v := fun W h => by
          obtain ⟨a2, e2, _, h2⟩ := HR.out W h 0 x.cells rfl
          injection e2 with e2
          rw [e2]
          exact h2
        have hxg := goodLs_mem hg (List.mem_cons_self (a := x) (l := r))
        have hxf := hf x (List.mem_cons_self ..)
        have hxv := okV_cl hxg hxf
        have hxk : x.ky.size ≤ 20 := (cl_in hxg).1.2
        have hfr := chg_front x r
        have ix := ix_c0 wr ad n c hn1
        have f0 := fix0 wr (ad.add (0 * 4))
        have l0 := cl_key (k := 0) (hcW wr hB)
        go_upto_region 22 with fail
        refine wp_region_lit ?_
        refine fl_start ?_
        generalize ha : Act.mk _ _ = a0
        have hn : a0.tmps.size = 163 := by rw [← ha]; kernel_rfl
        have h0 : (fr a0 []).eval (.tmp 0) = .slice (some ad) n c := by rw [← ha]; kernel_rfl
        refine fl_know hn rfl h0 ?_
        clear h0
        refine g_mv hn ?_
        refine g_o1 (i := 107) (vi := .slice (some ad) n c) (v := .pointer (some (ad.add (0 * 4)))) hn (fun ρ h1 hc => x_ix0 h1 (hc _) hn1) ?_
        refine g_fd hn ?_
        refine g_ld hn ?_
        refine g_as hn ?_
        refine fl_end ?_
        clear hn ix f0 l0
        subst ha
        dsimp only [fr, cnd, Act.put, cond_true]
        simp only [List.setIfInBounds_toArray, List.set_cons_zero, List.set_cons_succ]
        have cC := fun (W : World) => chg_any (x :: r) r x.ky (x.k, x.x, x.s) noV W hfr.1 hxv OkV.no (by omega)
        have cD := fun (W : World) => chg_any r (x :: r) x.ky noV (x.k, x.x, x.s) W hfr.2 OkV.no hxv (by omega)
        have f0 : ∀ W, (fun W => Blk W q2 (burlC (x :: r)) 39 ∧ Below w.heap.size w W) W → _ := fun W h => ld_bu h.1 (lvTo_len (x :: r))
        have f3 : ∀ W, (fun W => Blk W q2 (burlC (x :: r)) 39 ∧ Below w.heap.size w W) W → _ := fun W _ => fixv W (ad.add (0 * 4))
        have f4 : ∀ W, (fun W => Blk W q2 (burlC (x :: r)) 39 ∧ Below w.heap.size w W) W → _ := fun W h => cl_val (k := 0) (hcW W h.2)
        have f5 : ∀ W, (fun W => Blk W q2 (burlC (x :: r)) 39 ∧ Below w.heap.size w W) W → _ := fun W _ => bdVt W
        go_upto_region 23 with fail
        refine fh_start (S := (fun W => Blk W q2 (burlC (x :: r)) 39 ∧ Below w.heap.size w W)) (by kernel_rfl) (⟨hY, hB.drew⟩) (fun hS => ?_)
        generalize ha : Act.mk _ _ = a0
        have hn : a0.tmps.size = 163 := by rw [← ha]; kernel_rfl
        have h0 : (fr a0 []).eval (.tmp 0) = .slice (some ad) n c := by rw [← ha]; kernel_rfl
        refine fh_know hn rfl h0 ?_
        clear h0
        have h7 : (fr a0 [(0, true, .slice (some ad) n c)]).eval (.tmp 7) = .pointer (some ⟨q2, 0, none⟩) := by rw [← ha]; kernel_rfl
        refine fh_know hn rfl h7 ?_
        clear h7
        have h17 : (fr a0 [(7, true, .pointer (some ⟨q2, 0, none⟩)), (0, true, .slice (some ad) n c)]).eval (.tmp 17) = .string x.ky := by rw [← ha]; kernel_rfl
        refine fh_know hn rfl h17 ?_
        clear h17
        refine h_ld 0 hn hS ?_
        refine h_mv 1 hn hS ?_
        refine h_mv 2 hn hS ?_
        refine h_op 3 hn hS (fun W _ hk => x_ix0 (lk_at hk (i := 113) rfl (fun _ => rfl) rfl) rfl hn1) ?_
        refine h_fd 4 hn hS ?_
        refine h_ld 5 hn hS ?_
        refine h_bd 6 hn hS ?_ (qs := #[]) (v := .agg #[.int .i64 0, .int .i64 0, .string ⟨#[]⟩]) (hp := fun _ _ => by simp)
        have hwr := hY.lt
        refine fh_two (i := 7) (j := 8) (by kernel_rfl) ?_ ?_
        · refine one_callx29 (d := 118) (R := fun v wq => v = .agg (burlC r) ∧ Below wr.drew.heap.size wr.drew wq) hn rfl (fun hk => call4_is en_spinney_burl_Change _ _ _ _ _ _ _ _ _ _ _ (.agg (burlC (x :: r))) (.string x.ky) (.agg #[.int .i64 x.k, .int .i64 x.x, .string x.s]) (.agg #[.int .i64 0, .int .i64 0, .string ⟨#[]⟩]) (lk_at hk (i := 111) rfl (fun _ => rfl) rfl) (lk_at hk (i := 112) rfl (fun _ => rfl) rfl) (lk_at hk (i := 116) rfl (fun _ => rfl) rfl) (lk_at hk (i := 117) rfl (fun _ => rfl) rfl) rfl) ((cC _).mono fun _ _ ⟨he, hb3⟩ => ⟨_, he, rfl, hb3⟩) ?_ rfl rfl rfl
          rintro v v1 ⟨rfl, hb1'⟩
          have hb1 : Below wr.heap.size wr v1 := bel_un29 hb1'
          have hB1 : Below w.heap.size w v1 := hB.trans (hb1.mono hB.size)
          refine ⟨⟨hY.keep hb1, hB1⟩, ?_⟩
          have ba := b0 v1 (.cells (buC 0 (List.replicate 16 0)) 39)
          have hB2 : Below w.heap.size w (v1.alloc (.cells (buC 0 (List.replicate 16 0)) 39)) := hB1.trans (ba.mono hB1.size)
          have hY2 := (hY.keep hb1).keep ba
          have hZ2 := blk_new v1 (buC 0 (List.replicate 16 0)) 39
          refine fh_valx 8 (d := 18) hn rfl (fun hk => x_alBu) ⟨hY2, hB2⟩ ?_ rfl rfl (by kernel_rfl) rfl
          have hgq : q2 < v1.heap.size ∧ w.heap.size ≤ v1.heap.size := by have := hb1.size; have := hB1.size; omega
          generalize v1.alloc (.cells (buC 0 (List.replicate 16 0)) 39) = v2 at hB2 hY2 hZ2 ⊢
          generalize v1.heap.size = g18 at hZ2 hgq ⊢
          have hoS := only_row v2 g18 (burlC r)
          have hYS := hY2.only hoS (by omega)
          have hBS := hB2.trans (hoS.below (by omega))
          have hZS := hZ2.row (burlC r)
          refine h_st 9 (st_buR r hZ2 (by rw [buC_size]; rfl)) ⟨hYS, hBS⟩ ?_
          refine fh_end (by kernel_rfl) ?_
          clear hn f0 f3 f4 f5
          subst ha
          dsimp only [fr, cnd, Act.put, cond_true]
          simp only [List.setIfInBounds_toArray, List.set_cons_zero, List.set_cons_succ]
          have hZ20 : Blk (v2.setRow g18 (burlC r)) g18 (burlC r) 39 := hZS
          have hY20 := hYS
          have hB20 := hBS
          clear hZS hYS hBS hoS hZ2 hY2 hB2
          generalize v2.setRow g18 (burlC r) = w20 at hZ20 hY20 hB20 ⊢
          have hRt := (HR.out w20 hB20).tailC (c := c) (by rw [List.length_cons]; omega)
          have cO3 := buOf_good (cutC ad c) (n - 1) (c - 1) r w20 (by omega) (hRt.more hB20.size) (by omega) (fun y hy => hf y (List.mem_cons_of_mem _ hy)) (good_tail hg)
          go_upto_region 24 with fail
          refine wp_region_lit ?_
          refine fl_start ?_
          generalize ha : Act.mk _ _ = a0
          have hn : a0.tmps.size = 163 := by rw [← ha]; kernel_rfl
          have h0 : (fr a0 []).eval (.tmp 0) = .slice (some ad) n c := by rw [← ha]; kernel_rfl
          refine fl_know hn rfl h0 ?_
          clear h0
          refine g_mv hn ?_
          refine g_o1 (i := 120) (vi := .slice (some ad) n c) (v := .slice (cutC ad c) (n - 1) (c - 1)) hn (fun ρ h1 hq => x_cut1 h1 (hq _) hn1 hc) ?_
          refine g_c1x en_spinney_burl_Of hn (R := fun v wz => v = .tuple #[.agg (burlC r), .int .i64 0] ∧ Below w20.heap.size w20 wz) (cO3.mono fun _ _ ⟨he, hb3⟩ => ⟨_, he, rfl, hb3⟩) ?_
          rintro v wza ⟨rfl, hbza⟩
          refine g_mv hn ?_
          refine g_ex hn ?_
          refine g_ex hn ?_
          refine al_row hn (alBu wza) ?_
          intro gz wzb hqz hYza hbzb
          refine g_str (c := burlC r) hYza ?_ (hs := by rw [burlC_size]; rfl) (hi := by rw [burlC_size]; kernel_rfl) (h1 := bu_one _ _)
          intro wz hoz hYz
          refine g_as hn ?_
          refine fl_end ?_
          clear hn
          subst ha
          dsimp only [fr, cnd, Act.put, cond_true]
          simp only [List.setIfInBounds_toArray, List.set_cons_zero, List.set_cons_succ]
          have hkz : Below w20.heap.size w20 wz := (hbza.trans (hbzb.mono hbza.size)).trans (hoz.below (by have := hbza.size; omega))
          have hqz' : w20.heap.size ≤ gz := by have := hbza.size; omega
          clear hYza hbza hbzb hoz hqz
          have hY21 := hY20.keep hkz
          have hZ21 := hZ20.keep hkz
          have hB21 : Below w.heap.size w wz := hB20.trans (hkz.mono hB20.size)
          clear hRt cO3 hY20 hZ20 hB20 hkz
          have s0 : ∀ W, (fun W => Blk W g18 (burlC r) 39 ∧ Blk W gz (burlC r) 39 ∧ Blk W q2 (burlC (x :: r)) 39 ∧ Below w.heap.size w W) W → _ := fun W h => ld_bu h.1 (lvTo_len r)
          have s1 : ∀ W, (fun W => Blk W g18 (burlC r) 39 ∧ Blk W gz (burlC r) 39 ∧ Blk W q2 (burlC (x :: r)) 39 ∧ Below w.heap.size w W) W → _ := fun W h => ld_bu h.2.1 (lvTo_len r)
          have s2 : ∀ W, (fun W => Blk W g18 (burlC r) 39 ∧ Blk W gz (burlC r) 39 ∧ Blk W q2 (burlC (x :: r)) 39 ∧ Below w.heap.size w W) W → _ := fun W h => ld_bu h.2.2.1 (lvTo_len (x :: r))
          have s3 : ∀ W, (fun W => Blk W g18 (burlC r) 39 ∧ Blk W gz (burlC r) 39 ∧ Blk W q2 (burlC (x :: r)) 39 ∧ Below w.heap.size w W) W → _ := fun W _ => fixv W (ad.add (0 * 4))
          have s4 : ∀ W, (fun W => Blk W g18 (burlC r) 39 ∧ Blk W gz (burlC r) 39 ∧ Blk W q2 (burlC (x :: r)) 39 ∧ Below w.heap.size w W) W → _ := fun W h => cl_val (k := 0) (hcW W h.2.2.2)
          have s5 : ∀ W, (fun W => Blk W g18 (burlC r) 39 ∧ Blk W gz (burlC r) 39 ∧ Blk W q2 (burlC (x :: r)) 39 ∧ Below w.heap.size w W) W → _ := fun W _ => bdVt W
          go_upto_region 25 with fail
          refine fh_start (S := (fun W => Blk W g18 (burlC r) 39 ∧ Blk W gz (burlC r) 39 ∧ Blk W q2 (burlC (x :: r)) 39 ∧ Below w.heap.size w W)) (by kernel_rfl) (⟨hZ21, hYz, hY21, hB21.drew⟩) (fun hS => ?_)
          generalize ha : Act.mk _ _ = a0
          have hn : a0.tmps.size = 163 := by rw [← ha]; kernel_rfl
          have h0 : (fr a0 []).eval (.tmp 0) = .slice (some ad) n c := by rw [← ha]; kernel_rfl
          refine fh_know hn rfl h0 ?_
          clear h0
          have h7 : (fr a0 [(0, true, .slice (some ad) n c)]).eval (.tmp 7) = .pointer (some ⟨q2, 0, none⟩) := by rw [← ha]; kernel_rfl
          refine fh_know hn rfl h7 ?_
          clear h7
          have h17 : (fr a0 [(7, true, .pointer (some ⟨q2, 0, none⟩)), (0, true, .slice (some ad) n c)]).eval (.tmp 17) = .string x.ky := by rw [← ha]; kernel_rfl
          refine fh_know hn rfl h17 ?_
          clear h17
          have h18 : (fr a0 [(17, true, .string x.ky), (7, true, .pointer (some ⟨q2, 0, none⟩)), (0, true, .slice (some ad) n c)]).eval (.tmp 18) = .pointer (some ⟨g18, 0, none⟩) := by rw [← ha]; kernel_rfl
          refine fh_know hn rfl h18 ?_
          clear h18
          have h19 : (fr a0 [(18, true, .pointer (some ⟨g18, 0, none⟩)), (17, true, .string x.ky), (7, true, .pointer (some ⟨q2, 0, none⟩)), (0, true, .slice (some ad) n c)]).eval (.tmp 19) = .pointer (some ⟨gz, 0, none⟩) := by rw [← ha]; kernel_rfl
          refine fh_know hn rfl h19 ?_
          clear h19
          have h20 : (fr a0 [(19, true, .pointer (some ⟨gz, 0, none⟩)), (18, true, .pointer (some ⟨g18, 0, none⟩)), (17, true, .string x.ky), (7, true, .pointer (some ⟨q2, 0, none⟩)), (0, true, .slice (some ad) n c)]).eval (.tmp 20) = .int .i64 0 := by rw [← ha]; kernel_rfl
          refine fh_know hn rfl h20 ?_
          clear h20
          refine h_mv 0 hn hS ?_
          refine h_bc 1 hn hS ?_ (v := .bool true) (hx := fun W _ => er_eql _ 0 0 W)
          refine h_mv 2 hn hS ?_
          refine h_ld 3 hn hS ?_
          refine h_ld 4 hn hS ?_
          refine h_op 5 hn hS (v := .bool true) (fun W _ hk => x_bn (lk_at hk (i := 128) rfl (fun _ => rfl) rfl) (lk_at hk (i := 129) rfl (fun _ => rfl) rfl) (burl_eqlC _ (.inl rfl) _ _ _ _ (lvTo_len r) W)) ?_
          refine h_op 6 hn hS (fun W _ hk => x_an (fun _ => rfl) (lk_at hk (i := 127) rfl (fun _ => rfl) rfl) (fun _ => lk_at hk (i := 130) rfl (fun _ => rfl) rfl)) ?_
          refine h_mv 7 hn hS ?_
          refine h_ld 8 hn hS ?_
          refine h_mv 9 hn hS ?_
          refine h_bd 10 hn hS ?_ (qs := #[]) (v := .agg #[.int .i64 0, .int .i64 0, .string ⟨#[]⟩]) (hp := fun _ _ => by simp)
          refine h_mv 11 hn hS ?_
          refine h_op 12 hn hS (fun W _ hk => x_ix0 (lk_at hk (i := 136) rfl (fun _ => rfl) rfl) rfl hn1) ?_
          refine h_fd 13 hn hS ?_
          refine h_ld 14 hn hS ?_
          refine h_ld 16 hn hS ?_
          refine fh_callx 15 (d := 140) (R := fun v wq => v = .agg (burlC (x :: r)) ∧ Below wz.drew.heap.size wz.drew wq) hn rfl (fun hk => call4_is en_spinney_burl_Change _ _ _ _ _ _ _ _ _ _ _ (.agg (burlC r)) (.string x.ky) (.agg #[.int .i64 0, .int .i64 0, .string ⟨#[]⟩]) (.agg #[.int .i64 x.k, .int .i64 x.x, .string x.s]) (lk_at hk (i := 133) rfl (fun _ => rfl) rfl) (lk_at hk (i := 134) rfl (fun _ => rfl) rfl) (lk_at hk (i := 135) rfl (fun _ => rfl) rfl) (lk_at hk (i := 139) rfl (fun _ => rfl) rfl) rfl) ((cD _).mono fun _ _ ⟨he, hb3⟩ => ⟨_, he, rfl, hb3⟩) ?_ rfl rfl (by kernel_rfl) rfl
          rintro v w22 ⟨rfl, hb22'⟩
          have hb22 := bel_un29 hb22'
          have hB22 : Below w.heap.size w w22 := hB21.trans ((show Below wz.heap.size wz w22 from hb22).mono hB21.size)
          have hS2 : (fun W => Blk W g18 (burlC r) 39 ∧ Blk W gz (burlC r) 39 ∧ Blk W q2 (burlC (x :: r)) 39 ∧ Below w.heap.size w W) w22 := ⟨hZ21.keep hb22, hYz.keep hb22, hY21.keep hb22, hB22⟩
          refine ⟨hS2, ?_⟩
          refine h_op 17 hn hS2 (v := .bool true) (fun W _ hk => x_bn (lk_at hk (i := 140) rfl (fun _ => rfl) rfl) (lk_at hk (i := 141) rfl (fun _ => rfl) rfl) (burl_eqlC _ (.inl rfl) _ _ _ _ (lvTo_len (x :: r)) W)) ?_
          refine h_op 18 hn hS2 (fun W _ hk => x_an (fun _ => rfl) (lk_at hk (i := 132) rfl (fun _ => rfl) rfl) (fun _ => lk_at hk (i := 142) rfl (fun _ => rfl) rfl)) ?_
          refine h_as 19 hn hS2 ?_
          refine fh_end (by kernel_rfl) ?_
          clear hn s0 s1 s2 s3 s4 s5
          subst ha
          dsimp only [fr, cnd, Act.put, cond_true]
          simp only [List.setIfInBounds_toArray, List.set_cons_zero, List.set_cons_succ]
          go_wp2_with fail
          go_ret
          exact ⟨rfl, hB22⟩
        · have ba := b0 wr.drew (.cells (buC 0 (List.replicate 16 0)) 39)
          have hB1 : Below w.heap.size w (wr.drew.alloc (.cells (buC 0 (List.replicate 16 0)) 39)) := hB.trans ((bel_un29 ba).mono (show w.heap.size ≤ wr.drew.heap.size from hB.size))
          have hY1 : Blk (wr.drew.alloc (.cells (buC 0 (List.replicate 16 0)) 39)) q2 (burlC (x :: r)) 39 := hY.keep (bel_un29 ba)
          have hZ1 := blk_new wr.drew (buC 0 (List.replicate 16 0)) 39
          refine one_valx (d := 18) hn rfl (fun hk => x_alBu) ⟨hY1, hB1⟩ ?_ rfl rfl rfl
          have hgq : q2 < wr.drew.heap.size ∧ w.heap.size ≤ wr.drew.heap.size := ⟨hwr, hB.size⟩
          generalize wr.drew.alloc (.cells (buC 0 (List.replicate 16 0)) 39) = v1 at hB1 hY1 hZ1 ⊢
          generalize wr.drew.heap.size = g18 at hZ1 hgq ⊢
          refine fh_callx 7 (d := 118) (R := fun v wq => v = .agg (burlC r) ∧ Below v1.heap.size v1 wq) hn rfl (fun hk => call4_is en_spinney_burl_Change _ _ _ _ _ _ _ _ _ _ _ (.agg (burlC (x :: r))) (.string x.ky) (.agg #[.int .i64 x.k, .int .i64 x.x, .string x.s]) (.agg #[.int .i64 0, .int .i64 0, .string ⟨#[]⟩]) (lk_at hk (i := 111) rfl (fun _ => rfl) rfl) (lk_at hk (i := 112) rfl (fun _ => rfl) rfl) (lk_at hk (i := 116) rfl (fun _ => rfl) rfl) (lk_at hk (i := 117) rfl (fun _ => rfl) rfl) rfl) ((cC _).mono fun _ _ ⟨he, hb3⟩ => ⟨_, he, rfl, hb3⟩) ?_ rfl rfl (by kernel_rfl) rfl
          rintro v v2 ⟨rfl, hb2⟩
          have hB2 : Below w.heap.size w v2 := hB1.trans (hb2.mono hB1.size)
          have hY2 := hY1.keep hb2
          have hZ2 := hZ1.keep hb2
          refine ⟨⟨hY2, hB2⟩, ?_⟩
          have hoS := only_row v2 g18 (burlC r)
          have hYS := hY2.only hoS (by omega)
          have hBS := hB2.trans (hoS.below (by omega))
          have hZS := hZ2.row (burlC r)
          refine h_st 9 (st_buR r hZ2 (by rw [buC_size]; rfl)) ⟨hYS, hBS⟩ ?_
          refine fh_end (by kernel_rfl) ?_
          clear hn f0 f3 f4 f5
          subst ha
          dsimp only [fr, cnd, Act.put, cond_true]
          simp only [List.setIfInBounds_toArray, List.set_cons_zero, List.set_cons_succ]
          have hZ20 : Blk (v2.setRow g18 (burlC r)) g18 (burlC r) 39 := hZS
          have hY20 := hYS
          have hB20 := hBS
          clear hZS hYS hBS hoS hZ2 hY2 hB2
          generalize v2.setRow g18 (burlC r) = w20 at hZ20 hY20 hB20 ⊢
          have hRt := (HR.out w20 hB20).tailC (c := c) (by rw [List.length_cons]; omega)
          have cO3 := buOf_good (cutC ad c) (n - 1) (c - 1) r w20 (by omega) (hRt.more hB20.size) (by omega) (fun y hy => hf y (List.mem_cons_of_mem _ hy)) (good_tail hg)
          go_upto_region 24 with fail
          refine wp_region_lit ?_
          refine fl_start ?_
          generalize ha : Act.mk _ _ = a0
          have hn : a0.tmps.size = 163 := by rw [← ha]; kernel_rfl
          have h0 : (fr a0 []).eval (.tmp 0) = .slice (some ad) n c := by rw [← ha]; kernel_rfl
          refine fl_know hn rfl h0 ?_
          clear h0
          refine g_mv hn ?_
          refine g_o1 (i := 120) (vi := .slice (some ad) n c) (v := .slice (cutC ad c) (n - 1) (c - 1)) hn (fun ρ h1 hq => x_cut1 h1 (hq _) hn1 hc) ?_
          refine g_c1x en_spinney_burl_Of hn (R := fun v wz => v = .tuple #[.agg (burlC r), .int .i64 0] ∧ Below w20.heap.size w20 wz) (cO3.mono fun _ _ ⟨he, hb3⟩ => ⟨_, he, rfl, hb3⟩) ?_
          rintro v wza ⟨rfl, hbza⟩
          refine g_mv hn ?_
          refine g_ex hn ?_
          refine g_ex hn ?_
          refine al_row hn (alBu wza) ?_
          intro gz wzb hqz hYza hbzb
          refine g_str (c := burlC r) hYza ?_ (hs := by rw [burlC_size]; rfl) (hi := by rw [burlC_size]; kernel_rfl) (h1 := bu_one _ _)
          intro wz hoz hYz
          refine g_as hn ?_
          refine fl_end ?_
          clear hn
          subst ha
          dsimp only [fr, cnd, Act.put, cond_true]
          simp only [List.setIfInBounds_toArray, List.set_cons_zero, List.set_cons_succ]
          have hkz : Below w20.heap.size w20 wz := (hbza.trans (hbzb.mono hbza.size)).trans (hoz.below (by have := hbza.size; omega))
          have hqz' : w20.heap.size ≤ gz := by have := hbza.size; omega
          clear hYza hbza hbzb hoz hqz
          have hY21 := hY20.keep hkz
          have hZ21 := hZ20.keep hkz
          have hB21 : Below w.heap.size w wz := hB20.trans (hkz.mono hB20.size)
          clear hRt cO3 hY20 hZ20 hB20 hkz
          have s0 : ∀ W, (fun W => Blk W g18 (burlC r) 39 ∧ Blk W gz (burlC r) 39 ∧ Blk W q2 (burlC (x :: r)) 39 ∧ Below w.heap.size w W) W → _ := fun W h => ld_bu h.1 (lvTo_len r)
          have s1 : ∀ W, (fun W => Blk W g18 (burlC r) 39 ∧ Blk W gz (burlC r) 39 ∧ Blk W q2 (burlC (x :: r)) 39 ∧ Below w.heap.size w W) W → _ := fun W h => ld_bu h.2.1 (lvTo_len r)
          have s2 : ∀ W, (fun W => Blk W g18 (burlC r) 39 ∧ Blk W gz (burlC r) 39 ∧ Blk W q2 (burlC (x :: r)) 39 ∧ Below w.heap.size w W) W → _ := fun W h => ld_bu h.2.2.1 (lvTo_len (x :: r))
          have s3 : ∀ W, (fun W => Blk W g18 (burlC r) 39 ∧ Blk W gz (burlC r) 39 ∧ Blk W q2 (burlC (x :: r)) 39 ∧ Below w.heap.size w W) W → _ := fun W _ => fixv W (ad.add (0 * 4))
          have s4 : ∀ W, (fun W => Blk W g18 (burlC r) 39 ∧ Blk W gz (burlC r) 39 ∧ Blk W q2 (burlC (x :: r)) 39 ∧ Below w.heap.size w W) W → _ := fun W h => cl_val (k := 0) (hcW W h.2.2.2)
          have s5 : ∀ W, (fun W => Blk W g18 (burlC r) 39 ∧ Blk W gz (burlC r) 39 ∧ Blk W q2 (burlC (x :: r)) 39 ∧ Below w.heap.size w W) W → _ := fun W _ => bdVt W
          go_upto_region 25 with fail
          refine fh_start (S := (fun W => Blk W g18 (burlC r) 39 ∧ Blk W gz (burlC r) 39 ∧ Blk W q2 (burlC (x :: r)) 39 ∧ Below w.heap.size w W)) (by kernel_rfl) (⟨hZ21, hYz, hY21, hB21.drew⟩) (fun hS => ?_)
          generalize ha : Act.mk _ _ = a0
          have hn : a0.tmps.size = 163 := by rw [← ha]; kernel_rfl
          have h0 : (fr a0 []).eval (.tmp 0) = .slice (some ad) n c := by rw [← ha]; kernel_rfl
          refine fh_know hn rfl h0 ?_
          clear h0
          have h7 : (fr a0 [(0, true, .slice (some ad) n c)]).eval (.tmp 7) = .pointer (some ⟨q2, 0, none⟩) := by rw [← ha]; kernel_rfl
          refine fh_know hn rfl h7 ?_
          clear h7
          have h17 : (fr a0 [(7, true, .pointer (some ⟨q2, 0, none⟩)), (0, true, .slice (some ad) n c)]).eval (.tmp 17) = .string x.ky := by rw [← ha]; kernel_rfl
          refine fh_know hn rfl h17 ?_
          clear h17
          have h18 : (fr a0 [(17, true, .string x.ky), (7, true, .pointer (some ⟨q2, 0, none⟩)), (0, true, .slice (some ad) n c)]).eval (.tmp 18) = .pointer (some ⟨g18, 0, none⟩) := by rw [← ha]; kernel_rfl
          refine fh_know hn rfl h18 ?_
          clear h18
          have h19 : (fr a0 [(18, true, .pointer (some ⟨g18, 0, none⟩)), (17, true, .string x.ky), (7, true, .pointer (some ⟨q2, 0, none⟩)), (0, true, .slice (some ad) n c)]).eval (.tmp 19) = .pointer (some ⟨gz, 0, none⟩) := by rw [← ha]; kernel_rfl
          refine fh_know hn rfl h19 ?_
          clear h19
          have h20 : (fr a0 [(19, true, .pointer (some ⟨gz, 0, none⟩)), (18, true, .pointer (some ⟨g18, 0, none⟩)), (17, true, .string x.ky), (7, true, .pointer (some ⟨q2, 0, none⟩)), (0, true, .slice (some ad) n c)]).eval (.tmp 20) = .int .i64 0 := by rw [← ha]; kernel_rfl
          refine fh_know hn rfl h20 ?_
          clear h20
          refine h_mv 0 hn hS ?_
          refine h_bc 1 hn hS ?_ (v := .bool true) (hx := fun W _ => er_eql _ 0 0 W)
          refine h_mv 2 hn hS ?_
          refine h_ld 3 hn hS ?_
          refine h_ld 4 hn hS ?_
          refine h_op 5 hn hS (v := .bool true) (fun W _ hk => x_bn (lk_at hk (i := 128) rfl (fun _ => rfl) rfl) (lk_at hk (i := 129) rfl (fun _ => rfl) rfl) (burl_eqlC _ (.inl rfl) _ _ _ _ (lvTo_len r) W)) ?_
          refine h_op 6 hn hS (fun W _ hk => x_an (fun _ => rfl) (lk_at hk (i := 127) rfl (fun _ => rfl) rfl) (fun _ => lk_at hk (i := 130) rfl (fun _ => rfl) rfl)) ?_
          refine h_mv 7 hn hS ?_
          refine h_ld 8 hn hS ?_
          refine h_mv 9 hn hS ?_
          refine h_bd 10 hn hS ?_ (qs := #[]) (v := .agg #[.int .i64 0, .int .i64 0, .string ⟨#[]⟩]) (hp := fun _ _ => by simp)
          refine h_mv 11 hn hS ?_
          refine h_op 12 hn hS (fun W _ hk => x_ix0 (lk_at hk (i := 136) rfl (fun _ => rfl) rfl) rfl hn1) ?_
          refine h_fd 13 hn hS ?_
          refine h_ld 14 hn hS ?_
          refine h_ld 16 hn hS ?_
          refine fh_callx 15 (d := 140) (R := fun v wq => v = .agg (burlC (x :: r)) ∧ Below wz.drew.heap.size wz.drew wq) hn rfl (fun hk => call4_is en_spinney_burl_Change _ _ _ _ _ _ _ _ _ _ _ (.agg (burlC r)) (.string x.ky) (.agg #[.int .i64 0, .int .i64 0, .string ⟨#[]⟩]) (.agg #[.int .i64 x.k, .int .i64 x.x, .string x.s]) (lk_at hk (i := 133) rfl (fun _ => rfl) rfl) (lk_at hk (i := 134) rfl (fun _ => rfl) rfl) (lk_at hk (i := 135) rfl (fun _ => rfl) rfl) (lk_at hk (i := 139) rfl (fun _ => rfl) rfl) rfl) ((cD _).mono fun _ _ ⟨he, hb3⟩ => ⟨_, he, rfl, hb3⟩) ?_ rfl rfl (by kernel_rfl) rfl
          rintro v w22 ⟨rfl, hb22'⟩
          have hb22 := bel_un29 hb22'
          have hB22 : Below w.heap.size w w22 := hB21.trans ((show Below wz.heap.size wz w22 from hb22).mono hB21.size)
          have hS2 : (fun W => Blk W g18 (burlC r) 39 ∧ Blk W gz (burlC r) 39 ∧ Blk W q2 (burlC (x :: r)) 39 ∧ Below w.heap.size w W) w22 := ⟨hZ21.keep hb22, hYz.keep hb22, hY21.keep hb22, hB22⟩
          refine ⟨hS2, ?_⟩
          refine h_op 17 hn hS2 (v := .bool true) (fun W _ hk => x_bn (lk_at hk (i := 140) rfl (fun _ => rfl) rfl) (lk_at hk (i := 141) rfl (fun _ => rfl) rfl) (burl_eqlC _ (.inl rfl) _ _ _ _ (lvTo_len (x :: r)) W)) ?_
          refine h_op 18 hn hS2 (fun W _ hk => x_an (fun _ => rfl) (lk_at hk (i := 132) rfl (fun _ => rfl) rfl) (fun _ => lk_at hk (i := 142) rfl (fun _ => rfl) rfl)) ?_
          refine h_as 19 hn hS2 ?_
          refine fh_end (by kernel_rfl) ?_
          clear hn s0 s1 s2 s3 s4 s5
          subst ha
          dsimp only [fr, cnd, Act.put, cond_true]
          simp only [List.setIfInBounds_toArray, List.set_cons_zero, List.set_cons_succ]
          go_wp2_with fail
          go_ret
          exact ⟨rfl, hB22⟩
theorem burlChanges_all (A : Option Addr) (n c : Nat) (l : List Cl) (A2 : Option Addr) (m d : Nat) (ops : List Op8) (w : World) (hn : l.length = n) (hr : RdX 4 w.heap.size w A (l.map Cl.cells)) (_ : n ≤ maxLen) (hc : n ≤ c) (hf : ∀ x, x ∈ l → x.fits) (hn2 : ops.length = m) (hr2 : RdX 8 w.heap.size w A2 (ops.map Op8.cells)) (_ : m ≤ maxLen) (hf2 : ∀ x, x ∈ ops → x.fits) :
    Calls Try.prog 5 #[.slice A n c, .slice A2 m d] w fun e w' => e = .returned (.bool true) ∧ Below w.heap.size w w' := by
  by_cases hs : 60 < n
  · exact burlChanges_m1 A n c A2 m d w hs
  by_cases hs2 : 40 < m
  · exact burlChanges_m2 A n c A2 m d w (by omega) hs2
  cases hg : goodCls l with
  | false => exact burlChanges_b A n c A2 m d l w hn hr (by omega) hc hf (by omega) hg
  | true => exact burlChanges_go A n c A2 m d l ops w hn hr (by omega) hc hf hn2 hr2 (by omega) hf2 hg
end Go.Proofs.Ytokkmofcijfmiab
