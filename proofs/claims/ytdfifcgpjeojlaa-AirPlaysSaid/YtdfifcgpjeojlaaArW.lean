/-
  WHAT IS PROVED: the law AirPlays returns true. Conditions: those typed in each theorem.
-/
import Derived.Test.YtdfifcgpjeojlaaGQ8
import Derived.Test.YtdfifcgpjeojlaaGQ9
import Derived.Test.YtdfifcgpjeojlaaGQ10
import Derived.Deep.DeepCutAuto
import Derived.Deep.CutBlock
namespace Go.Proofs.Ytdfifcgpjeojlaa
open Go.RowKit


set_option maxRecDepth 100000 in
set_option maxHeartbeats 40000000 in
theorem airPlays_any (A : Option Addr) (N c : Nat) (l : List Ap) (w : World) (hn0 : l.length = N) (hr : RdX 6 w.heap.size w A (l.map Ap.cells)) (hf : ∀ x, x ∈ l → ApF w x) : Calls Try.prog 4 #[.slice A N c] w fun e w' => e = .returned (.bool true) ∧ Below w.heap.size w w' := by
  have HN := Lib.hid hn0
  have cN := airNew_any w
  go_enter Try.func4, Try.ntmps4
  go_wp2_with fail
  refine cN.mono ?_
  rintro e w1 ⟨p, rfl, hp, hM1, hB1⟩
  obtain ⟨base, hbs⟩ : ∃ base, base = w.heap.size := ⟨_, rfl⟩
  rw [← hbs] at hM1 hB1 hp hr
  have hpb : base ≤ p := by omega
  have HB := Lib.hid hbs
  have HR := Lib.hid hr
  have HF := Lib.hid hf
  have hb1 : base ≤ w1.heap.size := by have := hB1.size; omega
  clear cN hp hbs hr hn0 hf
  have cA := awake_any w1
  go_wp2_with fail
  refine cA.mono ?_
  rintro e w2 ⟨rfl, hb2⟩
  clear cA
  by_cases h80 : N ≤ 80
  · have i0 : ¬ (80 : Int) < (N : Int) := by omega
    have hK0 : KX base p w w2 [] none 0 0 [] [] [] := ⟨none, 0, 0, [], [], ⟨hM1.keep hb2, ⟨RdX.nil _ _ _ _, rfl, Nat.le_refl _, (fun y h => nomatch h)⟩, (fun k h => by
      rcases h with ⟨h, _⟩ | ⟨y, hy, _⟩
      · exact absurd rfl h
      · cases hy), OkL.nil, OkL.nil, hpb, Nat.le_trans hb1 hb2.size, (fun k h => nomatch h), (fun k h => nomatch h)⟩, rfl, rfl, hB1.trans (hb2.mono hb1)⟩
    clear hM1 hB1 hb1 hb2
    go_wp2_with fail
    go_loopw [4, 35] (fun t4 i wr => ∃ (k : Nat) (B : Option Addr) (m d : Nat) (a : List Pc), k ≤ N ∧ i = .int .i64 k ∧ t4 = .slice B m d ∧ KX base p w wr a B m d a [] []) (fun _ i _ => N - (intOf i).toNat)
    case atStart => exact ⟨0, none, 0, 0, [], Nat.zero_le _, rfl, rfl, hK0⟩
    case round =>
      clear hK0
      obtain ⟨k, B, m, d, a, hk, rfl, rfl, hK⟩ := hrel
      by_cases hlt : k < N
      · have i2 : (k : Int) < (N : Int) := by omega
        obtain ⟨x, hx⟩ : ∃ x, l[k]? = some x := ⟨_, List.getElem?_eq_getElem (show k < l.length by have := HN.out; omega)⟩
        obtain ⟨ad, rfl, hadb, hc0⟩ := HR.out k x.cells (by rw [List.getElem?_map, hx]; rfl)
        have hc : ∀ j v, x.a.cells[j]? = some v → wr.cell? (ad.add (k * 6 + j)) = some v := fun j v hv => (hK.below.cell (by rw [add_block]; exact hadb)).trans (hc0 j v hv)
        have hFx := HF.out x (List.mem_of_getElem? hx)
        have x1 := acix wr ad N c k hlt
        have l1 := acld hc
        go_upto_region 7 with fail
        refine wp_region_lit ?_
        refine fl_start ?_
        generalize ha : Act.mk _ _ = a0
        have hn : a0.tmps.size = 227 := by rw [← ha]; kernel_rfl
        have h33 : (fr a0 []).eval (.tmp 33) = .slice (some ad) N c := by rw [← ha]; kernel_rfl
        refine fl_know hn rfl h33 ?_
        clear h33
        have h35 : (fr a0 [(33, true, .slice (some ad) N c)]).eval (.tmp 35) = .int .i64 (k : Nat) := by rw [← ha]; kernel_rfl
        refine fl_know hn rfl h35 ?_
        clear h35
        refine g_ix hn ?_
        refine g_ld hn ?_
        refine g_w (v := .pointer (some ⟨wr.heap.size, 0, none⟩)) (w2 := wr.alloc (.cells zAc tAct)) hn (fun _ => x_alAc) ?_
        have hX2 := blk_new wr zAc tAct
        have hb2 := b0 wr (.cells zAc tAct)
        generalize wr.alloc (.cells zAc tAct) = w2 at hX2 hb2 ⊢
        obtain ⟨q, hq⟩ : ∃ q, q = wr.heap.size := ⟨_, rfl⟩
        rw [← hq] at hX2 ⊢
        refine g_str hX2 ?_ (h1 := ac_oneC x.a)
        intro w3 ho3 hX3
        refine fl_end ?_
        clear hn x1 l1
        subst ha
        dsimp only [fr, cnd, Act.put, cond_true]
        simp only [List.setIfInBounds_toArray, List.set_cons_zero, List.set_cons_succ]
        have hK3 := hK.addY (hb2.trans (ho3.below (by omega))) (k := q) (by omega) hX3.lt
        clear hX2 hb2 ho3 hq hc hc0 hK hadb hx
        have f3 := acf3 w3 q
        have f5 := pf2Q w3 q
        have l5 := ld_sl (hX3.cell 5)
        go_upto_region 8 with fail
        refine wp_region_lit ?_
        refine fl_start ?_
        generalize ha : Act.mk _ _ = a0
        have hn : a0.tmps.size = 227 := by rw [← ha]; kernel_rfl
        have h6 : (fr a0 []).eval (.tmp 6) = .pointer (some ⟨q, 0, none⟩) := by rw [← ha]; kernel_rfl
        refine fl_know hn rfl h6 ?_
        clear h6
        refine g_fd hn ?_
        refine g_fd hn ?_
        refine g_ld hn ?_
        refine g_ln hn ?_
        refine g_gtr hn ?_
        refine fl_end ?_
        clear hn f3 f5 l5
        subst ha
        dsimp only [fr, cnd, Act.put, cond_true]
        simp only [List.setIfInBounds_toArray, List.set_cons_zero, List.set_cons_succ]
        by_cases hn100 : x.a.n ≤ 100
        · have i4 : ¬ (100 : Int) < (x.a.n : Int) := by omega
          have HFx : Hid (∀ W : World, Below base w W → FlIn W x.fl) := Lib.hid (fun W hW => hFx.fl (by rw [← HB.out]; exact hW) hn100)
          have HFr : Hid (x.fl.b ≠ [] → ∀ ad, x.fl.A = some ad → ad.block < base) := Lib.hid (by rw [HB.out]; exact hFx.far)
          clear hFx
          go_upto_region 9 with fail
          refine wp_region_lit ?_
          refine fl_start ?_
          generalize ha : Act.mk _ _ = a0
          have hn : a0.tmps.size = 227 := by rw [← ha]; kernel_rfl
          refine g_ac hn ?_
          refine g_ac hn ?_
          refine fl_end ?_
          clear hn
          subst ha
          dsimp only [fr, cnd, Act.put, cond_true]
          simp only [List.setIfInBounds_toArray, List.set_cons_zero, List.set_cons_succ]
          have f0 := acf0 w3 q
          have l0 := ld_in (hX3.cell 0)
          go_upto_region 10 with fail
          refine wp_region_lit ?_
          refine fl_start ?_
          generalize ha : Act.mk _ _ = a0
          have hn : a0.tmps.size = 227 := by rw [← ha]; kernel_rfl
          have h6 : (fr a0 []).eval (.tmp 6) = .pointer (some ⟨q, 0, none⟩) := by rw [← ha]; kernel_rfl
          refine fl_know hn rfl h6 ?_
          clear h6
          refine g_fd hn ?_
          refine g_ld hn ?_
          refine fl_end ?_
          clear hn f0 l0
          subst ha
          dsimp only [fr, cnd, Act.put, cond_true]
          simp only [List.setIfInBounds_toArray, List.set_cons_zero, List.set_cons_succ]
          go_upto_block 2 with fail
          go_cut [4, 7, 8] (fun s4 s7 s8 wx => ∃ (B0 : Option Addr) (m0 d0 : Nat) (a0 : List Pc) (zE : Int), s4 = .slice B0 m0 d0 ∧ s7 = .int .i64 zE ∧ s8 = .int .i64 zE ∧ KX base p w wx a0 B0 m0 d0 a0 [] [])
          case first =>
            by_cases h1 : x.a.k = 1
            · skip
              exact air_kind1 (by kernel_rfl) h1 hK3 hX3 HFx HFr hn100 (Lib.hid (fun hT => by
                clear h1
                go_wp2_with fail
                go_meet
                exact ⟨_, _, _, _, _, rfl, rfl, rfl, hT⟩))
            · skip
              by_cases h2 : x.a.k = 2
              · skip
                exact air_kind2 (by kernel_rfl) h2 hK3 hX3 HFx HFr hn100 (Lib.hid (fun hT => by
                  clear h2
                  go_wp2_with fail
                  go_meet
                  exact ⟨_, _, _, _, _, rfl, rfl, rfl, hT⟩))
              · skip
                by_cases h3 : x.a.k = 3
                · skip
                  exact air_kind3 (by kernel_rfl) h3 hK3 hX3 HFx HFr hn100 (Lib.hid (fun hT => by
                    clear h3
                    go_wp2_with fail
                    go_meet
                    exact ⟨_, _, _, _, _, rfl, rfl, rfl, hT⟩))
                · skip
                  by_cases h4 : x.a.k = 4
                  · skip
                    exact air_kind4 (by kernel_rfl) h4 hK3 hX3 HFx HFr hn100 (Lib.hid (fun hT => by
                      clear h4
                      go_wp2_with fail
                      go_meet
                      exact ⟨_, _, _, _, _, rfl, rfl, rfl, hT⟩))
                  · skip
                    by_cases h5 : x.a.k = 5
                    · skip
                      exact air_kind5 (by kernel_rfl) h5 hK3 hX3 HFx HFr hn100 (Lib.hid (fun hT => by
                        clear h5
                        go_wp2_with fail
                        go_meet
                        exact ⟨_, _, _, _, _, rfl, rfl, rfl, hT⟩))
                    · skip
                      by_cases h6 : x.a.k = 6
                      · skip
                        exact air_kind6 (by kernel_rfl) h6 hK3 hX3 HFx HFr hn100 (Lib.hid (fun hT => by
                          clear h6
                          go_wp2_with fail
                          go_meet
                          exact ⟨_, _, _, _, _, rfl, rfl, rfl, hT⟩))
                      · skip
                        exact air_kind7 (by kernel_rfl) h1 h2 h3 h4 h5 h6 hK3 hX3 HFx HFr hn100 (Lib.hid (fun hT => by
                          go_wp2_with fail
                          go_meet
                          exact ⟨_, _, _, _, _, rfl, rfl, rfl, hT⟩))
          case rest =>
            obtain ⟨B', m', d', aT, zE, rfl, rfl, rfl, hT⟩ := hcut
            clear hK3 hX3 HFx HFr
            have hT0 := hT.less
            clear hT
            have cP := kx_parcels hT0
            have hlen := hT0.lenB
            go_upto_region 43 with fail
            refine wp_region_lit ?_
            refine fl_start ?_
            generalize ha : Act.mk _ _ = a0
            have hn : a0.tmps.size = 227 := by rw [← ha]; kernel_rfl
            have h3 : (fr a0 []).eval (.tmp 3) = .pointer (some ⟨p, 0, none⟩) := by rw [← ha]; kernel_rfl
            refine fl_know hn rfl h3 ?_
            clear h3
            refine g_mv hn ?_
            refine g_c1x en_spinney_air_Air_Parcels hn (R := fun v w6 => ∃ (gl n2 : Nat) (zs : List Fl), v = .slice (some ⟨gl, 0, none⟩) n2 n2 ∧ OwnX 29 3 wc.heap.size w6 (some ⟨gl, 0, none⟩) n2 n2 (zs.map Fl.parcel) ∧ (∀ z, z ∈ zs → OwnB wc.heap.size w6 z.A z.n z.c z.b ∧ z.n ≤ 100) ∧ zs.Pairwise Apt ∧ zs.map Fl.pc = aT ∧ Below wc.heap.size wc w6) (cP.mono fun _ _ ⟨gl, n2, zs, he, h1, h2, h3, h4, h5⟩ => ⟨_, he, gl, n2, zs, rfl, h1, h2, h3, h4, h5⟩) ?_
            rintro v w6 ⟨gl, n2, zs, rfl, hO6, hZ6, hD6, hpc0, hb6⟩
            refine g_as hn ?_
            refine fl_end ?_
            clear hn cP
            subst ha
            dsimp only [fr, cnd, Act.put, cond_true]
            simp only [List.setIfInBounds_toArray, List.set_cons_zero, List.set_cons_succ]
            have hn2 : n2 = m' := by
              have h1 := hO6.len
              rw [List.length_map] at h1
              have h2 : zs.length = (aT).length := by rw [← hpc0, List.length_map]
              omega
            subst hn2
            have hpc := Lib.hid hpc0
            clear hpc0
            have hT6 := hT0.keep hb6
            have cL := kx_len hT6
            rw [hlen] at cL
            go_upto_region 44 with fail
            refine wp_region_lit ?_
            refine fl_start ?_
            generalize ha : Act.mk _ _ = a0
            have hn : a0.tmps.size = 227 := by rw [← ha]; kernel_rfl
            have h3 : (fr a0 []).eval (.tmp 3) = .pointer (some ⟨p, 0, none⟩) := by rw [← ha]; kernel_rfl
            refine fl_know hn rfl h3 ?_
            clear h3
            have h4 : (fr a0 [(3, true, .pointer (some ⟨p, 0, none⟩))]).eval (.tmp 4) = .slice B' n2 d' := by rw [← ha]; kernel_rfl
            refine fl_know hn rfl h4 ?_
            clear h4
            have h7 : (fr a0 [(4, true, .slice B' n2 d'), (3, true, .pointer (some ⟨p, 0, none⟩))]).eval (.tmp 7) = .int .i64 zE := by rw [← ha]; kernel_rfl
            refine fl_know hn rfl h7 ?_
            clear h7
            have h8 : (fr a0 [(7, true, .int .i64 zE), (4, true, .slice B' n2 d'), (3, true, .pointer (some ⟨p, 0, none⟩))]).eval (.tmp 8) = .int .i64 zE := by rw [← ha]; kernel_rfl
            refine fl_know hn rfl h8 ?_
            clear h8
            have h17 : (fr a0 [(8, true, .int .i64 zE), (7, true, .int .i64 zE), (4, true, .slice B' n2 d'), (3, true, .pointer (some ⟨p, 0, none⟩))]).eval (.tmp 17) = .slice (some ⟨gl, 0, none⟩) n2 n2 := by rw [← ha]; kernel_rfl
            refine fl_know hn rfl h17 ?_
            clear h17
            refine g_mv hn ?_
            refine g_mv hn ?_
            refine g_bn hn ?_ (hr := neI w6 168 169 zE)
            refine g_mv hn ?_
            refine g_mv hn ?_
            refine g_c1x en_spinney_air_Air_Len hn (R := fun v w7 => v = .int .i64 (n2 : Nat) ∧ w6 = w7) (cL.mono fun _ _ ⟨he, hw⟩ => ⟨_, he, rfl, hw.symm⟩) ?_
            rintro v w7 ⟨rfl, hw7⟩
            subst hw7
            refine g_mv hn ?_
            refine g_ln hn ?_
            refine g_bn hn ?_ (hr := neI w6 173 175 (n2 : Nat))
            refine g_or hn ?_
            refine g_mv hn ?_
            refine g_mv hn ?_
            refine g_ln hn ?_
            refine g_mv hn ?_
            refine g_ln hn ?_
            refine g_bn hn ?_ (hr := neI w6 180 182 (n2 : Nat))
            refine g_or hn ?_
            refine fl_end ?_
            clear hn cL
            subst ha
            dsimp only [fr, cnd, Act.put, cond_true]
            simp only [List.setIfInBounds_toArray, List.set_cons_zero, List.set_cons_succ]
            go_wp2_with fail
            have hLI : LI wc.heap.size gl n2 zs 0 wc w6 := ⟨hO6, fun j z _ hz => (hZ6 z (List.mem_of_getElem? hz)).1, hb6⟩
            have HZ := Lib.hid (fun (j : Nat) (z : Fl) (hz : zs[j]? = some z) => (hZ6 z (List.mem_of_getElem? hz)).2)
            have hzl : zs.length = n2 := by
              have h1 := hO6.len
              rw [List.length_map] at h1
              exact h1
            have hn4 : n2 ≤ 400 := hT0.few.1
            clear hO6 hZ6 hT6 hlen
            have hb6s := hb6.size
            clear hb6
            go_loopw [187] (fun i wr => ∃ k2 : Nat, k2 ≤ n2 ∧ i = .int .i64 k2 ∧ LI wc.heap.size gl n2 zs k2 wc wr ∧ wc.heap.size ≤ wr.heap.size) (fun i _ => n2 - (intOf i).toNat)
            case atStart => exact ⟨0, Nat.zero_le _, rfl, hLI, hb6s⟩
            case round =>
              clear hLI hb6s
              obtain ⟨k2, hk2, rfl, hI, hsz⟩ := hrel
              by_cases hlt2 : k2 < n2
              · have i3 : (k2 : Int) < (n2 : Int) := by omega
                obtain ⟨z, hz⟩ : ∃ z, zs[k2]? = some z := ⟨_, List.getElem?_eq_getElem (show k2 < zs.length by omega)⟩
                have hT6 := hT0.keep hI.bel
                obtain ⟨ad2, y, rfl, hyb, hcy, hFy⟩ := hT6.refAt hlt2
                have hzy : z.pc = y.pc := by
                  rw [← hpc.out, List.getElem?_map, hz] at hyb
                  injection hyb
                obtain ⟨ad3, had3, had3l, hcz⟩ := hI.row.rd k2 z.parcel (by rw [List.getElem?_map, hz]; rfl)
                injection had3 with had3
                subst had3
                have hOz := hI.byt k2 z (Nat.le_refl _) hz
                have cS := same_any (C := wr.heap.size) (C2 := wr.heap.size) z y wr.drew (congrArg Pc.f hzy) (congrArg Pc.t hzy) (congrArg Pc.b hzy) hOz.rd hOz.len hFy.rd hFy.len (Nat.le_refl _) (Nat.le_refl _)
                have hzn := HZ.out k2 z hz
                have HZz := Lib.hid hz
                have ix0 : ∀ W : World, (fun W => Below wr.heap.size wr W) W → _ := fun W _ => pcix W ⟨gl, 0, none⟩ n2 n2 k2 hlt2
                have ix1 : ∀ W : World, (fun W => Below wr.heap.size wr W) W → _ := fun W _ => rfix W ad2 n2 d' k2 hlt2
                have ld0 : ∀ W : World, (fun W => Below wr.heap.size wr W) W → _ := fun W hW => pldP (W := W) (ad := ⟨gl, 0, none⟩) (k := k2) (x := z) (fun j v hv => (hW.cell (by rw [add_block]; exact had3l)).trans (hcz j v hv))
                have hadl : ad2.block < wr.heap.size := by
                  have := World.block_lt_of_cell? wr _ (hcy 0 _ rfl)
                  rw [add_block] at this
                  exact this
                have ld1 : ∀ W : World, (fun W => Below wr.heap.size wr W) W → _ := fun W hW => rfld (W := W) (ad := ad2) (k := k2) (x := y) (fun j v hv => (hW.cell (by rw [add_block]; exact hadl)).trans (hcy j v hv))
                clear hT6 hcy hcz hyb hz had3l
                go_upto_region 49 with fail
                refine fh_start (S := (fun W => Below wr.heap.size wr W)) (by kernel_rfl) ((Below.refl _ _).drew) (fun hS => ?_)
                generalize ha : Act.mk _ _ = a0
                have hn : a0.tmps.size = 227 := by rw [← ha]; kernel_rfl
                have h4 : (fr a0 []).eval (.tmp 4) = .slice (some ad2) n2 d' := by rw [← ha]; kernel_rfl
                refine fh_know hn rfl h4 ?_
                clear h4
                have h17 : (fr a0 [(4, true, .slice (some ad2) n2 d')]).eval (.tmp 17) = .slice (some ⟨gl, 0, none⟩) n2 n2 := by rw [← ha]; kernel_rfl
                refine fh_know hn rfl h17 ?_
                clear h17
                have h18 : (fr a0 [(17, true, .slice (some ⟨gl, 0, none⟩) n2 n2), (4, true, .slice (some ad2) n2 d')]).eval (.tmp 18) = .int .i64 (k2 : Nat) := by rw [← ha]; kernel_rfl
                refine fh_know hn rfl h18 ?_
                clear h18
                refine h_mv 0 hn hS ?_
                refine h_mv 1 hn hS ?_
                refine h_ix 2 hn hS ?_
                refine h_ld 3 hn hS ?_
                refine h_mv 4 hn hS ?_
                refine h_mv 5 hn hS ?_
                refine h_ix 6 hn hS ?_
                refine h_ld 7 hn hS ?_
                refine h_c2 8 en_spinney_spinneylaw22_same hn (R := fun v w7 => v = .bool true ∧ Below wr.heap.size wr w7) (cS.mono fun _ _ ⟨he, hb⟩ => ⟨_, he, rfl, bel_un29 hb⟩) ?_
                rintro v w7 ⟨rfl, hb7⟩
                refine ⟨hb7, ?_⟩
                refine h_nt 9 hn hb7 ?_
                refine fh_end (by kernel_rfl) ?_
                clear hn ix0 ix1 ld0 ld1 cS
                subst ha
                dsimp only [fr, cnd, Act.put, cond_true]
                simp only [List.setIfInBounds_toArray, List.set_cons_zero, List.set_cons_succ]
                have hI7 := hI.keep hsz hb7
                have hs7 : wc.heap.size ≤ w7.heap.size := Nat.le_trans hsz hb7.size
                have hOz7 := hOz.keep hb7
                clear hI hOz hb7 hS
                obtain ⟨ad5, had5, -, hc5⟩ := hI7.row.rd k2 z.parcel (by rw [List.getElem?_map, HZz.out]; rfl)
                injection had5 with had5
                subst had5
                have l5 := ld_sl (W := w7) (a := ⟨gl, k2 * 3 + 2, none⟩) (A := z.A) (n := z.n) (c := z.c) (by have := hc5 2 _ rfl; rw [addA] at this; exact this)
                have ix5 := pcix w7 ⟨gl, 0, none⟩ n2 n2 k2 hlt2
                rw [addA] at ix5
                have f5 := pf2A w7 gl (k2 * 3)
                clear hc5
                go_upto_region 51 with fail
                refine wp_region_lit ?_
                refine fl_start ?_
                generalize ha : Act.mk _ _ = a0
                have hn : a0.tmps.size = 227 := by rw [← ha]; kernel_rfl
                have h17 : (fr a0 []).eval (.tmp 17) = .slice (some ⟨gl, 0, none⟩) n2 n2 := by rw [← ha]; kernel_rfl
                refine fl_know hn rfl h17 ?_
                clear h17
                have h18 : (fr a0 [(17, true, .slice (some ⟨gl, 0, none⟩) n2 n2)]).eval (.tmp 18) = .int .i64 (k2 : Nat) := by rw [← ha]; kernel_rfl
                refine fl_know hn rfl h18 ?_
                clear h18
                refine g_mv hn ?_
                refine g_mv hn ?_
                refine g_ix hn ?_
                refine g_fd hn ?_
                refine g_ld hn ?_
                refine g_ln hn ?_
                refine g_mc hn ?_
                refine fl_end ?_
                clear hn ix5 f5 l5
                subst ha
                dsimp only [fr, cnd, Act.put, cond_true]
                simp only [List.setIfInBounds_toArray, List.set_cons_zero, List.set_cons_succ]
                have hI8 := hI7.next
                clear hI7
                go_wp2_with fail
                go_loopw [206] (fun i wr => ∃ (j5 : Nat) (bs : List UInt8), j5 ≤ z.n ∧ i = .int .i64 j5 ∧ LI wc.heap.size gl n2 zs (k2 + 1) wc wr ∧ OwnB wc.heap.size wr z.A z.n z.c bs ∧ wc.heap.size ≤ wr.heap.size) (fun i _ => z.n - (intOf i).toNat)
                case atStart => exact ⟨0, _, Nat.zero_le _, rfl, hI8, hOz7, hs7⟩
                case round =>
                  clear hI8 hOz7 hs7
                  obtain ⟨j5, bs, hj5, rfl, hI5, hO5, hs5⟩ := hrel
                  by_cases hj5l : j5 < z.n
                  · have i5 : (j5 : Int) < (z.n : Int) := by omega
                    obtain ⟨gz, hzA, hgz1, hgz2⟩ := hO5.form (by omega)
                    obtain ⟨cz, hXz⟩ := (show OwnB wc.heap.size wr (some ⟨gz, 0, none⟩) z.n z.c bs by rw [← hzA]; exact hO5).blkT rfl
                    have hO5' : OwnB wc.heap.size wr (some ⟨gz, 0, none⟩) z.n z.c bs := by rw [← hzA]; exact hO5
                    obtain ⟨v5, hv5⟩ : ∃ v5, bs[j5]? = some v5 := ⟨_, List.getElem?_eq_getElem (show j5 < bs.length by have := hO5.len; omega)⟩
                    have c8 := hO5'.cellAt hv5
                    have hfr := hO5'.free j5
                    obtain ⟨ad5, had5, -, hc5⟩ := hI5.row.rd k2 z.parcel (by rw [List.getElem?_map, HZz.out]; rfl)
                    injection had5 with had5
                    subst had5
                    have l5 := ld_sl (W := wr) (a := ⟨gl, k2 * 3 + 2, none⟩) (A := z.A) (n := z.n) (c := z.c) (by have := hc5 2 _ rfl; rw [addA] at this; exact this)
                    rw [hzA] at l5
                    have ix5 := pcix wr ⟨gl, 0, none⟩ n2 n2 k2 hlt2
                    rw [addA] at ix5
                    have f5 := pf2A wr gl (k2 * 3)
                    have ixb := bixA wr gz z.n z.c j5 hj5l
                    have lb := ld_u8A c8
                    obtain ⟨x5, hx5⟩ := inc8T wr 216 v5.toNat
                    clear hc5
                    go_upto_region 54 with fail
                    refine wp_region_lit ?_
                    refine fl_start ?_
                    generalize ha : Act.mk _ _ = a0
                    have hn : a0.tmps.size = 227 := by rw [← ha]; kernel_rfl
                    have h17 : (fr a0 []).eval (.tmp 17) = .slice (some ⟨gl, 0, none⟩) n2 n2 := by rw [← ha]; kernel_rfl
                    refine fl_know hn rfl h17 ?_
                    clear h17
                    have h18 : (fr a0 [(17, true, .slice (some ⟨gl, 0, none⟩) n2 n2)]).eval (.tmp 18) = .int .i64 (k2 : Nat) := by rw [← ha]; kernel_rfl
                    refine fl_know hn rfl h18 ?_
                    clear h18
                    have h19 : (fr a0 [(18, true, .int .i64 (k2 : Nat)), (17, true, .slice (some ⟨gl, 0, none⟩) n2 n2)]).eval (.tmp 19) = .int .i64 (j5 : Nat) := by rw [← ha]; kernel_rfl
                    refine fl_know hn rfl h19 ?_
                    clear h19
                    refine g_mv hn ?_
                    refine g_mv hn ?_
                    refine g_ix hn ?_
                    refine g_fd hn ?_
                    refine g_ld hn ?_
                    refine g_mv hn ?_
                    refine g_ix hn ?_
                    refine g_ld hn ?_
                    refine g_bc hn ?_ (hr := hx5)
                    refine g_ix hn ?_
                    refine g_stt hXz (hr := st_u8A c8 hfr _) ?_
                    intro w9 ho9 hX9
                    refine fl_end ?_
                    clear hn ix5 f5 l5 ixb lb hx5
                    subst ha
                    dsimp only [fr, cnd, Act.put, cond_true]
                    simp only [List.setIfInBounds_toArray, List.set_cons_zero, List.set_cons_succ]
                    have hO9 : OwnB wc.heap.size w9 z.A z.n z.c (bs.set j5 x5) := by
                      rw [hzA]
                      exact blk_of_setB hO5' hXz j5 x5 hX9
                    have hI9 := hI5.write hD6 HZz.out hzA hgz1 hXz ho9
                    have hs9 : wc.heap.size ≤ w9.heap.size := by rw [ho9.size]; exact hs5
                    clear hO5 hO5' hXz c8 hfr hI5 ho9 hX9
                    go_wp2_with fail
                    refine ⟨?_, ?_⟩
                    · first
                      | exact ⟨j5 + 1, _, by omega, by go_num, hI9, hO9, hs9⟩
                      | repeat apply Exists.intro
                        refine ⟨?_, rfl⟩
                        exact ⟨j5 + 1, _, by omega, by go_num, hI9, hO9, hs9⟩
                      | repeat apply Exists.intro
                        refine ⟨?_, rfl, rfl, rfl, rfl⟩
                        exact ⟨j5 + 1, _, by omega, by go_num, hI9, hO9, hs9⟩
                      | repeat apply Exists.intro
                        refine ⟨?_, rfl, rfl, rfl⟩
                        exact ⟨j5 + 1, _, by omega, by go_num, hI9, hO9, hs9⟩
                      | repeat apply Exists.intro
                        refine ⟨?_, rfl, rfl⟩
                        exact ⟨j5 + 1, _, by omega, by go_num, hI9, hO9, hs9⟩
                      | repeat apply Exists.intro
                        refine ⟨?_, rfl, rfl, rfl, rfl, rfl⟩
                        exact ⟨j5 + 1, _, by omega, by go_num, hI9, hO9, hs9⟩
                      | repeat apply Exists.intro
                        refine ⟨?_, rfl, rfl, rfl, rfl, rfl, rfl⟩
                        exact ⟨j5 + 1, _, by omega, by go_num, hI9, hO9, hs9⟩
                    · simp [intOf]; omega
                  · have i5 : ¬ (j5 : Int) < (z.n : Int) := by omega
                    clear hO5
                    go_wp2_with fail
                    refine ⟨?_, ?_⟩
                    · first
                      | exact ⟨k2 + 1, by omega, by go_num, hI5, hs5⟩
                      | repeat apply Exists.intro
                        refine ⟨?_, rfl⟩
                        exact ⟨k2 + 1, by omega, by go_num, hI5, hs5⟩
                      | repeat apply Exists.intro
                        refine ⟨?_, rfl, rfl, rfl, rfl⟩
                        exact ⟨k2 + 1, by omega, by go_num, hI5, hs5⟩
                      | repeat apply Exists.intro
                        refine ⟨?_, rfl, rfl, rfl⟩
                        exact ⟨k2 + 1, by omega, by go_num, hI5, hs5⟩
                      | repeat apply Exists.intro
                        refine ⟨?_, rfl, rfl⟩
                        exact ⟨k2 + 1, by omega, by go_num, hI5, hs5⟩
                      | repeat apply Exists.intro
                        refine ⟨?_, rfl, rfl, rfl, rfl, rfl⟩
                        exact ⟨k2 + 1, by omega, by go_num, hI5, hs5⟩
                      | repeat apply Exists.intro
                        refine ⟨?_, rfl, rfl, rfl, rfl, rfl, rfl⟩
                        exact ⟨k2 + 1, by omega, by go_num, hI5, hs5⟩
                    · simp [intOf]; omega
              · have i3 : ¬ (k2 : Int) < (n2 : Int) := by omega
                have hKE := hT0.keep hI.bel
                clear hI hT0
                go_wp2_with fail
                refine ⟨?_, ?_⟩
                · first
                  | exact ⟨k + 1, B', n2, d', aT, by omega, by go_num, rfl, hKE⟩
                  | repeat apply Exists.intro
                    refine ⟨?_, rfl⟩
                    exact ⟨k + 1, B', n2, d', aT, by omega, by go_num, rfl, hKE⟩
                  | repeat apply Exists.intro
                    refine ⟨?_, rfl, rfl, rfl, rfl⟩
                    exact ⟨k + 1, B', n2, d', aT, by omega, by go_num, rfl, hKE⟩
                  | repeat apply Exists.intro
                    refine ⟨?_, rfl, rfl, rfl⟩
                    exact ⟨k + 1, B', n2, d', aT, by omega, by go_num, rfl, hKE⟩
                  | repeat apply Exists.intro
                    refine ⟨?_, rfl, rfl⟩
                    exact ⟨k + 1, B', n2, d', aT, by omega, by go_num, rfl, hKE⟩
                  | repeat apply Exists.intro
                    refine ⟨?_, rfl, rfl, rfl, rfl, rfl⟩
                    exact ⟨k + 1, B', n2, d', aT, by omega, by go_num, rfl, hKE⟩
                  | repeat apply Exists.intro
                    refine ⟨?_, rfl, rfl, rfl, rfl, rfl, rfl⟩
                    exact ⟨k + 1, B', n2, d', aT, by omega, by go_num, rfl, hKE⟩
                · simp [intOf]; omega
        · have i4 : (100 : Int) < (x.a.n : Int) := by omega
          have hK4 := hK3.less
          clear hK3 hX3 hFx
          go_wp2_with fail
          refine ⟨?_, ?_⟩
          · first
            | exact ⟨k + 1, B, m, d, a, by omega, by go_num, rfl, hK4⟩
            | repeat apply Exists.intro
              refine ⟨?_, rfl⟩
              exact ⟨k + 1, B, m, d, a, by omega, by go_num, rfl, hK4⟩
            | repeat apply Exists.intro
              refine ⟨?_, rfl, rfl, rfl, rfl⟩
              exact ⟨k + 1, B, m, d, a, by omega, by go_num, rfl, hK4⟩
            | repeat apply Exists.intro
              refine ⟨?_, rfl, rfl, rfl⟩
              exact ⟨k + 1, B, m, d, a, by omega, by go_num, rfl, hK4⟩
            | repeat apply Exists.intro
              refine ⟨?_, rfl, rfl⟩
              exact ⟨k + 1, B, m, d, a, by omega, by go_num, rfl, hK4⟩
            | repeat apply Exists.intro
              refine ⟨?_, rfl, rfl, rfl, rfl, rfl⟩
              exact ⟨k + 1, B, m, d, a, by omega, by go_num, rfl, hK4⟩
            | repeat apply Exists.intro
              refine ⟨?_, rfl, rfl, rfl, rfl, rfl, rfl⟩
              exact ⟨k + 1, B, m, d, a, by omega, by go_num, rfl, hK4⟩
          · simp [intOf]; omega
      · have i2 : ¬ (k : Int) < (N : Int) := by omega
        have cL := kx_len hK
        rw [hK.lenB] at cL
        have hBw := hK.below
        clear hK
        go_upto_region 58 with fail
        refine wp_region_lit ?_
        refine fl_start ?_
        generalize ha : Act.mk _ _ = a0
        have hn : a0.tmps.size = 227 := by rw [← ha]; kernel_rfl
        have h3 : (fr a0 []).eval (.tmp 3) = .pointer (some ⟨p, 0, none⟩) := by rw [← ha]; kernel_rfl
        refine fl_know hn rfl h3 ?_
        clear h3
        have h4 : (fr a0 [(3, true, .pointer (some ⟨p, 0, none⟩))]).eval (.tmp 4) = .slice B m d := by rw [← ha]; kernel_rfl
        refine fl_know hn rfl h4 ?_
        clear h4
        refine g_mv hn ?_
        refine g_c1x en_spinney_air_Air_Len hn (R := fun v w7 => v = .int .i64 (m : Nat) ∧ wr = w7) (cL.mono fun _ _ ⟨he, hw⟩ => ⟨_, he, rfl, hw.symm⟩) ?_
        rintro v w7 ⟨rfl, hw7⟩
        subst hw7
        refine g_mv hn ?_
        refine g_ln hn ?_
        refine g_bn hn ?_ (hr := eqII wr 223 225 (m : Nat))
        refine g_as hn ?_
        refine fl_end ?_
        clear hn cL
        subst ha
        dsimp only [fr, cnd, Act.put, cond_true]
        simp only [List.setIfInBounds_toArray, List.set_cons_zero, List.set_cons_succ]
        go_wp2_with fail
        go_ret
        exact ⟨rfl, by rw [← HB.out]; exact hBw⟩
  · have i0 : (80 : Int) < (N : Int) := by omega
    have cA2 := awake_any w2
    go_wp2_with fail
    refine cA2.mono ?_
    rintro e w3 ⟨rfl, hb3⟩
    go_wp2_with fail
    go_ret
    have hB2 := hB1.trans (hb2.mono hb1)
    exact ⟨rfl, by rw [← HB.out]; exact hB2.trans (hb3.mono (by have := hb2.size; omega))⟩
end Go.Proofs.Ytdfifcgpjeojlaa
