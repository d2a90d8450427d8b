/-
  WHAT IS PROVED: the law AirKeeps returns true. Conditions: those typed in each theorem.
-/
import Derived.Test.YtokkmofcijfmiaaGQ6
namespace Go.Proofs.Ytokkmofcijfmiaa
open Go.RowKit

theorem en_spinney_spinneylaw22_bits : ∀ args w, (callFunc 34 args).run Try.prog w = .ok (.enter 34 args) w := enters_of Try.func34 (by kernel_rfl) rfl

theorem KS.below {base p : Nat} {w wr : World} {B : Option Addr} {m d : Nat} {z zz : List Sn} {s : List (List UInt8)} (h : KS base p w wr B m d z zz s) : Below base w wr := by
  obtain ⟨A, n, c, l, hM, h4, hZ, hO, hB, hp, hbs⟩ := h
  exact hB
theorem KS.sz {base p : Nat} {w wr : World} {B : Option Addr} {m d : Nat} {z zz : List Sn} {s : List (List UInt8)} (h : KS base p w wr B m d z zz s) : base ≤ wr.heap.size := by
  obtain ⟨A, n, c, l, hM, h4, hZ, hO, hB, hp, hbs⟩ := h
  exact hbs
theorem KS.row {base p : Nat} {w wr : World} {B : Option Addr} {m d : Nat} {z zz : List Sn} {s : List (List UInt8)} (h : KS base p w wr B m d z zz s) : OwnX tSn 1 base wr B m d (z.map Sn.cells) := by
  obtain ⟨A, n, c, l, hM, h4, hZ, hO, hB, hp, hbs⟩ := h
  exact hZ.row
def airN (W : World) (p : Nat) : Nat := match W.cell? ⟨p, 0, none⟩ with | some (.slice _ n _) => n | _ => 0
theorem AirM.airN {base p : Nat} {W : World} {A : Option Addr} {n c : Nat} {l : List Fl} (h : AirM base p W A n c l) : airN W p = n := by
  unfold Go.Proofs.Ytokkmofcijfmiaa.airN
  rw [h.blk.cell 0]
  rfl
theorem KS.airKeep {base p : Nat} {w wr w6 : World} {B : Option Addr} {m d : Nat} {z zz : List Sn} {s : List (List UInt8)} (h : KS base p w wr B m d z zz s) (hb : Below wr.heap.size wr w6) : airN w6 p = airN wr p := by
  obtain ⟨A, n, c, l, hM, h4, hZ, hO, hB, hp, hbs⟩ := h
  rw [hM.airN, (hM.keep hb).airN]
theorem eqlI (i : Nat) (m k : Int) (b : Bool) (h : (m == k) = b) (W : World) : ((do eqGuard .eql 3 (.tmp i) (.const (.int .i64 k)) (.int .i64 m) (.int .i64 k); binOp .eql 3 (.int .i64 m) (.int .i64 k)) : Sem Value).run Try.prog W = .ok (.bool b) W := by
  subst h
  go_simp
theorem snix (W : World) (ad : Addr) (n c k : Nat) (h : k < n) : (Instr.indexAt 63 (.slice (some ad) n c) (.int .i64 (k : Int))).run Try.prog W = .ok (.pointer (some (ad.add k))) W := by
  have i1 : (0 : Int) ≤ (k : Int) := by omega
  have i2 : (k : Int) < (n : Int) := by omega
  go_simp
theorem KS.less {base p : Nat} {w wr : World} {B : Option Addr} {m d : Nat} {z : List Sn} {y : Sn} {s : List (List UInt8)} (h : KS base p w wr B m d z (z ++ [y]) s) : KS base p w wr B m d z z s := by
  obtain ⟨A, n, c, l, hM, h4, hZ, hO, hB, hp, hbs⟩ := h
  exact ⟨A, n, c, l, hM, h4, ⟨hZ.row, hZ.off, fun x hx => hZ.rd x (List.mem_append_left _ hx)⟩, hO, hB, hp, hbs⟩
set_option maxRecDepth 100000 in
set_option maxHeartbeats 4000000 in
theorem airKeeps_any (A : Option Addr) (N c : Nat) (l : List Ac) (w : World) (hn0 : l.length = N) (hr : RdX 6 w.heap.size w A (l.map Ac.cells)) : Calls Try.prog 6 #[.slice A N c] w fun e w' => e = .returned (.bool true) ∧ Below w.heap.size w w' := by
  have HN := Lib.hid hn0
  have cN := airNew_any w
  go_enter Try.func6, Try.ntmps6
  go_wp2_with fail
  refine cN.mono ?_
  rintro e w1 ⟨p, rfl, hp, hM1, hB1⟩
  obtain ⟨base, hbs⟩ : ∃ base, base = w.heap.size := ⟨_, rfl⟩
  rw [← hbs] at hM1 hB1 hp hr
  have hpb : base ≤ p := by omega
  have HB := Lib.hid hbs
  have HR := Lib.hid hr
  have hb1 : base ≤ w1.heap.size := by have := hB1.size; omega
  clear cN hp hbs hr hn0
  have cA := awake_any w1
  go_wp2_with fail
  refine cA.mono ?_
  rintro e w2 ⟨rfl, hb2⟩
  clear cA
  by_cases h150 : N ≤ 150
  · have i0 : ¬ (150 : Int) < (N : Int) := by omega
    have hK0 : KS base p w w2 none 0 0 [] [] [] := ⟨none, 0, 0, [], hM1.keep hb2, by omega, ⟨OwnX.nil _ _ _ _, (fun a h => nomatch h), (fun x h => nomatch h)⟩, (fun x h => nomatch h), hB1.trans (hb2.mono hb1), hpb, Nat.le_trans hb1 hb2.size⟩
    clear hM1
    go_wp2_with fail
    go_loopw [4, 31] (fun t4 i wr => ∃ (k : Nat) (B : Option Addr) (m d : Nat) (z : List Sn), k ≤ N ∧ i = .int .i64 k ∧ t4 = .slice B m d ∧ Hid (m ≤ k) ∧ KS base p w wr B m d z z (z.map Sn.b)) (fun _ i _ => N - (intOf i).toNat)
    case atStart => exact ⟨0, none, 0, 0, [], Nat.zero_le _, rfl, rfl, Nat.le_refl 0, hK0⟩
    case round =>
      obtain ⟨k, B, m, d, z, hk, rfl, rfl, hmk, hK⟩ := hrel
      by_cases hlt : k < N
      · have i2 : (k : Int) < (N : Int) := by omega
        obtain ⟨a, ha⟩ : ∃ a, l[k]? = some a := ⟨_, List.getElem?_eq_getElem (show k < l.length by have := HN.out; omega)⟩
        obtain ⟨ad, rfl, hadb, hc0⟩ := HR.out k a.cells (by rw [List.getElem?_map, ha]; rfl)
        have hc : ∀ j v, a.cells[j]? = some v → wr.cell? (ad.add (k * 6 + j)) = some v := fun j v hv => (hK.below.cell (by rw [add_block]; exact hadb)).trans (hc0 j v hv)
        have x1 := acix wr ad N c k hlt
        have l1 := acld hc
        go_upto_region 7 with fail
        refine wp_region_lit ?_
        refine fl_start ?_
        generalize ha : Act.mk _ _ = a0
        have hn : a0.tmps.size = 125 := by rw [← ha]; kernel_rfl
        have h29 : (fr a0 []).eval (.tmp 29) = .slice (some ad) N c := by rw [← ha]; kernel_rfl
        refine fl_know hn rfl h29 ?_
        clear h29
        have h31 : (fr a0 [(29, true, .slice (some ad) N c)]).eval (.tmp 31) = .int .i64 (k : Nat) := by rw [← ha]; kernel_rfl
        refine fl_know hn rfl h31 ?_
        clear h31
        refine g_mv hn ?_
        refine g_ix hn ?_
        refine g_ld hn ?_
        refine g_w (v := .pointer (some ⟨wr.heap.size, 0, none⟩)) (w2 := wr.alloc (.cells zAc tAct)) hn (fun _ => x_alAc) ?_
        have hX2 := blk_new wr zAc tAct
        have hb2 := b0 wr (.cells zAc tAct)
        generalize wr.alloc (.cells zAc tAct) = w2 at hX2 hb2 ⊢
        obtain ⟨q, hq⟩ : ∃ q, q = wr.heap.size := ⟨_, rfl⟩
        rw [← hq] at hX2 ⊢
        refine g_as hn ?_
        refine g_str hX2 ?_ (h1 := ac_oneC a)
        intro w3 ho3 hX3
        refine fl_end ?_
        clear hn x1 l1
        subst ha
        dsimp only [fr, cnd, Act.put, cond_true]
        simp only [List.setIfInBounds_toArray, List.set_cons_zero, List.set_cons_succ]
        have hK3 := hK.keep (hb2.trans (ho3.below (by omega)))
        clear hX2 hb2 ho3 hq hc hc0 hK ha hadb
        have f0 := acf0 w3 q
        have l0 := ld_in (hX3.cell 0)
        go_upto_region 8 with fail
        refine wp_region_lit ?_
        refine fl_start ?_
        generalize ha : Act.mk _ _ = a0
        have hn : a0.tmps.size = 125 := by rw [← ha]; kernel_rfl
        have h6 : (fr a0 []).eval (.tmp 6) = .pointer (some ⟨q, 0, none⟩) := by rw [← ha]; kernel_rfl
        refine fl_know hn rfl h6 ?_
        clear h6
        refine g_fd hn ?_
        refine g_ld hn ?_
        refine fl_end ?_
        clear hn f0 l0
        subst ha
        dsimp only [fr, cnd, Act.put, cond_true]
        simp only [List.setIfInBounds_toArray, List.set_cons_zero, List.set_cons_succ]
        go_upto_region 9 with fail
        refine wp_region_lit ?_
        refine fl_start ?_
        generalize ha : Act.mk _ _ = a0
        have hn : a0.tmps.size = 125 := by rw [← ha]; kernel_rfl
        have h37 : (fr a0 []).eval (.tmp 37) = .int .i64 a.k := by rw [← ha]; kernel_rfl
        refine fl_know hn rfl h37 ?_
        clear h37
        refine g_eql hn ?_
        refine g_as hn ?_
        refine fl_end ?_
        clear hn
        subst ha
        dsimp only [fr, cnd, Act.put, cond_true]
        simp only [List.setIfInBounds_toArray, List.set_cons_zero, List.set_cons_succ]
        by_cases h1 : a.k = 1
        · have e1 : (a.k == 1) = true := by rw [h1]; rfl
          simp only [e1]
          have q1 := cvu8 w3 k
          have q2 := cvu8 w3 a.n
          have f3 := acf3 w3 q
          have f5 : (Instr.fieldAt 40 (.pointer (some ⟨q, 3, none⟩)) 2).run Try.prog w3 = .ok (.pointer (some ⟨q, 5, none⟩)) w3 := pf2A w3 q 3
          have l5 := ld_sl (hX3.cell 5)
          go_upto_region 10 with fail
          refine wp_region_lit ?_
          refine fl_start ?_
          generalize ha : Act.mk _ _ = a0
          have hn : a0.tmps.size = 125 := by rw [← ha]; kernel_rfl
          have h5 : (fr a0 []).eval (.tmp 5) = .int .i64 (k : Nat) := by rw [← ha]; kernel_rfl
          refine fl_know hn rfl h5 ?_
          clear h5
          have h6 : (fr a0 [(5, true, .int .i64 (k : Nat))]).eval (.tmp 6) = .pointer (some ⟨q, 0, none⟩) := by rw [← ha]; kernel_rfl
          refine fl_know hn rfl h6 ?_
          clear h6
          refine g_mv hn ?_
          refine g_cv hn ?_ (hr := q1)
          refine g_mv hn ?_
          refine g_cv hn ?_ (hr := q1)
          refine g_mv hn ?_
          refine g_cv hn ?_ (hr := q1)
          refine g_fd hn ?_
          refine g_fd hn ?_
          refine g_ld hn ?_
          refine g_ln hn ?_
          refine g_cv hn ?_ (hr := q2)
          refine g_w (v := .slice (some ⟨w3.heap.size, 0, none⟩) 4 4) (w2 := w3.alloc (.cells #[.int .u8 ((UInt8.ofNat k).toNat : Nat), .int .u8 ((UInt8.ofNat k).toNat : Nat), .int .u8 ((UInt8.ofNat k).toNat : Nat), .int .u8 ((UInt8.ofNat a.n).toNat : Nat)] 5)) hn (fun hk => x_bs4 (lk_at hk (i := 41) rfl (fun _ => rfl) rfl) (lk_at hk (i := 43) rfl (fun _ => rfl) rfl) (lk_at hk (i := 45) rfl (fun _ => rfl) rfl) (lk_at hk (i := 50) rfl (fun _ => rfl) rfl)) ?_
          have hX4 := blk_new w3 #[.int .u8 ((UInt8.ofNat k).toNat : Nat), .int .u8 ((UInt8.ofNat k).toNat : Nat), .int .u8 ((UInt8.ofNat k).toNat : Nat), .int .u8 ((UInt8.ofNat a.n).toNat : Nat)] 5
          have hb4 := b0 w3 (.cells #[.int .u8 ((UInt8.ofNat k).toNat : Nat), .int .u8 ((UInt8.ofNat k).toNat : Nat), .int .u8 ((UInt8.ofNat k).toNat : Nat), .int .u8 ((UInt8.ofNat a.n).toNat : Nat)] 5)
          generalize w3.alloc (.cells #[.int .u8 ((UInt8.ofNat k).toNat : Nat), .int .u8 ((UInt8.ofNat k).toNat : Nat), .int .u8 ((UInt8.ofNat k).toNat : Nat), .int .u8 ((UInt8.ofNat a.n).toNat : Nat)] 5) = w4 at hX4 hb4 ⊢
          obtain ⟨g4, hg4⟩ : ∃ g4, g4 = w3.heap.size := ⟨_, rfl⟩
          rw [← hg4] at hX4 ⊢
          refine g_as hn ?_
          refine fl_end ?_
          clear hn q1 q2 f3 f5 l5
          subst ha
          dsimp only [fr, cnd, Act.put, cond_true]
          simp only [List.setIfInBounds_toArray, List.set_cons_zero, List.set_cons_succ]
          have hSn : SnB w4 (⟨g4, 4, [UInt8.ofNat k, UInt8.ofNat k, UInt8.ofNat k, UInt8.ofNat a.n]⟩ : Sn) := ⟨rfl, _, hX4, fun i v h => by
            match i, h with
            | 0, h => cases h; rfl
            | 1, h => cases h; rfl
            | 2, h => cases h; rfl
            | 3, h => cases h; rfl⟩
          have hK4 := hK3.add hb4 hSn (by show w3.heap.size ≤ g4; omega)
          have hx4 : FlIn w4 (⟨1, 2, some ⟨g4, 0, none⟩, 4, 4, false, [UInt8.ofNat k, UInt8.ofNat k, UInt8.ofNat k, UInt8.ofNat a.n]⟩ : Fl) := ⟨hSn.rd, rfl, (fun e => nomatch e), (by decide : 4 ≤ 1000000)⟩
          have cS := ks_send hK4 (⟨1, 2, some ⟨g4, 0, none⟩, 4, 4, false, [UInt8.ofNat k, UInt8.ofNat k, UInt8.ofNat k, UInt8.ofNat a.n]⟩ : Fl) hx4 rfl rfl rfl
          have b1 := bdPr w4 (some ⟨g4, 0, none⟩) 4 4
          go_upto_region 11 with fail
          refine wp_region_lit ?_
          refine fl_start ?_
          generalize ha : Act.mk _ _ = a0
          have hn : a0.tmps.size = 125 := by rw [← ha]; kernel_rfl
          have h3 : (fr a0 []).eval (.tmp 3) = .pointer (some ⟨p, 0, none⟩) := by rw [← ha]; kernel_rfl
          refine fl_know hn rfl h3 ?_
          clear h3
          have h7 : (fr a0 [(3, true, .pointer (some ⟨p, 0, none⟩))]).eval (.tmp 7) = .slice (some ⟨g4, 0, none⟩) 4 4 := by rw [← ha]; kernel_rfl
          refine fl_know hn rfl h7 ?_
          clear h7
          refine g_mv hn ?_
          refine g_mv hn ?_
          refine g_bd hn ?_ b1 (hp := fun hk hg => by
            have e := lk_at hk (i := 53) rfl (fun _ => rfl) hg
            simp only [List.map_toArray, List.map_cons, List.map_nil]
            rw [e]
            try rfl)
          refine g_c2x en_spinney_air_Air_Send hn (R := fun v w5 => ∃ vv : Int, v = .int .i64 vv ∧ ((vv = 3 ∧ KS base p w w5 B m d z (z ++ [(⟨g4, 4, [UInt8.ofNat k, UInt8.ofNat k, UInt8.ofNat k, UInt8.ofNat a.n]⟩ : Sn)]) (z.map Sn.b)) ∨ (vv = 0 ∧ KS base p w w5 B m d z (z ++ [(⟨g4, 4, [UInt8.ofNat k, UInt8.ofNat k, UInt8.ofNat k, UInt8.ofNat a.n]⟩ : Sn)]) (z.map Sn.b ++ [[UInt8.ofNat k, UInt8.ofNat k, UInt8.ofNat k, UInt8.ofNat a.n]])))) (cS.mono fun _ _ hh => by
            obtain ⟨vv, he, hh⟩ := hh
            exact ⟨_, he, vv, rfl, hh⟩) ?_
          rintro v w5 ⟨vv, rfl, hv⟩
          refine g_bc hn ?_ (hr := er_eql 55 vv 0 w5)
          refine fl_end ?_
          clear hn cS b1
          subst ha
          dsimp only [fr, cnd, Act.put, cond_true]
          simp only [List.setIfInBounds_toArray, List.set_cons_zero, List.set_cons_succ]
          rcases hv with ⟨rfl, hK5⟩ | ⟨rfl, hK5⟩
          · have hK6 := hK5.less
            go_wp2_with fail
            refine ⟨?_, ?_⟩
            · first
              | exact ⟨k + 1, B, m, d, z, by omega, by go_num, rfl, (show m ≤ k + 1 by have := hmk.out; omega), hK6⟩
              | repeat apply Exists.intro
                refine ⟨?_, rfl⟩
                exact ⟨k + 1, B, m, d, z, by omega, by go_num, rfl, (show m ≤ k + 1 by have := hmk.out; omega), hK6⟩
            · simp [intOf]; omega
          · simp only [show ((0 : Int) == 0) = true from rfl]
            go_upto_region 12 with fail
            refine wp_region_lit ?_
            refine fl_start ?_
            generalize ha : Act.mk _ _ = a0
            have hn : a0.tmps.size = 125 := by rw [← ha]; kernel_rfl
            have h4 : (fr a0 []).eval (.tmp 4) = .slice B m d := by rw [← ha]; kernel_rfl
            refine fl_know hn rfl h4 ?_
            clear h4
            have h7 : (fr a0 [(4, true, .slice B m d)]).eval (.tmp 7) = .slice (some ⟨g4, 0, none⟩) 4 4 := by rw [← ha]; kernel_rfl
            refine fl_know hn rfl h7 ?_
            clear h7
            refine g_mv hn ?_
            refine g_mv hn ?_
            refine g_w (v := .slice (some ⟨w5.heap.size, 0, none⟩) 1 1) (w2 := w5.alloc (.cells ((⟨g4, 4, [UInt8.ofNat k, UInt8.ofNat k, UInt8.ofNat k, UInt8.ofNat a.n]⟩ : Sn)).cells tSn)) hn (fun hk => x_bsSn (lk_at hk (i := 58) rfl (fun _ => rfl) rfl)) ?_
            have hX6 := blk_new w5 ((⟨g4, 4, [UInt8.ofNat k, UInt8.ofNat k, UInt8.ofNat k, UInt8.ofNat a.n]⟩ : Sn)).cells tSn
            have hK6 := hK5.keep (b0 w5 (.cells ((⟨g4, 4, [UInt8.ofNat k, UInt8.ofNat k, UInt8.ofNat k, UInt8.ofNat a.n]⟩ : Sn)).cells tSn))
            have hs6 : w5.heap.size < (w5.alloc (.cells ((⟨g4, 4, [UInt8.ofNat k, UInt8.ofNat k, UInt8.ofNat k, UInt8.ofNat a.n]⟩ : Sn)).cells tSn)).heap.size := by simp
            generalize w5.alloc (.cells ((⟨g4, 4, [UInt8.ofNat k, UInt8.ofNat k, UInt8.ofNat k, UInt8.ofNat a.n]⟩ : Sn)).cells tSn) = w6 at hX6 hK6 hs6 ⊢
            obtain ⟨j0, hj0, hj1, hj2, hj3⟩ := info_parts snEl_info
            have hbs6 := hK6.sz
            have hmk2 := hmk.out
            obtain ⟨A4, c4, w7, hr7, hO7, hb7, hA7, hst7, hwh7⟩ := run_apM (P := Try.prog) (ty := 63) (base := base) (ad := ⟨w5.heap.size, 0, none⟩) (m := 1) (d := 1) (xs := [((⟨g4, 4, [UInt8.ofNat k, UInt8.ofNat k, UInt8.ofNat k, UInt8.ofNat a.n]⟩ : Sn)).cells]) w6 Try.underlying63 Try.underlying63 hj0 hj1 hj2 hj3 rfl (by decide) (by decide) hK6.row (snEl_szd [(⟨g4, 4, [UInt8.ofNat k, UInt8.ofNat k, UInt8.ofNat k, UInt8.ofNat a.n]⟩ : Sn)]) rfl (fun y hy u hu => by
              rw [List.mem_singleton] at hy
              subst hy
              have h3 := sn_oneC (⟨g4, 4, [UInt8.ofNat k, UInt8.ofNat k, UInt8.ofNat k, UInt8.ofNat a.n]⟩ : Sn)
              rw [Array.all_eq_true'] at h3
              exact h3 u (by simpa using hu)) (blk_rdC hX6) (by omega) hbs6 (.inr (by decide))
            refine g_w hn (fun hk => x_ap (lk_at hk (i := 57) rfl (fun _ => rfl) rfl) (lk_at hk (i := 59) rfl (fun _ => rfl) rfl) hr7) ?_
            refine g_as hn ?_
            refine fl_end ?_
            clear hn hr7
            subst ha
            dsimp only [fr, cnd, Act.put, cond_true]
            simp only [List.setIfInBounds_toArray, List.set_cons_zero, List.set_cons_succ]
            have hK7 : KS base p w w7 A4 (m + 1) c4 (z ++ [(⟨g4, 4, [UInt8.ofNat k, UInt8.ofNat k, UInt8.ofNat k, UInt8.ofNat a.n]⟩ : Sn)]) (z ++ [(⟨g4, 4, [UInt8.ofNat k, UInt8.ofNat k, UInt8.ofNat k, UInt8.ofNat a.n]⟩ : Sn)]) ((z ++ [(⟨g4, 4, [UInt8.ofNat k, UInt8.ofNat k, UInt8.ofNat k, UInt8.ofNat a.n]⟩ : Sn)]).map Sn.b) := by
              rw [List.map_append]
              exact hK6.push (by rw [List.map_append]; exact hO7) hb7.os hb7.tape hb7.output hb7.size hst7 hwh7
            go_wp2_with fail
            refine ⟨?_, ?_⟩
            · first
              | exact ⟨k + 1, A4, m + 1, c4, _, by omega, by go_num, rfl, (show m + 1 ≤ k + 1 by have := hmk.out; omega), hK7⟩
              | repeat apply Exists.intro
                refine ⟨?_, rfl⟩
                exact ⟨k + 1, A4, m + 1, c4, _, by omega, by go_num, rfl, (show m + 1 ≤ k + 1 by have := hmk.out; omega), hK7⟩
            · simp [intOf]; omega
        · have e1 : (a.k == 1) = false := by rw [beq_eq_false_iff_ne]; exact h1
          simp only [e1]
          go_upto_region 13 with fail
          refine wp_region_lit ?_
          refine fl_start ?_
          generalize ha : Act.mk _ _ = a0
          have hn : a0.tmps.size = 125 := by rw [← ha]; kernel_rfl
          have h37 : (fr a0 []).eval (.tmp 37) = .int .i64 a.k := by rw [← ha]; kernel_rfl
          refine fl_know hn rfl h37 ?_
          clear h37
          refine g_eql hn ?_
          refine g_as hn ?_
          refine fl_end ?_
          clear hn
          subst ha
          dsimp only [fr, cnd, Act.put, cond_true]
          simp only [List.setIfInBounds_toArray, List.set_cons_zero, List.set_cons_succ]
          by_cases h2 : a.k = 4
          · have e2 : (a.k == 4) = true := by rw [h2]; rfl
            simp only [e2]
            have f1 := acf1 w3 q
            have l1 := ld_in (hX3.cell 1)
            have cD := ks_double hK3 a.i
            go_upto_region 14 with fail
            refine wp_region_lit ?_
            refine fl_start ?_
            generalize ha : Act.mk _ _ = a0
            have hn : a0.tmps.size = 125 := by rw [← ha]; kernel_rfl
            have h3 : (fr a0 []).eval (.tmp 3) = .pointer (some ⟨p, 0, none⟩) := by rw [← ha]; kernel_rfl
            refine fl_know hn rfl h3 ?_
            clear h3
            have h6 : (fr a0 [(3, true, .pointer (some ⟨p, 0, none⟩))]).eval (.tmp 6) = .pointer (some ⟨q, 0, none⟩) := by rw [← ha]; kernel_rfl
            refine fl_know hn rfl h6 ?_
            clear h6
            refine g_mv hn ?_
            refine g_fd hn ?_
            refine g_ld hn ?_
            refine g_c2x en_spinney_air_Air_Double hn (R := fun v w5 => KS base p w w5 B m d z z (z.map Sn.b)) cD ?_
            intro v w5 hK5
            refine fl_end ?_
            clear hn f1 l1 cD
            subst ha
            dsimp only [fr, cnd, Act.put, cond_true]
            simp only [List.setIfInBounds_toArray, List.set_cons_zero, List.set_cons_succ]
            go_wp2_with fail
            refine ⟨?_, ?_⟩
            · first
              | exact ⟨k + 1, B, m, d, z, by omega, by go_num, rfl, (show m ≤ k + 1 by have := hmk.out; omega), hK5⟩
              | repeat apply Exists.intro
                refine ⟨?_, rfl⟩
                exact ⟨k + 1, B, m, d, z, by omega, by go_num, rfl, (show m ≤ k + 1 by have := hmk.out; omega), hK5⟩
            · simp [intOf]; omega
          · have e2 : (a.k == 4) = false := by rw [beq_eq_false_iff_ne]; exact h2
            simp only [e2]
            go_upto_region 15 with fail
            refine wp_region_lit ?_
            refine fl_start ?_
            generalize ha : Act.mk _ _ = a0
            have hn : a0.tmps.size = 125 := by rw [← ha]; kernel_rfl
            have h37 : (fr a0 []).eval (.tmp 37) = .int .i64 a.k := by rw [← ha]; kernel_rfl
            refine fl_know hn rfl h37 ?_
            clear h37
            refine g_eql hn ?_
            refine g_as hn ?_
            refine fl_end ?_
            clear hn
            subst ha
            dsimp only [fr, cnd, Act.put, cond_true]
            simp only [List.setIfInBounds_toArray, List.set_cons_zero, List.set_cons_succ]
            by_cases h3 : a.k = 5
            · have e3 : (a.k == 5) = true := by rw [h3]; rfl
              simp only [e3]
              have f1 := acf1 w3 q
              have l1 := ld_in (hX3.cell 1)
              have f2 := acf2 w3 q
              have l2 := ld_in (hX3.cell 2)
              have cT := ks_turn hK3 a.i a.b
              go_upto_region 16 with fail
              refine wp_region_lit ?_
              refine fl_start ?_
              generalize ha : Act.mk _ _ = a0
              have hn : a0.tmps.size = 125 := by rw [← ha]; kernel_rfl
              have h3 : (fr a0 []).eval (.tmp 3) = .pointer (some ⟨p, 0, none⟩) := by rw [← ha]; kernel_rfl
              refine fl_know hn rfl h3 ?_
              clear h3
              have h6 : (fr a0 [(3, true, .pointer (some ⟨p, 0, none⟩))]).eval (.tmp 6) = .pointer (some ⟨q, 0, none⟩) := by rw [← ha]; kernel_rfl
              refine fl_know hn rfl h6 ?_
              clear h6
              refine g_mv hn ?_
              refine g_fd hn ?_
              refine g_ld hn ?_
              refine g_fd hn ?_
              refine g_ld hn ?_
              refine fl_callx (R := fun v w5 => KS base p w w5 B m d z z (z.map Sn.b)) hn rfl rfl rfl (fun hk => call3_is en_spinney_air_Air_Turn _ _ _ _ _ _ _ _ _ _ (.pointer (some ⟨p, 0, none⟩)) (.int .i64 a.i) (.int .i64 a.b) (lk_at hk (i := 69) rfl (fun _ => rfl) rfl) (lk_at hk (i := 71) rfl (fun _ => rfl) rfl) (lk_at hk (i := 73) rfl (fun _ => rfl) rfl) rfl) cT ?_
              intro v w5 hK5
              refine fl_end ?_
              clear hn f1 l1 f2 l2 cT
              subst ha
              dsimp only [fr, cnd, Act.put, cond_true]
              simp only [List.setIfInBounds_toArray, List.set_cons_zero, List.set_cons_succ]
              go_wp2_with fail
              refine ⟨?_, ?_⟩
              · first
                | exact ⟨k + 1, B, m, d, z, by omega, by go_num, rfl, (show m ≤ k + 1 by have := hmk.out; omega), hK5⟩
                | repeat apply Exists.intro
                  refine ⟨?_, rfl⟩
                  exact ⟨k + 1, B, m, d, z, by omega, by go_num, rfl, (show m ≤ k + 1 by have := hmk.out; omega), hK5⟩
              · simp [intOf]; omega
            · have e3 : (a.k == 5) = false := by rw [beq_eq_false_iff_ne]; exact h3
              simp only [e3]
              go_wp2_with fail
              refine ⟨?_, ?_⟩
              · first
                | exact ⟨k + 1, B, m, d, z, by omega, by go_num, rfl, (show m ≤ k + 1 by have := hmk.out; omega), hK3⟩
                | repeat apply Exists.intro
                  refine ⟨?_, rfl⟩
                  exact ⟨k + 1, B, m, d, z, by omega, by go_num, rfl, (show m ≤ k + 1 by have := hmk.out; omega), hK3⟩
              · simp [intOf]; omega
      · have e : k = N := by omega
        subst e
        have i2 : ¬ (k : Int) < (k : Int) := by omega
        have hK9 := hK
        have hm150 : m ≤ 150 := by have := hmk.out; omega
        clear hK hmk
        go_wp2_with fail
        clear i2
        go_loopw [2] (fun _ wr => KS base p w wr B m d z z (z.map Sn.b)) (fun _ wr => airN wr p)
        case atStart => exact hK9
        case round =>
          obtain ⟨A, n, ca, la, hM, h4, hZ, hO, hBw, hp, hbsz⟩ := hrel
          have cL := airLen_any base p A n ca la wr hM
          have hN1 := hM.airN
          go_upto_region 18 with fail
          refine wp_region_lit ?_
          refine fl_start ?_
          generalize ha : Act.mk _ _ = a0
          have hn : a0.tmps.size = 125 := by rw [← ha]; kernel_rfl
          have h3 : (fr a0 []).eval (.tmp 3) = .pointer (some ⟨p, 0, none⟩) := by rw [← ha]; kernel_rfl
          refine fl_know hn rfl h3 ?_
          clear h3
          refine g_mv hn ?_
          refine g_c1x en_spinney_air_Air_Len hn (R := fun v w6 => v = .int .i64 (n : Nat) ∧ wr = w6) (cL.mono fun _ _ ⟨he, hw⟩ => ⟨_, he, rfl, hw.symm⟩) ?_
          rintro v w6 ⟨rfl, hw6⟩
          subst hw6
          refine g_gtr hn ?_
          refine fl_end ?_
          clear hn cL
          subst ha
          dsimp only [fr, cnd, Act.put, cond_true]
          simp only [List.setIfInBounds_toArray, List.set_cons_zero, List.set_cons_succ]
          by_cases h0 : n = 0
          · subst h0
            have hgt : ¬ (0 : Int) < ((0 : Nat) : Int) := by omega
            have cT := take_none base p A ca la 0 wr hM
            have hB3 := hBw
            go_upto_region 31 with fail
            refine wp_region_lit ?_
            refine fl_start ?_
            generalize ha : Act.mk _ _ = a0
            have hn : a0.tmps.size = 125 := by rw [← ha]; kernel_rfl
            have h3 : (fr a0 []).eval (.tmp 3) = .pointer (some ⟨p, 0, none⟩) := by rw [← ha]; kernel_rfl
            refine fl_know hn rfl h3 ?_
            clear h3
            refine g_mv hn ?_
            refine fl_callx (R := fun v w3 => v = .tuple #[.agg #[.int .i64 0, .int .i64 0, .slice none 0 0], .int .i64 5] ∧ Below wr.heap.size wr w3) hn rfl rfl rfl (fun hk => call2_is en_spinney_air_Air_Take _ _ _ _ _ _ _ _ _ (.pointer (some ⟨p, 0, none⟩)) (.int .i64 0) (lk_at hk (i := 119) rfl (fun _ => rfl) rfl) rfl rfl) (cT.mono fun _ _ ⟨he, hb⟩ => ⟨_, he, rfl, hb⟩) ?_
            rintro v w3 ⟨rfl, hb3⟩
            refine g_mv hn ?_
            refine g_ex hn ?_
            refine g_ex hn ?_
            refine g_w (v := .pointer (some ⟨w3.heap.size, 0, none⟩)) (w2 := w3.alloc (.cells #[.int .i64 0, .int .i64 0, .slice none 0 0] 40)) hn (fun _ => x_alPc) ?_
            have hX4 := blk_new w3 #[.int .i64 0, .int .i64 0, .slice none 0 0] 40
            have hb4 := b0 w3 (.cells #[.int .i64 0, .int .i64 0, .slice none 0 0] 40)
            generalize w3.alloc (.cells #[.int .i64 0, .int .i64 0, .slice none 0 0] 40) = w4 at hX4 hb4 ⊢
            refine g_str hX4 ?_ (h1 := by simp [Value.oneCell'])
            intro w5 ho5 hX5
            refine g_as hn ?_
            refine fl_end ?_
            clear hn cT
            subst ha
            dsimp only [fr, cnd, Act.put, cond_true]
            simp only [List.setIfInBounds_toArray, List.set_cons_zero, List.set_cons_succ]
            have hb5 : Below base w w5 := (hB3.trans (hb3.mono hbsz)).trans ((hb4.trans (ho5.below (Nat.le_refl _))).mono (by have := hb3.size; omega))
            go_upto_region 32 with fail
            refine wp_region_lit ?_
            refine fl_start ?_
            generalize ha : Act.mk _ _ = a0
            have hn : a0.tmps.size = 125 := by rw [← ha]; kernel_rfl
            have h15 : (fr a0 []).eval (.tmp 15) = .int .i64 5 := by rw [← ha]; kernel_rfl
            refine fl_know hn rfl h15 ?_
            clear h15
            refine g_mv hn ?_
            refine g_bc hn ?_ (hr := er_eql 123 5 5 w5)
            refine g_as hn ?_
            refine fl_end ?_
            clear hn
            subst ha
            dsimp only [fr, cnd, Act.put, cond_true]
            simp only [List.setIfInBounds_toArray, List.set_cons_zero, List.set_cons_succ]
            go_wp2_with fail
            go_ret
            exact ⟨rfl, by rw [← HB.out]; exact hb5⟩
          · have hgt : (0 : Int) < (n : Int) := by omega
            obtain ⟨ad, -, rfl, -, -⟩ := hM.at (k := 0) (by omega)
            obtain ⟨gA, rfl⟩ := hM.row.atZero
            have cT := take_any base p ⟨gA, 0, none⟩ n ca la 0 wr hM (by omega) h4 hbsz
            rw [show modA 0 n = 0 from by unfold modA; simp] at cT
            go_upto_region 19 with fail
            refine wp_region_lit ?_
            refine fl_start ?_
            generalize ha : Act.mk _ _ = a0
            have hn : a0.tmps.size = 125 := by rw [← ha]; kernel_rfl
            have h3 : (fr a0 []).eval (.tmp 3) = .pointer (some ⟨p, 0, none⟩) := by rw [← ha]; kernel_rfl
            refine fl_know hn rfl h3 ?_
            clear h3
            refine g_mv hn ?_
            refine fl_callx (R := fun v w3 => ∃ x, la[0]? = some x ∧ v = .tuple #[.agg x.parcel, .int .i64 0] ∧ AirS base p (some ⟨gA, 0, none⟩) la wr (some ⟨gA, 0, none⟩) (n - 1) ca (la.eraseIdx 0) w3 ∧ OwnB base w3 x.A x.n x.c x.b) hn rfl rfl rfl (fun hk => call2_is en_spinney_air_Air_Take _ _ _ _ _ _ _ _ _ (.pointer (some ⟨p, 0, none⟩)) (.int .i64 0) (lk_at hk (i := 80) rfl (fun _ => rfl) rfl) rfl rfl) (cT.mono fun _ _ hh => by
              obtain ⟨x, hx, he, hS, hO⟩ := hh
              exact ⟨_, he, x, hx, rfl, hS, hO⟩) ?_
            rintro v w3 ⟨x, hx, rfl, hS3, hO3⟩
            refine g_mv hn ?_
            refine g_ex hn ?_
            refine g_ex hn ?_
            refine g_w (v := .pointer (some ⟨w3.heap.size, 0, none⟩)) (w2 := w3.alloc (.cells #[.int .i64 0, .int .i64 0, .slice none 0 0] 40)) hn (fun _ => x_alPc) ?_
            have hX4 := blk_new w3 #[.int .i64 0, .int .i64 0, .slice none 0 0] 40
            have hb4 := b0 w3 (.cells #[.int .i64 0, .int .i64 0, .slice none 0 0] 40)
            generalize w3.alloc (.cells #[.int .i64 0, .int .i64 0, .slice none 0 0] 40) = w4 at hX4 hb4 ⊢
            obtain ⟨q, hq⟩ : ∃ q, q = w3.heap.size := ⟨_, rfl⟩
            rw [← hq] at hX4 ⊢
            refine g_str hX4 ?_ (h1 := pc_oneC x)
            intro w5 ho5 hX5
            refine g_as hn ?_
            refine fl_end ?_
            clear hn cT
            subst ha
            dsimp only [fr, cnd, Act.put, cond_true]
            simp only [List.setIfInBounds_toArray, List.set_cons_zero, List.set_cons_succ]
            have hb5 : Below w3.heap.size w3 w5 := hb4.trans (ho5.below (by omega))
            have hox := hO x (List.mem_of_getElem? hx)
            have hO5 := hO3.keep hb5
            have hM5 := hS3.m.keep hb5
            have hN5 := hM5.airN
            have hK5 : KS base p w w5 B m d z z (z.map Sn.b) := KS.keep ⟨_, n - 1, ca, _, hS3.m, by omega, hZ.airS hS3, fun y hy => hO y (List.mem_of_mem_eraseIdx hy), hBw.trans (hS3.below hM hp hbsz), hp, Nat.le_trans hbsz hS3.size⟩ hb5
            have hmx : airN w5 p < airN wr p := by omega
            clear hM hZ hS3 hO3 hX4 hb4 ho5 hb5 hO hM5 hN5 hq hx hBw
            obtain ⟨hxf, hxt, hxn, hxl, bb, hbb, hbl, -, hpop⟩ := hox
            have f0 := pf0 w5 q
            have f1 := pf1 w5 q
            have l0 := ld_in (n := 1) (by rw [← hxf]; exact hX5.cell 0)
            have l1 := ld_in (n := 2) (by rw [← hxt]; exact hX5.cell 1)
            go_upto_region 20 with fail
            refine wp_region_lit ?_
            refine fl_start ?_
            generalize ha : Act.mk _ _ = a0
            have hn : a0.tmps.size = 125 := by rw [← ha]; kernel_rfl
            have h8 : (fr a0 []).eval (.tmp 8) = .pointer (some ⟨q, 0, none⟩) := by rw [← ha]; kernel_rfl
            refine fl_know hn rfl h8 ?_
            clear h8
            have h9 : (fr a0 [(8, true, .pointer (some ⟨q, 0, none⟩))]).eval (.tmp 9) = .int .i64 0 := by rw [← ha]; kernel_rfl
            refine fl_know hn rfl h9 ?_
            clear h9
            refine g_mv hn ?_
            refine g_bc hn ?_ (hr := er_neq 84 0 0 w5)
            refine g_mv hn ?_
            refine g_fd hn ?_
            refine g_ld hn ?_
            refine g_neq hn ?_
            refine g_or hn ?_
            refine g_mv hn ?_
            refine g_fd hn ?_
            refine g_ld hn ?_
            refine g_neq hn ?_
            refine g_or hn ?_
            refine fl_end ?_
            clear hn f0 f1 l0 l1
            subst ha
            dsimp only [fr, cnd, Act.put, cond_true]
            simp only [List.setIfInBounds_toArray, List.set_cons_zero, List.set_cons_succ]
            go_wp2_with fail
            go_loopw [10, 98] (fun t10 i wr3 => ∃ (j : Nat) (f : Bool), j ≤ m ∧ i = .int .i64 j ∧ t10 = .bool f ∧ Hid (∀ i y, i < j → z[i]? = some y → popT y.b x.b 4 ≤ 1 → f = true) ∧ Kp w5 wr3) (fun _ i _ => m - (intOf i).toNat)
            case atStart => exact ⟨0, false, Nat.zero_le _, rfl, rfl, (fun i y hi => absurd hi (by omega)), Kp.refl _⟩
            case round =>
              obtain ⟨j, f, hj, rfl, rfl, hf, hKp⟩ := hrel
              have hK6 := hK5.keep hKp.below
              obtain ⟨A', n', c', l', hM', h4', hZ', hO', hB', hp', hbs'⟩ := hK6
              have hzl : z.length = m := by
                have := hZ'.row.len
                simpa using this
              by_cases hjm : j < m
              · have i3 : (j : Int) < (m : Int) := by omega
                obtain ⟨y, hy⟩ : ∃ y, z[j]? = some y := ⟨_, List.getElem?_eq_getElem (show j < z.length by omega)⟩
                obtain ⟨adB, rfl, -, hcB⟩ := hZ'.row.rd j y.cells (by rw [List.getElem?_map, hy]; rfl)
                have hc0 := hcB 0 (.slice (some ⟨y.g, 0, none⟩) 4 y.c) rfl
                rw [Nat.mul_one, Nat.add_zero] at hc0
                have hSn := (hZ'.rd y (List.mem_of_getElem? hy)).1
                have hO6 := hO5.keep hKp.below
                have hX6 := hX5.keep hKp.below
                have cBt := bits_any (C := wr.heap.size) (C2 := wr.heap.size) (some ⟨y.g, 0, none⟩) 4 y.c x.A x.c y.b x.b wr hSn.1 hxl hSn.rd hO6.rd (Nat.le_refl _) (Nat.le_refl _) (by omega)
                have x1 := snix wr adB m d j hjm
                have l1 := ld_sl hc0
                have f2 := pp2 wr q
                have l2 := ld_sl (n := 4) (by rw [← hxn]; exact hX6.cell 2)
                clear hM' hZ' hO' hB' hcB hc0 hSn hO6 hX6
                go_upto_region 25 with fail
                refine wp_region_lit ?_
                refine fl_start ?_
                generalize ha : Act.mk _ _ = a0
                have hn : a0.tmps.size = 125 := by rw [← ha]; kernel_rfl
                have h96 : (fr a0 []).eval (.tmp 96) = .slice (some adB) m d := by rw [← ha]; kernel_rfl
                refine fl_know hn rfl h96 ?_
                clear h96
                have h98 : (fr a0 [(96, true, .slice (some adB) m d)]).eval (.tmp 98) = .int .i64 (j : Nat) := by rw [← ha]; kernel_rfl
                refine fl_know hn rfl h98 ?_
                clear h98
                refine g_ix hn ?_
                refine g_ld hn ?_
                refine g_as hn ?_
                refine fl_end ?_
                clear hn x1 l1
                subst ha
                dsimp only [fr, cnd, Act.put, cond_true]
                simp only [List.setIfInBounds_toArray, List.set_cons_zero, List.set_cons_succ]
                go_upto_region 26 with fail
                refine wp_region_lit ?_
                refine fl_start ?_
                generalize ha : Act.mk _ _ = a0
                have hn : a0.tmps.size = 125 := by rw [← ha]; kernel_rfl
                have h12 : (fr a0 []).eval (.tmp 12) = .slice (some ⟨y.g, 0, none⟩) 4 y.c := by rw [← ha]; kernel_rfl
                refine fl_know hn rfl h12 ?_
                clear h12
                have h8 : (fr a0 [(12, true, .slice (some ⟨y.g, 0, none⟩) 4 y.c)]).eval (.tmp 8) = .pointer (some ⟨q, 0, none⟩) := by rw [← ha]; kernel_rfl
                refine fl_know hn rfl h8 ?_
                clear h8
                refine g_mv hn ?_
                refine g_fd hn ?_
                refine g_ld hn ?_
                refine g_c2x en_spinney_spinneylaw22_bits hn (R := fun v w6 => v = .int .i64 (popT y.b x.b 4 : Nat) ∧ Below wr.heap.size wr w6) (cBt.mono fun _ _ ⟨he, hb⟩ => ⟨_, he, rfl, hb⟩) ?_
                rintro v w6 ⟨rfl, hb6⟩
                refine g_as hn ?_
                refine fl_end ?_
                clear hn f2 l2 cBt
                subst ha
                dsimp only [fr, cnd, Act.put, cond_true]
                simp only [List.setIfInBounds_toArray, List.set_cons_zero, List.set_cons_succ]
                have hK7 := Kp.trans hKp hb6
                cases f with
                | true =>
                  go_upto_region 27 with fail
                  refine wp_region_lit ?_
                  refine fl_start ?_
                  generalize ha : Act.mk _ _ = a0
                  have hn : a0.tmps.size = 125 := by rw [← ha]; kernel_rfl
                  have h10 : (fr a0 []).eval (.tmp 10) = .bool true := by rw [← ha]; kernel_rfl
                  refine fl_know hn rfl h10 ?_
                  clear h10
                  have h13 : (fr a0 [(10, true, .bool true)]).eval (.tmp 13) = .int .i64 (popT y.b x.b 4 : Nat) := by rw [← ha]; kernel_rfl
                  refine fl_know hn rfl h13 ?_
                  clear h13
                  refine g_mv hn ?_
                  refine g_mv hn ?_
                  refine g_offA .nilIface hn ?_
                  refine g_offA (.bool false) hn ?_
                  refine g_or hn ?_
                  refine g_mv hn ?_
                  refine g_offA .nilIface hn ?_
                  refine g_offA (.bool false) hn ?_
                  refine g_or hn ?_
                  refine g_as hn ?_
                  refine fl_end ?_
                  clear hn
                  subst ha
                  dsimp only [fr, cnd, Act.put, cond_true]
                  simp only [List.setIfInBounds_toArray, List.set_cons_zero, List.set_cons_succ]
                  go_wp2_with fail
                  refine ⟨?_, ?_⟩
                  · first
                    | exact ⟨j + 1, true, by omega, by go_num, rfl, (fun _ _ _ _ _ => rfl), hK7⟩
                    | repeat apply Exists.intro
                      refine ⟨?_, rfl⟩
                      exact ⟨j + 1, true, by omega, by go_num, rfl, (fun _ _ _ _ _ => rfl), hK7⟩
                  · simp [intOf]; omega
                | false =>
                  generalize hr : popT y.b x.b 4 = r
                  by_cases r0 : r = 0
                  · have q0 := eqlI 108 (r : Int) 0 true (by rw [r0]; rfl) w6
                    go_upto_region 27 with fail
                    refine wp_region_lit ?_
                    refine fl_start ?_
                    generalize ha : Act.mk _ _ = a0
                    have hn : a0.tmps.size = 125 := by rw [← ha]; kernel_rfl
                    have h10 : (fr a0 []).eval (.tmp 10) = .bool false := by rw [← ha]; kernel_rfl
                    refine fl_know hn rfl h10 ?_
                    clear h10
                    have h13 : (fr a0 [(10, true, .bool false)]).eval (.tmp 13) = .int .i64 (r : Nat) := by rw [← ha]; kernel_rfl
                    refine fl_know hn rfl h13 ?_
                    clear h13
                    refine g_mv hn ?_
                    refine g_mv hn ?_
                    refine g_mv hn ?_
                    refine g_bc hn ?_ (hr := q0)
                    refine g_or hn ?_
                    refine g_mv hn ?_
                    refine g_offA .nilIface hn ?_
                    refine g_offA (.bool false) hn ?_
                    refine g_or hn ?_
                    refine g_as hn ?_
                    refine fl_end ?_
                    clear hn q0
                    subst ha
                    dsimp only [fr, cnd, Act.put, cond_true]
                    simp only [List.setIfInBounds_toArray, List.set_cons_zero, List.set_cons_succ]
                    go_wp2_with fail
                    refine ⟨?_, ?_⟩
                    · first
                      | exact ⟨j + 1, true, by omega, by go_num, rfl, (fun _ _ _ _ _ => rfl), hK7⟩
                      | repeat apply Exists.intro
                        refine ⟨?_, rfl⟩
                        exact ⟨j + 1, true, by omega, by go_num, rfl, (fun _ _ _ _ _ => rfl), hK7⟩
                    · simp [intOf]; omega
                  · have q0 := eqlI 108 (r : Int) 0 false (by rw [beq_eq_false_iff_ne]; omega) w6
                    by_cases r1 : r = 1
                    · have q1 := eqlI 112 (r : Int) 1 true (by rw [r1]; rfl) w6
                      go_upto_region 27 with fail
                      refine wp_region_lit ?_
                      refine fl_start ?_
                      generalize ha : Act.mk _ _ = a0
                      have hn : a0.tmps.size = 125 := by rw [← ha]; kernel_rfl
                      have h10 : (fr a0 []).eval (.tmp 10) = .bool false := by rw [← ha]; kernel_rfl
                      refine fl_know hn rfl h10 ?_
                      clear h10
                      have h13 : (fr a0 [(10, true, .bool false)]).eval (.tmp 13) = .int .i64 (r : Nat) := by rw [← ha]; kernel_rfl
                      refine fl_know hn rfl h13 ?_
                      clear h13
                      refine g_mv hn ?_
                      refine g_mv hn ?_
                      refine g_mv hn ?_
                      refine g_bc hn ?_ (hr := q0)
                      refine g_or hn ?_
                      refine g_mv hn ?_
                      refine g_mv hn ?_
                      refine g_bc hn ?_ (hr := q1)
                      refine g_or hn ?_
                      refine g_as hn ?_
                      refine fl_end ?_
                      clear hn q0 q1
                      subst ha
                      dsimp only [fr, cnd, Act.put, cond_true]
                      simp only [List.setIfInBounds_toArray, List.set_cons_zero, List.set_cons_succ]
                      go_wp2_with fail
                      refine ⟨?_, ?_⟩
                      · first
                        | exact ⟨j + 1, true, by omega, by go_num, rfl, (fun _ _ _ _ _ => rfl), hK7⟩
                        | repeat apply Exists.intro
                          refine ⟨?_, rfl⟩
                          exact ⟨j + 1, true, by omega, by go_num, rfl, (fun _ _ _ _ _ => rfl), hK7⟩
                      · simp [intOf]; omega
                    · have q1 := eqlI 112 (r : Int) 1 false (by rw [beq_eq_false_iff_ne]; omega) w6
                      go_upto_region 27 with fail
                      refine wp_region_lit ?_
                      refine fl_start ?_
                      generalize ha : Act.mk _ _ = a0
                      have hn : a0.tmps.size = 125 := by rw [← ha]; kernel_rfl
                      have h10 : (fr a0 []).eval (.tmp 10) = .bool false := by rw [← ha]; kernel_rfl
                      refine fl_know hn rfl h10 ?_
                      clear h10
                      have h13 : (fr a0 [(10, true, .bool false)]).eval (.tmp 13) = .int .i64 (r : Nat) := by rw [← ha]; kernel_rfl
                      refine fl_know hn rfl h13 ?_
                      clear h13
                      refine g_mv hn ?_
                      refine g_mv hn ?_
                      refine g_mv hn ?_
                      refine g_bc hn ?_ (hr := q0)
                      refine g_or hn ?_
                      refine g_mv hn ?_
                      refine g_mv hn ?_
                      refine g_bc hn ?_ (hr := q1)
                      refine g_or hn ?_
                      refine g_as hn ?_
                      refine fl_end ?_
                      clear hn q0 q1
                      subst ha
                      dsimp only [fr, cnd, Act.put, cond_true]
                      simp only [List.setIfInBounds_toArray, List.set_cons_zero, List.set_cons_succ]
                      have hf2 : Hid (∀ i y, i < j + 1 → z[i]? = some y → popT y.b x.b 4 ≤ 1 → false = true) := fun i y' hi hy' hp1 => by
                        by_cases e : i = j
                        · subst e
                          rw [hy] at hy'
                          injection hy' with hy'
                          subst hy'
                          omega
                        · exact hf.out i y' (by omega) hy' hp1
                      go_wp2_with fail
                      refine ⟨?_, ?_⟩
                      · first
                        | exact ⟨j + 1, false, by omega, by go_num, rfl, hf2, hK7⟩
                        | repeat apply Exists.intro
                          refine ⟨?_, rfl⟩
                          exact ⟨j + 1, false, by omega, by go_num, rfl, hf2, hK7⟩
                      · simp [intOf]; omega
              · have hft : f = true := by
                  obtain ⟨y, hyz, hyb⟩ := List.mem_map.1 hbb
                  obtain ⟨i, hi⟩ := List.mem_iff_getElem?.1 hyz
                  exact hf.out i y (by have := (List.getElem?_eq_some_iff.1 hi).1; omega) hi (by rw [hyb]; exact hpop)
                subst hft
                have i3 : ¬ (j : Int) < (m : Int) := by omega
                have hK8 := hK5.keep hKp.below
                have hm8 := hmx
                rw [← hK5.airKeep hKp.below] at hm8
                clear hM' hZ' hO' hB' hf
                go_wp2_with fail
                refine ⟨?_, ?_⟩
                · first
                  | exact hK8
                  | repeat apply Exists.intro
                    refine ⟨?_, rfl⟩
                    exact hK8
                · exact hm8
  · have i0 : (150 : Int) < (N : Int) := by omega
    have cA2 := awake_any w2
    go_wp2_with fail
    refine cA2.mono ?_
    rintro e w3 ⟨rfl, hb3⟩
    go_wp2_with fail
    go_ret
    have hB2 := hB1.trans (hb2.mono hb1)
    exact ⟨rfl, by rw [← HB.out]; exact hB2.trans (hb3.mono (by have := hb2.size; omega))⟩
end Go.Proofs.Ytokkmofcijfmiaa
