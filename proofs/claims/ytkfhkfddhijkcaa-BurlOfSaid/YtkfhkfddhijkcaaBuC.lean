/-
  WHAT IS PROVED: slices.Equal of rows of the same whole numbers; the law BurlParts. Conditions: those typed in each theorem.
-/
import Derived.Test.YtkfhkfddhijkcaaBuB
namespace Go.Proofs.Ytkfhkfddhijkcaa
open Go.RowKit

theorem neq_in (i j : Nat) (x : Int) (W : World) : ((do eqGuard .neq 3 (.tmp i) (.tmp j) (.int .i64 x) (.int .i64 x); binOp .neq 3 (.int .i64 x) (.int .i64 x)) : Sem Value).run Try.prog W = .ok (.bool false) W := by go_simp
set_option maxRecDepth 100000 in
set_option maxHeartbeats 1000000 in
theorem eqI_same {C C2 : Nat} (A : Option Addr) (n c : Nat) (A2 : Option Addr) (c2 : Nat) (l : List Int) (w : World) (hn0 : l.length = n) (hr : RdI C w A l) (hr2 : RdI C2 w A2 l) (hC : C ≤ w.heap.size) (hC2 : C2 ≤ w.heap.size) (hm : n ≤ 1000000) : Calls Try.prog 35 #[.slice A n c, .slice A2 n c2] w fun e w' => e = .returned (.bool true) ∧ Below w.heap.size w w' := by
  have HN := Lib.hid hn0
  have HR := Lib.hid (fun W (h : Kp w W) => hr.keep (W' := W) h.below hC)
  have HR2 := Lib.hid (fun W (h : Kp w W) => hr2.keep (W' := W) h.below hC2)
  clear hn0 hr hr2
  go_enter Try.func35, Try.ntmps35
  go_wp2_with fail
  go_loopw [5, 13] (fun _ i wr => ∃ k : Nat, k ≤ n ∧ i = .int .i64 k ∧ Kp w wr) (fun _ i _ => n - (intOf i).toNat)
  case atStart => exact ⟨0, Nat.zero_le _, rfl, Kp.refl _⟩
  case round =>
    obtain ⟨k, hk, rfl, hK⟩ := hrel
    by_cases hlt : k < n
    · obtain ⟨x, hx⟩ : ∃ x, l[k]? = some x := ⟨_, List.getElem?_eq_getElem (show k < l.length by have := HN.out; omega)⟩
      obtain ⟨ad, rfl, hb1, hc1⟩ := HR.out wr hK k x hx
      obtain ⟨ad2, rfl, hb2, hc2⟩ := HR2.out wr hK k x hx
      have i2 : (k : Int) < (n : Int) := by omega
      have ix1 : ∀ W, Kp wr W → _ := fun W _ => iix W ad n c k hlt
      have ix2 : ∀ W, Kp wr W → _ := fun W _ => iix W ad2 n c2 k hlt
      have hl1 : (ad.add k).block < wr.heap.size := World.block_lt_of_cell? wr _ hc1
      have hl2 : (ad2.add k).block < wr.heap.size := World.block_lt_of_cell? wr _ hc2
      have l1 : ∀ W, Kp wr W → (Instr.loadAt 3 (.pointer (some (ad.add k)))).run Try.prog W = .ok (.int .i64 x) W := fun W h => load_int ((h.below.cell hl1).trans hc1)
      have l2 : ∀ W, Kp wr W → (Instr.loadAt 3 (.pointer (some (ad2.add k)))).run Try.prog W = .ok (.int .i64 x) W := fun W h => load_int ((h.below.cell hl2).trans hc2)
      have e1 : ∀ W, Kp wr W → _ := fun W _ => neq_in 19 23 x W
      clear hx
      go_upto_region 6 with fail
      refine fc_start (S := Kp wr) (by kernel_rfl) (Kp.drew _) ?_
      generalize ha : Act.mk _ _ = a0
      have hn : a0.tmps.size = 26 := by rw [← ha]; kernel_rfl
      have h0 : (fr a0 []).eval (.tmp 0) = .slice (some ad) n c := by rw [← ha]; kernel_rfl
      refine fc_know hn rfl h0 ?_
      clear h0
      have h1 : (fr a0 [(0, true, .slice (some ad) n c)]).eval (.tmp 1) = .slice (some ad2) n c2 := by rw [← ha]; kernel_rfl
      refine fc_know hn rfl h1 ?_
      clear h1
      have h5 : (fr a0 [(1, true, .slice (some ad2) n c2), (0, true, .slice (some ad) n c)]).eval (.tmp 5) = .int .i64 (k : Int) := by rw [← ha]; kernel_rfl
      refine fc_know hn rfl h5 ?_
      clear h5
      refine c_mv 0 hn ?_
      refine c_mv 1 hn ?_
      refine c_ix 2 hn ?_
      refine c_ld 3 hn ?_
      refine c_mv 4 hn ?_
      refine c_mv 5 hn ?_
      refine c_ix 6 hn ?_
      refine c_ld 7 hn ?_
      refine c_bn 8 hn ?_
      refine fc_end (fun w3 hS => ?_)
      clear hn
      subst ha
      dsimp only [fr, cnd, Act.put, cond_true]
      simp only [List.setIfInBounds_toArray, List.set_cons_zero, List.set_cons_succ]
      have hK2 := Kp.trans hK hS.below
      clear ix1 ix2 hl1 hl2 l1 l2 e1 hS hK hc1 hc2
      go_wp2_with fail
      go_roundw
      case rel => exact ⟨k + 1, by omega, by go_num, hK2⟩
      case measure => simp [intOf]; omega
    · have i2 : ¬ (k : Int) < (n : Int) := by omega
      go_wp2_with fail
      go_ret
      exact ⟨rfl, hK.below⟩
theorem bu_one (r : Nat) (L : List Nat) : ((buC r L).all (·.oneCell')) = true := by
  unfold buC
  simp [Value.oneCell']
theorem ld_bu {W : World} {b r : Nat} {L : List Nat} (hX : Blk W b (buC r L) 70) (hl : L.length = 16) : (Instr.loadAt 70 (.pointer (some ⟨b, 0, none⟩))).run Try.prog W = .ok (.agg (buC r L)) W := by
  obtain ⟨a0, a1, a2, a3, a4, a5, a6, a7, a8, a9, a10, a11, a12, a13, a14, a15, rfl⟩ : ∃ a0 a1 a2 a3 a4 a5 a6 a7 a8 a9 a10 a11 a12 a13 a14 a15, L = [a0, a1, a2, a3, a4, a5, a6, a7, a8, a9, a10, a11, a12, a13, a14, a15] := by
    match L, hl with
    | [a0, a1, a2, a3, a4, a5, a6, a7, a8, a9, a10, a11, a12, a13, a14, a15], _ => exact ⟨_, _, _, _, _, _, _, _, _, _, _, _, _, _, _, _, rfl⟩
  exact run_loadAt_mid W b 0 _ (buC r [a0, a1, a2, a3, a4, a5, a6, a7, a8, a9, a10, a11, a12, a13, a14, a15]).toList _ (fun j v hv => by rw [Nat.zero_add, hX.cell j]; exact (Array.getElem?_toList ..).symm.trans hv) Try.underlying70 rfl (by kernel_rfl)
theorem call0_isB {f : FuncId} (he : ∀ args w, (callFunc f args).run Try.prog w = .ok (.enter f args) w) {w : World} (d : Option Tmp) (ts : Array TypeId) (ty : TypeId) (p : String) (af : Array Edge) (gd : Option (Nat × Bool)) (ρ : Operand → Value) (hf : ρ (.func f) = .func (.func f) #[] #[]) : (execOp ρ ⟨d, .call { callee := .value (.func f), args := #[], argTypes := ts }, ty, p, af, gd⟩).run Try.prog w = .ok (.enter f #[]) w := by
  unfold execOp
  dsimp only
  go_simp
theorem h_c0 {l : List Oper} {Q : Exit → Act → World → Prop} {S : World → Prop} {fuel : Nat} {listed : Array Bool} {a0 : Act} {L : List (Nat × Bool × Value)} {w : World} (k : Nat) {f : FuncId} {d n : Nat} {R : Value → World → Prop} {ts : Array TypeId} {ty : TypeId} {p : String} {af : Array Edge} {gd : Option (Nat × Bool)} (he : ∀ args w, (callFunc f args).run Try.prog w = .ok (.enter f args) w) (hn : a0.tmps.size = n) (hc : Calls Try.prog f #[] w fun e w' => ∃ v, e = .returned v ∧ R v w') (h : ∀ v w2, R v w2 → S w2 ∧ FH Try.prog l Q S fuel (listed.setIfInBounds k true) a0 ((d, true, v) :: L) w2) (hi : l.toArray[k]? = some ⟨some d, .call { callee := .value (.func f), args := #[], argTypes := ts }, ty, p, af, gd⟩ := by rfl) (hd : Nat.blt d n = true := by rfl) (hw : wtG l L gd = some true := by rfl) (hr : Region.ready .any l.toArray listed = [k] := by kernel_rfl) : FH Try.prog l Q S (fuel + 1) listed a0 L w :=
  fh_callx k hn rfl (fun hk => call0_isB he _ _ _ _ _ _ _ rfl) hc h hi hd hr hw
theorem parts_len (r r2 : Nat) (L L2 : List Nat) : (parts r r2 L L2).length ≤ 16 := by
  unfold parts
  split
  · simp
  · exact partTo_len L L2 16
set_option maxRecDepth 100000 in
set_option maxHeartbeats 1000000 in
theorem lawParts_all (r r2 : Nat) (L L2 : List Nat) (w : World) (hl : L.length = 16) (hl2 : L2.length = 16) : Calls Try.prog 7 #[.agg (buC r L), .agg (buC r2 L2)] w fun e w' => e = .returned (.bool true) ∧ Below w.heap.size w w' := by
  have hX0 := blk_new w (buC r L) 70
  replace hX0 := hX0.alloc (.cells (buC r2 L2) 70)
  have hz1 : (w.alloc (.cells (buC r L) 70)).heap.size = w.heap.size + 1 := by simp
  have hX1 := blk_new (w.alloc (.cells (buC r L) 70)) (buC r2 L2) 70
  rw [hz1] at hX1
  have hB := ba (b0 w (.cells (buC r L) 70)) (.cells (buC r2 L2) 70)
  have hzz : ((w.alloc (.cells (buC r L) 70)).alloc (.cells (buC r2 L2) 70)).heap.size = w.heap.size + 2 := by simp
  go_enter Try.func7, Try.ntmps7
  go_upto_region 1 with fail
  generalize ((w.alloc (.cells (buC r L) 70)).alloc (.cells (buC r2 L2) 70)) = W0 at hX0 hX1 hB hzz ⊢
  (try simp only [hz1])
  clear hz1
  generalize hb : w.heap.size = b at hX0 hX1 hB hzz ⊢
  have l0 : ∀ W, Kp W0 W → (Instr.loadAt 70 (.pointer (some ⟨b, 0, none⟩))).run Try.prog W = .ok (.agg (buC r L)) W := fun W h => ld_bu (h.blk hX0) hl
  have l1 : ∀ W, Kp W0 W → (Instr.loadAt 70 (.pointer (some ⟨b + 1, 0, none⟩))).run Try.prog W = .ok (.agg (buC r2 L2)) W := fun W h => ld_bu (h.blk hX1) hl2
  refine fh_start (S := Kp W0) (by kernel_rfl) (Kp.drew _) (fun hS => ?_)
  generalize ha : Act.mk _ _ = a0
  have hn : a0.tmps.size = 15 := by rw [← ha]; kernel_rfl
  have h2 : (fr a0 []).eval (.tmp 2) = .pointer (some ⟨b, 0, none⟩) := by rw [← ha]; kernel_rfl
  refine fh_know hn rfl h2 ?_
  clear h2
  have h3 : (fr a0 [(2, true, .pointer (some ⟨b, 0, none⟩))]).eval (.tmp 3) = .pointer (some ⟨b + 1, 0, none⟩) := by rw [← ha]; kernel_rfl
  refine fh_know hn rfl h3 ?_
  clear h3
  refine h_c0 0 en_spinney_spinneylaw28_awake hn (R := fun v w2 => v = .bool true ∧ Kp W0 w2) ((awake28_any _).mono fun _ _ ⟨he, hb2⟩ => ⟨_, he, rfl, hS.trans hb2⟩) ?_
  rintro v wn ⟨rfl, hSn⟩
  refine ⟨hSn, ?_⟩
  replace hS := hSn
  clear hSn
  refine h_mv 1 hn hS ?_
  refine h_ld 2 hn hS ?_
  refine h_ld 3 hn hS ?_
  refine h_ld 5 hn hS ?_
  refine h_ld 6 hn hS ?_
  refine h_c2 4 en_spinney_burl_Part hn (R := fun v w2 => ∃ A n c, v = .slice A n c ∧ OwnX tIn 1 wn.heap.size w2 A n c ((parts r r2 L L2).map inC) ∧ Below wn.heap.size wn w2 ∧ Kp W0 w2) ((buPart_any r r2 L L2 _ hl hl2).mono fun e _ h => by
    obtain ⟨A, n, c, rfl, h2, h3⟩ := h
    exact ⟨_, rfl, A, n, c, rfl, h2, h3, hS.trans h3⟩) ?_
  rintro v w5 ⟨A, n, c, rfl, hO, hB5, hSn⟩
  refine ⟨hSn, ?_⟩
  replace hS := hSn
  clear hSn
  refine h_c2 7 en_spinney_spinneyref28_Part hn (R := fun v w2 => ∃ A n c, v = .slice A n c ∧ OwnX tIn 1 w5.heap.size w2 A n c ((parts r r2 L L2).map inC) ∧ Below w5.heap.size w5 w2 ∧ Kp W0 w2) ((buRefPart_any r r2 L L2 _ hl hl2).mono fun e _ h => by
    obtain ⟨A, n, c, rfl, h2, h3⟩ := h
    exact ⟨_, rfl, A, n, c, rfl, h2, h3, hS.trans h3⟩) ?_
  rintro v w6 ⟨A2, n2, c2, rfl, hO2, hB6, hSn⟩
  refine ⟨hSn, ?_⟩
  replace hS := hSn
  clear hSn
  have hn1 := hO.len
  have hn2 := hO2.len
  rw [List.length_map] at hn1 hn2
  have hnn : n2 = n := by omega
  subst hnn
  have hlen := parts_len r r2 L L2
  have q1 := (hO.keep hB6).rdi
  have q2 := hO2.rdi
  refine h_c2 8 en_slices_Equal_int_int hn (R := fun v w2 => v = .bool true ∧ Kp W0 w2) ((eqI_same A n2 c A2 c2 _ _ hn1 q1 q2 (Nat.le_refl _) (Nat.le_refl _) (by omega)).mono fun _ _ ⟨he, hb2⟩ => ⟨_, he, rfl, hS.trans hb2⟩) ?_
  rintro v w7 ⟨rfl, hSn⟩
  refine ⟨hSn, ?_⟩
  replace hS := hSn
  clear hSn q1 q2 hn1 hn2 hlen hO hO2
  refine h_op 9 hn hS (fun W _ hk => x_an (fun _ => rfl) (lk_at hk (i := 6) rfl (fun _ => rfl) rfl) (fun _ => lk_at hk (i := 13) rfl (fun _ => rfl) rfl)) ?_
  refine h_as 10 hn hS ?_
  refine fh_end (by kernel_rfl) ?_
  clear hn
  subst ha
  dsimp only [fr, cnd, Act.put, cond_true]
  simp only [List.setIfInBounds_toArray, List.set_cons_zero, List.set_cons_succ]
  have hB2 := hB.trans (hS.below.mono (by omega))
  clear l0 l1 hX0 hX1 hB hB5 hB6
  go_wp2_with fail
  go_ret
  exact ⟨rfl, by first | exact hB2 | (rw [hb]; exact hB2)⟩
theorem burlParts_all (r : Nat) (L : List Nat) (r2 : Nat) (L2 : List Nat) (w : World) (hl : L.length = 16) (_ : r < 18446744073709551616) (_ : ∀ x, x ∈ L → x < 18446744073709551616) (hl2 : L2.length = 16) (_ : r2 < 18446744073709551616) (_ : ∀ x, x ∈ L2 → x < 18446744073709551616) : Calls Try.prog 7 #[.agg (buC r L), .agg (buC r2 L2)] w fun e w' => e = .returned (.bool true) ∧ Below w.heap.size w w' := lawParts_all r r2 L L2 w hl hl2
end Go.Proofs.Ytkfhkfddhijkcaa
