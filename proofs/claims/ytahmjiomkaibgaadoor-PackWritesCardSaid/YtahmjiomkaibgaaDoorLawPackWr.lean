/-
  WHAT IS PROVED: the statement PackWrites' law answers true for all good writes, if package pack's calls answer as PackC2 says. Conditions: those typed in each theorem.
-/
import Derived.Test.YtahmjiomkaibgaaDoorLawPackWr0
import Derived.Deep.RegionHeld3
import Derived.Test.YtahmjiomkaibgaaDoorLawPackApart
namespace Go.Proofs.YtahmjiomkaibgaaDoor
open Go.RowKit

theorem pWrites_is (A : Option Addr) (n c : Nat) (l : List Wr) (w : World) (hn : l.length = n) (hr : RdW w.heap.size w A l) (hm : n ≤ 100) (hf : ∀ x, x ∈ l → x.fits ∧ x.good = true) :
    Calls Tryd.prog 20 #[.slice A n c] w fun e w' => (∃ (A' : Option Addr) (n' c' : Nat), e = .returned (.slice A' n' c') ∧ (wsB l).length = n' ∧ (convert 22 9 (.slice A' n' c')).run Tryd.prog w' = .ok (.string ⟨(wsB l).toArray⟩) w') ∧ Below w.heap.size w w' := by
  refine (refPWrites_any A n c l w hn hr (Nat.le_refl _) (by omega) hf).mono ?_
  rintro e w' ⟨⟨A', n', c', rfl, hO⟩, hb⟩
  exact ⟨⟨A', n', c', rfl, hO.len, conv_rd w' A' n' c' _ hO.len hO.rd⟩, hb⟩
/-- A conversion's run, in a world, and that the world has grown. -/
theorem cvS0 {A : Option Addr} {n c : Nat} {L : List UInt8} {H : Nat} {w W : World} (hn : L.length = n) (hr : RdB H W A L) (hB : Below w.heap.size w W) : (convert 22 9 (.slice A n c)).run Tryd.prog W.drew = .ok (.string ⟨L.toArray⟩) W.drew ∧ Below w.heap.size w W.drew :=
  ⟨conv_rd W.drew A n c L hn hr.drew_, hB.drew⟩
theorem cvS1 {A : Option Addr} {n c : Nat} {L : List UInt8} {w W w1 w2 : World} (hn : L.length = n) (hr : RdB W.heap.size W A L) (hW : Below W.heap.size W w1) (hB : Below w.heap.size w w1) (hb : Below w1.heap.size w1 w2) : (convert 22 9 (.slice A n c)).run Tryd.prog w2 = .ok (.string ⟨L.toArray⟩) w2 ∧ Below w.heap.size w w2 :=
  ⟨conv_rd w2 A n c L hn ((hr.keep hW (Nat.le_refl _)).keep hb hW.size), bt hB hb⟩

section
variable {P : Program} {w : World} {t t' : TypeId} {o : Oper} {a : Act} {Q : Exit → Act → World → Prop} {ops : Array Oper} {u v : Value}
/-- A conversion at a step of a region that draws its order. -/
theorem step_cv {K : Act → World → Prop} {E : Prop} (hgd : o.guard = none) (x : Operand) (ho : o.op = .convert t t' x) (h1 : a.eval x = u) (hrun : (convert t t' u).run P w = .ok v w) (h : K (a.put o.dst v) w) :
    if Region.wanted o (yielded ops a.tmps) = true then Oper.wp P o a w K Q else E := by
  have hw : Region.wanted o (yielded ops a.tmps) = true := by simp [Region.wanted, hgd]
  rw [if_pos hw]
  unfold Oper.wp execOp
  simp only [ho, h1, Sem.run_bind, Sem.run_pure, Result.andThen_ok, hrun]
  exact h
end
theorem rdr_below {S : Addr} {Rdr : World → Nat → Rest → Prop} (hC : PackC2 S Rdr) {W W' : World} {g : Nat} {st : Rest} (h : Rdr W g st) (hb : Below W.heap.size W W') : Rdr W' g st :=
  hC.keep W W' g st none h ⟨hb.os, hb.tape, hb.output, hb.size, fun k hk _ => hb.block k hk⟩ (by simp)
theorem b0d (W : World) (o : Obj) : Below W.heap.size W (W.alloc o).drew := (b0 W o).drew
theorem Blk.grown {W W' : World} {b g : Nat} {cs : Array Value} {t : TypeId} (h : Blk W b cs t) (hg : W.grownBy W' (some g)) (hne : b ≠ g) : Blk W' b cs t :=
  (hg.block b h.lt (by simpa using hne)).trans h
theorem wS {W w : World} {b : Nat} {x : Wr} {t : TypeId} (h : Blk W b x.cells t) (hB : Below w.heap.size w W) :
    (W.cell? ⟨b, 0, none⟩ = some (.int .i64 x.dev) ∧ W.cell? ⟨b, 1, none⟩ = some (.int .i64 x.seq) ∧ W.cell? ⟨b, 2, none⟩ = some (.int .i64 x.K) ∧ W.cell? ⟨b, 3, none⟩ = some (.string x.ky) ∧ W.cell? ⟨b, 4, none⟩ = some (.int .i64 x.ka) ∧ W.cell? ⟨b, 5, none⟩ = some (.int .i64 x.na) ∧ W.cell? ⟨b, 6, none⟩ = some (.string x.sa) ∧ W.cell? ⟨b, 7, none⟩ = some (.int .i64 x.kb) ∧ W.cell? ⟨b, 8, none⟩ = some (.int .i64 x.nb) ∧ W.cell? ⟨b, 9, none⟩ = some (.string x.sb)) ∧ Blk W b x.cells t ∧ Below w.heap.size w W := by
  obtain ⟨c0, c1, c2, c3, c4, c5, c6, c7, c8, c9, _⟩ := blk_c10 h
  exact ⟨⟨c0, c1, c2, c3, c4, c5, c6, c7, c8, c9⟩, h, hB⟩
theorem pWr_is (x : Wr) (h : x.good = true) (hf : x.fits) (w : World) :
    Calls Tryd.prog 23 #[.agg x.cells] w fun e w' => (∃ (A : Option Addr) (m c : Nat), e = .returned (.slice A m c) ∧ (wB x).length = m ∧ RdB w'.heap.size w' A (wB x)) ∧ Below w.heap.size w w' :=
  (refPWr_any x h hf w).mono fun _ _ ⟨⟨A, m, c, he, hO, _⟩, hb⟩ => ⟨⟨A, m, c, he, hO.len, hO.rd⟩, hb⟩
theorem RdW.grown {B : Nat} {W W' : World} {A : Option Addr} {l : List Wr} {row : Option Nat} (h : RdW B W A l) (hg : W.grownBy W' row) (hB : B ≤ W.heap.size) (hne : ∀ a, A = some a → a.block < B → some a.block ≠ row) : RdW B W' A l := by
  intro k x hx
  obtain ⟨ad, hA, hl, hc⟩ := h k x hx
  exact ⟨ad, hA, hl, fun j v hv => (hg.cell_far _ (by rw [add_block]; omega) (by rw [add_block]; exact hne ad hA hl)).trans (hc j v hv)⟩
theorem wrSame_is {B C : Nat} (A A2 : Option Addr) (n c m d : Nat) (l : List Wr) (w : World) (hn : l.length = n) (hr : RdW B w A l) (hB : B ≤ w.heap.size) (hm : n ≤ 1000000) (hn2 : l.length = m) (hr2 : RdW C w A2 l) (hC : C ≤ w.heap.size) :
    Calls Tryd.prog 27 #[.slice A n c, .slice A2 m d] w fun e w' => e = .returned (.bool true) ∧ Drn w w' := by
  have h := refWrSame_any A A2 n c m d l l w hn hr hB hm hn2 hr2 hC
  rw [sameW_yes rfl] at h
  exact h
theorem end_eq {bh : List UInt8} {m : Nat} (h : bh.length = m) : ∃ q : Bool, (endOf (some bh) == 0) = q ∧ ((m : Int) == 0) = q := by
  subst h
  cases bh with
  | nil => exact ⟨true, rfl, rfl⟩
  | cons x t => exact ⟨false, rfl, by rw [beq_eq_false_iff_ne, List.length_cons]; omega⟩
theorem add7 {x : Wr} (h : (wB x).length ≤ 200) : Op.stringOp .add ⟨#[7]⟩ ⟨(wB x).toArray⟩ = pure (.string ⟨([7] ++ wB x).toArray⟩) := by
  have e : (⟨#[7]⟩ : ByteArray) ++ ⟨(wB x).toArray⟩ = ⟨([7] ++ wB x).toArray⟩ := by
    apply ByteArray.ext
    simp
  rw [← e]
  refine str_add' (by show 1 ≤ _; omega) ?_
  show (wB x).toArray.size ≤ _
  rw [List.size_toArray]
  omega
set_option maxRecDepth 100000 in
set_option maxHeartbeats 8000000 in
theorem lawPackWrites_good {S : Addr} {Rdr : World → Nat → Rest → Prop} (hC : PackC2 S Rdr) (A A2 : Option Addr) (n c m d : Nat) (l : List Wr) (bh : List UInt8) (w : World) (hL : LaidP S w) (hn : l.length = n) (hr : RdW w.heap.size w A l) (hm : n ≤ 100) (hf : ∀ x, x ∈ l → x.fits)
    (hg : goodAll l = true) (hbn : bh.length = m) (hbr : RdB w.heap.size w A2 bh) (hs2 : m ≤ 2000) :
    Calls Tryd.prog 4 #[.slice A n c, .slice A2 m d] w fun e w' => e = .returned (.bool true) ∧ Below w.heap.size w w' := by
  obtain ⟨i0, hi0, hz0, hz1, hz2⟩ := info_parts byt_info
  have HN := Lib.hid hn
  have HBN := Lib.hid hbn
  have HC := Lib.hid hC
  have HF : Hid (∀ x, x ∈ l → x.fits ∧ x.good = true) := fun x hx => ⟨hf x hx, goodAll_all hg hx⟩
  have HGA := Lib.hid (fun W (h : RdW w.heap.size W A l) (hB : w.heap.size ≤ W.heap.size) => refGoodAll_any A n c l W HN.out h hB (by unfold maxLen; omega) hf)
  rw [hg] at HGA
  have HWS : Hid ((wsB l).length ≤ 30000) := by
    show _ ≤ _
    have := wsB_small HF.out (by rw [HN.out]; omega)
    rw [HN.out] at this
    omega
  have g1 : (n : Int) ≤ 100 := by omega
  have g2 : (m : Int) ≤ 2000 := by omega
  clear hn hf hg hbn hC
  go_enter Tryd.func4, Tryd.ntmps4
  go_wp2_with fail
  refine (packAwake HC.out.toPackC w hL).mono ?_
  rintro e w1 ⟨rfl, B1⟩
  go_wp2_with fail
  refine (HGA.out w1 (hr.keep B1 (Nat.le_refl _)) B1.size).mono ?_
  rintro e w2 ⟨rfl, hb2⟩
  have B2 := bt B1 hb2
  clear HGA hb2
  go_wp2_with fail
  refine (HC.out.writes none A 0 0 n c [] l w2 (hL.keep B2) rfl (by omega) (RdB.nil _ _ _) (Nat.le_refl 0) HN.out (by omega) ((hr.keep B2 (Nat.le_refl _)).more B2.size) HF.out).mono ?_
  rintro e w3 ⟨⟨A3, n3, c3, rfl, hn3, hr3, qhr3⟩, hb3⟩
  have B3 := bt B2 hb3
  clear hb3
  rw [List.nil_append] at hn3 hr3
  have hn3' : n3 ≤ 30000 := by rw [← hn3]; exact HWS.out
  have FW : Hid (∀ W' : World, Below w.heap.size w W' → Calls Tryd.prog 20 #[.slice A n c] W' fun e w' => (∃ (A' : Option Addr) (n' c' : Nat), e = .returned (.slice A' n' c') ∧ (wsB l).length = n' ∧ (convert 22 9 (.slice A' n' c')).run Tryd.prog w' = .ok (.string ⟨(wsB l).toArray⟩) w') ∧ Below W'.heap.size W' w') :=
    fun W' hB => pWrites_is A n c l W' HN.out ((hr.keep hB (Nat.le_refl _)).more hB.size) hm HF.out
  have hS0 := cvS0 (c := c3) hn3 hr3 B3
  go_wp2_with fail
  refine wp_region_noPanic ?_
  refine wp_region_held_drew (S := (fun w' => (convert 22 9 (.slice A3 n3 c3)).run Tryd.prog w' = .ok (.string ⟨(wsB l).toArray⟩) w' ∧ Below w.heap.size w w')) (by kernel_rfl) ?_ (fun hHeld => ?_)
  · (first | assumption | exact hS0)
  refine wpAnyH_take (i := 0) (oi := ⟨some 34, _, _, _, _, _⟩) (v := ?_) (by rfl) (by kernel_rfl) (by kernel_rfl) (by kernel_rfl) (fun _ _ _ h => h) (Or.inl ⟨by rfl, ?hy⟩) (by assumption) ?_
  case hy => (intro w hSw; (try dsimp only at hSw); go_simp; try with_reducible rfl)
  try simp only [Act.put, List.setIfInBounds_toArray, List.set_cons_zero, List.set_cons_succ]
  refine wpAnyH_take (i := 1) (oi := ⟨some 35, _, _, _, _, _⟩) (v := ?_) (by rfl) (by kernel_rfl) (by kernel_rfl) (by kernel_rfl) (fun _ _ _ h => h) (Or.inl ⟨by rfl, ?hy⟩) (by assumption) ?_
  case hy => (intro w hSw; (try dsimp only at hSw); go_simp; try with_reducible rfl)
  try simp only [Act.put, List.setIfInBounds_toArray, List.set_cons_zero, List.set_cons_succ]
  refine wpAnyH_take (i := 2) (oi := ⟨some 36, _, _, _, _, _⟩) (v := ?_) (by rfl) (by kernel_rfl) (by kernel_rfl) (by kernel_rfl) (fun _ _ _ h => h) (Or.inl ⟨by rfl, ?hy⟩) (by assumption) ?_
  case hy => (intro w hSw; (try dsimp only at hSw); go_simp; try with_reducible rfl)
  try simp only [Act.put, List.setIfInBounds_toArray, List.set_cons_zero, List.set_cons_succ]
  refine wpAnyH_ready (rs := [3]) (by kernel_rfl) (by simp) ?_
  refine AllReadyH.cons (o := ⟨some 37, _, _, _, _, _⟩) (by rfl) (fun K hK => ?_) ?_
  · (go_simp; go_at_call 20; (with_reducible refine (FW.out _ (And.right (by assumption))).mono ?_); rintro e w4 ⟨⟨A4, n4, c4, rfl, hn4, hq4⟩, hb4⟩; have hS4 := cvS1 (c := c3) hn3 hr3 (Below.refl _ _).drew B3.drew hb4; go_wp2_with fail)
    refine hK.out _ _ ?_ (fun hHeld => ?_)
    · (first | assumption | exact hS0)
    clear hK K
    try simp only [Act.put, List.setIfInBounds_toArray, List.set_cons_zero, List.set_cons_succ]
    refine wpAnyH_ready (rs := [4]) (by kernel_rfl) (by simp) ?_
    refine AllReadyH.cons (o := ⟨some 38, _, _, _, _, _⟩) (by rfl) (fun K hK => ?_) ?_
    · go_simp
      refine hK.out _ _ ?_ (fun hHeld => ?_)
      · (first | assumption | exact hS0)
      clear hK K
      try simp only [Act.put, List.setIfInBounds_toArray, List.set_cons_zero, List.set_cons_succ]
      refine wpAnyH_take (i := 5) (oi := ⟨some 39, _, _, _, _, _⟩) (v := ?_) (by rfl) (by kernel_rfl) (by kernel_rfl) (by kernel_rfl) (fun _ _ _ h => h) (Or.inl ⟨by rfl, ?hy⟩) (by assumption) ?_
      case hy => (intro w hSw; (try dsimp only at hSw); go_simp; try with_reducible rfl)
      try simp only [Act.put, List.setIfInBounds_toArray, List.set_cons_zero, List.set_cons_succ]
      refine wpAnyH_done (by kernel_rfl) ?_ _
      refine NoPanic.normal ?_
      have B4 := hHeld.2
      clear hHeld hS4 hq4 hn4 hS0 FW
      go_wp2_with fail
      go_loopw [42] (fun i wr => ∃ k : Nat, k ≤ n ∧ i = .int .i64 k ∧ Below w4.heap.size w4 wr) (fun i _ => n - (intOf i).toNat)
      case atStart => exact ⟨0, Nat.zero_le _, rfl, Below.refl _ _⟩
      case round =>
        obtain ⟨k, hk, rfl, hB⟩ := hrel
        by_cases hlt : k < n
        · obtain ⟨x, hx⟩ : ∃ x, l[k]? = some x := ⟨_, List.getElem?_eq_getElem (show k < l.length by have := HN.out; omega)⟩
          have BW := bt B4 hB
          obtain ⟨ad, rfl, _, hc⟩ := (hr.keep BW (Nat.le_refl _)) k x hx
          have i1 : (0 : Int) ≤ (k : Int) := by omega
          have i2 : (k : Int) < (n : Int) := by omega
          have HFx := Lib.hid (HF.out x (List.mem_of_getElem? hx))
          clear hx
          obtain ⟨d0, d1, d2, d3, d4, d5, d6, d7, d8, d9⟩ := wr_cells hc
          clear hc
          have hba := b0 wr (.cells x.cells 48)
          have hBl := blk_new wr x.cells 48
          have HBl := Lib.hid hBl
          clear hBl
          go_wp2_with fail
          generalize wr.alloc (.cells x.cells 48) = Wa at hba HBl ⊢
          have BA := bt hB hba
          refine (HC.out.write none 0 0 [] x Wa (hL.keep (bt B4 BA)) rfl (by omega) (RdB.nil _ _ _) (Nat.le_refl 0) HFx.out.2 HFx.out.1).mono ?_
          rintro e w6 ⟨⟨A6, n6, c6, rfl, hn6, hr6, qhr6⟩, hb6⟩
          have B6 := bt BA hb6
          have hBl6 := HBl.out.keep hb6
          rw [List.nil_append] at hn6 hr6
          have h200 := wB_200 HFx.out.2 HFx.out.1
          clear d0 d1 d2 d3 d4 d5 d6 d7 d8 d9 hba HBl hb6
          obtain ⟨e0, e1, e2, e3, e4, e5, e6, e7, e8, e9, _⟩ := blk_c10 hBl6
          go_wp2_with fail
          refine (HC.out.open_ A6 n6 c6 _ w6 (hL.keep (bt B4 B6)) hn6 (by omega) hr6).mono ?_
          rintro e w7 ⟨⟨g, rfl, hR7, hg⟩, hb7⟩
          have B7 := bt B6 hb7
          have hBl7 := hBl6.keep hb7
          have hwg : w4.heap.size ≤ g := Nat.le_trans B6.size hg
          have hne : wr.heap.size ≠ g := by have := hBl6.lt; omega
          have hS0 := wS (blk_drew hBl7) B7.drew
          have F51 : Hid (Calls Tryd.prog 22 #[.slice (some ⟨w7.heap.size, 0, none⟩) 1 1, .agg x.cells] ((w7.alloc (.cells #[.int .u8 7] 5)).drew) fun e w' => PutR ((w7.alloc (.cells #[.int .u8 7] 5)).drew) ([7] ++ wB x) e w') :=
            HC.out.write (some ⟨w7.heap.size, 0, none⟩) 1 1 [7] x _ (hL.keep (bt B4 (bt B7 (b0d w7 _)))) rfl (by omega) (((rdOneB w7 7 w7.heap.size rfl).drew_).more (by simp)) (Nat.le_refl 1) HFx.out.2 HFx.out.1
          have F54 : Hid (∀ W' : World, Calls Tryd.prog 23 #[.agg x.cells] W' fun e w' => (∃ (A : Option Addr) (m c : Nat), e = .returned (.slice A m c) ∧ (wB x).length = m ∧ RdB w'.heap.size w' A (wB x)) ∧ Below W'.heap.size W' w') :=
            fun W' => pWr_is x HFx.out.2 HFx.out.1 W'
          have F60 : Hid (∀ W' : World, LaidP S W' → Rdr W' g (some (wB x)) → Calls Tryd.prog 24 #[.pointer (some ⟨g, 0, none⟩)] W' fun e w' => e = .returned (.agg x.cells) ∧ Rdr w' g (some []) ∧ W'.grownBy w' (some g)) := fun W' h1 h2 => by
            have h3 := wrOf_put (x := x) [] HFx.out.2 HFx.out.1
            rw [List.append_nil] at h3
            have h4 := HC.out.rWrite g (some (wB x)) W' h1 h2
            rw [h3] at h4
            exact h4
          have F66 : Hid (∀ W' : World, LaidP S W' → Rdr W' g (some []) → Calls Tryd.prog 25 #[.pointer (some ⟨g, 0, none⟩)] W' fun e w' => e = .returned (.int .i64 0) ∧ Rdr w' g (some []) ∧ W'.grownBy w' (some g)) := fun W' h1 h2 => HC.out.rEnd g (some []) W' h1 h2
          have ha7 := add7 h200
          have hnq := fun W => wr_eq x W
          clear e0 e1 e2 e3 e4 e5 e6 e7 e8 e9 hBl6 hb7 hr6
          go_wp2_with fail
          refine wp_region_noPanic ?_
          refine wp_region_held_drew (S := (fun w' => (w'.cell? ⟨wr.heap.size, 0, none⟩ = some (.int .i64 x.dev) ∧ w'.cell? ⟨wr.heap.size, 1, none⟩ = some (.int .i64 x.seq) ∧ w'.cell? ⟨wr.heap.size, 2, none⟩ = some (.int .i64 x.K) ∧ w'.cell? ⟨wr.heap.size, 3, none⟩ = some (.string x.ky) ∧ w'.cell? ⟨wr.heap.size, 4, none⟩ = some (.int .i64 x.ka) ∧ w'.cell? ⟨wr.heap.size, 5, none⟩ = some (.int .i64 x.na) ∧ w'.cell? ⟨wr.heap.size, 6, none⟩ = some (.string x.sa) ∧ w'.cell? ⟨wr.heap.size, 7, none⟩ = some (.int .i64 x.kb) ∧ w'.cell? ⟨wr.heap.size, 8, none⟩ = some (.int .i64 x.nb) ∧ w'.cell? ⟨wr.heap.size, 9, none⟩ = some (.string x.sb)) ∧ Blk w' wr.heap.size x.cells 48 ∧ Below w4.heap.size w4 w')) (by kernel_rfl) ?_ (fun hHeld => ?_)
          · (first | assumption | exact hS0 | exact wS (Blk.alloc (And.left (And.right (by assumption))) _) (ba (And.right (And.right (by assumption))) _))
          refine wpAnyH_take (i := 1) (oi := ⟨some 50, _, _, _, _, _⟩) (v := ?_) (by rfl) (by kernel_rfl) (by kernel_rfl) (by kernel_rfl) (fun _ _ _ h => h) (Or.inl ⟨by rfl, ?hy⟩) (by assumption) ?_
          case hy => (intro w hSw; (try dsimp only at hSw); go_simp; try with_reducible rfl)
          try simp only [Act.put, List.setIfInBounds_toArray, List.set_cons_zero, List.set_cons_succ]
          refine wpAnyH_take (i := 4) (oi := ⟨some 53, _, _, _, _, _⟩) (v := ?_) (by rfl) (by kernel_rfl) (by kernel_rfl) (by kernel_rfl) (fun _ _ _ h => h) (Or.inl ⟨by rfl, ?hy⟩) (by assumption) ?_
          case hy => (intro w hSw; (try dsimp only at hSw); go_simp; try with_reducible rfl)
          try simp only [Act.put, List.setIfInBounds_toArray, List.set_cons_zero, List.set_cons_succ]
          refine wpAnyH_ready (rs := [0]) (by kernel_rfl) (by simp) ?_
          refine AllReadyH.cons (o := ⟨some 49, _, _, _, _, _⟩) (by rfl) (fun K hK => ?_) ?_
          · go_simp
            refine hK.out _ _ ?_ (fun hHeld => ?_)
            · (first | assumption | exact hS0 | exact wS (Blk.alloc (And.left (And.right (by assumption))) _) (ba (And.right (And.right (by assumption))) _))
            clear hK K
            try simp only [Act.put, List.setIfInBounds_toArray, List.set_cons_zero, List.set_cons_succ]
            refine wpAnyH_ready (rs := [2]) (by kernel_rfl) (by simp) ?_
            refine AllReadyH.cons (o := ⟨some 51, _, _, _, _, _⟩) (by rfl) (fun K hK => ?_) ?_
            · (go_simp; (go_at_call 22; ((with_reducible refine F51.out.mono ?_); rintro e w8 ⟨⟨A8, n8, c8, rfl, hn8, hr8, qhr8⟩, hb8⟩; have hR8 := rdr_below HC.out hR7 (bt (b0d w7 _) hb8); have hq8 := conv_rd w8 A8 n8 c8 _ hn8 hr8; have hS8 := wS (Blk.keep (blk_drew (hBl7.alloc _)) hb8) (bt (bt B7 (b0d w7 _)) hb8))); go_wp2_with fail)
              refine hK.out _ _ ?_ (fun hHeld => ?_)
              · (first | assumption | exact hS0 | exact wS (Blk.alloc (And.left (And.right (by assumption))) _) (ba (And.right (And.right (by assumption))) _))
              clear hK K
              try simp only [Act.put, List.setIfInBounds_toArray, List.set_cons_zero, List.set_cons_succ]
              refine wpAnyH_ready (rs := [3, 5]) (by kernel_rfl) (by simp) ?_
              refine AllReadyH.cons (o := ⟨some 52, _, _, _, _, _⟩) (by rfl) (fun K hK => ?_) ?_
              · go_simp
                refine hK.out _ _ ?_ (fun hHeld => ?_)
                · (first | assumption | exact hS0 | exact wS (Blk.alloc (And.left (And.right (by assumption))) _) (ba (And.right (And.right (by assumption))) _))
                clear hK K
                try simp only [Act.put, List.setIfInBounds_toArray, List.set_cons_zero, List.set_cons_succ]
                refine wpAnyH_ready (rs := [5]) (by kernel_rfl) (by simp) ?_
                refine AllReadyH.cons (o := ⟨some 54, _, _, _, _, _⟩) (by rfl) (fun K hK => ?_) ?_
                · (go_simp; (go_at_call 23; ((with_reducible refine (F54.out _).mono ?_); rintro e w9 ⟨⟨A9, n9, c9, rfl, hn9, hr9⟩, hb9⟩; have hR9 := rdr_below HC.out hR8 hb9; have hq9 := conv_rd w9 A9 n9 c9 _ hn9 hr9; have hq89 := conv_rd w9 A8 n8 c8 _ hn8 (hr8.keep hb9 (Nat.le_refl _)); have hS9 := wS (hS8.2.1.keep hb9) (bt hS8.2.2 hb9))); go_wp2_with fail)
                  refine hK.out _ _ ?_ (fun hHeld => ?_)
                  · (first | assumption | exact hS0 | exact wS (Blk.alloc (And.left (And.right (by assumption))) _) (ba (And.right (And.right (by assumption))) _))
                  clear hK K
                  try simp only [Act.put, List.setIfInBounds_toArray, List.set_cons_zero, List.set_cons_succ]
                  refine wpAnyH_ready (rs := [6]) (by kernel_rfl) (by simp) ?_
                  refine AllReadyH.cons (o := ⟨some 55, _, _, _, _, _⟩) (by rfl) (fun K hK => ?_) ?_
                  · go_simp
                    refine hK.out _ _ ?_ (fun hHeld => ?_)
                    · (first | assumption | exact hS0 | exact wS (Blk.alloc (And.left (And.right (by assumption))) _) (ba (And.right (And.right (by assumption))) _))
                    clear hK K
                    try simp only [Act.put, List.setIfInBounds_toArray, List.set_cons_zero, List.set_cons_succ]
                    refine wpAnyH_take (i := 7) (oi := ⟨some 56, _, _, _, _, _⟩) (v := ?_) (by rfl) (by kernel_rfl) (by kernel_rfl) (by kernel_rfl) (fun _ _ _ h => h) (Or.inl ⟨by rfl, ?hy⟩) (by assumption) ?_
                    case hy => (intro w hSw; (try dsimp only at hSw); go_simp; try with_reducible rfl)
                    try simp only [Act.put, List.setIfInBounds_toArray, List.set_cons_zero, List.set_cons_succ]
                    refine wpAnyH_take (i := 8) (oi := ⟨some 57, _, _, _, _, _⟩) (v := ?_) (by rfl) (by kernel_rfl) (by kernel_rfl) (by kernel_rfl) (fun _ _ _ h => h) (Or.inl ⟨by rfl, ?hy⟩) (by assumption) ?_
                    case hy => (intro w hSw; (try dsimp only at hSw); go_simp; try with_reducible rfl)
                    try simp only [Act.put, List.setIfInBounds_toArray, List.set_cons_zero, List.set_cons_succ]
                    refine wpAnyH_take (i := 9) (oi := ⟨some 58, _, _, _, _, _⟩) (v := ?_) (by rfl) (by kernel_rfl) (by kernel_rfl) (by kernel_rfl) (fun _ _ _ h => h) (Or.inl ⟨by rfl, ?hy⟩) (by assumption) ?_
                    case hy => (intro w hSw; (try dsimp only at hSw); go_simp; try with_reducible rfl)
                    try simp only [Act.put, List.setIfInBounds_toArray, List.set_cons_zero, List.set_cons_succ]
                    refine wpAnyH_take (i := 10) (oi := ⟨some 59, _, _, _, _, _⟩) (v := ?_) (by rfl) (by kernel_rfl) (by kernel_rfl) (by kernel_rfl) (fun _ _ _ h => h) (Or.inl ⟨by rfl, ?hy⟩) (by assumption) ?_
                    case hy => (intro w hSw; (try dsimp only at hSw); go_simp; try with_reducible rfl)
                    try simp only [Act.put, List.setIfInBounds_toArray, List.set_cons_zero, List.set_cons_succ]
                    refine wpAnyH_take (i := 12) (oi := ⟨some 61, _, _, _, _, _⟩) (v := ?_) (by rfl) (by kernel_rfl) (by kernel_rfl) (by kernel_rfl) (fun _ _ _ h => h) (Or.inl ⟨by rfl, ?hy⟩) (by assumption) ?_
                    case hy => (intro w hSw; (try dsimp only at hSw); go_simp; try with_reducible rfl)
                    try simp only [Act.put, List.setIfInBounds_toArray, List.set_cons_zero, List.set_cons_succ]
                    refine wpAnyH_ready (rs := [11]) (by kernel_rfl) (by simp) ?_
                    refine AllReadyH.cons (o := ⟨some 60, _, _, _, _, _⟩) (by rfl) (fun K hK => ?_) ?_
                    · (go_simp; (go_at_call 24; ((with_reducible refine (F60.out w9 (hL.keep (bt B4 hS9.2.2)) hR9).mono ?_); rintro e w10 ⟨rfl, hR10, hg10⟩; have hS10 := wS (hS9.2.1.grown hg10 hne) (below_g hS9.2.2 hg10 hwg))); go_wp2_with fail)
                      refine hK.out _ _ ?_ (fun hHeld => ?_)
                      · (first | assumption | exact hS0 | exact wS (Blk.alloc (And.left (And.right (by assumption))) _) (ba (And.right (And.right (by assumption))) _))
                      clear hK K
                      try simp only [Act.put, List.setIfInBounds_toArray, List.set_cons_zero, List.set_cons_succ]
                      refine wpAnyH_take (i := 13) (oi := ⟨some 62, _, _, _, _, _⟩) (v := ?_) (by rfl) (by kernel_rfl) (by kernel_rfl) (by kernel_rfl) (fun _ _ _ h => h) (Or.inl ⟨by rfl, ?hy⟩) (by assumption) ?_
                      case hy => (intro w hSw; (try dsimp only at hSw); go_simp; try with_reducible rfl)
                      try simp only [Act.put, List.setIfInBounds_toArray, List.set_cons_zero, List.set_cons_succ]
                      refine wpAnyH_take (i := 14) (oi := ⟨some 63, _, _, _, _, _⟩) (v := ?_) (by rfl) (by kernel_rfl) (by kernel_rfl) (by kernel_rfl) (fun _ _ _ h => h) (Or.inl ⟨by rfl, ?hy⟩) (by assumption) ?_
                      case hy => (intro w hSw; (try dsimp only at hSw); go_simp; try with_reducible rfl)
                      try simp only [Act.put, List.setIfInBounds_toArray, List.set_cons_zero, List.set_cons_succ]
                      refine wpAnyH_take (i := 15) (oi := ⟨some 64, _, _, _, _, _⟩) (v := ?_) (by rfl) (by kernel_rfl) (by kernel_rfl) (by kernel_rfl) (fun _ _ _ h => h) (Or.inl ⟨by rfl, ?hy⟩) (by assumption) ?_
                      case hy => (intro w hSw; (try dsimp only at hSw); go_simp; try with_reducible rfl)
                      try simp only [Act.put, List.setIfInBounds_toArray, List.set_cons_zero, List.set_cons_succ]
                      refine wpAnyH_take (i := 16) (oi := ⟨some 65, _, _, _, _, _⟩) (v := ?_) (by rfl) (by kernel_rfl) (by kernel_rfl) (by kernel_rfl) (fun _ _ _ h => h) (Or.inl ⟨by rfl, ?hy⟩) (by assumption) ?_
                      case hy => (intro w hSw; (try dsimp only at hSw); go_simp; try with_reducible rfl)
                      try simp only [Act.put, List.setIfInBounds_toArray, List.set_cons_zero, List.set_cons_succ]
                      refine wpAnyH_ready (rs := [17]) (by kernel_rfl) (by simp) ?_
                      refine AllReadyH.cons (o := ⟨some 66, _, _, _, _, _⟩) (by rfl) (fun K hK => ?_) ?_
                      · (go_simp; (go_at_call 25; ((with_reducible refine (F66.out w10 (hL.keep (bt B4 hS10.2.2)) hR10).mono ?_); rintro e w11 ⟨rfl, _, hg11⟩; have hS11 := wS (hS10.2.1.grown hg11 hne) (below_g hS10.2.2 hg11 hwg))); go_wp2_with fail)
                        refine hK.out _ _ ?_ (fun hHeld => ?_)
                        · (first | assumption | exact hS0 | exact wS (Blk.alloc (And.left (And.right (by assumption))) _) (ba (And.right (And.right (by assumption))) _))
                        clear hK K
                        try simp only [Act.put, List.setIfInBounds_toArray, List.set_cons_zero, List.set_cons_succ]
                        refine wpAnyH_take (i := 18) (oi := ⟨some 67, _, _, _, _, _⟩) (v := ?_) (by rfl) (by kernel_rfl) (by kernel_rfl) (by kernel_rfl) (fun _ _ _ h => h) (Or.inl ⟨by rfl, ?hy⟩) (by assumption) ?_
                        case hy => (intro w hSw; (try dsimp only at hSw); go_simp; try with_reducible rfl)
                        try simp only [Act.put, List.setIfInBounds_toArray, List.set_cons_zero, List.set_cons_succ]
                        refine wpAnyH_take (i := 19) (oi := ⟨some 68, _, _, _, _, _⟩) (v := ?_) (by rfl) (by kernel_rfl) (by kernel_rfl) (by kernel_rfl) (fun _ _ _ h => h) (Or.inl ⟨by rfl, ?hy⟩) (by assumption) ?_
                        case hy => (intro w hSw; (try dsimp only at hSw); go_simp; try with_reducible rfl)
                        try simp only [Act.put, List.setIfInBounds_toArray, List.set_cons_zero, List.set_cons_succ]
                        refine wpAnyH_done (by kernel_rfl) ?_ _
                        refine NoPanic.normal ?_
                        go_wp2_with fail
                        go_roundw
                        case rel => exact ⟨k + 1, by omega, by go_num, (And.right (And.right hHeld))⟩
                        case measure => simp [intOf]; omega
                      exact AllReadyH.nil
                    exact AllReadyH.nil
                  exact AllReadyH.nil
                exact AllReadyH.nil
              refine AllReadyH.cons (o := ⟨some 54, _, _, _, _, _⟩) (by rfl) (fun K hK => ?_) ?_
              · (go_simp; (go_at_call 23; ((with_reducible refine (F54.out _).mono ?_); rintro e w9 ⟨⟨A9, n9, c9, rfl, hn9, hr9⟩, hb9⟩; have hR9 := rdr_below HC.out hR8 hb9; have hq9 := conv_rd w9 A9 n9 c9 _ hn9 hr9; have hq89 := conv_rd w9 A8 n8 c8 _ hn8 (hr8.keep hb9 (Nat.le_refl _)); have hS9 := wS (hS8.2.1.keep hb9) (bt hS8.2.2 hb9))); go_wp2_with fail)
                refine hK.out _ _ ?_ (fun hHeld => ?_)
                · (first | assumption | exact hS0 | exact wS (Blk.alloc (And.left (And.right (by assumption))) _) (ba (And.right (And.right (by assumption))) _))
                clear hK K
                try simp only [Act.put, List.setIfInBounds_toArray, List.set_cons_zero, List.set_cons_succ]
                refine wpAnyH_ready (rs := [3, 6]) (by kernel_rfl) (by simp) ?_
                refine AllReadyH.cons (o := ⟨some 52, _, _, _, _, _⟩) (by rfl) (fun K hK => ?_) ?_
                · go_simp
                  refine hK.out _ _ ?_ (fun hHeld => ?_)
                  · (first | assumption | exact hS0 | exact wS (Blk.alloc (And.left (And.right (by assumption))) _) (ba (And.right (And.right (by assumption))) _))
                  clear hK K
                  try simp only [Act.put, List.setIfInBounds_toArray, List.set_cons_zero, List.set_cons_succ]
                  refine wpAnyH_ready (rs := [6]) (by kernel_rfl) (by simp) ?_
                  refine AllReadyH.cons (o := ⟨some 55, _, _, _, _, _⟩) (by rfl) (fun K hK => ?_) ?_
                  · go_simp
                    refine hK.out _ _ ?_ (fun hHeld => ?_)
                    · (first | assumption | exact hS0 | exact wS (Blk.alloc (And.left (And.right (by assumption))) _) (ba (And.right (And.right (by assumption))) _))
                    clear hK K
                    try simp only [Act.put, List.setIfInBounds_toArray, List.set_cons_zero, List.set_cons_succ]
                    refine wpAnyH_take (i := 7) (oi := ⟨some 56, _, _, _, _, _⟩) (v := ?_) (by rfl) (by kernel_rfl) (by kernel_rfl) (by kernel_rfl) (fun _ _ _ h => h) (Or.inl ⟨by rfl, ?hy⟩) (by assumption) ?_
                    case hy => (intro w hSw; (try dsimp only at hSw); go_simp; try with_reducible rfl)
                    try simp only [Act.put, List.setIfInBounds_toArray, List.set_cons_zero, List.set_cons_succ]
                    refine wpAnyH_take (i := 8) (oi := ⟨some 57, _, _, _, _, _⟩) (v := ?_) (by rfl) (by kernel_rfl) (by kernel_rfl) (by kernel_rfl) (fun _ _ _ h => h) (Or.inl ⟨by rfl, ?hy⟩) (by assumption) ?_
                    case hy => (intro w hSw; (try dsimp only at hSw); go_simp; try with_reducible rfl)
                    try simp only [Act.put, List.setIfInBounds_toArray, List.set_cons_zero, List.set_cons_succ]
                    refine wpAnyH_take (i := 9) (oi := ⟨some 58, _, _, _, _, _⟩) (v := ?_) (by rfl) (by kernel_rfl) (by kernel_rfl) (by kernel_rfl) (fun _ _ _ h => h) (Or.inl ⟨by rfl, ?hy⟩) (by assumption) ?_
                    case hy => (intro w hSw; (try dsimp only at hSw); go_simp; try with_reducible rfl)
                    try simp only [Act.put, List.setIfInBounds_toArray, List.set_cons_zero, List.set_cons_succ]
                    refine wpAnyH_take (i := 10) (oi := ⟨some 59, _, _, _, _, _⟩) (v := ?_) (by rfl) (by kernel_rfl) (by kernel_rfl) (by kernel_rfl) (fun _ _ _ h => h) (Or.inl ⟨by rfl, ?hy⟩) (by assumption) ?_
                    case hy => (intro w hSw; (try dsimp only at hSw); go_simp; try with_reducible rfl)
                    try simp only [Act.put, List.setIfInBounds_toArray, List.set_cons_zero, List.set_cons_succ]
                    refine wpAnyH_take (i := 12) (oi := ⟨some 61, _, _, _, _, _⟩) (v := ?_) (by rfl) (by kernel_rfl) (by kernel_rfl) (by kernel_rfl) (fun _ _ _ h => h) (Or.inl ⟨by rfl, ?hy⟩) (by assumption) ?_
                    case hy => (intro w hSw; (try dsimp only at hSw); go_simp; try with_reducible rfl)
                    try simp only [Act.put, List.setIfInBounds_toArray, List.set_cons_zero, List.set_cons_succ]
                    refine wpAnyH_ready (rs := [11]) (by kernel_rfl) (by simp) ?_
                    refine AllReadyH.cons (o := ⟨some 60, _, _, _, _, _⟩) (by rfl) (fun K hK => ?_) ?_
                    · (go_simp; (go_at_call 24; ((with_reducible refine (F60.out w9 (hL.keep (bt B4 hS9.2.2)) hR9).mono ?_); rintro e w10 ⟨rfl, hR10, hg10⟩; have hS10 := wS (hS9.2.1.grown hg10 hne) (below_g hS9.2.2 hg10 hwg))); go_wp2_with fail)
                      refine hK.out _ _ ?_ (fun hHeld => ?_)
                      · (first | assumption | exact hS0 | exact wS (Blk.alloc (And.left (And.right (by assumption))) _) (ba (And.right (And.right (by assumption))) _))
                      clear hK K
                      try simp only [Act.put, List.setIfInBounds_toArray, List.set_cons_zero, List.set_cons_succ]
                      refine wpAnyH_take (i := 13) (oi := ⟨some 62, _, _, _, _, _⟩) (v := ?_) (by rfl) (by kernel_rfl) (by kernel_rfl) (by kernel_rfl) (fun _ _ _ h => h) (Or.inl ⟨by rfl, ?hy⟩) (by assumption) ?_
                      case hy => (intro w hSw; (try dsimp only at hSw); go_simp; try with_reducible rfl)
                      try simp only [Act.put, List.setIfInBounds_toArray, List.set_cons_zero, List.set_cons_succ]
                      refine wpAnyH_take (i := 14) (oi := ⟨some 63, _, _, _, _, _⟩) (v := ?_) (by rfl) (by kernel_rfl) (by kernel_rfl) (by kernel_rfl) (fun _ _ _ h => h) (Or.inl ⟨by rfl, ?hy⟩) (by assumption) ?_
                      case hy => (intro w hSw; (try dsimp only at hSw); go_simp; try with_reducible rfl)
                      try simp only [Act.put, List.setIfInBounds_toArray, List.set_cons_zero, List.set_cons_succ]
                      refine wpAnyH_take (i := 15) (oi := ⟨some 64, _, _, _, _, _⟩) (v := ?_) (by rfl) (by kernel_rfl) (by kernel_rfl) (by kernel_rfl) (fun _ _ _ h => h) (Or.inl ⟨by rfl, ?hy⟩) (by assumption) ?_
                      case hy => (intro w hSw; (try dsimp only at hSw); go_simp; try with_reducible rfl)
                      try simp only [Act.put, List.setIfInBounds_toArray, List.set_cons_zero, List.set_cons_succ]
                      refine wpAnyH_take (i := 16) (oi := ⟨some 65, _, _, _, _, _⟩) (v := ?_) (by rfl) (by kernel_rfl) (by kernel_rfl) (by kernel_rfl) (fun _ _ _ h => h) (Or.inl ⟨by rfl, ?hy⟩) (by assumption) ?_
                      case hy => (intro w hSw; (try dsimp only at hSw); go_simp; try with_reducible rfl)
                      try simp only [Act.put, List.setIfInBounds_toArray, List.set_cons_zero, List.set_cons_succ]
                      refine wpAnyH_ready (rs := [17]) (by kernel_rfl) (by simp) ?_
                      refine AllReadyH.cons (o := ⟨some 66, _, _, _, _, _⟩) (by rfl) (fun K hK => ?_) ?_
                      · (go_simp; (go_at_call 25; ((with_reducible refine (F66.out w10 (hL.keep (bt B4 hS10.2.2)) hR10).mono ?_); rintro e w11 ⟨rfl, _, hg11⟩; have hS11 := wS (hS10.2.1.grown hg11 hne) (below_g hS10.2.2 hg11 hwg))); go_wp2_with fail)
                        refine hK.out _ _ ?_ (fun hHeld => ?_)
                        · (first | assumption | exact hS0 | exact wS (Blk.alloc (And.left (And.right (by assumption))) _) (ba (And.right (And.right (by assumption))) _))
                        clear hK K
                        try simp only [Act.put, List.setIfInBounds_toArray, List.set_cons_zero, List.set_cons_succ]
                        refine wpAnyH_take (i := 18) (oi := ⟨some 67, _, _, _, _, _⟩) (v := ?_) (by rfl) (by kernel_rfl) (by kernel_rfl) (by kernel_rfl) (fun _ _ _ h => h) (Or.inl ⟨by rfl, ?hy⟩) (by assumption) ?_
                        case hy => (intro w hSw; (try dsimp only at hSw); go_simp; try with_reducible rfl)
                        try simp only [Act.put, List.setIfInBounds_toArray, List.set_cons_zero, List.set_cons_succ]
                        refine wpAnyH_take (i := 19) (oi := ⟨some 68, _, _, _, _, _⟩) (v := ?_) (by rfl) (by kernel_rfl) (by kernel_rfl) (by kernel_rfl) (fun _ _ _ h => h) (Or.inl ⟨by rfl, ?hy⟩) (by assumption) ?_
                        case hy => (intro w hSw; (try dsimp only at hSw); go_simp; try with_reducible rfl)
                        try simp only [Act.put, List.setIfInBounds_toArray, List.set_cons_zero, List.set_cons_succ]
                        refine wpAnyH_done (by kernel_rfl) ?_ _
                        refine NoPanic.normal ?_
                        go_wp2_with fail
                        go_roundw
                        case rel => exact ⟨k + 1, by omega, by go_num, (And.right (And.right hHeld))⟩
                        case measure => simp [intOf]; omega
                      exact AllReadyH.nil
                    exact AllReadyH.nil
                  exact AllReadyH.nil
                refine AllReadyH.cons (o := ⟨some 55, _, _, _, _, _⟩) (by rfl) (fun K hK => ?_) ?_
                · go_simp
                  refine hK.out _ _ ?_ (fun hHeld => ?_)
                  · (first | assumption | exact hS0 | exact wS (Blk.alloc (And.left (And.right (by assumption))) _) (ba (And.right (And.right (by assumption))) _))
                  clear hK K
                  try simp only [Act.put, List.setIfInBounds_toArray, List.set_cons_zero, List.set_cons_succ]
                  refine wpAnyH_take (i := 7) (oi := ⟨some 56, _, _, _, _, _⟩) (v := ?_) (by rfl) (by kernel_rfl) (by kernel_rfl) (by kernel_rfl) (fun _ _ _ h => h) (Or.inl ⟨by rfl, ?hy⟩) (by assumption) ?_
                  case hy => (intro w hSw; (try dsimp only at hSw); go_simp; try with_reducible rfl)
                  try simp only [Act.put, List.setIfInBounds_toArray, List.set_cons_zero, List.set_cons_succ]
                  refine wpAnyH_ready (rs := [3]) (by kernel_rfl) (by simp) ?_
                  refine AllReadyH.cons (o := ⟨some 52, _, _, _, _, _⟩) (by rfl) (fun K hK => ?_) ?_
                  · go_simp
                    refine hK.out _ _ ?_ (fun hHeld => ?_)
                    · (first | assumption | exact hS0 | exact wS (Blk.alloc (And.left (And.right (by assumption))) _) (ba (And.right (And.right (by assumption))) _))
                    clear hK K
                    try simp only [Act.put, List.setIfInBounds_toArray, List.set_cons_zero, List.set_cons_succ]
                    refine wpAnyH_take (i := 8) (oi := ⟨some 57, _, _, _, _, _⟩) (v := ?_) (by rfl) (by kernel_rfl) (by kernel_rfl) (by kernel_rfl) (fun _ _ _ h => h) (Or.inl ⟨by rfl, ?hy⟩) (by assumption) ?_
                    case hy => (intro w hSw; (try dsimp only at hSw); go_simp; try with_reducible rfl)
                    try simp only [Act.put, List.setIfInBounds_toArray, List.set_cons_zero, List.set_cons_succ]
                    refine wpAnyH_take (i := 9) (oi := ⟨some 58, _, _, _, _, _⟩) (v := ?_) (by rfl) (by kernel_rfl) (by kernel_rfl) (by kernel_rfl) (fun _ _ _ h => h) (Or.inl ⟨by rfl, ?hy⟩) (by assumption) ?_
                    case hy => (intro w hSw; (try dsimp only at hSw); go_simp; try with_reducible rfl)
                    try simp only [Act.put, List.setIfInBounds_toArray, List.set_cons_zero, List.set_cons_succ]
                    refine wpAnyH_take (i := 10) (oi := ⟨some 59, _, _, _, _, _⟩) (v := ?_) (by rfl) (by kernel_rfl) (by kernel_rfl) (by kernel_rfl) (fun _ _ _ h => h) (Or.inl ⟨by rfl, ?hy⟩) (by assumption) ?_
                    case hy => (intro w hSw; (try dsimp only at hSw); go_simp; try with_reducible rfl)
                    try simp only [Act.put, List.setIfInBounds_toArray, List.set_cons_zero, List.set_cons_succ]
                    refine wpAnyH_take (i := 12) (oi := ⟨some 61, _, _, _, _, _⟩) (v := ?_) (by rfl) (by kernel_rfl) (by kernel_rfl) (by kernel_rfl) (fun _ _ _ h => h) (Or.inl ⟨by rfl, ?hy⟩) (by assumption) ?_
                    case hy => (intro w hSw; (try dsimp only at hSw); go_simp; try with_reducible rfl)
                    try simp only [Act.put, List.setIfInBounds_toArray, List.set_cons_zero, List.set_cons_succ]
                    refine wpAnyH_ready (rs := [11]) (by kernel_rfl) (by simp) ?_
                    refine AllReadyH.cons (o := ⟨some 60, _, _, _, _, _⟩) (by rfl) (fun K hK => ?_) ?_
                    · (go_simp; (go_at_call 24; ((with_reducible refine (F60.out w9 (hL.keep (bt B4 hS9.2.2)) hR9).mono ?_); rintro e w10 ⟨rfl, hR10, hg10⟩; have hS10 := wS (hS9.2.1.grown hg10 hne) (below_g hS9.2.2 hg10 hwg))); go_wp2_with fail)
                      refine hK.out _ _ ?_ (fun hHeld => ?_)
                      · (first | assumption | exact hS0 | exact wS (Blk.alloc (And.left (And.right (by assumption))) _) (ba (And.right (And.right (by assumption))) _))
                      clear hK K
                      try simp only [Act.put, List.setIfInBounds_toArray, List.set_cons_zero, List.set_cons_succ]
                      refine wpAnyH_take (i := 13) (oi := ⟨some 62, _, _, _, _, _⟩) (v := ?_) (by rfl) (by kernel_rfl) (by kernel_rfl) (by kernel_rfl) (fun _ _ _ h => h) (Or.inl ⟨by rfl, ?hy⟩) (by assumption) ?_
                      case hy => (intro w hSw; (try dsimp only at hSw); go_simp; try with_reducible rfl)
                      try simp only [Act.put, List.setIfInBounds_toArray, List.set_cons_zero, List.set_cons_succ]
                      refine wpAnyH_take (i := 14) (oi := ⟨some 63, _, _, _, _, _⟩) (v := ?_) (by rfl) (by kernel_rfl) (by kernel_rfl) (by kernel_rfl) (fun _ _ _ h => h) (Or.inl ⟨by rfl, ?hy⟩) (by assumption) ?_
                      case hy => (intro w hSw; (try dsimp only at hSw); go_simp; try with_reducible rfl)
                      try simp only [Act.put, List.setIfInBounds_toArray, List.set_cons_zero, List.set_cons_succ]
                      refine wpAnyH_take (i := 15) (oi := ⟨some 64, _, _, _, _, _⟩) (v := ?_) (by rfl) (by kernel_rfl) (by kernel_rfl) (by kernel_rfl) (fun _ _ _ h => h) (Or.inl ⟨by rfl, ?hy⟩) (by assumption) ?_
                      case hy => (intro w hSw; (try dsimp only at hSw); go_simp; try with_reducible rfl)
                      try simp only [Act.put, List.setIfInBounds_toArray, List.set_cons_zero, List.set_cons_succ]
                      refine wpAnyH_take (i := 16) (oi := ⟨some 65, _, _, _, _, _⟩) (v := ?_) (by rfl) (by kernel_rfl) (by kernel_rfl) (by kernel_rfl) (fun _ _ _ h => h) (Or.inl ⟨by rfl, ?hy⟩) (by assumption) ?_
                      case hy => (intro w hSw; (try dsimp only at hSw); go_simp; try with_reducible rfl)
                      try simp only [Act.put, List.setIfInBounds_toArray, List.set_cons_zero, List.set_cons_succ]
                      refine wpAnyH_ready (rs := [17]) (by kernel_rfl) (by simp) ?_
                      refine AllReadyH.cons (o := ⟨some 66, _, _, _, _, _⟩) (by rfl) (fun K hK => ?_) ?_
                      · (go_simp; (go_at_call 25; ((with_reducible refine (F66.out w10 (hL.keep (bt B4 hS10.2.2)) hR10).mono ?_); rintro e w11 ⟨rfl, _, hg11⟩; have hS11 := wS (hS10.2.1.grown hg11 hne) (below_g hS10.2.2 hg11 hwg))); go_wp2_with fail)
                        refine hK.out _ _ ?_ (fun hHeld => ?_)
                        · (first | assumption | exact hS0 | exact wS (Blk.alloc (And.left (And.right (by assumption))) _) (ba (And.right (And.right (by assumption))) _))
                        clear hK K
                        try simp only [Act.put, List.setIfInBounds_toArray, List.set_cons_zero, List.set_cons_succ]
                        refine wpAnyH_take (i := 18) (oi := ⟨some 67, _, _, _, _, _⟩) (v := ?_) (by rfl) (by kernel_rfl) (by kernel_rfl) (by kernel_rfl) (fun _ _ _ h => h) (Or.inl ⟨by rfl, ?hy⟩) (by assumption) ?_
                        case hy => (intro w hSw; (try dsimp only at hSw); go_simp; try with_reducible rfl)
                        try simp only [Act.put, List.setIfInBounds_toArray, List.set_cons_zero, List.set_cons_succ]
                        refine wpAnyH_take (i := 19) (oi := ⟨some 68, _, _, _, _, _⟩) (v := ?_) (by rfl) (by kernel_rfl) (by kernel_rfl) (by kernel_rfl) (fun _ _ _ h => h) (Or.inl ⟨by rfl, ?hy⟩) (by assumption) ?_
                        case hy => (intro w hSw; (try dsimp only at hSw); go_simp; try with_reducible rfl)
                        try simp only [Act.put, List.setIfInBounds_toArray, List.set_cons_zero, List.set_cons_succ]
                        refine wpAnyH_done (by kernel_rfl) ?_ _
                        refine NoPanic.normal ?_
                        go_wp2_with fail
                        go_roundw
                        case rel => exact ⟨k + 1, by omega, by go_num, (And.right (And.right hHeld))⟩
                        case measure => simp [intOf]; omega
                      exact AllReadyH.nil
                    exact AllReadyH.nil
                  exact AllReadyH.nil
                exact AllReadyH.nil
              exact AllReadyH.nil
            exact AllReadyH.nil
          exact AllReadyH.nil
        · have hq : ¬ (k : Int) < (n : Int) := by omega
          have BW := bt B4 hB
          have C0 : Below w3.heap.size w3 wr := bt (bt (Below.refl w3.heap.size w3).drew hb4) hB
          have hlit : OwnB wr.heap.size (wr.alloc (.cells #[] 5)) (some ⟨wr.heap.size, 0, none⟩) 0 0 [] := OwnB.lit wr #[] [] rfl rfl (Nat.le_refl _) (Nat.zero_le _)
          have hrA : RdB w3.heap.size (wr.alloc (.cells #[] 5)) A3 (wsB l) := (hr3.keep C0 (Nat.le_refl _)).keep (b0 wr _) C0.size
          go_wp2_with first
            | (at_builtin; refine wpList_apB (base := wr.heap.size) (n := 0) (m := n3) (l := []) (l2 := wsB l) (by rfl) _ _ (by rfl) Tryd.underlying22 Tryd.underlying22 hi0 hz0 hz1 hz2 (by rfl) (by rfl) hlit hrA hn3 n3 (Nat.zero_add n3) (by omega) (by simp) ?_; intro A21 c21 w21 hO21 hb21 hg21; rw [List.nil_append] at hO21; have B21 := (BW.alloc BW.size (.cells #[] 5)).trans (hb21.mono BW.size); have C21 := (C0.alloc C0.size (.cells #[] 5)).trans (hb21.mono C0.size); have z21 := hb21.size)
            | (at_builtin; refine wpList_apB (base := wr.heap.size) (n := n3) (m := m) (l := wsB l) (l2 := bh) (by rfl) _ _ (by rfl) Tryd.underlying22 Tryd.underlying22 hi0 hz0 hz1 hz2 (by rfl) (by rfl) hO21 (hbr.keep B21 (Nat.le_refl _)) HBN.out (n3 + m) rfl (by omega) (Nat.le_trans (by simp) z21) ?_; intro A22 c22 w22 hO22 hb22 hg22; have B22 := B21.trans (hb22.mono BW.size); have C22 := C21.trans (hb22.mono C0.size))
          refine (HC.out.open_ A22 (n3 + m) c22 _ w22 (hL.keep B22) hO22.len (by omega) hO22.rd).mono ?_
          rintro e w23 ⟨⟨g, rfl, hR23, hg⟩, hb23⟩
          have B23 := bt B22 hb23
          have C23 := bt C22 hb23
          have hwg := Nat.le_trans B22.size hg
          have hcg := Nat.le_trans C22.size hg
          clear hlit hrA hO21 hO22 hb21 hg21 hb22 hg22 z21
          have hk := wrsOf_put (l := l) (most := n) bh (by rw [HN.out]; omega) (by rw [HN.out]; exact Nat.le_refl _) HF.out
          have h24 := HC.out.rWrites g (some (wsB l ++ bh)) n w23 (hL.keep B23) hR23 (by omega)
          rw [hk] at h24
          have H24 := Lib.hid h24
          have hlt23 := HC.out.lt _ _ _ hR23
          clear hk h24
          go_wp2_with fail
          refine H24.out.mono ?_
          rintro e w24 ⟨⟨A24, n24, c24, rfl, hn24, hr24, hf24⟩, hR24, hg24⟩
          have B24 := below_g B23 hg24 hwg
          have C24 := below_g C23 hg24 hcg
          clear H24
          go_wp2_with fail
          refine (HC.out.rEnd g (some bh) w24 (hL.keep B24) hR24).mono ?_
          rintro e w25 ⟨rfl, _, hg25⟩
          have B25 := below_g B24 hg25 hwg
          have C25 := below_g C24 hg25 hcg
          have hr25 := RdW.grown hr24 hg25 (Nat.le_refl _) (fun a ha _ e => by
            injection e with e
            have := hf24 a ha
            omega)
          have hz25 := hg25.size
          clear hR24 hg24 hr24
          go_wp2_with fail
          refine (HC.out.open_ A3 n3 c3 _ w25 (hL.keep B25) hn3 (by omega) ((hr3.keep C25 (Nat.le_refl _)).more C25.size)).mono ?_
          rintro e w26 ⟨⟨g2, rfl, hR26, hg2⟩, hb26⟩
          have B26 := bt B25 hb26
          have hwg2 := Nat.le_trans B25.size hg2
          have hr26 := RdW.keep hr25 hb26 hz25
          have hk := wrsOf_put (l := l) (most := 100) [] (by rw [HN.out]; omega) (by rw [HN.out]; exact hm) HF.out
          rw [List.append_nil] at hk
          have h27 := HC.out.rWrites g2 (some (wsB l)) 100 w26 (hL.keep B26) hR26 (by omega)
          rw [hk] at h27
          have H27 := Lib.hid h27
          have hz26 := hb26.size
          clear hk h27 hr25
          go_wp2_with fail
          refine H27.out.mono ?_
          rintro e w27 ⟨⟨A27, n27, c27, rfl, hn27, hr27, hf27⟩, hR27, hg27⟩
          have B27 := below_g B26 hg27 hwg2
          have hr28 := RdW.grown hr26 hg27 (by omega) (fun a ha hlt e => by
            injection e with e
            omega)
          have hz27 := hg27.size
          obtain ⟨q, t1, t2⟩ := end_eq HBN.out
          have HT1 := Lib.hid t1
          clear H27 hr26
          have F1 := Lib.hid (wrSame_is A24 A n24 c24 n c l w27 hn24 hr28 (by omega) (by rw [← hn24, HN.out]; omega) HN.out (hr.keep B27 (Nat.le_refl _)) B27.size)
          go_wp2_with fail
          refine F1.out.mono ?_
          rintro e w28 ⟨rfl, hD28⟩
          have B28 := bt B27 (hD28.below _)
          have F2 := Lib.hid (wrSame_is A27 A n27 c27 n c l w28 hn27 (hr27.keep (hD28.below _) (Nat.le_refl _)) (by rw [hD28.size]; exact Nat.le_refl _) (by rw [← hn27, HN.out]; omega) HN.out (hr.keep B28 (Nat.le_refl _)) B28.size)
          clear F1
          go_wp2_with fail
          refine F2.out.mono ?_
          rintro e w29 ⟨rfl, hD29⟩
          have B29 := bt B28 (hD29.below _)
          have hR29 := rdr_below HC.out (rdr_below HC.out hR27 (hD28.below _)) (hD29.below _)
          clear F2
          go_wp2_with fail
          refine (HC.out.rEnd g2 (some []) w29 (hL.keep B29) hR29).mono ?_
          rintro e w30 ⟨rfl, _, hg30⟩
          have B30 := below_g B29 hg30 hwg2
          rw [show endOf (some []) = 0 from rfl]
          go_wp2_with fail
          go_ret
          exact ⟨rfl, B30⟩
    exact AllReadyH.nil
  exact AllReadyH.nil

theorem lawPackWrites_any {S : Addr} {Rdr : World → Nat → Rest → Prop} (hC : PackC2 S Rdr) (A A2 : Option Addr) (n c m d : Nat) (l : List Wr) (bh : List UInt8) (w : World) (hL : LaidP S w) (hn : l.length = n) (hr : RdW w.heap.size w A l) (hm : n ≤ maxLen) (hf : ∀ x, x ∈ l → x.fits)
    (hbn : bh.length = m) (hbr : RdB w.heap.size w A2 bh) :
    Calls Tryd.prog 4 #[.slice A n c, .slice A2 m d] w fun e w' => e = .returned (.bool true) ∧ Below w.heap.size w w' := by
  cases hg : goodAll l with
  | false => exact lawPackWrites_bad hC A A2 n c m d l w hL hn hr hm hf hg
  | true =>
    by_cases h1 : n ≤ 100
    · by_cases h2 : m ≤ 2000
      · exact lawPackWrites_good hC A A2 n c m d l bh w hL hn hr h1 hf hg hbn hbr h2
      · exact lawPackWrites_long hC A A2 n c m d l w hL hn hr hm hf hg h1 (by omega)
    · exact lawPackWrites_many hC A A2 n c m d l w hL hn hr hm hf hg (by omega)
end Go.Proofs.YtahmjiomkaibgaaDoor
