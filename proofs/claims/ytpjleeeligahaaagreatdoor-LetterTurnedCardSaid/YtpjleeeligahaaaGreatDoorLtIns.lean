/-
  WHAT IS PROVED: letter.inside answers a good letter's bytes (insB). Conditions: those typed in each theorem.
-/
import Derived.Test.YtpjleeeligahaaaGreatDoorLtGood
import Derived.Test.YtpjleeeligahaaaGreatDoorRLasts2
import Derived.Test.YtpjleeeligahaaaGreatDoorGQ13
import Derived.Test.YtpjleeeligahaaaGreatDoorGQ6
namespace Go.Proofs.YtpjleeeligahaaaGreatDoor
open Go.RowKit

/-- Bytes that a call answered, as a value. -/
def SlB (w : World) (l : List UInt8) (v : Value) (w' : World) : Prop := ∃ (A : Option Addr) (n c : Nat), v = .slice A n c ∧ l.length = n ∧ RdB w'.heap.size w' A l ∧ n ≤ c ∧ Below w.heap.size w w'
theorem slb_r {w : World} {l : List UInt8} {e : Ending} {w' : World} (h : PutR w l e w') : ∃ v, e = .returned v ∧ SlB w l v w' := by
  obtain ⟨⟨A, n, c, he, h1, h2, h3⟩, h4⟩ := h
  exact ⟨_, he, A, n, c, rfl, h1, h2, h3, h4⟩
theorem slb_x {w : World} {l : List UInt8} {e : Ending} {w' : World} (h : PutX w.heap.size w l e w') : ∃ v, e = .returned v ∧ SlB w l v w' := by
  obtain ⟨⟨A, n, c, he, h1⟩, h4⟩ := h
  exact ⟨_, he, A, n, c, rfl, h1.len, h1.rd, h1.cap.1, h4⟩
theorem rdX1_is {B : Nat} {W : World} {A : Option Addr} {l : List ByteArray} (h : RdS B W A l) : RdX 1 B W A (l.map strC) := by
  intro k cs hk
  rw [List.getElem?_map] at hk
  cases hl : l[k]? with
  | none => rw [hl] at hk; cases hk
  | some x =>
    rw [hl] at hk
    injection hk with hk
    subst hk
    obtain ⟨ad, hA, hlt, hc⟩ := h k x hl
    refine ⟨ad, hA, hlt, fun j v hv => ?_⟩
    match j, hv with
    | 0, hv => cases hv; simpa using hc
    | (n + 1), hv => simp at hv
/-- The bytes of its numbers, the first k of them. -/
def nmB (x : Lt) (k : Nat) : List UInt8 := ((numL x).take k).flatMap fun q => numB q.1.toNat
def hd1 (x : Lt) : List UInt8 := nmB x 11 ++ flagB x.sn
def hd2 (x : Lt) : List UInt8 := hd1 x ++ (numB x.re.length ++ x.re.flatMap fun s : ByteArray => textB s.data.toList)
def hd3 (x : Lt) : List UInt8 := hd2 x ++ wsB x.ws
def hd4 (x : Lt) : List UInt8 := hd3 x ++ (numB x.ls.length ++ x.ls.flatMap lnB)
def hd5 (x : Lt) : List UInt8 := hd4 x ++ (numB x.cs.length ++ x.cs.flatMap clB)
/-- The bytes within its frame. -/
def insB (x : Lt) : List UInt8 := hd5 x ++ laB x.la
theorem hd_le (x : Lt) : (nmB x 11).length ≤ (hd1 x).length ∧ (hd1 x).length ≤ (hd2 x).length ∧ (hd2 x).length ≤ (hd3 x).length ∧ (hd3 x).length ≤ (hd4 x).length ∧ (hd4 x).length ≤ (hd5 x).length ∧ (hd5 x).length ≤ (insB x).length := by
  refine ⟨?_, ?_, ?_, ?_, ?_, ?_⟩
  · unfold hd1; rw [List.length_append]; omega
  · unfold hd2; rw [List.length_append]; omega
  · unfold hd3; rw [List.length_append]; omega
  · unfold hd4; rw [List.length_append]; omega
  · unfold hd5; rw [List.length_append]; omega
  · unfold insB; rw [List.length_append]; omega
/-- A letter whose bytes a frame has room for. -/
structure LtS (x : Lt) : Prop where
  ins : (insB x).length ≤ 100000
  nl : x.ls.length ≤ 100000
  nc : x.cs.length ≤ 100000
theorem nmB_next {x : Lt} {k : Nat} {q : Int × Int × Int} (hq : (numL x)[k]? = some q) : nmB x (k + 1) = nmB x k ++ numB q.1.toNat := by
  unfold nmB
  rw [List.take_add_one, hq]
  simp
theorem nmB_small {x : Lt} (h : outsB x = false) : ∀ k, k ≤ 11 → (nmB x k).length ≤ k * 9 := by
  intro k
  induction k with
  | zero => intro _; simp [nmB]
  | succ k ih =>
    intro hk
    obtain ⟨q, hq⟩ : ∃ q, (numL x)[k]? = some q := ⟨_, List.getElem?_eq_getElem (show k < (numL x).length by show k < 11; omega)⟩
    rw [nmB_next hq, List.length_append]
    have h1 := ih (by omega)
    have h2 : outN q.1 q.2.1 q.2.2 = false := by
      unfold outsB at h
      rw [List.any_eq_false] at h
      simpa using h q (List.mem_of_getElem? hq)
    have h3 := outN_iff.1 h2
    have h4 : q.2.2 ≤ 1099511627776 := by
      have := List.mem_of_getElem? hq
      unfold numL at this
      simp only [List.mem_cons, List.not_mem_nil, or_false] at this
      rcases this with rfl | rfl | rfl | rfl | rfl | rfl | rfl | rfl | rfl | rfl | rfl <;> dsimp only <;> omega
    have h5 := numB_small (n := q.1.toNat) (by omega)
    omega
/-- The k-th number: where it points, what stands there. -/
theorem nm_at {x : Lt} {b k : Nat} {q : Nm} (hq : (nmL b)[k]? = some q) : q.b = b ∧ (numL x)[k]? = some (nmV x q.j, q.lo, q.hi) := by
  have hk : k < 11 := (List.getElem?_eq_some_iff.1 hq).1
  match k, hk with
  | 0, _ => cases hq; exact ⟨rfl, rfl⟩
  | 1, _ => cases hq; exact ⟨rfl, rfl⟩
  | 2, _ => cases hq; exact ⟨rfl, rfl⟩
  | 3, _ => cases hq; exact ⟨rfl, rfl⟩
  | 4, _ => cases hq; exact ⟨rfl, rfl⟩
  | 5, _ => cases hq; exact ⟨rfl, rfl⟩
  | 6, _ => cases hq; exact ⟨rfl, rfl⟩
  | 7, _ => cases hq; exact ⟨rfl, rfl⟩
  | 8, _ => cases hq; exact ⟨rfl, rfl⟩
  | 9, _ => cases hq; exact ⟨rfl, rfl⟩
  | 10, _ => cases hq; exact ⟨rfl, rfl⟩
theorem good_outs {x : Lt} (h : goodLt x = true) : outsB x = false ∧ listsB x = true := by
  rw [← code_is] at h
  unfold codeB at h
  simp only [Bool.and_eq_true, Bool.not_eq_true'] at h
  exact ⟨h.1.1.2, h.1.2⟩
theorem good_lists {x : Lt} (h : goodLt x = true) : goodR (dL x.re) = true ∧ x.ws.length ≤ 512 ∧ (∀ y, y ∈ x.ws → y.good = true) ∧ (∀ y, y ∈ x.ls → y.good = true) ∧ (∀ y, y ∈ x.cs → y.good = true) ∧ goodLa x.la = true := by
  have h1 := (good_outs h).2
  unfold listsB at h1
  simp only [Bool.and_eq_true, decide_eq_true_eq] at h1
  obtain ⟨⟨⟨⟨h1, h2, h3⟩, h4⟩, h5⟩, h6⟩ := h1
  exact ⟨h1, h2, fun y hy => List.all_eq_true.1 h3 y hy, fun y hy => goodLs_mem h4 hy, fun y hy => goodLs_mem h5 hy, h6⟩
theorem la_in {x : Lt} (h : goodLa x.la = true) : ∀ y, y ∈ x.la → 0 ≤ y ∧ y ≤ 1000000 := fun y hy => by
  unfold goodLa at h
  rw [Bool.and_eq_true, List.all_eq_true] at h
  have := of_decide_eq_true (h.1 y hy)
  omega
theorem enters_pNum : ∀ args w, (callFunc 62 args).run Tryz.prog w = .ok (.enter 62 args) w := enters_of Tryz.func62 (by kernel_rfl) rfl
theorem enters_pFlag : ∀ args w, (callFunc 99 args).run Tryz.prog w = .ok (.enter 99 args) w := enters_of Tryz.func99 (by kernel_rfl) rfl
theorem enters_pRe : ∀ args w, (callFunc 23 args).run Tryz.prog w = .ok (.enter 23 args) w := enters_of Tryz.func23 (by kernel_rfl) rfl
theorem enters_pWs : ∀ args w, (callFunc 100 args).run Tryz.prog w = .ok (.enter 100 args) w := enters_of Tryz.func100 (by kernel_rfl) rfl
theorem enters_pLs : ∀ args w, (callFunc 9 args).run Tryz.prog w = .ok (.enter 9 args) w := enters_of Tryz.func9 (by kernel_rfl) rfl
theorem enters_pCs : ∀ args w, (callFunc 24 args).run Tryz.prog w = .ok (.enter 24 args) w := enters_of Tryz.func24 (by kernel_rfl) rfl
theorem enters_pLa : ∀ args w, (callFunc 101 args).run Tryz.prog w = .ok (.enter 101 args) w := enters_of Tryz.func101 (by kernel_rfl) rfl
theorem enters_inside : ∀ args w, (callFunc 48 args).run Tryz.prog w = .ok (.enter 48 args) w := enters_of Tryz.func48 (by kernel_rfl) rfl

set_option maxRecDepth 100000 in
set_option maxHeartbeats 8000000 in
theorem inside_any {B : Nat} (x : Lt) (h : Hn) (w : World) (hr : LtR B w x h) (hrB : B ≤ w.heap.size) (hf : LtF x) (hg : goodLt x = true) (hs : LtS x) : Calls Tryz.prog 48 #[.agg (ltI x h)] w fun e w' => ∃ v, e = .returned v ∧ SlB w (insB x) v w' := by
  have HS := Lib.hid (hd_le x)
  have HI := Lib.hid hs
  obtain ⟨g1, g2, g3, g4, g5, g6⟩ := good_lists hg
  have G1 := Lib.hid g1
  have G2 := Lib.hid g2
  have G3 := Lib.hid g3
  have G4 := Lib.hid g4
  have G5 := Lib.hid g5
  have G6 := Lib.hid g6
  have GO := Lib.hid (good_outs hg).1
  clear hg g1 g2 g3 g4 g5 g6 hs
  go_enter Tryz.func48, Tryz.ntmps48
  go_upto_region 1 with fail
  have hX := blk_new w (ltI x h) 58
  have hB := b0 w (.cells (ltI x h) 58)
  have hR := hr.keep hB hrB
  generalize w.alloc (.cells (ltI x h) 58) = W at hX hB hR ⊢
  generalize hb : w.heap.size = b at hX hB ⊢
  have HX := Lib.hid hX
  have HR := Lib.hid hR
  have HF := Lib.hid hf
  have HBB := Lib.hid (Nat.le_trans hrB (Nat.le_of_eq hb))
  clear hX hR hr hf
  go_upto_region 2 with fail
  refine wp_region_lit ?_
  refine fl_start ?_
  generalize ha : Act.mk _ _ = a0
  have hn : a0.tmps.size = 44 := by rw [← ha]; kernel_rfl
  have h1 : (fr a0 []).eval (.tmp 1) = .pointer (some ⟨b, 0, none⟩) := by rw [← ha]; kernel_rfl
  refine fl_know hn rfl h1 ?_
  clear h1
  refine g_c1x enters_numbers hn (numbers_x b W) ?_
  rintro v w1 ⟨c, rfl, -, ⟨t, hC⟩, hb1⟩
  repeat first | refine g_mv hn ?_ | refine g_as hn ?_ | refine g_fdL hn ?_ | refine g_ldL hn HX.out ?_ | refine g_ldA hn HX.out ?_ | refine g_fd hn ?_ | refine g_ld hn ?_ | refine g_nc hn ?_ | refine g_nt hn ?_ | refine g_an hn ?_ | refine g_or hn ?_ | refine g_ln hn ?_ | refine g_ex hn ?_ | refine g_neq2 hn ?_ | refine g_neq hn ?_ | refine g_eql2 hn ?_ | refine g_eql hn ?_ | refine g_leq2 hn ?_ | refine g_leq hn ?_ | refine g_lss2 hn ?_ | refine g_lss hn ?_ | refine g_gtr2 hn ?_ | refine g_gtr hn ?_ | refine g_geq2 hn ?_ | refine g_geq hn ?_ | refine g_b0 hn ?_ | refine g_bn hn ?_ | refine g_bc hn ?_ | refine g_cv hn ?_ | refine g_ac hn ?_ | refine g_mc hn ?_
  refine fl_end ?_
  clear hn
  subst ha
  dsimp only [fr, cnd, Act.put, cond_true]
  simp only [List.setIfInBounds_toArray, List.set_cons_zero, List.set_cons_succ]
  have hB1 := bnx hB HX.out hb1
  have HX1 := Lib.hid (HX.out.keep hb1)
  have HR1 := Lib.hid (HR.out.keep hb1 (Nat.le_trans HBB.out (Nat.le_of_lt HX.out.lt)))
  have HC := Lib.hid hC
  clear hb1 hB HX HR hC W
  go_wp2_with fail
  go_loopw [3, 5, 8] (fun v _ i wr => ∃ (k : Nat) (A : Option Addr) (n c : Nat), k ≤ 11 ∧ i = .int .i64 k ∧ v = .slice A n c ∧ (nmB x k).length = n ∧ RdB wr.heap.size wr A (nmB x k) ∧ n ≤ c ∧ Below w1.heap.size w1 wr) (fun _ _ i _ => 11 - (intOf i).toNat)
  case atStart => exact ⟨0, none, 0, 0, Nat.zero_le _, rfl, rfl, rfl, RdB.nil _ _ _, Nat.le_refl _, Below.refl _ _⟩
  case round =>
    obtain ⟨k, A, n, c2, hk, rfl, rfl, hl, hrd, hc, hW⟩ := hrel
    have hX2 := HX1.out.keep hW
    have hX3 := hX2
    have hC2 := HC.out.keep hW
    by_cases hlt : k < 11
    · obtain ⟨q, hq⟩ : ∃ q, (nmL b)[k]? = some q := ⟨_, List.getElem?_eq_getElem (show k < (nmL b).length from hlt)⟩
      obtain ⟨ad, had, _, hcl⟩ := nm_rd hC2 k _ (mapx_get hq)
      have qv := nm_cell hX2 q (List.mem_of_getElem? hq)
      obtain ⟨hqb, hqn⟩ := nm_at (x := x) hq
      have HN := Lib.hid (nmB_next hqn)
      have HM := Lib.hid (nmB_small GO.out k (by omega))
      have hv : 0 ≤ nmV x q.j ∧ nmV x q.j ≤ 1099511627776 := by
        have h1 : outN (nmV x q.j) q.lo q.hi = false := by
          have := GO.out
          unfold outsB at this
          rw [List.any_eq_false] at this
          simpa using this _ (List.mem_of_getElem? hqn)
        have h2 := outN_iff.1 h1
        have h3 : 0 ≤ q.lo ∧ q.hi ≤ 1099511627776 := by
          have := List.mem_of_getElem? hq
          unfold nmL at this
          simp only [List.mem_cons, List.not_mem_nil, or_false] at this
          rcases this with rfl | rfl | rfl | rfl | rfl | rfl | rfl | rfl | rfl | rfl | rfl <;> dsimp only <;> omega
        omega
      generalize nmV x q.j = z at qv HN hv
      obtain ⟨m, rfl⟩ : ∃ m : Nat, z = (m : Int) := ⟨z.toNat, by omega⟩
      have i1 : (0 : Int) ≤ (k : Int) := by omega
      have i2 : (k : Int) < 11 := by omega
      have cv : (convert 3 86 (.int .i64 (m : Int))).run Tryz.prog = fun W => .ok (.int .u64 (m : Int)) W := by
        funext W
        have hw : IntKind.u64.wrap (m : Int) = (m : Int) := by unfold IntKind.wrap; simp [IntKind.bits, IntKind.signed]; omega
        go_simp
      injection had with had
      subst had
      have hcl2 : ∀ j v, q.cells[j]? = some v → wr.cell? ⟨c, k * 3 + j, none⟩ = some v := fun j v hv => by
        have := hcl j v hv
        rwa [Addr.add_mid, Nat.zero_add] at this
      have q0 : wr.cell? ⟨c, k * 3, none⟩ = some (.pointer (some ⟨q.b, q.j, none⟩)) := hcl2 0 _ rfl
      have q1 : wr.cell? ⟨c, k * 3 + 1, none⟩ = some (.int .i64 q.lo) := hcl2 1 _ rfl
      have q2 : wr.cell? ⟨c, k * 3 + 2, none⟩ = some (.int .i64 q.hi) := hcl2 2 _ rfl
      have HK := Lib.hid (fun W (hb : Below wr.heap.size wr W) => packNumber_any A n c2 (nmB x k) m W hl (by have := HM.out; omega) ((hrd.keep hb (Nat.le_refl _)).more hb.size) hc (by omega))
      clear hcl hcl2 hX2 hC2 hq hqn
      go_upto_region 5 with fail
      have hY := blk_new wr #[.pointer (some ⟨b, q.j, none⟩), .int .i64 q.lo, .int .i64 q.hi] 145
      have hbW := b0 wr (.cells #[.pointer (some ⟨b, q.j, none⟩), .int .i64 q.lo, .int .i64 q.hi] 145)
      rw [hqb] at qv
      have qw := ((bcell hbW).1 b q.j (hX3.lt)).trans qv
      clear q0 q1 q2 qv
      generalize wr.alloc (.cells #[.pointer (some ⟨b, q.j, none⟩), .int .i64 q.lo, .int .i64 q.hi] 145) = W2 at hY hbW qw ⊢
      generalize wr.heap.size = g at hY ⊢
      have nf : (Instr.fieldAt 145 (.pointer (some ⟨g, 0, none⟩)) 0).run Tryz.prog W2 = .ok (.pointer (some ⟨g, 0, none⟩)) W2 := by kernel_rfl
      have nl : (Instr.loadAt 143 (.pointer (some ⟨g, 0, none⟩))).run Tryz.prog W2 = .ok (.pointer (some ⟨b, q.j, none⟩)) W2 := by
        have y0 : W2.cell? ⟨g, 0, none⟩ = some (.pointer (some ⟨b, q.j, none⟩)) := hY.cell 0
        clear hY
        go_simp
      have nv := load_int qw
      have cw : (convert 3 86 (.int .i64 (m : Int))).run Tryz.prog W2 = .ok (.int .u64 (m : Int)) W2 := by rw [cv]
      clear cv qw
      refine wp_region_lit ?_
      refine fl_start ?_
      generalize ha : Act.mk _ _ = a0
      have hn : a0.tmps.size = 44 := by rw [← ha]; kernel_rfl
      have h3 : (fr a0 []).eval (.tmp 3) = .slice A n c2 := by rw [← ha]; kernel_rfl
      refine fl_know hn rfl h3 ?_
      clear h3
      have h5 : (fr a0 [(3, true, .slice A n c2)]).eval (.tmp 5) = .pointer (some ⟨g, 0, none⟩) := by rw [← ha]; kernel_rfl
      refine fl_know hn rfl h5 ?_
      clear h5
      repeat first | refine g_mv hn ?_ | refine g_as hn ?_ | refine g_fd hn ?_ | refine g_ld hn ?_ | refine g_nc hn ?_ | refine g_nt hn ?_ | refine g_an hn ?_ | refine g_or hn ?_ | refine g_ln hn ?_ | refine g_ex hn ?_ | refine g_neq2 hn ?_ | refine g_neq hn ?_ | refine g_eql2 hn ?_ | refine g_eql hn ?_ | refine g_leq2 hn ?_ | refine g_leq hn ?_ | refine g_lss2 hn ?_ | refine g_lss hn ?_ | refine g_gtr2 hn ?_ | refine g_gtr hn ?_ | refine g_geq2 hn ?_ | refine g_geq hn ?_ | refine g_b0 hn ?_ | refine g_bn hn ?_ | refine g_bc hn ?_ | refine g_cv hn ?_ | refine g_ac hn ?_ | refine g_mc hn ?_
      refine g_c2x enters_pNum hn ((HK.out W2 hbW).mono fun _ _ h => slb_r h) ?_
      rintro v w5 ⟨A5, n5, c5, rfl, hl5, hr5, hc5, hb5⟩
      repeat first | refine g_mv hn ?_ | refine g_as hn ?_ | refine g_fd hn ?_ | refine g_ld hn ?_ | refine g_nc hn ?_ | refine g_nt hn ?_ | refine g_an hn ?_ | refine g_or hn ?_ | refine g_ln hn ?_ | refine g_ex hn ?_ | refine g_neq2 hn ?_ | refine g_neq hn ?_ | refine g_eql2 hn ?_ | refine g_eql hn ?_ | refine g_leq2 hn ?_ | refine g_leq hn ?_ | refine g_lss2 hn ?_ | refine g_lss hn ?_ | refine g_gtr2 hn ?_ | refine g_gtr hn ?_ | refine g_geq2 hn ?_ | refine g_geq hn ?_ | refine g_b0 hn ?_ | refine g_bn hn ?_ | refine g_bc hn ?_ | refine g_cv hn ?_ | refine g_ac hn ?_ | refine g_mc hn ?_
      refine fl_end ?_
      clear hn nf nl nv cw
      subst ha
      dsimp only [fr, cnd, Act.put, cond_true]
      simp only [List.setIfInBounds_toArray, List.set_cons_zero, List.set_cons_succ]
      have HQ := Lib.hid (show (nmB x (k + 1)).length = n5 ∧ RdB w5.heap.size w5 A5 (nmB x (k + 1)) by
        rw [HN.out]
        exact ⟨hl5, hr5⟩)
      clear hl5 hr5
      go_wp2_with fail
      go_roundw
      case rel => exact ⟨k + 1, A5, n5, c5, by omega, by go_num, rfl, HQ.out.1, HQ.out.2, hc5, bt (bt hW hbW) hb5⟩
      case measure => simp [intOf]; omega
    · have e11 : k = 11 := by omega
      subst e11
      have hq : ¬ ((11 : Nat) : Int) < 11 := by omega
      have hB := bnx hB1 HX1.out hW
      have HX := Lib.hid hX2
      have HR := Lib.hid (HR1.out.keep hW (Nat.le_trans HBB.out (Nat.le_of_lt HX1.out.lt)))
      clear hX2 hX3 hC2 hB1 HX1 HR1 HC hW
      go_upto_region 7 with fail
      refine wp_region_lit ?_
      refine fl_start ?_
      generalize ha : Act.mk _ _ = a0
      have hn : a0.tmps.size = 44 := by rw [← ha]; kernel_rfl
      have h1 : (fr a0 []).eval (.tmp 1) = .pointer (some ⟨b, 0, none⟩) := by rw [← ha]; kernel_rfl
      refine fl_know hn rfl h1 ?_
      clear h1
      have h3 : (fr a0 [(1, true, .pointer (some ⟨b, 0, none⟩))]).eval (.tmp 3) = .slice A n c2 := by rw [← ha]; kernel_rfl
      refine fl_know hn rfl h3 ?_
      clear h3
      repeat first | refine g_mv hn ?_ | refine g_as hn ?_ | refine g_fdL hn ?_ | refine g_ldL hn HX.out ?_ | refine g_ldA hn HX.out ?_ | refine g_fd hn ?_ | refine g_ld hn ?_ | refine g_nc hn ?_ | refine g_nt hn ?_ | refine g_an hn ?_ | refine g_or hn ?_ | refine g_ln hn ?_ | refine g_ex hn ?_ | refine g_neq2 hn ?_ | refine g_neq hn ?_ | refine g_eql2 hn ?_ | refine g_eql hn ?_ | refine g_leq2 hn ?_ | refine g_leq hn ?_ | refine g_lss2 hn ?_ | refine g_lss hn ?_ | refine g_gtr2 hn ?_ | refine g_gtr hn ?_ | refine g_geq2 hn ?_ | refine g_geq hn ?_ | refine g_b0 hn ?_ | refine g_bn hn ?_ | refine g_bc hn ?_ | refine g_cv hn ?_ | refine g_ac hn ?_ | refine g_mc hn ?_
      refine g_c2x enters_pFlag hn ((packFlag_any A n c2 _ x.sn _ hl (by have := HS.out; have := HI.out.ins; omega) hrd hc).mono fun _ _ h => slb_r h) ?_
      rintro v w7 ⟨A7, n7, c7, rfl, hl7, hr7, hc7, hb7⟩
      replace hB := bnx hB HX.out hb7
      replace HR := Lib.hid (HR.out.keep hb7 (Nat.le_trans HBB.out (Nat.le_of_lt HX.out.lt)))
      replace HX := Lib.hid (HX.out.keep hb7)
      have hl7' : (hd1 x).length = n7 := hl7
      have hr7' : RdB w7.heap.size w7 A7 (hd1 x) := hr7
      clear hl7 hr7 hl hrd hc
      repeat first | refine g_mv hn ?_ | refine g_as hn ?_ | refine g_fdL hn ?_ | refine g_ldL hn HX.out ?_ | refine g_ldA hn HX.out ?_ | refine g_fd hn ?_ | refine g_ld hn ?_ | refine g_nc hn ?_ | refine g_nt hn ?_ | refine g_an hn ?_ | refine g_or hn ?_ | refine g_ln hn ?_ | refine g_ex hn ?_ | refine g_neq2 hn ?_ | refine g_neq hn ?_ | refine g_eql2 hn ?_ | refine g_eql hn ?_ | refine g_leq2 hn ?_ | refine g_leq hn ?_ | refine g_lss2 hn ?_ | refine g_lss hn ?_ | refine g_gtr2 hn ?_ | refine g_gtr hn ?_ | refine g_geq2 hn ?_ | refine g_geq hn ?_ | refine g_b0 hn ?_ | refine g_bn hn ?_ | refine g_bc hn ?_ | refine g_cv hn ?_ | refine g_ac hn ?_ | refine g_mc hn ?_
      refine fl_end ?_
      clear hn
      subst ha
      dsimp only [fr, cnd, Act.put, cond_true]
      simp only [List.setIfInBounds_toArray, List.set_cons_zero, List.set_cons_succ]
      go_upto_region 8 with fail
      refine wp_region_lit ?_
      refine fl_start ?_
      generalize ha : Act.mk _ _ = a0
      have hn : a0.tmps.size = 44 := by rw [← ha]; kernel_rfl
      have h1 : (fr a0 []).eval (.tmp 1) = .pointer (some ⟨b, 0, none⟩) := by rw [← ha]; kernel_rfl
      refine fl_know hn rfl h1 ?_
      clear h1
      have h3 : (fr a0 [(1, true, .pointer (some ⟨b, 0, none⟩))]).eval (.tmp 3) = .slice A7 n7 c7 := by rw [← ha]; kernel_rfl
      refine fl_know hn rfl h3 ?_
      clear h3
      repeat first | refine g_mv hn ?_ | refine g_as hn ?_ | refine g_fdL hn ?_ | refine g_ldL hn HX.out ?_ | refine g_ldA hn HX.out ?_ | refine g_fd hn ?_ | refine g_ld hn ?_ | refine g_nc hn ?_ | refine g_nt hn ?_ | refine g_an hn ?_ | refine g_or hn ?_ | refine g_ln hn ?_ | refine g_ex hn ?_ | refine g_neq2 hn ?_ | refine g_neq hn ?_ | refine g_eql2 hn ?_ | refine g_eql hn ?_ | refine g_leq2 hn ?_ | refine g_leq hn ?_ | refine g_lss2 hn ?_ | refine g_lss hn ?_ | refine g_gtr2 hn ?_ | refine g_gtr hn ?_ | refine g_geq2 hn ?_ | refine g_geq hn ?_ | refine g_b0 hn ?_ | refine g_bn hn ?_ | refine g_bc hn ?_ | refine g_cv hn ?_ | refine g_ac hn ?_ | refine g_mc hn ?_
      refine g_c2x enters_pRe hn ((putR_any A7 h.A1 n7 c7 h.n1 h.c1 _ x.re _ hl7' (by have := HS.out; have := HI.out.ins; omega) hc7 hr7' HR.out.l1 (by have := goodR_six G1.out; have := HR.out.l1; omega) (rdX1_is (HR.out.r1.more (Nat.le_trans HBB.out (Nat.le_of_lt HX.out.lt)))) (fun y hy => Nat.le_trans (goodR_sizes G1.out y hy) (by omega))).mono fun _ _ h => slb_x h) ?_
      rintro v w8 ⟨A8, n8, c8, rfl, hl8, hr8, hc8, hb8⟩
      replace hB := bnx hB HX.out hb8
      replace HR := Lib.hid (HR.out.keep hb8 (Nat.le_trans HBB.out (Nat.le_of_lt HX.out.lt)))
      replace HX := Lib.hid (HX.out.keep hb8)
      rw [← HR.out.l1] at hl8 hr8
      have hl8' : (hd2 x).length = n8 := hl8
      have hr8' : RdB w8.heap.size w8 A8 (hd2 x) := hr8
      clear hl8 hr8 hl7' hr7' hc7
      repeat first | refine g_mv hn ?_ | refine g_as hn ?_ | refine g_fdL hn ?_ | refine g_ldL hn HX.out ?_ | refine g_ldA hn HX.out ?_ | refine g_fd hn ?_ | refine g_ld hn ?_ | refine g_nc hn ?_ | refine g_nt hn ?_ | refine g_an hn ?_ | refine g_or hn ?_ | refine g_ln hn ?_ | refine g_ex hn ?_ | refine g_neq2 hn ?_ | refine g_neq hn ?_ | refine g_eql2 hn ?_ | refine g_eql hn ?_ | refine g_leq2 hn ?_ | refine g_leq hn ?_ | refine g_lss2 hn ?_ | refine g_lss hn ?_ | refine g_gtr2 hn ?_ | refine g_gtr hn ?_ | refine g_geq2 hn ?_ | refine g_geq hn ?_ | refine g_b0 hn ?_ | refine g_bn hn ?_ | refine g_bc hn ?_ | refine g_cv hn ?_ | refine g_ac hn ?_ | refine g_mc hn ?_
      refine fl_end ?_
      clear hn
      subst ha
      dsimp only [fr, cnd, Act.put, cond_true]
      simp only [List.setIfInBounds_toArray, List.set_cons_zero, List.set_cons_succ]
      go_upto_region 9 with fail
      refine wp_region_lit ?_
      refine fl_start ?_
      generalize ha : Act.mk _ _ = a0
      have hn : a0.tmps.size = 44 := by rw [← ha]; kernel_rfl
      have h1 : (fr a0 []).eval (.tmp 1) = .pointer (some ⟨b, 0, none⟩) := by rw [← ha]; kernel_rfl
      refine fl_know hn rfl h1 ?_
      clear h1
      have h3 : (fr a0 [(1, true, .pointer (some ⟨b, 0, none⟩))]).eval (.tmp 3) = .slice A8 n8 c8 := by rw [← ha]; kernel_rfl
      refine fl_know hn rfl h3 ?_
      clear h3
      repeat first | refine g_mv hn ?_ | refine g_as hn ?_ | refine g_fdL hn ?_ | refine g_ldL hn HX.out ?_ | refine g_ldA hn HX.out ?_ | refine g_fd hn ?_ | refine g_ld hn ?_ | refine g_nc hn ?_ | refine g_nt hn ?_ | refine g_an hn ?_ | refine g_or hn ?_ | refine g_ln hn ?_ | refine g_ex hn ?_ | refine g_neq2 hn ?_ | refine g_neq hn ?_ | refine g_eql2 hn ?_ | refine g_eql hn ?_ | refine g_leq2 hn ?_ | refine g_leq hn ?_ | refine g_lss2 hn ?_ | refine g_lss hn ?_ | refine g_gtr2 hn ?_ | refine g_gtr hn ?_ | refine g_geq2 hn ?_ | refine g_geq hn ?_ | refine g_b0 hn ?_ | refine g_bn hn ?_ | refine g_bc hn ?_ | refine g_cv hn ?_ | refine g_ac hn ?_ | refine g_mc hn ?_
      refine g_c2x enters_pWs hn ((packWrites_any A8 h.A2 n8 c8 h.n2 h.c2 _ x.ws _ hl8' (by have := HS.out; have := HI.out.ins; omega) hr8' hc8 HR.out.l2 (by have := G2.out; have := HR.out.l2; omega) (HR.out.r2.more (Nat.le_trans HBB.out (Nat.le_of_lt HX.out.lt))) (fun y hy => ⟨HF.out.f2 y hy, G3.out y hy⟩)).mono fun _ _ h => slb_r h) ?_
      rintro v w9 ⟨A9, n9, c9, rfl, hl9, hr9, hc9, hb9⟩
      replace hB := bnx hB HX.out hb9
      replace HR := Lib.hid (HR.out.keep hb9 (Nat.le_trans HBB.out (Nat.le_of_lt HX.out.lt)))
      replace HX := Lib.hid (HX.out.keep hb9)
      have hl9' : (hd3 x).length = n9 := hl9
      have hr9' : RdB w9.heap.size w9 A9 (hd3 x) := hr9
      clear hl9 hr9 hl8' hr8' hc8
      repeat first | refine g_mv hn ?_ | refine g_as hn ?_ | refine g_fdL hn ?_ | refine g_ldL hn HX.out ?_ | refine g_ldA hn HX.out ?_ | refine g_fd hn ?_ | refine g_ld hn ?_ | refine g_nc hn ?_ | refine g_nt hn ?_ | refine g_an hn ?_ | refine g_or hn ?_ | refine g_ln hn ?_ | refine g_ex hn ?_ | refine g_neq2 hn ?_ | refine g_neq hn ?_ | refine g_eql2 hn ?_ | refine g_eql hn ?_ | refine g_leq2 hn ?_ | refine g_leq hn ?_ | refine g_lss2 hn ?_ | refine g_lss hn ?_ | refine g_gtr2 hn ?_ | refine g_gtr hn ?_ | refine g_geq2 hn ?_ | refine g_geq hn ?_ | refine g_b0 hn ?_ | refine g_bn hn ?_ | refine g_bc hn ?_ | refine g_cv hn ?_ | refine g_ac hn ?_ | refine g_mc hn ?_
      refine fl_end ?_
      clear hn
      subst ha
      dsimp only [fr, cnd, Act.put, cond_true]
      simp only [List.setIfInBounds_toArray, List.set_cons_zero, List.set_cons_succ]
      go_upto_region 10 with fail
      refine wp_region_lit ?_
      refine fl_start ?_
      generalize ha : Act.mk _ _ = a0
      have hn : a0.tmps.size = 44 := by rw [← ha]; kernel_rfl
      have h1 : (fr a0 []).eval (.tmp 1) = .pointer (some ⟨b, 0, none⟩) := by rw [← ha]; kernel_rfl
      refine fl_know hn rfl h1 ?_
      clear h1
      have h3 : (fr a0 [(1, true, .pointer (some ⟨b, 0, none⟩))]).eval (.tmp 3) = .slice A9 n9 c9 := by rw [← ha]; kernel_rfl
      refine fl_know hn rfl h3 ?_
      clear h3
      repeat first | refine g_mv hn ?_ | refine g_as hn ?_ | refine g_fdL hn ?_ | refine g_ldL hn HX.out ?_ | refine g_ldA hn HX.out ?_ | refine g_fd hn ?_ | refine g_ld hn ?_ | refine g_nc hn ?_ | refine g_nt hn ?_ | refine g_an hn ?_ | refine g_or hn ?_ | refine g_ln hn ?_ | refine g_ex hn ?_ | refine g_neq2 hn ?_ | refine g_neq hn ?_ | refine g_eql2 hn ?_ | refine g_eql hn ?_ | refine g_leq2 hn ?_ | refine g_leq hn ?_ | refine g_lss2 hn ?_ | refine g_lss hn ?_ | refine g_gtr2 hn ?_ | refine g_gtr hn ?_ | refine g_geq2 hn ?_ | refine g_geq hn ?_ | refine g_b0 hn ?_ | refine g_bn hn ?_ | refine g_bc hn ?_ | refine g_cv hn ?_ | refine g_ac hn ?_ | refine g_mc hn ?_
      refine g_c2x enters_pLs hn ((putL_any A9 h.A3 n9 c9 h.n3 h.c3 _ x.ls _ hl9' (by have := HS.out; have := HI.out.ins; omega) hc9 hr9' HR.out.l3 (by have := HI.out.nl; have := HR.out.l3; omega) (HR.out.r3.more (Nat.le_trans HBB.out (Nat.le_of_lt HX.out.lt))) (fun y hy => ⟨G4.out y hy, HF.out.f3 y hy⟩)).mono fun _ _ h => slb_x h) ?_
      rintro v w10 ⟨A10, n10, c10, rfl, hl10, hr10, hc10, hb10⟩
      replace hB := bnx hB HX.out hb10
      replace HR := Lib.hid (HR.out.keep hb10 (Nat.le_trans HBB.out (Nat.le_of_lt HX.out.lt)))
      replace HX := Lib.hid (HX.out.keep hb10)
      rw [← HR.out.l3] at hl10 hr10
      have hl10' : (hd4 x).length = n10 := hl10
      have hr10' : RdB w10.heap.size w10 A10 (hd4 x) := hr10
      clear hl10 hr10 hl9' hr9' hc9
      repeat first | refine g_mv hn ?_ | refine g_as hn ?_ | refine g_fdL hn ?_ | refine g_ldL hn HX.out ?_ | refine g_ldA hn HX.out ?_ | refine g_fd hn ?_ | refine g_ld hn ?_ | refine g_nc hn ?_ | refine g_nt hn ?_ | refine g_an hn ?_ | refine g_or hn ?_ | refine g_ln hn ?_ | refine g_ex hn ?_ | refine g_neq2 hn ?_ | refine g_neq hn ?_ | refine g_eql2 hn ?_ | refine g_eql hn ?_ | refine g_leq2 hn ?_ | refine g_leq hn ?_ | refine g_lss2 hn ?_ | refine g_lss hn ?_ | refine g_gtr2 hn ?_ | refine g_gtr hn ?_ | refine g_geq2 hn ?_ | refine g_geq hn ?_ | refine g_b0 hn ?_ | refine g_bn hn ?_ | refine g_bc hn ?_ | refine g_cv hn ?_ | refine g_ac hn ?_ | refine g_mc hn ?_
      refine fl_end ?_
      clear hn
      subst ha
      dsimp only [fr, cnd, Act.put, cond_true]
      simp only [List.setIfInBounds_toArray, List.set_cons_zero, List.set_cons_succ]
      go_upto_region 11 with fail
      refine wp_region_lit ?_
      refine fl_start ?_
      generalize ha : Act.mk _ _ = a0
      have hn : a0.tmps.size = 44 := by rw [← ha]; kernel_rfl
      have h1 : (fr a0 []).eval (.tmp 1) = .pointer (some ⟨b, 0, none⟩) := by rw [← ha]; kernel_rfl
      refine fl_know hn rfl h1 ?_
      clear h1
      have h3 : (fr a0 [(1, true, .pointer (some ⟨b, 0, none⟩))]).eval (.tmp 3) = .slice A10 n10 c10 := by rw [← ha]; kernel_rfl
      refine fl_know hn rfl h3 ?_
      clear h3
      repeat first | refine g_mv hn ?_ | refine g_as hn ?_ | refine g_fdL hn ?_ | refine g_ldL hn HX.out ?_ | refine g_ldA hn HX.out ?_ | refine g_fd hn ?_ | refine g_ld hn ?_ | refine g_nc hn ?_ | refine g_nt hn ?_ | refine g_an hn ?_ | refine g_or hn ?_ | refine g_ln hn ?_ | refine g_ex hn ?_ | refine g_neq2 hn ?_ | refine g_neq hn ?_ | refine g_eql2 hn ?_ | refine g_eql hn ?_ | refine g_leq2 hn ?_ | refine g_leq hn ?_ | refine g_lss2 hn ?_ | refine g_lss hn ?_ | refine g_gtr2 hn ?_ | refine g_gtr hn ?_ | refine g_geq2 hn ?_ | refine g_geq hn ?_ | refine g_b0 hn ?_ | refine g_bn hn ?_ | refine g_bc hn ?_ | refine g_cv hn ?_ | refine g_ac hn ?_ | refine g_mc hn ?_
      refine g_c2x enters_pCs hn ((putC_any A10 h.A4 n10 c10 h.n4 h.c4 _ x.cs _ hl10' (by have := HS.out; have := HI.out.ins; omega) hc10 hr10' HR.out.l4 (by have := HI.out.nc; have := HR.out.l4; omega) (HR.out.r4.more (Nat.le_trans HBB.out (Nat.le_of_lt HX.out.lt))) (fun y hy => ⟨G5.out y hy, HF.out.f4 y hy⟩)).mono fun _ _ h => slb_x h) ?_
      rintro v w11 ⟨A11, n11, c11, rfl, hl11, hr11, hc11, hb11⟩
      replace hB := bnx hB HX.out hb11
      replace HR := Lib.hid (HR.out.keep hb11 (Nat.le_trans HBB.out (Nat.le_of_lt HX.out.lt)))
      replace HX := Lib.hid (HX.out.keep hb11)
      rw [← HR.out.l4] at hl11 hr11
      have hl11' : (hd5 x).length = n11 := hl11
      have hr11' : RdB w11.heap.size w11 A11 (hd5 x) := hr11
      clear hl11 hr11 hl10' hr10' hc10
      repeat first | refine g_mv hn ?_ | refine g_as hn ?_ | refine g_fdL hn ?_ | refine g_ldL hn HX.out ?_ | refine g_ldA hn HX.out ?_ | refine g_fd hn ?_ | refine g_ld hn ?_ | refine g_nc hn ?_ | refine g_nt hn ?_ | refine g_an hn ?_ | refine g_or hn ?_ | refine g_ln hn ?_ | refine g_ex hn ?_ | refine g_neq2 hn ?_ | refine g_neq hn ?_ | refine g_eql2 hn ?_ | refine g_eql hn ?_ | refine g_leq2 hn ?_ | refine g_leq hn ?_ | refine g_lss2 hn ?_ | refine g_lss hn ?_ | refine g_gtr2 hn ?_ | refine g_gtr hn ?_ | refine g_geq2 hn ?_ | refine g_geq hn ?_ | refine g_b0 hn ?_ | refine g_bn hn ?_ | refine g_bc hn ?_ | refine g_cv hn ?_ | refine g_ac hn ?_ | refine g_mc hn ?_
      refine fl_end ?_
      clear hn
      subst ha
      dsimp only [fr, cnd, Act.put, cond_true]
      simp only [List.setIfInBounds_toArray, List.set_cons_zero, List.set_cons_succ]
      go_upto_region 12 with fail
      refine wp_region_lit ?_
      refine fl_start ?_
      generalize ha : Act.mk _ _ = a0
      have hn : a0.tmps.size = 44 := by rw [← ha]; kernel_rfl
      have h1 : (fr a0 []).eval (.tmp 1) = .pointer (some ⟨b, 0, none⟩) := by rw [← ha]; kernel_rfl
      refine fl_know hn rfl h1 ?_
      clear h1
      have h3 : (fr a0 [(1, true, .pointer (some ⟨b, 0, none⟩))]).eval (.tmp 3) = .slice A11 n11 c11 := by rw [← ha]; kernel_rfl
      refine fl_know hn rfl h3 ?_
      clear h3
      repeat first | refine g_mv hn ?_ | refine g_as hn ?_ | refine g_fdL hn ?_ | refine g_ldL hn HX.out ?_ | refine g_ldA hn HX.out ?_ | refine g_fd hn ?_ | refine g_ld hn ?_ | refine g_nc hn ?_ | refine g_nt hn ?_ | refine g_an hn ?_ | refine g_or hn ?_ | refine g_ln hn ?_ | refine g_ex hn ?_ | refine g_neq2 hn ?_ | refine g_neq hn ?_ | refine g_eql2 hn ?_ | refine g_eql hn ?_ | refine g_leq2 hn ?_ | refine g_leq hn ?_ | refine g_lss2 hn ?_ | refine g_lss hn ?_ | refine g_gtr2 hn ?_ | refine g_gtr hn ?_ | refine g_geq2 hn ?_ | refine g_geq hn ?_ | refine g_b0 hn ?_ | refine g_bn hn ?_ | refine g_bc hn ?_ | refine g_cv hn ?_ | refine g_ac hn ?_ | refine g_mc hn ?_
      refine g_c2x enters_pLa hn ((putLa_any A11 n11 c11 _ x.a0 x.a1 x.a2 x.a3 x.a4 x.a5 x.a6 x.a7 x.a8 x.a9 x.a10 x.a11 _ hl11' (by have := HS.out; have := HI.out.ins; omega) hc11 hr11' (la_in G6.out)).mono fun _ _ h => slb_x h) ?_
      rintro v w12 ⟨A12, n12, c12, rfl, hl12, hr12, hc12, hb12⟩
      replace hB := bnx hB HX.out hb12
      replace HX := Lib.hid (HX.out.keep hb12)
      have hl12' : (insB x).length = n12 := hl12
      have hr12' : RdB w12.heap.size w12 A12 (insB x) := hr12
      clear hl12 hr12 hl11' hr11' hc11
      repeat first | refine g_mv hn ?_ | refine g_as hn ?_ | refine g_fdL hn ?_ | refine g_ldL hn HX.out ?_ | refine g_ldA hn HX.out ?_ | refine g_fd hn ?_ | refine g_ld hn ?_ | refine g_nc hn ?_ | refine g_nt hn ?_ | refine g_an hn ?_ | refine g_or hn ?_ | refine g_ln hn ?_ | refine g_ex hn ?_ | refine g_neq2 hn ?_ | refine g_neq hn ?_ | refine g_eql2 hn ?_ | refine g_eql hn ?_ | refine g_leq2 hn ?_ | refine g_leq hn ?_ | refine g_lss2 hn ?_ | refine g_lss hn ?_ | refine g_gtr2 hn ?_ | refine g_gtr hn ?_ | refine g_geq2 hn ?_ | refine g_geq hn ?_ | refine g_b0 hn ?_ | refine g_bn hn ?_ | refine g_bc hn ?_ | refine g_cv hn ?_ | refine g_ac hn ?_ | refine g_mc hn ?_
      refine fl_end ?_
      clear hn
      subst ha
      dsimp only [fr, cnd, Act.put, cond_true]
      simp only [List.setIfInBounds_toArray, List.set_cons_zero, List.set_cons_succ]
      go_wp2_with fail
      go_ret
      exact ⟨_, rfl, A12, n12, c12, rfl, hl12', hr12', hc12, by rw [hb]; exact hB⟩
end Go.Proofs.YtpjleeeligahaaaGreatDoor
