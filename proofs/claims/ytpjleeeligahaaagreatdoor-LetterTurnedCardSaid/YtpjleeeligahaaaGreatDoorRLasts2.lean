/-
  WHAT IS PROVED: package roll's GoodLasts tells whether lasts are good, and its TakeLasts takes them from a reader, as the chapter says. Conditions: those typed in each theorem.
-/
import Derived.Test.YtpjleeeligahaaaGreatDoorGQ6
import Derived.Test.YtpjleeeligahaaaGreatDoorRTake
namespace Go.Proofs.YtpjleeeligahaaaGreatDoor
open Go.RowKit

/-! slices.ContainsFunc of ints. -/
def PredI (g : Nat) (p : Int → Bool) (l : List Int) : Prop := ∀ (x : Int), x ∈ l → ∀ W, Calls Tryz.prog g #[.int .i64 x] W fun e W' => e = .returned (.bool (p x)) ∧ Below W.heap.size W W'
set_option maxRecDepth 100000 in
set_option maxHeartbeats 1000000 in
theorem idxI_any (g : Nat) (eg : ∀ args w, (callFunc g args).run Tryz.prog w = .ok (.enter g args) w) (p : Int → Bool) (A : Option Addr) (n c : Nat) (l : List Int) (w : World) (hn : l.length = n) (hr : RdX 1 w.heap.size w A (l.map intC)) (hm : n ≤ maxLen) (hp : PredI g p l) :
    Calls Tryz.prog 166 #[.slice A n c, .func (.func g) #[] #[]] w fun e w' => (∃ z : Int, e = .returned (.int .i64 z) ∧ decide (0 ≤ z) = l.any p) ∧ Below w.heap.size w w' := by
  unfold maxLen at hm
  have HN := Lib.hid hn
  have HP := Lib.hid hp
  have HR := Lib.hid (fun W (h : Below w.heap.size w W) => hr.keep (W' := W) h (Nat.le_refl _))
  clear hn hp hr
  go_enter Tryz.func166, Tryz.ntmps166
  go_wp2_with fail
  go_loopw [5, 8] (fun _ i wr => ∃ k : Nat, k ≤ n ∧ i = .int .i64 k ∧ Hid (∀ x, x ∈ l.take k → p x = false) ∧ Below w.heap.size w wr) (fun _ i _ => n - (intOf i).toNat)
  case atStart => exact ⟨0, Nat.zero_le _, rfl, fun x hx => by simp at hx, Below.refl _ _⟩
  case round =>
    obtain ⟨k, hk, rfl, hA, hB⟩ := hrel
    by_cases hlt : k < n
    · obtain ⟨x, hx⟩ : ∃ x, l[k]? = some x := ⟨_, List.getElem?_eq_getElem (show k < l.length by have := HN.out; omega)⟩
      obtain ⟨ad, rfl, _, hc⟩ := HR.out wr hB k _ (map_get hx)
      have i1 : (0 : Int) ≤ (k : Int) := by omega
      have i2 : (k : Int) < (n : Int) := by omega
      have HX := Lib.hid hx
      have HG := Lib.hid (HP.out x (List.mem_of_getElem? hx))
      clear hx
      have q0 : wr.cell? (ad.add k) = some (.int .i64 x) := by have := hc 0 _ rfl; simpa using this
      clear hc
      cases hb : p x with
      | true =>
        rw [hb] at HG
        have R : Hid (decide (0 ≤ (k : Int)) = l.any p) := by
          show _ = _
          rw [decide_eq_true i1]
          exact (List.any_eq_true.2 ⟨x, List.mem_of_getElem? HX.out, hb⟩).symm
        clear hb
        go_wp2_with (go_at_fn g; refine (HG.out wr).mono ?_; rintro e w2 ⟨rfl, hb2⟩)
        go_ret
        exact ⟨⟨_, rfl, R.out⟩, bt hB hb2⟩
      | false =>
        rw [hb] at HG
        have HA2 : Hid (∀ y, y ∈ l.take (k + 1) → p y = false) := fun y hy => by
          rw [List.take_add_one, HX.out] at hy
          rcases List.mem_append.1 hy with h | h
          · exact hA.out y h
          · have e : y = x := by simpa using h
            rw [e]
            exact hb
        clear hb hA
        go_wp2_with (go_at_fn g; refine (HG.out wr).mono ?_; rintro e w2 ⟨rfl, hb2⟩)
        go_roundw
        case rel => exact ⟨k + 1, by omega, by go_num, HA2, bt hB hb2⟩
        case measure => simp [intOf]; omega
    · have hq : ¬ (k : Int) < (n : Int) := by omega
      have R : Hid (decide ((0 : Int) ≤ -1) = l.any p) := by
        show _ = _
        have h0 : l.any p = false := by
          rw [List.any_eq_false]
          intro x hx
          rw [hA.out x (by rw [List.take_of_length_le (by have := HN.out; omega)]; exact hx)]
          exact Bool.false_ne_true
        rw [h0]
        rfl
      clear hA
      go_wp2_with fail
      go_ret
      exact ⟨⟨_, rfl, R.out⟩, hB⟩
set_option maxRecDepth 100000 in
theorem contI_any (g : Nat) (eg : ∀ args w, (callFunc g args).run Tryz.prog w = .ok (.enter g args) w) (p : Int → Bool) (A : Option Addr) (n c : Nat) (l : List Int) (w : World) (hn : l.length = n) (hr : RdX 1 w.heap.size w A (l.map intC)) (hm : n ≤ maxLen) (hp : PredI g p l) :
    Calls Tryz.prog 142 #[.slice A n c, .func (.func g) #[] #[]] w fun e w' => e = .returned (.bool (l.any p)) ∧ Below w.heap.size w w' := by
  have HI := Lib.hid (idxI_any g eg p A n c l w hn hr hm hp)
  generalize l.any p = v at HI ⊢
  go_enter Tryz.func142, Tryz.ntmps142
  go_wp2_with fail
  refine HI.out.mono ?_
  rintro e w2 ⟨⟨z, rfl, hz⟩, hb2⟩
  have HZ := Lib.hid hz
  clear hz
  go_wp2_with fail
  go_ret
  exact ⟨ret_bool HZ.out, hb2⟩

/-! GoodLasts. -/
def outI (x : Int) : Bool := decide (x < 0) || decide (40 < x)
theorem enters_outI : ∀ args w, (callFunc 141 args).run Tryz.prog w = .ok (.enter 141 args) w := enters_of Tryz.func141 (by kernel_rfl) rfl
theorem enters_gdLa : ∀ args w, (callFunc 95 args).run Tryz.prog w = .ok (.enter 95 args) w := enters_of Tryz.func95 (by kernel_rfl) rfl
set_option maxRecDepth 100000 in
theorem outI_any (x : Int) (w : World) : Calls Tryz.prog 141 #[.int .i64 x] w fun e w' => e = .returned (.bool (outI x)) ∧ Below w.heap.size w w' := by
  by_cases h0 : x < 0
  · have R : Hid (outI x = true) := by show _ = _; unfold outI; rw [decide_eq_true h0, Bool.true_or]
    go_enter Tryz.func141, Tryz.ntmps141
    go_wp2_with fail
    go_ret
    exact ⟨ret_bool R.out.symm, Below.refl _ _⟩
  · have R : Hid (outI x = decide (40 < x)) := by show _ = _; unfold outI; rw [decide_eq_false h0, Bool.false_or]
    go_enter Tryz.func141, Tryz.ntmps141
    go_wp2_with fail
    go_ret
    exact ⟨ret_bool R.out.symm, Below.refl _ _⟩
theorem in_out (x : Int) : decide (0 ≤ x ∧ x ≤ 40) = !outI x := by
  unfold outI
  by_cases h1 : x < 0
  · rw [decide_eq_true h1, decide_eq_false (by omega)]
    rfl
  · by_cases h2 : 40 < x
    · rw [decide_eq_true h2, decide_eq_false h1, decide_eq_false (by omega)]
      rfl
    · rw [decide_eq_false h2, decide_eq_false h1, decide_eq_true (by omega)]
      rfl
theorem goodLa_is (a0 a1 a2 a3 a4 a5 a6 a7 a8 a9 a10 a11 : Int) : goodLa (laL a0 a1 a2 a3 a4 a5 a6 a7 a8 a9 a10 a11) = (decide (a0 = 0) && !((laL a0 a1 a2 a3 a4 a5 a6 a7 a8 a9 a10 a11).any outI)) := by
  have e1 : (((laL a0 a1 a2 a3 a4 a5 a6 a7 a8 a9 a10 a11).head?) == some 0) = decide (a0 = 0) := by
    show (some a0 == some 0) = _
    rw [Bool.eq_iff_iff]
    simp
  have e2 : ((laL a0 a1 a2 a3 a4 a5 a6 a7 a8 a9 a10 a11).all fun x => decide (0 ≤ x ∧ x ≤ 40)) = !((laL a0 a1 a2 a3 a4 a5 a6 a7 a8 a9 a10 a11).any outI) := by
    have h := all_not (laL a0 a1 a2 a3 a4 a5 a6 a7 a8 a9 a10 a11) (fun x => decide (0 ≤ x ∧ x ≤ 40))
    rw [← h]
    have e : (fun x : Int => !decide (0 ≤ x ∧ x ≤ 40)) = outI := by
      funext x
      rw [in_out, Bool.not_not]
    rw [e]
  unfold goodLa
  rw [e1, e2, Bool.and_comm]
set_option maxRecDepth 100000 in
set_option maxHeartbeats 2000000 in
theorem goodLa_any (a0 a1 a2 a3 a4 a5 a6 a7 a8 a9 a10 a11 : Int) (w : World) : Calls Tryz.prog 95 #[.agg (laI a0 a1 a2 a3 a4 a5 a6 a7 a8 a9 a10 a11)] w fun e w' => e = .returned (.bool (goodLa (laL a0 a1 a2 a3 a4 a5 a6 a7 a8 a9 a10 a11))) ∧ Below w.heap.size w w' := by
  have hC := blk_new w (laI a0 a1 a2 a3 a4 a5 a6 a7 a8 a9 a10 a11) 56
  have hB := b0 w (.cells (laI a0 a1 a2 a3 a4 a5 a6 a7 a8 a9 a10 a11) 56)
  have HI := Lib.hid (contI_any 141 enters_outI outI (some ⟨w.heap.size, 0, none⟩) 12 12 (laL a0 a1 a2 a3 a4 a5 a6 a7 a8 a9 a10 a11) (w.alloc (.cells (laI a0 a1 a2 a3 a4 a5 a6 a7 a8 a9 a10 a11) 56)) rfl ((blk_la hC).more hC.lt) (by unfold maxLen; omega) (fun x _ W => outI_any x W))
  rw [goodLa_is]
  generalize (laL a0 a1 a2 a3 a4 a5 a6 a7 a8 a9 a10 a11).any outI = v at HI ⊢
  by_cases h0 : a0 = 0
  · have e0 : (a0 == 0) = true := by rw [beq_iff_eq]; exact h0
    have R : Hid ((!v) = (decide (a0 = 0) && !v)) := by show _ = _; rw [decide_eq_true h0, Bool.true_and]
    generalize (decide (a0 = 0) && !v) = r at R ⊢
    clear h0 hC
    go_enter Tryz.func95, Tryz.ntmps95
    go_wp2_with (go_at_call 142; refine HI.out.mono ?_; rintro e w2 ⟨rfl, hb2⟩)
    go_ret
    exact ⟨ret_bool R.out, bt hB hb2⟩
  · have e0 : (a0 == 0) = false := by rw [beq_eq_false_iff_ne]; exact h0
    have R : Hid (false = (decide (a0 = 0) && !v)) := by show _ = _; rw [decide_eq_false h0, Bool.false_and]
    generalize (decide (a0 = 0) && !v) = r at R ⊢
    clear h0 HI hC
    go_enter Tryz.func95, Tryz.ntmps95
    go_wp2_with fail
    go_ret
    exact ⟨ret_bool R.out, hB⟩

/-! sound, of lasts. -/
theorem results_cell_tmp_row {P : Program} {fn : Func} {p u : Tmp} {ty : TypeId} (h : fn.results = #[.cell p ty, .tmp u]) (tmps : Array Value) (w : World) (g : Nat) (t : TypeId) (cs : Array Value) (fr : Nat × Nat) (d : TypeDesc)
    (hp : tmps.getD p undef = .pointer (some ⟨g, 0, none⟩)) (hg : w.heap[g]? = some (.cells cs t fr))
    (hu : P.underlying ty = some d) (hd : (match d with | .struct _ | .array _ _ => true | _ => false) = true) (hi : (P.info? ty).map (·.size) = some cs.size) :
    (results fn tmps).run P w = .ok (.tuple #[.agg cs, tmps.getD u undef]) w := by
  have hp' : tmps[p]?.getD undef = .pointer (some ⟨g, 0, none⟩) := by simpa using hp
  simp [results, h, hp', asAddr, run_loadVar_row w g t ty cs fr d hg hu hd hi]
theorem set12 {W : World} {b : Nat} {u0 u1 u2 u3 u4 u5 u6 u7 u8 u9 u10 u11 : Value} {t : TypeId} (h : Blk W b #[u0, u1, u2, u3, u4, u5, u6, u7, u8, u9, u10, u11] t) (v0 v1 v2 v3 v4 v5 v6 v7 v8 v9 v10 v11 : Value) : Blk ((((((((((((W.setCell ⟨b, 0, none⟩ v0).setCell ⟨b, 1, none⟩ v1).setCell ⟨b, 2, none⟩ v2).setCell ⟨b, 3, none⟩ v3).setCell ⟨b, 4, none⟩ v4).setCell ⟨b, 5, none⟩ v5).setCell ⟨b, 6, none⟩ v6).setCell ⟨b, 7, none⟩ v7).setCell ⟨b, 8, none⟩ v8).setCell ⟨b, 9, none⟩ v9).setCell ⟨b, 10, none⟩ v10).setCell ⟨b, 11, none⟩ v11) b #[v0, v1, v2, v3, v4, v5, v6, v7, v8, v9, v10, v11] t := by
  have h0 : Blk (W.setCell ⟨b, 0, none⟩ v0) b #[v0, u1, u2, u3, u4, u5, u6, u7, u8, u9, u10, u11] t := h.set 0 v0
  have h1 : Blk ((W.setCell ⟨b, 0, none⟩ v0).setCell ⟨b, 1, none⟩ v1) b #[v0, v1, u2, u3, u4, u5, u6, u7, u8, u9, u10, u11] t := h0.set 1 v1
  have h2 : Blk (((W.setCell ⟨b, 0, none⟩ v0).setCell ⟨b, 1, none⟩ v1).setCell ⟨b, 2, none⟩ v2) b #[v0, v1, v2, u3, u4, u5, u6, u7, u8, u9, u10, u11] t := h1.set 2 v2
  have h3 : Blk ((((W.setCell ⟨b, 0, none⟩ v0).setCell ⟨b, 1, none⟩ v1).setCell ⟨b, 2, none⟩ v2).setCell ⟨b, 3, none⟩ v3) b #[v0, v1, v2, v3, u4, u5, u6, u7, u8, u9, u10, u11] t := h2.set 3 v3
  have h4 : Blk (((((W.setCell ⟨b, 0, none⟩ v0).setCell ⟨b, 1, none⟩ v1).setCell ⟨b, 2, none⟩ v2).setCell ⟨b, 3, none⟩ v3).setCell ⟨b, 4, none⟩ v4) b #[v0, v1, v2, v3, v4, u5, u6, u7, u8, u9, u10, u11] t := h3.set 4 v4
  have h5 : Blk ((((((W.setCell ⟨b, 0, none⟩ v0).setCell ⟨b, 1, none⟩ v1).setCell ⟨b, 2, none⟩ v2).setCell ⟨b, 3, none⟩ v3).setCell ⟨b, 4, none⟩ v4).setCell ⟨b, 5, none⟩ v5) b #[v0, v1, v2, v3, v4, v5, u6, u7, u8, u9, u10, u11] t := h4.set 5 v5
  have h6 : Blk (((((((W.setCell ⟨b, 0, none⟩ v0).setCell ⟨b, 1, none⟩ v1).setCell ⟨b, 2, none⟩ v2).setCell ⟨b, 3, none⟩ v3).setCell ⟨b, 4, none⟩ v4).setCell ⟨b, 5, none⟩ v5).setCell ⟨b, 6, none⟩ v6) b #[v0, v1, v2, v3, v4, v5, v6, u7, u8, u9, u10, u11] t := h5.set 6 v6
  have h7 : Blk ((((((((W.setCell ⟨b, 0, none⟩ v0).setCell ⟨b, 1, none⟩ v1).setCell ⟨b, 2, none⟩ v2).setCell ⟨b, 3, none⟩ v3).setCell ⟨b, 4, none⟩ v4).setCell ⟨b, 5, none⟩ v5).setCell ⟨b, 6, none⟩ v6).setCell ⟨b, 7, none⟩ v7) b #[v0, v1, v2, v3, v4, v5, v6, v7, u8, u9, u10, u11] t := h6.set 7 v7
  have h8 : Blk (((((((((W.setCell ⟨b, 0, none⟩ v0).setCell ⟨b, 1, none⟩ v1).setCell ⟨b, 2, none⟩ v2).setCell ⟨b, 3, none⟩ v3).setCell ⟨b, 4, none⟩ v4).setCell ⟨b, 5, none⟩ v5).setCell ⟨b, 6, none⟩ v6).setCell ⟨b, 7, none⟩ v7).setCell ⟨b, 8, none⟩ v8) b #[v0, v1, v2, v3, v4, v5, v6, v7, v8, u9, u10, u11] t := h7.set 8 v8
  have h9 : Blk ((((((((((W.setCell ⟨b, 0, none⟩ v0).setCell ⟨b, 1, none⟩ v1).setCell ⟨b, 2, none⟩ v2).setCell ⟨b, 3, none⟩ v3).setCell ⟨b, 4, none⟩ v4).setCell ⟨b, 5, none⟩ v5).setCell ⟨b, 6, none⟩ v6).setCell ⟨b, 7, none⟩ v7).setCell ⟨b, 8, none⟩ v8).setCell ⟨b, 9, none⟩ v9) b #[v0, v1, v2, v3, v4, v5, v6, v7, v8, v9, u10, u11] t := h8.set 9 v9
  have h10 : Blk (((((((((((W.setCell ⟨b, 0, none⟩ v0).setCell ⟨b, 1, none⟩ v1).setCell ⟨b, 2, none⟩ v2).setCell ⟨b, 3, none⟩ v3).setCell ⟨b, 4, none⟩ v4).setCell ⟨b, 5, none⟩ v5).setCell ⟨b, 6, none⟩ v6).setCell ⟨b, 7, none⟩ v7).setCell ⟨b, 8, none⟩ v8).setCell ⟨b, 9, none⟩ v9).setCell ⟨b, 10, none⟩ v10) b #[v0, v1, v2, v3, v4, v5, v6, v7, v8, v9, v10, u11] t := h9.set 10 v10
  have h11 : Blk ((((((((((((W.setCell ⟨b, 0, none⟩ v0).setCell ⟨b, 1, none⟩ v1).setCell ⟨b, 2, none⟩ v2).setCell ⟨b, 3, none⟩ v3).setCell ⟨b, 4, none⟩ v4).setCell ⟨b, 5, none⟩ v5).setCell ⟨b, 6, none⟩ v6).setCell ⟨b, 7, none⟩ v7).setCell ⟨b, 8, none⟩ v8).setCell ⟨b, 9, none⟩ v9).setCell ⟨b, 10, none⟩ v10).setCell ⟨b, 11, none⟩ v11) b #[v0, v1, v2, v3, v4, v5, v6, v7, v8, v9, v10, v11] t := h10.set 11 v11
  exact h11
theorem grown12 (W : World) (b : Nat) (v0 v1 v2 v3 v4 v5 v6 v7 v8 v9 v10 v11 : Value) : W.grownBy ((((((((((((W.setCell ⟨b, 0, none⟩ v0).setCell ⟨b, 1, none⟩ v1).setCell ⟨b, 2, none⟩ v2).setCell ⟨b, 3, none⟩ v3).setCell ⟨b, 4, none⟩ v4).setCell ⟨b, 5, none⟩ v5).setCell ⟨b, 6, none⟩ v6).setCell ⟨b, 7, none⟩ v7).setCell ⟨b, 8, none⟩ v8).setCell ⟨b, 9, none⟩ v9).setCell ⟨b, 10, none⟩ v10).setCell ⟨b, 11, none⟩ v11) (some b) := (((((((((((set_grown.trans set_grown).trans set_grown).trans set_grown).trans set_grown).trans set_grown).trans set_grown).trans set_grown).trans set_grown).trans set_grown).trans set_grown).trans set_grown)
theorem below12 {B b : Nat} {w W : World} (h : Below B w W) (hb : B ≤ b) (v0 v1 v2 v3 v4 v5 v6 v7 v8 v9 v10 v11 : Value) : Below B w ((((((((((((W.setCell ⟨b, 0, none⟩ v0).setCell ⟨b, 1, none⟩ v1).setCell ⟨b, 2, none⟩ v2).setCell ⟨b, 3, none⟩ v3).setCell ⟨b, 4, none⟩ v4).setCell ⟨b, 5, none⟩ v5).setCell ⟨b, 6, none⟩ v6).setCell ⟨b, 7, none⟩ v7).setCell ⟨b, 8, none⟩ v8).setCell ⟨b, 9, none⟩ v9).setCell ⟨b, 10, none⟩ v10).setCell ⟨b, 11, none⟩ v11) := ((((((((((((h.setCell (p := ⟨b, 0, none⟩) hb v0).setCell (p := ⟨b, 1, none⟩) hb v1).setCell (p := ⟨b, 2, none⟩) hb v2).setCell (p := ⟨b, 3, none⟩) hb v3).setCell (p := ⟨b, 4, none⟩) hb v4).setCell (p := ⟨b, 5, none⟩) hb v5).setCell (p := ⟨b, 6, none⟩) hb v6).setCell (p := ⟨b, 7, none⟩) hb v7).setCell (p := ⟨b, 8, none⟩) hb v8).setCell (p := ⟨b, 9, none⟩) hb v9).setCell (p := ⟨b, 10, none⟩) hb v10).setCell (p := ⟨b, 11, none⟩) hb v11)

set_option maxRecDepth 100000 in
set_option maxHeartbeats 4000000 in
theorem soundLa_any (S : Addr) (g : Nat) (st : Rest) (a0 a1 a2 a3 a4 a5 a6 a7 a8 a9 a10 a11 : Int) (w : World) (hR : RdrP S w g st) :
    Calls Tryz.prog 152 #[.pointer (some ⟨g, 0, none⟩), .agg (laI a0 a1 a2 a3 a4 a5 a6 a7 a8 a9 a10 a11), .func (.func 95) #[] #[]] w fun e w' => e = .returned (if st ≠ none ∧ goodLa (laL a0 a1 a2 a3 a4 a5 a6 a7 a8 a9 a10 a11) = true then .tuple #[.agg (laI a0 a1 a2 a3 a4 a5 a6 a7 a8 a9 a10 a11), .int .i64 0] else .tuple #[.agg (laI 0 0 0 0 0 0 0 0 0 0 0 0), .int .i64 2]) ∧ Below w.heap.size w w' := by
  have eg := enters_gdLa
  have HG := Lib.hid (fun W => goodLa_any a0 a1 a2 a3 a4 a5 a6 a7 a8 a9 a10 a11 W)
  generalize goodLa (laL a0 a1 a2 a3 a4 a5 a6 a7 a8 a9 a10 a11) = gd at HG ⊢
  have hc : (st = none) ∨ (∃ b, st = some b ∧ gd = false) ∨ (∃ b, st = some b ∧ gd = true) := by
    cases st with
    | none => exact .inl rfl
    | some b =>
      cases gd with
      | false => exact .inr (.inl ⟨b, rfl, rfl⟩)
      | true => exact .inr (.inr ⟨b, rfl, rfl⟩)
  have hX := blk_new w (laI a0 a1 a2 a3 a4 a5 a6 a7 a8 a9 a10 a11) 56
  have hba := b0 w (.cells (laI a0 a1 a2 a3 a4 a5 a6 a7 a8 a9 a10 a11) 56)
  have hz1 : (w.alloc (.cells (laI a0 a1 a2 a3 a4 a5 a6 a7 a8 a9 a10 a11) 56)).heap.size = w.heap.size + 1 := by simp
  have hY := blk_new (w.alloc (.cells (laI a0 a1 a2 a3 a4 a5 a6 a7 a8 a9 a10 a11) 56)) (laI 0 0 0 0 0 0 0 0 0 0 0 0) 56
  rw [hz1] at hY
  have hXa := hX.alloc (.cells (laI 0 0 0 0 0 0 0 0 0 0 0 0) 56)
  have hbb := ba hba (.cells (laI 0 0 0 0 0 0 0 0 0 0 0 0) 56)
  have hRb := hR.below hbb
  clear hX hba hR
  rcases hc with rfl | ⟨b, rfl, rfl⟩ | ⟨b, rfl, rfl⟩
  · rw [if_neg (fun h => h.1 rfl)]
    go_enter Tryz.func152, Tryz.ntmps152
    go_upto_region 1 with fail
    generalize (w.alloc (.cells (laI a0 a1 a2 a3 a4 a5 a6 a7 a8 a9 a10 a11) 56)).alloc (.cells (laI 0 0 0 0 0 0 0 0 0 0 0 0) 56) = W at hY hXa hbb hRb ⊢
    (try simp only [hz1])
    go_upto_region 3 with (go_at_call 65; refine (failed_any S g none _ hRb).mono ?_; rintro e w2 ⟨rfl, rfl⟩)
    have hN := blk_new w2 (laI 0 0 0 0 0 0 0 0 0 0 0 0) 56
    have hY4 := hY.alloc (.cells (laI 0 0 0 0 0 0 0 0 0 0 0 0) 56)
    have hb4 := ba hbb (.cells (laI 0 0 0 0 0 0 0 0 0 0 0 0) 56)
    generalize w2.alloc (.cells (laI 0 0 0 0 0 0 0 0 0 0 0 0) 56) = W4 at hN hY4 hb4 ⊢
    generalize w2.heap.size = bn at hN ⊢
    have q0 := hN.cell 0
    have q1 := hN.cell 1
    have q2 := hN.cell 2
    have q3 := hN.cell 3
    have q4 := hN.cell 4
    have q5 := hN.cell 5
    have q6 := hN.cell 6
    have q7 := hN.cell 7
    have q8 := hN.cell 8
    have q9 := hN.cell 9
    have q10 := hN.cell 10
    have q11 := hN.cell 11
    have y0 := hY4.cell 0
    have y1 := hY4.cell 1
    have y2 := hY4.cell 2
    have y3 := hY4.cell 3
    have y4 := hY4.cell 4
    have y5 := hY4.cell 5
    have y6 := hY4.cell 6
    have y7 := hY4.cell 7
    have y8 := hY4.cell 8
    have y9 := hY4.cell 9
    have y10 := hY4.cell 10
    have y11 := hY4.cell 11
    have f0 := hY4.free 0
    have f1 := hY4.free 1
    have f2 := hY4.free 2
    have f3 := hY4.free 3
    have f4 := hY4.free 4
    have f5 := hY4.free 5
    have f6 := hY4.free 6
    have f7 := hY4.free 7
    have f8 := hY4.free 8
    have f9 := hY4.free 9
    have f10 := hY4.free 10
    have f11 := hY4.free 11
    have hlt4 := hY4.lt
    have hF := set12 hY4 (.int .i64 0) (.int .i64 0) (.int .i64 0) (.int .i64 0) (.int .i64 0) (.int .i64 0) (.int .i64 0) (.int .i64 0) (.int .i64 0) (.int .i64 0) (.int .i64 0) (.int .i64 0)
    have hB := below12 hb4 (Nat.le_succ _) (.int .i64 0) (.int .i64 0) (.int .i64 0) (.int .i64 0) (.int .i64 0) (.int .i64 0) (.int .i64 0) (.int .i64 0) (.int .i64 0) (.int .i64 0) (.int .i64 0) (.int .i64 0)
    clear hN hY4 hb4
    go_wp2_with fail
    (try simp only [Exit.inBlock, Exit.then])
    refine bodyPost_ret (results_cell_tmp_row Tryz.results152 _ _ (w.heap.size + 1) 56 (laI 0 0 0 0 0 0 0 0 0 0 0 0) (0, 0) _ (by rfl) hF Tryz.underlying56 (by rfl) (by kernel_rfl)) rfl ?_
    exact ⟨rfl, hB⟩
  · rw [if_neg (fun h => by cases h.2)]
    go_enter Tryz.func152, Tryz.ntmps152
    go_upto_region 1 with fail
    generalize (w.alloc (.cells (laI a0 a1 a2 a3 a4 a5 a6 a7 a8 a9 a10 a11) 56)).alloc (.cells (laI 0 0 0 0 0 0 0 0 0 0 0 0) 56) = W at hY hXa hbb hRb ⊢
    (try simp only [hz1])
    have q0 := hXa.cell 0
    have q1 := hXa.cell 1
    have q2 := hXa.cell 2
    have q3 := hXa.cell 3
    have q4 := hXa.cell 4
    have q5 := hXa.cell 5
    have q6 := hXa.cell 6
    have q7 := hXa.cell 7
    have q8 := hXa.cell 8
    have q9 := hXa.cell 9
    have q10 := hXa.cell 10
    have q11 := hXa.cell 11
    go_upto_region 3 with first
      | (go_at_call 65; refine (failed_any S g (some b) _ hRb).mono ?_; rintro e w2 ⟨rfl, rfl⟩)
      | (go_at_fn 95; refine (HG.out _).mono ?_; rintro e w3 ⟨rfl, hb3⟩)
    have hY3 := hY.keep hb3
    have hbb3 := bt hbb hb3
    clear hY hbb hXa q0 q1 q2 q3 q4 q5 q6 q7 q8 q9 q10 q11
    have hN := blk_new w3 (laI 0 0 0 0 0 0 0 0 0 0 0 0) 56
    have hY4 := hY3.alloc (.cells (laI 0 0 0 0 0 0 0 0 0 0 0 0) 56)
    have hb4 := ba hbb3 (.cells (laI 0 0 0 0 0 0 0 0 0 0 0 0) 56)
    generalize w3.alloc (.cells (laI 0 0 0 0 0 0 0 0 0 0 0 0) 56) = W4 at hN hY4 hb4 ⊢
    generalize w3.heap.size = bn at hN ⊢
    have q0 := hN.cell 0
    have q1 := hN.cell 1
    have q2 := hN.cell 2
    have q3 := hN.cell 3
    have q4 := hN.cell 4
    have q5 := hN.cell 5
    have q6 := hN.cell 6
    have q7 := hN.cell 7
    have q8 := hN.cell 8
    have q9 := hN.cell 9
    have q10 := hN.cell 10
    have q11 := hN.cell 11
    have y0 := hY4.cell 0
    have y1 := hY4.cell 1
    have y2 := hY4.cell 2
    have y3 := hY4.cell 3
    have y4 := hY4.cell 4
    have y5 := hY4.cell 5
    have y6 := hY4.cell 6
    have y7 := hY4.cell 7
    have y8 := hY4.cell 8
    have y9 := hY4.cell 9
    have y10 := hY4.cell 10
    have y11 := hY4.cell 11
    have f0 := hY4.free 0
    have f1 := hY4.free 1
    have f2 := hY4.free 2
    have f3 := hY4.free 3
    have f4 := hY4.free 4
    have f5 := hY4.free 5
    have f6 := hY4.free 6
    have f7 := hY4.free 7
    have f8 := hY4.free 8
    have f9 := hY4.free 9
    have f10 := hY4.free 10
    have f11 := hY4.free 11
    have hlt4 := hY4.lt
    have hF := set12 hY4 (.int .i64 0) (.int .i64 0) (.int .i64 0) (.int .i64 0) (.int .i64 0) (.int .i64 0) (.int .i64 0) (.int .i64 0) (.int .i64 0) (.int .i64 0) (.int .i64 0) (.int .i64 0)
    have hB := below12 hb4 (Nat.le_succ _) (.int .i64 0) (.int .i64 0) (.int .i64 0) (.int .i64 0) (.int .i64 0) (.int .i64 0) (.int .i64 0) (.int .i64 0) (.int .i64 0) (.int .i64 0) (.int .i64 0) (.int .i64 0)
    clear hN hY4 hb4
    go_wp2_with fail
    (try simp only [Exit.inBlock, Exit.then])
    refine bodyPost_ret (results_cell_tmp_row Tryz.results152 _ _ (w.heap.size + 1) 56 (laI 0 0 0 0 0 0 0 0 0 0 0 0) (0, 0) _ (by rfl) hF Tryz.underlying56 (by rfl) (by kernel_rfl)) rfl ?_
    exact ⟨rfl, hB⟩
  · rw [if_pos ⟨by simp, rfl⟩]
    go_enter Tryz.func152, Tryz.ntmps152
    go_upto_region 1 with fail
    generalize (w.alloc (.cells (laI a0 a1 a2 a3 a4 a5 a6 a7 a8 a9 a10 a11) 56)).alloc (.cells (laI 0 0 0 0 0 0 0 0 0 0 0 0) 56) = W at hY hXa hbb hRb ⊢
    (try simp only [hz1])
    have q0 := hXa.cell 0
    have q1 := hXa.cell 1
    have q2 := hXa.cell 2
    have q3 := hXa.cell 3
    have q4 := hXa.cell 4
    have q5 := hXa.cell 5
    have q6 := hXa.cell 6
    have q7 := hXa.cell 7
    have q8 := hXa.cell 8
    have q9 := hXa.cell 9
    have q10 := hXa.cell 10
    have q11 := hXa.cell 11
    go_upto_region 4 with first
      | (go_at_call 65; refine (failed_any S g (some b) _ hRb).mono ?_; rintro e w2 ⟨rfl, rfl⟩)
      | (go_at_fn 95; refine (HG.out _).mono ?_; rintro e w3 ⟨rfl, hb3⟩)
    have hY3 := hY.keep hb3
    have hX3 := hXa.keep hb3
    have hbb3 := bt hbb hb3
    clear hY hbb hXa q0 q1 q2 q3 q4 q5 q6 q7 q8 q9 q10 q11
    have q0 := hX3.cell 0
    have q1 := hX3.cell 1
    have q2 := hX3.cell 2
    have q3 := hX3.cell 3
    have q4 := hX3.cell 4
    have q5 := hX3.cell 5
    have q6 := hX3.cell 6
    have q7 := hX3.cell 7
    have q8 := hX3.cell 8
    have q9 := hX3.cell 9
    have q10 := hX3.cell 10
    have q11 := hX3.cell 11
    have y0 := hY3.cell 0
    have y1 := hY3.cell 1
    have y2 := hY3.cell 2
    have y3 := hY3.cell 3
    have y4 := hY3.cell 4
    have y5 := hY3.cell 5
    have y6 := hY3.cell 6
    have y7 := hY3.cell 7
    have y8 := hY3.cell 8
    have y9 := hY3.cell 9
    have y10 := hY3.cell 10
    have y11 := hY3.cell 11
    have f0 := hY3.free 0
    have f1 := hY3.free 1
    have f2 := hY3.free 2
    have f3 := hY3.free 3
    have f4 := hY3.free 4
    have f5 := hY3.free 5
    have f6 := hY3.free 6
    have f7 := hY3.free 7
    have f8 := hY3.free 8
    have f9 := hY3.free 9
    have f10 := hY3.free 10
    have f11 := hY3.free 11
    have hlt3 := hY3.lt
    have hF := set12 hY3 (.int .i64 a0) (.int .i64 a1) (.int .i64 a2) (.int .i64 a3) (.int .i64 a4) (.int .i64 a5) (.int .i64 a6) (.int .i64 a7) (.int .i64 a8) (.int .i64 a9) (.int .i64 a10) (.int .i64 a11)
    have hB := below12 hbb3 (Nat.le_succ _) (.int .i64 a0) (.int .i64 a1) (.int .i64 a2) (.int .i64 a3) (.int .i64 a4) (.int .i64 a5) (.int .i64 a6) (.int .i64 a7) (.int .i64 a8) (.int .i64 a9) (.int .i64 a10) (.int .i64 a11)
    go_wp2_with fail
    (try simp only [Exit.inBlock, Exit.then])
    refine bodyPost_ret (results_cell_tmp_row Tryz.results152 _ _ (w.heap.size + 1) 56 (laI a0 a1 a2 a3 a4 a5 a6 a7 a8 a9 a10 a11) (0, 0) _ (by rfl) hF Tryz.underlying56 (by rfl) (by kernel_rfl)) rfl ?_
    exact ⟨rfl, hB⟩

/-! TakeLasts. -/
/-- What a reader has left behind j numbers of at most 40; the j-th of them. -/
def stN (st : Rest) : Nat → Rest
  | 0 => st
  | j + 1 => (numOf (stN st j) 40).2
def vN (st : Rest) (j : Nat) : Nat := (numOf (stN st j) 40).1
def vZ (st : Rest) (j i : Nat) : Int := if i < j then (vN st i : Int) else 0
abbrev rowLa (st : Rest) (j : Nat) : Array Value := laI (vZ st j 0) (vZ st j 1) (vZ st j 2) (vZ st j 3) (vZ st j 4) (vZ st j 5) (vZ st j 6) (vZ st j 7) (vZ st j 8) (vZ st j 9) (vZ st j 10) (vZ st j 11)
theorem vZ_old {st : Rest} {j i : Nat} (h : i ≠ j) : vZ st (j + 1) i = vZ st j i := by
  unfold vZ
  by_cases hi : i < j
  · rw [if_pos hi, if_pos (by omega)]
  · rw [if_neg hi, if_neg (by omega)]
theorem vZ_new (st : Rest) (j : Nat) : vZ st (j + 1) j = (vN st j : Int) := if_pos (by omega)
theorem rowLa_set (st : Rest) {j : Nat} (hj : j < 12) : (rowLa st j).setIfInBounds j (.int .i64 (vN st j : Int)) = rowLa st (j + 1) := by
  have h : ∀ i, vZ st (j + 1) i = if i = j then (vN st j : Int) else vZ st j i := by
    intro i
    by_cases e : i = j
    · rw [if_pos e, e, vZ_new]
    · rw [if_neg e, vZ_old e]
  have hc : j = 0 ∨ j = 1 ∨ j = 2 ∨ j = 3 ∨ j = 4 ∨ j = 5 ∨ j = 6 ∨ j = 7 ∨ j = 8 ∨ j = 9 ∨ j = 10 ∨ j = 11 := by omega
  unfold rowLa
  simp only [h]
  rcases hc with rfl | rfl | rfl | rfl | rfl | rfl | rfl | rfl | rfl | rfl | rfl | rfl <;> rfl
theorem rowLa_at (st : Rest) (i : Nat) {j : Nat} (hj : j < 12) : (rowLa st i)[j]? = some (.int .i64 (vZ st i j)) := by
  have hc : j = 0 ∨ j = 1 ∨ j = 2 ∨ j = 3 ∨ j = 4 ∨ j = 5 ∨ j = 6 ∨ j = 7 ∨ j = 8 ∨ j = 9 ∨ j = 10 ∨ j = 11 := by omega
  rcases hc with rfl | rfl | rfl | rfl | rfl | rfl | rfl | rfl | rfl | rfl | rfl | rfl <;> rfl
abbrev lastsOf (st : Rest) : List Int := laL (vZ st 12 0) (vZ st 12 1) (vZ st 12 2) (vZ st 12 3) (vZ st 12 4) (vZ st 12 5) (vZ st 12 6) (vZ st 12 7) (vZ st 12 8) (vZ st 12 9) (vZ st 12 10) (vZ st 12 11)
/-- What a reader takes of lasts, and has left; nothing: an error. -/
def outLa (st : Rest) : Option (List Int × List UInt8) := match stN st 12 with
  | none => none
  | some b => if goodLa (lastsOf st) = true then some (lastsOf st, b) else none
def TakenLa (S : Addr) (g : Nat) (r : Option (List Int × List UInt8)) (w : World) (e : Ending) (w' : World) : Prop :=
  (match r with
    | some (l, b) => e = .returned (.tuple #[.agg (lastsI l), .int .i64 0]) ∧ RdrP S w' g (some b)
    | none => e = .returned (.tuple #[.agg (laI 0 0 0 0 0 0 0 0 0 0 0 0), .int .i64 2]) ∧ ∃ st, RdrP S w' g st) ∧ w.grownBy w' (some g)
set_option maxRecDepth 100000 in
set_option maxHeartbeats 4000000 in
theorem takeLaRaw_any (S : Addr) (g : Nat) (st : Rest) (T : Array Value) (en : Int) (hT : (if stN st 12 ≠ none ∧ goodLa (lastsOf st) = true then (Value.tuple #[.agg (rowLa st 12), .int .i64 0]) else .tuple #[.agg (laI 0 0 0 0 0 0 0 0 0 0 0 0), .int .i64 2]) = .tuple #[.agg T, .int .i64 en]) (t0 : T = laI (intOf (T.getD 0 undef)) (intOf (T.getD 1 undef)) (intOf (T.getD 2 undef)) (intOf (T.getD 3 undef)) (intOf (T.getD 4 undef)) (intOf (T.getD 5 undef)) (intOf (T.getD 6 undef)) (intOf (T.getD 7 undef)) (intOf (T.getD 8 undef)) (intOf (T.getD 9 undef)) (intOf (T.getD 10 undef)) (intOf (T.getD 11 undef))) (w : World) (hL : LaidS S w) (hR : RdrP S w g st) :
    Calls Tryz.prog 106 #[.pointer (some ⟨g, 0, none⟩)] w fun e w' => e = .returned (.tuple #[.agg T, .int .i64 en]) ∧ RdrP S w' g (stN st 12) ∧ w.grownBy w' (some g) := by
  have hlt := hR.lt
  have HS := Lib.hid (fun W hR => soundLa_any S g (stN st 12) (vZ st 12 0) (vZ st 12 1) (vZ st 12 2) (vZ st 12 3) (vZ st 12 4) (vZ st 12 5) (vZ st 12 6) (vZ st 12 7) (vZ st 12 8) (vZ st 12 9) (vZ st 12 10) (vZ st 12 11) W hR)
  have HT := Lib.hid hT
  generalize hq0 : intOf (T.getD 0 undef) = a0 at t0
  generalize hq1 : intOf (T.getD 1 undef) = a1 at t0
  generalize hq2 : intOf (T.getD 2 undef) = a2 at t0
  generalize hq3 : intOf (T.getD 3 undef) = a3 at t0
  generalize hq4 : intOf (T.getD 4 undef) = a4 at t0
  generalize hq5 : intOf (T.getD 5 undef) = a5 at t0
  generalize hq6 : intOf (T.getD 6 undef) = a6 at t0
  generalize hq7 : intOf (T.getD 7 undef) = a7 at t0
  generalize hq8 : intOf (T.getD 8 undef) = a8 at t0
  generalize hq9 : intOf (T.getD 9 undef) = a9 at t0
  generalize hq10 : intOf (T.getD 10 undef) = a10 at t0
  generalize hq11 : intOf (T.getD 11 undef) = a11 at t0
  subst t0
  clear hq0 hq1 hq2 hq3 hq4 hq5 hq6 hq7 hq8 hq9 hq10 hq11 hT
  go_enter Tryz.func106, Tryz.ntmps106
  go_upto_region 2 with fail
  have hX := blk_new w (laI 0 0 0 0 0 0 0 0 0 0 0 0) 56
  have hba := b0 w (.cells (laI 0 0 0 0 0 0 0 0 0 0 0 0) 56)
  have hz1 : (w.alloc (.cells (laI 0 0 0 0 0 0 0 0 0 0 0 0) 56)).heap.size = w.heap.size + 1 := by simp
  have hY := blk_new (w.alloc (.cells (laI 0 0 0 0 0 0 0 0 0 0 0 0) 56)) (laI 0 0 0 0 0 0 0 0 0 0 0 0) 56
  rw [hz1] at hY
  have hXa := hX.alloc (.cells (laI 0 0 0 0 0 0 0 0 0 0 0 0) 56)
  have hbb := ba hba (.cells (laI 0 0 0 0 0 0 0 0 0 0 0 0) 56)
  have hRb := hR.below hbb
  have hLb := hL.keep hbb
  have hGb := grown_below hbb (some g)
  have HLL := Lib.hid (fun W (hg : w.grownBy W (some g)) => hL.grown hR hg)
  clear hX hba hR hL hbb
  generalize (w.alloc (.cells (laI 0 0 0 0 0 0 0 0 0 0 0 0) 56)).alloc (.cells (laI 0 0 0 0 0 0 0 0 0 0 0 0) 56) = W at hY hXa hRb hLb hGb ⊢
  (try simp only [hz1])
  have hne0 : w.heap.size ≠ g := by omega
  have hne1 : w.heap.size + 1 ≠ g := by omega
  go_wp2_with fail
  go_loopw [5, 6] (fun _ i wr => ∃ j : Nat, j ≤ 12 ∧ i = .int .i64 j ∧ RdrP S wr g (stN st j) ∧ Blk wr (w.heap.size + 1) (rowLa st j) 56 ∧ Blk wr w.heap.size (laI 0 0 0 0 0 0 0 0 0 0 0 0) 56 ∧ w.grownBy wr (some g)) (fun _ i _ => 12 - (intOf i).toNat)
  case atStart => exact ⟨0, by omega, rfl, hRb, hY, hXa, hGb⟩
  case round =>
    clear hRb hLb hGb hY hXa
    obtain ⟨j, hj, rfl, hR, hY, hX, hG⟩ := hrel
    by_cases hlt2 : j < 12
    · have i1 : (0 : Int) ≤ (j : Int) := by omega
      have i2 : (j : Int) < 12 := by omega
      have HN := Lib.hid (rNumber_any S g (stN st j) 40 wr (HLL.out wr hG) hR (by omega))
      have hm : vN st j ≤ 40 := (numOf_lt (stN st j) 40).1
      have HRow := Lib.hid (rowLa_set st hlt2)
      have hx1 : wrap64 (vN st j : Int) = (vN st j : Int) := by unfold wrap64; omega
      have hx2 : IntKind.i64.wrap (vN st j : Int) = (vN st j : Int) := IntWalk.i64_in _ (by omega)
      have HN2 : Hid (Calls Tryz.prog 32 #[.pointer (some ⟨g, 0, none⟩), .int .u64 40] wr fun e w' => e = .returned (.int .u64 ((vN st j : Nat) : Int)) ∧ RdrP S w' g (stN st (j + 1)) ∧ wr.grownBy w' (some g)) := HN.out
      clear HN
      go_wp2_with (go_at_call 32; refine HN2.out.mono ?_; rintro e w2 ⟨rfl, hR2, hg2⟩; have hY2 := grown_row hY hg2 hne1; have hX2 := grown_row hX hg2 hne0; have y1 := (hY2.cell j).trans (rowLa_at st j hlt2); have f1 := hY2.free j)
      have hY3 := hY2.set j (.int .i64 (vN st j : Int))
      rw [HRow.out] at hY3
      go_roundw
      case rel => exact ⟨j + 1, by omega, by go_num, hR2.keep (row := some (w.heap.size + 1)) set_grown (by simpa using hne1), hY3, hX2.other (by omega) j _, grown_then' (hG.trans hg2) ((Below.refl _ _).setCell (p := ⟨w.heap.size + 1, j, none⟩) (Nat.le_succ _) _)⟩
      case measure => simp [intOf]; omega
    · have hq : ¬ (j : Int) < 12 := by omega
      have e : j = 12 := by omega
      subst e
      have HS2 := Lib.hid (HS.out wr hR)
      rw [HT.out] at HS2
      have q0 := hY.cell 0
      have q1 := hY.cell 1
      have q2 := hY.cell 2
      have q3 := hY.cell 3
      have q4 := hY.cell 4
      have q5 := hY.cell 5
      have q6 := hY.cell 6
      have q7 := hY.cell 7
      have q8 := hY.cell 8
      have q9 := hY.cell 9
      have q10 := hY.cell 10
      have q11 := hY.cell 11
      clear HS HT
      go_wp2_with (go_at_call 152; refine HS2.out.mono ?_; rintro e w3 ⟨rfl, hb3⟩; have hX3 := hX.keep hb3; have x0 := hX3.cell 0; have f0 := hX3.free 0; have x1 := hX3.cell 1; have f1 := hX3.free 1; have x2 := hX3.cell 2; have f2 := hX3.free 2; have x3 := hX3.cell 3; have f3 := hX3.free 3; have x4 := hX3.cell 4; have f4 := hX3.free 4; have x5 := hX3.cell 5; have f5 := hX3.free 5; have x6 := hX3.cell 6; have f6 := hX3.free 6; have x7 := hX3.cell 7; have f7 := hX3.free 7; have x8 := hX3.cell 8; have f8 := hX3.free 8; have x9 := hX3.cell 9; have f9 := hX3.free 9; have x10 := hX3.cell 10; have f10 := hX3.free 10; have x11 := hX3.cell 11; have f11 := hX3.free 11)
      (try simp only [Exit.inBlock, Exit.then])
      refine bodyPost_ret (results_cell_tmp_row Tryz.results106 _ _ w.heap.size 56 (laI a0 a1 a2 a3 a4 a5 a6 a7 a8 a9 a10 a11) (0, 0) _ (by rfl) (set12 hX3 (.int .i64 a0) (.int .i64 a1) (.int .i64 a2) (.int .i64 a3) (.int .i64 a4) (.int .i64 a5) (.int .i64 a6) (.int .i64 a7) (.int .i64 a8) (.int .i64 a9) (.int .i64 a10) (.int .i64 a11)) Tryz.underlying56 (by rfl) (by kernel_rfl)) rfl ?_
      exact ⟨rfl, (hR.below hb3).keep (row := some w.heap.size) (grown12 w3 w.heap.size (.int .i64 a0) (.int .i64 a1) (.int .i64 a2) (.int .i64 a3) (.int .i64 a4) (.int .i64 a5) (.int .i64 a6) (.int .i64 a7) (.int .i64 a8) (.int .i64 a9) (.int .i64 a10) (.int .i64 a11)) (by simpa using hne0), grown_then' (hG.trans (grown_below hb3 (some g))) (below12 (Below.refl _ _) (Nat.le_refl _) (.int .i64 a0) (.int .i64 a1) (.int .i64 a2) (.int .i64 a3) (.int .i64 a4) (.int .i64 a5) (.int .i64 a6) (.int .i64 a7) (.int .i64 a8) (.int .i64 a9) (.int .i64 a10) (.int .i64 a11))⟩
theorem takeLa_any (S : Addr) (g : Nat) (st : Rest) (w : World) (hL : LaidS S w) (hR : RdrP S w g st) :
    Calls Tryz.prog 106 #[.pointer (some ⟨g, 0, none⟩)] w fun e w' => TakenLa S g (outLa st) w e w' := by
  by_cases hq : stN st 12 ≠ none ∧ goodLa (lastsOf st) = true
  · refine (takeLaRaw_any S g st (rowLa st 12) 0 (if_pos hq) rfl w hL hR).mono fun e w' ⟨he, hR', hG⟩ => ⟨?_, hG⟩
    unfold outLa
    cases h12 : stN st 12 with
    | none => exact absurd h12 hq.1
    | some b =>
      rw [h12] at hR'
      dsimp only
      rw [if_pos hq.2]
      exact ⟨he, hR'⟩
  · refine (takeLaRaw_any S g st (laI 0 0 0 0 0 0 0 0 0 0 0 0) 2 (if_neg hq) rfl w hL hR).mono fun e w' ⟨he, hR', hG⟩ => ⟨?_, hG⟩
    unfold outLa
    cases h12 : stN st 12 with
    | none =>
      rw [h12] at hR'
      exact ⟨he, none, hR'⟩
    | some b =>
      rw [h12] at hR'
      dsimp only
      rw [if_neg (fun h => hq ⟨by rw [h12]; simp, h⟩)]
      exact ⟨he, some b, hR'⟩
end Go.Proofs.YtpjleeeligahaaaGreatDoor
