/-
  WHAT IS PROVED: the law of FrameScans answers true for all bytes, if package frame's calls answer as FrameC says. Conditions: those typed in the theorem. · the law of the statement FrameScans answers true, over the code itself. Conditions: the package variables that the code reads hold what the program's text lays (LaidF).
-/
import Derived.Test.YtokkmofcijfmiaaDoorGQ3
import Derived.Test.YtokkmofcijfmiaaDoorGQ2
import Derived.BigQuiet
import Derived.Deep.QuietTactic
import Derived.Test.YtokkmofcijfmiaaDoorGQ8
namespace Go.Proofs.YtokkmofcijfmiaaDoor
open Go.RowKit

set_option maxRecDepth 100000 in
set_option maxHeartbeats 8000000 in
theorem lawFrameScans_any (hC : FrameC) (A : Option Addr) (n c : Nat) (b : List UInt8) (w : World) (hL : LaidF w) (hn : b.length = n) (hr : RdB w.heap.size w A b) (hc : n ≤ c) :
    Calls Tryd.prog 6 #[.slice A n c] w fun e w' => e = .returned (.bool true) ∧ Below w.heap.size w w' := by
  have HN := Lib.hid hn
  have HR := Lib.hid hr
  clear hn hr
  by_cases h : n ≤ 3000
  · have g1 : (n : Int) ≤ 3000 := by omega
    go_enter Tryd.func6, Tryd.ntmps6
    go_wp2_with fail
    refine (frameAwake hC w hL).mono ?_
    rintro e w1 ⟨rfl, B1⟩
    go_wp2_with fail
    refine (hC.scanC A n c b w1 (hL.keep B1) HN.out hc (by omega) ((HR.out.keep B1 (Nat.le_refl _)).more B1.size)).mono ?_
    rintro e w2 ⟨⟨l, m, code, A2, c2, hS, rfl, hP⟩, hb2⟩
    have B2 := bt B1 hb2
    clear hb2
    have HS0 : Hid (ScanR (b.drop 0) (l.drop 0) m code) := hS
    obtain ⟨L, hLl⟩ : ∃ L, l.length = L := ⟨_, rfl⟩
    have HLL := Lib.hid hLl
    have hLn : L ≤ 3000 := by
      have h1 := hS.le.2.1
      rw [hLl, HN.out] at h1
      omega
    rw [hLl]
    clear hS hLl
    have HP := Lib.hid hP
    clear hP
    go_wp2_with fail
    go_loopw [6, 7] (fun t u wr => ∃ (at_ i mr : Nat), t = .int .i64 at_ ∧ u = .int .i64 i ∧ at_ ≤ n ∧ i ≤ L ∧ at_ + mr = m ∧ Hid (ScanR (b.drop at_) (l.drop i) mr code) ∧ Below w2.heap.size w2 wr) (fun t _ _ => n - (intOf t).toNat)
    case atStart => exact ⟨0, 0, m, rfl, rfl, Nat.zero_le _, Nat.zero_le _, by omega, HS0, Below.refl _ _⟩
    case round =>
      obtain ⟨at_, i, mr, rfl, rfl, hat, hiL, hmr, hS, hB⟩ := hrel
      have BW := bt B2 hB
      by_cases hend : at_ = n
      · have i1 : (at_ : Int) = (n : Int) := by omega
        have hfin : L = i ∧ m = at_ ∧ code = 0 := by
          have hd : b.drop at_ = [] := List.drop_eq_nil_of_le (by rw [HN.out]; omega)
          rcases hS.out.step with ⟨_, h2, h3, h4⟩ | ⟨h1, _⟩ | ⟨h1, _⟩
          · have := List.drop_eq_nil_iff.1 h2
            rw [HLL.out] at this
            exact ⟨by omega, by omega, h4⟩
          · exact absurd hd h1
          · exact absurd hd h1
        obtain ⟨rfl, rfl, rfl⟩ := hfin
        clear hmr hS
        go_wp2_with fail
        go_ret
        exact ⟨by simp [hend], BW⟩
      · have i1 : ¬ (at_ : Int) = (n : Int) := by omega
        have i2 : (at_ : Int) ≤ (n : Int) := by omega
        have hyl : Hid ((b.drop at_).length = n - at_) := by show _ = _; rw [List.length_drop, HN.out]
        have hry := HR.out.cut (p := at_) (c := c) (by rw [HN.out]; exact hc)
        have hyne : Hid (b.drop at_ ≠ []) := by
          show _ ≠ _
          intro e
          have := hyl.out
          rw [e] at this
          simp at this
          omega
        have TF := refTakeF_any (cutA A c at_) (n - at_) (c - at_) (b.drop at_) wr hyl.out (hry.keep BW (Nat.le_refl _)) BW.size (by omega) (by omega)
        have hst := hS.out.step
        have hdd : ∀ s, (b.drop at_).drop s = b.drop (at_ + s) := fun s => by rw [List.drop_drop]
        have hfit := fun h => takeF_fits (b := b.drop at_) h
        rw [hyl.out] at hfit
        have hcd := takeF_code (b.drop at_)
        generalize b.drop at_ = y at TF hst hyne hdd hfit hcd
        unfold TakeFP at TF
        generalize takeF y = r at TF hst hfit hcd
        obtain ⟨rk, rin, rs, rcode⟩ := r
        simp only at TF hst hfit hcd
        have HTF := Lib.hid TF
        have qc := fun W => run_cut W A n c at_ (by omega)
        rcases hst with ⟨h1, _⟩ | ⟨_, h2, h3, h4, h5⟩ | ⟨_, h2, l', m', h3, h4, h5⟩
        · exact absurd h1 hyne.out
        · have hLi : L = i := by
            have := List.drop_eq_nil_iff.1 h3
            rw [HLL.out] at this
            omega
          have hmat : m = at_ := by omega
          subst hLi
          subst hmat
          subst h5
          have e1 : ((code : Int) != 0) = true := by rw [bne_iff_ne]; omega
          have e2 : ((code : Int) == 0) = false := by rw [beq_eq_false_iff_ne]; omega
          have e3 : ¬ (code : Int) = 0 := by omega
          clear hS TF hdd hfit hcd h2 h3 h4 hmr
          go_wp2_with fail
          refine HTF.out.mono ?_
          rintro e w3 ⟨⟨A3, c3, rfl, hr3⟩, hb3⟩
          have B3 := bt BW hb3
          clear HTF
          go_wp2_with fail
          go_ret
          exact ⟨by simp, B3⟩
        · subst h2
          obtain ⟨f1, f2, f3⟩ := hfit rfl
          have hli : l[i]? = some (rk, rin) := by
            have := List.getElem?_drop (xs := l) (i := i) (j := 0)
            rw [h3] at this
            simpa using this.symm
          have hilt : i < L := by
            have := (List.getElem?_eq_some_iff.1 hli).1
            rw [HLL.out] at this
            exact this
          have hnx : l.drop (i + 1) = l' := by
            rw [← List.drop_drop, h3]
            rfl
          obtain ⟨ad, A4, c4, rfl, hbl, q0, q1, hr4⟩ := HP.out i (rk, rin) hli
          have HQ0 := Lib.hid q0
          have HQ1 := Lib.hid q1
          have HS2 : Hid (ScanR (b.drop (at_ + rs)) (l.drop (i + 1)) m' code) := by
            show ScanR _ _ _ _
            rw [hnx, ← hdd]
            exact h5
          have j1 : (i : Int) < (L : Int) := by omega
          have j2 : ¬ (L : Int) ≤ (i : Int) := by omega
          have j3 : (0 : Int) ≤ (i : Int) := by omega
          obtain ⟨il, hil⟩ : ∃ il, rin.length = il := ⟨_, rfl⟩
          rw [hil] at HTF f3
          have HIL := Lib.hid hil
          simp only at q0 q1 hr4
          rw [hil] at q1
          clear hS TF hdd hfit hcd h3 h5 hnx hli hil
          go_wp2_with fail
          refine HTF.out.mono ?_
          rintro e w3 ⟨⟨A3, c3, rfl, hr3⟩, hb3⟩
          have B3 := bt BW hb3
          have hB3 := bt hB hb3
          have k0 := (hB3.cell (p := ad.add (i * 2)) (by rw [add_block]; exact hbl)).trans q0
          have k1 := (hB3.cell (p := ⟨(ad.add (i * 2)).block, (ad.add (i * 2)).off + 1, none⟩) (by show (ad.add (i * 2)).block < _; rw [add_block]; exact hbl)).trans q1
          have cv1 := fun q => conv_rd (w3.drewN q) A4 il c4 rin HIL.out ((hr4.keep hB3 (Nat.le_refl _)).draws q)
          have cv2 := fun q => conv_rd (w3.drewN q) A3 il c3 rin HIL.out (hr3.draws q)
          clear HTF q0 q1 hr4 hr3
          have d1 : decide ((L : Int) ≤ (i : Int)) = false := decide_eq_false (by omega)
          have d2 : decide (L ≤ i) = false := decide_eq_false (by omega)
          go_wp2_with fail
          go_quiet (fail)
          go_wp2_with fail
          go_roundw
          case rel => exact ⟨at_ + rs, i + 1, m', by go_num, by go_num, by omega, by omega, by omega, HS2, hB3.os, hB3.tape, hB3.output, hB3.size, hB3.block⟩
          case measure => simp [intOf]; omega
  · have g1 : (3000 : Int) < (n : Int) := by omega
    go_enter Tryd.func6, Tryd.ntmps6
    go_wp2_with fail
    refine (frameAwake hC w hL).mono ?_
    rintro e w1 ⟨rfl, B1⟩
    go_wp2_with fail
    refine (frameAwake hC w1 (hL.keep B1)).mono ?_
    rintro e w2 ⟨rfl, hb2⟩
    go_wp2_with fail
    go_ret
    exact ⟨rfl, bt B1 hb2⟩
end Go.Proofs.YtokkmofcijfmiaaDoor

namespace Go.Proofs.YtokkmofcijfmiaaDoor
open Go.RowKit

theorem lawFrameScans_all (A : Option Addr) (n c : Nat) (l : List UInt8) (w : World) (hn : l.length = n) (hr : RdB w.heap.size w A l) (hc : n ≤ c) (_ : c ≤ maxLen) (hL : LaidF w) :
    Calls Tryd.prog 6 #[.slice A n c] w fun e w' => e = .returned (.bool true) ∧ Below w.heap.size w w' :=
  lawFrameScans_any frameC A n c l w hL hn hr hc
end Go.Proofs.YtokkmofcijfmiaaDoor
