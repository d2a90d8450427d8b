/-
  WHAT IS PROVED: the law of FrameSeals answers true for every kind and all bytes, if package frame's calls answer as FrameC says. Conditions: those typed in the theorem.
-/
import Derived.Test.YtggoinjjdogmaaaDoorFrameMath
import Derived.Test.YtggoinjjdogmaaaDoorBytesOwn
import Derived.Test.YtggoinjjdogmaaaDoorMem
namespace Go.Proofs.YtggoinjjdogmaaaDoor
open Go.RowKit

theorem u8_inc (x : UInt8) : IntKind.u8.wrap ((x.toNat : Int) + 1) = ((x + 1 : UInt8).toNat : Int) := by
  rw [IntKind.wrap_u8, UInt8.toNat_add]
  have := x.toNat_lt
  show _ = (((x.toNat + 1) % 256 : Nat) : Int)
  omega

set_option maxRecDepth 100000 in
set_option maxHeartbeats 4000000 in
theorem lawFrameSeals_any (hC : FrameC) (k : UInt8) (A : Option Addr) (n c : Nat) (b : List UInt8) (w : World) (hL : LaidF w) (hn : b.length = n) (hr : RdB w.heap.size w A b) :
    Calls Tryd.prog 4 #[.int .u8 (k.toNat : Int), .slice A n c] w fun e w' => e = .returned (.bool true) ∧ Below w.heap.size w w' := by
  have HN := Lib.hid hn
  clear hn
  by_cases h : n ≤ 3000
  · have g1 : (n : Int) ≤ 3000 := by omega
    go_enter Tryd.func4, Tryd.ntmps4
    go_wp2_with fail
    refine (frameAwake hC w hL).mono ?_
    rintro e w1 ⟨rfl, B1⟩
    go_wp2_with fail
    refine (hC.sealC k A n c b w1 (hL.keep B1) HN.out (by omega) ((hr.keep B1 (Nat.le_refl _)).more B1.size)).mono ?_
    rintro e w2 ⟨⟨A2, c2, rfl, hO2⟩, hb2⟩
    have B2 := bt B1 hb2
    go_wp2_with fail
    refine (refSeal_any k A n c b w2 HN.out (hr.keep B2 (Nat.le_refl _)) B2.size (by omega)).mono ?_
    rintro e w3 ⟨⟨A3, c3, rfl, hO3⟩, hb3⟩
    have B3 := bt B2 hb3
    have hO23 := hO2.keep hb3
    have hf := hO23.rd
    have hcap := hO23.cap.1
    have hfl := hO23.len
    have cv1 := conv_rd w3 A2 (n + 9) c2 _ hfl hf
    have cv2 := conv_rd w3 A3 (n + 9) c3 _ hO3.len hO3.rd
    clear hO2 hO3 hO23 hb2 hb3
    have HOP := Lib.hid (open_seal k b (by rw [HN.out]; omega))
    generalize sealL k b = f at hf hfl cv1 cv2 HOP
    have HF := Lib.hid hf
    have HFL := Lib.hid hfl
    clear hf hfl
    go_wp2_with fail
    clear cv1 cv2
    go_loopw [46] (fun i wr => ∃ j : Nat, j ≤ 2 ∧ i = .int .i64 j ∧ Below w3.heap.size w3 wr) (fun i _ => 2 - (intOf i).toNat)
    case atStart => exact ⟨0, by omega, rfl, Below.refl _ _⟩
    case round =>
      obtain ⟨j, hj, rfl, hB⟩ := hrel
      have BW := bt B3 hB
      by_cases hjt : j < 2
      · have j1 : (j : Int) < 2 := by omega
        have hop := hC.openC A2 (n + 9) c2 f wr (hL.keep BW) HFL.out hcap (by omega) ((HF.out.keep hB (Nat.le_refl _)).more hB.size)
        rw [HOP.out] at hop
        have HOp := Lib.hid hop
        clear hop
        go_wp2_with fail
        refine HOp.out.mono ?_
        rintro e w4 ⟨⟨A4, c4, rfl, hO4⟩, hb4⟩
        clear HOp
        simp only at hO4 ⊢
        rw [HN.out] at hO4 ⊢
        go_wp2_with fail
        have hP := blk_new w4 #[.int .u8 (k.toNat : Int), .slice A4 n c4] 31
        have hO5 := hO4.keep (b0 w4 (.cells #[.int .u8 (k.toNat : Int), .slice A4 n c4] 31))
        have hb5 := bt hb4 (b0 w4 (.cells #[.int .u8 (k.toNat : Int), .slice A4 n c4] 31))
        have hz4 := hb4.size
        have hg4 : ∀ g, A4 = some ⟨g, 0, none⟩ → 0 < n → g < w4.heap.size := fun g e h => by
          obtain ⟨g', e', _, hl⟩ := hO4.form h
          rw [e] at e'
          injection e' with e'
          injection e' with e'
          omega
        generalize w4.alloc (.cells #[.int .u8 (k.toNat : Int), .slice A4 n c4] 31) = W at hP hO5 hb5 ⊢
        generalize hpb : w4.heap.size = pb at hP hz4 hg4 ⊢
        clear hO4 hpb
        have p0 : W.cell? ⟨pb, 0, none⟩ = some (.int .u8 (k.toNat : Int)) := hP.cell 0
        have p1 : W.cell? ⟨pb, 1, none⟩ = some (.slice A4 n c4) := hP.cell 1
        have cv1 := conv_rd W A4 n c4 b HN.out hO5.rd
        have cv2 := conv_rd W A n c b HN.out (hr.keep (bt BW hb5) (Nat.le_refl _))
        go_wp2_with fail
        rw [cv1]
        go_wp2_with fail
        clear p0 p1 cv1 cv2
        go_loopw [72] (fun i wx => ∃ (q : Nat) (l : List UInt8), q ≤ n ∧ i = .int .i64 q ∧ Blk wx pb #[.int .u8 (k.toNat : Int), .slice A4 n c4] 31 ∧ OwnB wr.heap.size wx A4 n c4 l ∧ Below wr.heap.size wr wx) (fun i _ => n - (intOf i).toNat)
        case atStart => exact ⟨0, b, Nat.zero_le _, rfl, hP, hO5, hb5⟩
        case round =>
          clear hP hO5 hb5
          obtain ⟨q, l, hq, rfl, hP, hO, hX⟩ := hrel
          by_cases hqt : q < n
          · have q1 : (0 : Int) ≤ (q : Int) := by omega
            have q2 : (q : Int) < (n : Int) := by omega
            obtain ⟨g, rfl, hgb, hgl⟩ := hO.form (by omega)
            have hgp : g < pb := hg4 g rfl (by omega)
            obtain ⟨x, hx⟩ : ∃ x, l[q]? = some x := ⟨_, List.getElem?_eq_getElem (show q < l.length by have := hO.len; omega)⟩
            have c0 := hO.cellAt hx
            have f0 := hO.free q
            have p1 : _ = some (Value.slice (some ⟨g, 0, none⟩) n c4) := hP.cell 1
            have hw := u8_inc x
            have hO' := hO.set q (x + 1)
            have hP' := hP.other (show pb ≠ g by omega) q (.int .u8 ((x + 1 : UInt8).toNat : Int))
            have hX' := hX.setCell (p := ⟨g, q, none⟩) hgb (.int .u8 ((x + 1 : UInt8).toNat : Int))
            have HH := Lib.hid (And.intro hO' (And.intro hP' hX'))
            clear hO' hP' hX' hx
            generalize (((x + 1 : UInt8).toNat : Nat) : Int) = y at hw HH
            go_wp2_with fail
            go_roundw
            case rel => exact ⟨q + 1, _, by omega, by go_num, HH.out.2.1, HH.out.1, HH.out.2.2⟩
            case measure => simp [intOf]; omega
          · have hqn : ¬ (q : Int) < (n : Int) := by omega
            go_wp2_with fail
            go_roundw
            case rel => exact ⟨j + 1, by omega, by go_num, bt hB hX⟩
            case measure => simp [intOf]; omega
      · have j1 : ¬ (j : Int) < 2 := by omega
        go_wp2_with fail
        go_ret
        exact ⟨rfl, BW⟩
  · have g1 : (3000 : Int) < (n : Int) := by omega
    go_enter Tryd.func4, Tryd.ntmps4
    go_wp2_with fail
    refine (frameAwake hC w hL).mono ?_
    rintro e w1 ⟨rfl, B1⟩
    go_wp2_with fail
    refine (frameAwake hC w1 (hL.keep B1)).mono ?_
    rintro e w2 ⟨rfl, hb2⟩
    go_wp2_with fail
    go_ret
    exact ⟨rfl, bt B1 hb2⟩
end Go.Proofs.YtggoinjjdogmaaaDoor
