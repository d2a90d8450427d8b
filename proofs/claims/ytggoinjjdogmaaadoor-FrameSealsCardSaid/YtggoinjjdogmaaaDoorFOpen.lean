/-
  WHAT IS PROVED: package frame's Open and Seal: what they answer, as the chapter says. Conditions: those typed in each theorem.
-/
import Derived.Test.YtggoinjjdogmaaaDoorFUns
import Derived.Test.YtggoinjjdogmaaaDoorFrameMath
namespace Go.Proofs.YtggoinjjdogmaaaDoor
open Go.RowKit

/-- What Open comes to. -/
theorem open_size {b : List UInt8} : ((takeF b).2.2.1 = 0 → openF b = (0, [], 2)) ∧ ((takeF b).2.2.1 ≠ 0 → (takeF b).2.2.1 ≠ b.length → (takeF b).2.2.1 < b.length ∧ openF b = (0, [], 2)) ∧
    ((takeF b).2.2.1 = b.length → (takeF b).2.2.1 ≠ 0 → openF b = unsF b ∧ 9 ≤ b.length) := by
  refine ⟨fun h => ?_, fun h k => ?_, fun h k => ?_⟩
  · unfold openF
    rw [if_pos (.inr h)]
  · obtain ⟨_, _, _, q4, q5⟩ := takeF_size h
    refine ⟨by omega, ?_⟩
    unfold openF
    rw [if_pos (.inl k)]
  · obtain ⟨q1, q2, q3, q4, q5⟩ := takeF_size k
    have hu := uns_take q1 q2 q3 q4
    rw [List.take_of_length_le (by omega)] at hu
    refine ⟨?_, q1⟩
    unfold openF
    rw [if_neg (by omega), hu]

set_option maxRecDepth 100000 in
set_option maxHeartbeats 4000000 in
theorem open_any (A : Option Addr) (n c : Nat) (b : List UInt8) (w : World) (hL : LaidF w) (hn : b.length = n) (hc : n ≤ c) (hm : n ≤ 200000) (hr : RdB w.heap.size w A b) :
    Calls Tryd.prog 15 #[.slice A n c] w fun e w' => (∃ (A' : Option Addr) (c' : Nat), e = .returned (.tuple #[.agg #[.int .u8 ((openF b).1.toNat : Int), .slice A' (openF b).2.1.length c'], .int .i64 ((openF b).2.2 : Nat)]) ∧ OwnB w.heap.size w' A' (openF b).2.1.length c' (openF b).2.1) ∧ Below w.heap.size w w' := by
  have hO := @open_size b
  have HN := Lib.hid hn
  have gm : (n : Int) ≤ 200000 := by omega
  have hB1 := b0 w (.cells #[.int .u8 0, .slice none 0 0] 31)
  have hP := blk_new w #[.int .u8 0, .slice none 0 0] 31
  have FL := length_any A n c b (w.alloc (.cells #[.int .u8 0, .slice none 0 0] 31)) hn (hr.keep hB1 (Nat.le_refl _)) (by omega)
  have HA := Lib.hid (fun W (h : Below w.heap.size w W) v m (hv : ErrF v m) => answer_any v m W (hL.keep h) hv)
  have HU := Lib.hid (fun W (h : Below w.heap.size w W) (h9 : 9 ≤ n) => unseal_any A n c b W (hL.keep h) hn (hr.keep h (Nat.le_refl _)) h.size h9 hc (by omega))
  rw [hn] at hO
  generalize openF b = r at hO ⊢
  generalize unsF b = u at hO HU
  generalize (takeF b).2.2.2 = code at FL
  generalize (takeF b).2.2.1 = s at FL hO
  have HO := Lib.hid hO
  have HFL := Lib.hid FL
  clear hO FL hn
  go_enter Tryd.func15, Tryd.ntmps15
  go_wp2_with fail
  refine HFL.out.mono ?_
  rintro e w1 ⟨⟨v, rfl, hv⟩, hb1⟩
  replace hB1 := bt hB1 hb1
  replace hP := hP.keep hb1
  clear HFL hb1
  rcases hv with ⟨hs0, rfl⟩ | ⟨hs0, rfl, hv⟩
  · by_cases hsn : s = n
    · have e1 : ¬ (s : Int) < (n : Int) := by omega
      have R := Lib.hid (HO.out.2.2 hsn hs0)
      have FU := Lib.hid (HU.out w1 hB1 R.out.2)
      clear HU HO
      go_wp2_with fail
      refine FU.out.mono ?_
      rintro e w2 ⟨⟨A2, c2, v, rfl, hO2, hv⟩, hb2⟩
      have hlt1 := hP.lt
      have hz1 := hB1.size
      replace hB1 := bt hB1 hb2
      replace hP := hP.keep hb2
      have RU : Hid (r = u) := R.out.1
      obtain ⟨k, ins, m⟩ := u
      simp only at hO2 hv ⊢
      generalize hil : ins.length = il at hO2 ⊢
      have HIL := Lib.hid hil
      have hQ := blk_new w2 #[.int .u8 (k.toNat : Int), .slice A2 il c2] 31
      have hO3 := hO2.keep (b0 w2 (.cells #[.int .u8 (k.toNat : Int), .slice A2 il c2] 31))
      have hB3 := ba hB1 (.cells #[.int .u8 (k.toNat : Int), .slice A2 il c2] 31)
      have hP3 := hP.keep (b0 w2 (.cells #[.int .u8 (k.toNat : Int), .slice A2 il c2] 31))
      have hlt3 : w.heap.size < (w2.alloc (.cells #[.int .u8 (k.toNat : Int), .slice A2 il c2] 31)).heap.size := hP3.lt
      clear FU hb2 hil
      go_wp2_with fail
      go_region_with ((go_at_call 20; refine (HA.out _ (below_draws hB3 _) v m hv.err).mono ?_; rintro e w4 ⟨rfl, hb4⟩; have hP4 := Blk.keep (Blk.drew hP3 _) hb4; have hQ4 := Blk.keep (Blk.drew hQ _) hb4; have p0 := hP4.cell 0; have p1 := hP4.cell 1; have f0 := hP4.free 0; have f1 := hP4.free 1; have q0 := hQ4.cell 0; have q1 := hQ4.cell 1; have hO4 := OwnB.keep (OwnB.draws hO3 _) hb4; have hB4 := bt (below_draws hB3 _) hb4))
      all_goals
        go_wp2_with fail
        have hP8 := (hP4.set 0 (.int .u8 (k.toNat : Int))).set 1 (.slice A2 il c2)
        have hO8 := ((hO4.other hlt1 0 (.int .u8 (k.toNat : Int))).other hlt1 1 (.slice A2 il c2)).less hz1
        have hB8 : Below w.heap.size w ((w4.setCell ⟨w.heap.size, 0, none⟩ (.int .u8 (k.toNat : Int))).setCell ⟨w.heap.size, 1, none⟩ (.slice A2 il c2)) := (hB4.setCell (p := ⟨w.heap.size, 0, none⟩) (Nat.le_refl _) _).setCell (p := ⟨w.heap.size, 1, none⟩) (Nat.le_refl _) _
        generalize (w4.setCell ⟨w.heap.size, 0, none⟩ (.int .u8 (k.toNat : Int))).setCell ⟨w.heap.size, 1, none⟩ (.slice A2 il c2) = W8 at hP8 hO8 hB8 ⊢
        have p2 : W8.cell? ⟨w.heap.size, 0, none⟩ = some (.int .u8 (k.toNat : Int)) := hP8.cell 0
        have p3 : W8.cell? ⟨w.heap.size, 1, none⟩ = some (.slice A2 il c2) := hP8.cell 1
        refine bodyPost_ret (v := .tuple #[.agg #[.int .u8 (k.toNat : Int), .slice A2 il c2], .int .i64 (m : Nat)]) (by simp [results, Tryd.results15, go_sem, p2, p3]) rfl ?_
        rw [RU.out]
        simp only
        rw [HIL.out]
        exact ⟨⟨A2, c2, rfl, hO8⟩, hB8⟩
    · have R := Lib.hid (HO.out.2.1 hs0 hsn).2
      have e1 : (s : Int) < (n : Int) := by
        have := (HO.out.2.1 hs0 hsn).1
        omega
      have HV : Hid (ErrF (.iface 54 (.agg #[.int .i64 (n : Nat), .int .i64 2])) 2) := .inr (.inr ⟨_, rfl⟩)
      clear HU HO
      go_wp2_with fail
      refine (HA.out w1 hB1 _ 2 HV.out).mono ?_
      rintro e w4 ⟨rfl, hb4⟩
      have hP4 := hP.keep hb4
      have hB4 := bt hB1 hb4
      have p0 := hP4.cell 0
      have p1 := hP4.cell 1
      have f0 := hP4.free 0
      have f1 := hP4.free 1
      go_wp2_with fail
      have hP8 := (hP4.set 0 (.int .u8 0)).set 1 (.slice none 0 0)
      have hB8 : Below w.heap.size w ((w4.setCell ⟨w.heap.size, 0, none⟩ (.int .u8 0)).setCell ⟨w.heap.size, 1, none⟩ (.slice none 0 0)) := (hB4.setCell (p := ⟨w.heap.size, 0, none⟩) (Nat.le_refl _) _).setCell (p := ⟨w.heap.size, 1, none⟩) (Nat.le_refl _) _
      generalize (w4.setCell ⟨w.heap.size, 0, none⟩ (.int .u8 0)).setCell ⟨w.heap.size, 1, none⟩ (.slice none 0 0) = W8 at hP8 hB8 ⊢
      have p2 : W8.cell? ⟨w.heap.size, 0, none⟩ = some (.int .u8 0) := hP8.cell 0
      have p3 : W8.cell? ⟨w.heap.size, 1, none⟩ = some (.slice none 0 0) := hP8.cell 1
      refine bodyPost_ret (v := .tuple #[.agg #[.int .u8 0, .slice none 0 0], .int .i64 2]) (by simp [results, Tryd.results15, go_sem, p2, p3]) rfl ?_
      rw [R.out]
      exact ⟨⟨none, 0, rfl, OwnB.nil _ _⟩, hB8⟩
  · have R := Lib.hid (HO.out.1 hs0)
    rcases hv with rfl | ⟨l, rfl⟩
    · have HV : Hid (ErrF (.iface 62 (.int .i64 2)) 2) := .inr (.inl rfl)
      clear HU HO
      go_wp2_with fail
      refine (HA.out w1 hB1 _ 2 HV.out).mono ?_
      rintro e w4 ⟨rfl, hb4⟩
      have hP4 := hP.keep hb4
      have hB4 := bt hB1 hb4
      have p0 := hP4.cell 0
      have p1 := hP4.cell 1
      have f0 := hP4.free 0
      have f1 := hP4.free 1
      go_wp2_with fail
      have hP8 := (hP4.set 0 (.int .u8 0)).set 1 (.slice none 0 0)
      have hB8 : Below w.heap.size w ((w4.setCell ⟨w.heap.size, 0, none⟩ (.int .u8 0)).setCell ⟨w.heap.size, 1, none⟩ (.slice none 0 0)) := (hB4.setCell (p := ⟨w.heap.size, 0, none⟩) (Nat.le_refl _) _).setCell (p := ⟨w.heap.size, 1, none⟩) (Nat.le_refl _) _
      generalize (w4.setCell ⟨w.heap.size, 0, none⟩ (.int .u8 0)).setCell ⟨w.heap.size, 1, none⟩ (.slice none 0 0) = W8 at hP8 hB8 ⊢
      have p2 : W8.cell? ⟨w.heap.size, 0, none⟩ = some (.int .u8 0) := hP8.cell 0
      have p3 : W8.cell? ⟨w.heap.size, 1, none⟩ = some (.slice none 0 0) := hP8.cell 1
      refine bodyPost_ret (v := .tuple #[.agg #[.int .u8 0, .slice none 0 0], .int .i64 2]) (by simp [results, Tryd.results15, go_sem, p2, p3]) rfl ?_
      rw [R.out]
      exact ⟨⟨none, 0, rfl, OwnB.nil _ _⟩, hB8⟩
    · have HV : Hid (ErrF (.iface 54 (.agg #[.int .i64 l, .int .i64 2])) 2) := .inr (.inr ⟨l, rfl⟩)
      clear HU HO
      go_wp2_with fail
      refine (HA.out w1 hB1 _ 2 HV.out).mono ?_
      rintro e w4 ⟨rfl, hb4⟩
      have hP4 := hP.keep hb4
      have hB4 := bt hB1 hb4
      have p0 := hP4.cell 0
      have p1 := hP4.cell 1
      have f0 := hP4.free 0
      have f1 := hP4.free 1
      go_wp2_with fail
      have hP8 := (hP4.set 0 (.int .u8 0)).set 1 (.slice none 0 0)
      have hB8 : Below w.heap.size w ((w4.setCell ⟨w.heap.size, 0, none⟩ (.int .u8 0)).setCell ⟨w.heap.size, 1, none⟩ (.slice none 0 0)) := (hB4.setCell (p := ⟨w.heap.size, 0, none⟩) (Nat.le_refl _) _).setCell (p := ⟨w.heap.size, 1, none⟩) (Nat.le_refl _) _
      generalize (w4.setCell ⟨w.heap.size, 0, none⟩ (.int .u8 0)).setCell ⟨w.heap.size, 1, none⟩ (.slice none 0 0) = W8 at hP8 hB8 ⊢
      have p2 : W8.cell? ⟨w.heap.size, 0, none⟩ = some (.int .u8 0) := hP8.cell 0
      have p3 : W8.cell? ⟨w.heap.size, 1, none⟩ = some (.slice none 0 0) := hP8.cell 1
      refine bodyPost_ret (v := .tuple #[.agg #[.int .u8 0, .slice none 0 0], .int .i64 2]) (by simp [results, Tryd.results15, go_sem, p2, p3]) rfl ?_
      rw [R.out]
      exact ⟨⟨none, 0, rfl, OwnB.nil _ _⟩, hB8⟩
end Go.Proofs.YtggoinjjdogmaaaDoor
