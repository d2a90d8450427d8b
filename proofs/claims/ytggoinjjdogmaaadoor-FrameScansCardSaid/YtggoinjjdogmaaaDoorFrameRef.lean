/-
  WHAT IS PROVED: the document's taking of a frame from bytes (spinneyref06.Take) is takeF. Conditions: those typed in the theorem.
-/
import Derived.Test.YtggoinjjdogmaaaDoorSealRef
import Derived.Test.YtggoinjjdogmaaaDoorCut
import Derived.Test.YtggoinjjdogmaaaDoorConvRd
import Derived.Deep.RegionHeld3
import Derived.BigRegion
import Derived.IntWalk
namespace Go.Proofs.YtggoinjjdogmaaaDoor
open Go.RowKit

def byteAt (b : List UInt8) (i : Nat) : UInt8 := b.getD i 0
/-- How many bytes are inside, by the beginning. -/
def lenF (b : List UInt8) : Nat := 65536 * (byteAt b 2).toNat + 256 * (byteAt b 3).toNat + (byteAt b 4).toNat
/-- The kind, the inside, how long, the error. -/
def takeF (b : List UInt8) : UInt8 × List UInt8 × Nat × Nat :=
  if b.length < 9 ∨ byteAt b 0 ≠ 229 then (0, [], 0, 2)
  else if 100000 < lenF b ∨ b.length < lenF b + 9 then (0, [], 0, 2)
  else if sealL (byteAt b 1) ((b.drop 5).take (lenF b)) ≠ b.take (lenF b + 9) then (0, [], lenF b + 9, 4)
  else (byteAt b 1, (b.drop 5).take (lenF b), lenF b + 9, 0)
/-- What Take answers. -/
def TakeFP (B : Nat) (r : UInt8 × List UInt8 × Nat × Nat) (w : World) (e : Ending) (w' : World) : Prop :=
  (∃ (A : Option Addr) (c : Nat), e = .returned (.tuple #[.int .u8 (r.1.toNat : Int), .slice A r.2.1.length c, .int .i64 (r.2.2.1 : Nat), .int .i64 (r.2.2.2 : Nat)]) ∧ RdB B w' A r.2.1) ∧ Below w.heap.size w w'
theorem byteAt_get {b : List UInt8} {i : Nat} (h : i < b.length) : b[i]? = some (byteAt b i) := by
  unfold byteAt
  rw [List.getD_eq_getElem?_getD, List.getElem?_eq_getElem h]
  rfl
theorem five {B : Nat} {w : World} {A : Option Addr} {b : List UInt8} (hr : RdB B w A b) (h : 5 ≤ b.length) : ∃ ad, A = some ad ∧ ad.block < B ∧ w.cell? ad = some (.int .u8 ((byteAt b 0).toNat : Int)) ∧ w.cell? ⟨ad.block, ad.off + 1, none⟩ = some (.int .u8 ((byteAt b 1).toNat : Int)) ∧
    w.cell? ⟨ad.block, ad.off + 2, none⟩ = some (.int .u8 ((byteAt b 2).toNat : Int)) ∧ w.cell? ⟨ad.block, ad.off + 3, none⟩ = some (.int .u8 ((byteAt b 3).toNat : Int)) ∧ w.cell? ⟨ad.block, ad.off + 4, none⟩ = some (.int .u8 ((byteAt b 4).toNat : Int)) := by
  obtain ⟨ad, rfl, hbl, c0⟩ := hr 0 _ (byteAt_get (by omega))
  have g : ∀ i, i < 5 → w.cell? (ad.add i) = some (.int .u8 ((byteAt b i).toNat : Int)) := fun i hi => by
    obtain ⟨a2, e, _, c⟩ := hr i _ (byteAt_get (by omega))
    injection e with e
    subst e
    exact c
  refine ⟨ad, rfl, hbl, ?_, g 1 (by omega), g 2 (by omega), g 3 (by omega), g 4 (by omega)⟩
  have := g 0 (by omega)
  simpa [Addr.add] using this

theorem results_tmp4 {fn : Func} {t u v x : Tmp} (h : fn.results = #[.tmp t, .tmp u, .tmp v, .tmp x]) (tmps : Array Value) (P : Program) (w : World) :
    (results fn tmps).run P w = .ok (.tuple #[tmps.getD t undef, tmps.getD u undef, tmps.getD v undef, tmps.getD x undef]) w := by
  simp [results, h]
theorem sealF_is {B : Nat} (k : UInt8) (A : Option Addr) (n c : Nat) (l : List UInt8) (w : World) (hn : l.length = n) (hr : RdB B w A l) (hB : B ≤ w.heap.size) (hm : n ≤ 100000) :
    Calls Tryd.prog 14 #[.int .u8 (k.toNat : Int), .slice A n c] w fun e w' => (∃ (A' : Option Addr) (c' : Nat), e = .returned (.tuple #[.slice A' (n + 9) c', .bool true]) ∧ RdB w'.heap.size w' A' (sealL k l) ∧ (sealL k l).length = n + 9) ∧ Below w.heap.size w w' :=
  (refSeal_any k A n c l w hn hr hB hm).mono fun _ _ ⟨⟨A', c', he, hO⟩, hb⟩ => ⟨⟨A', c', he, hO.rd, hO.len⟩, hb⟩

set_option maxRecDepth 100000 in
set_option maxHeartbeats 8000000 in
theorem refTakeF_any {B : Nat} (A : Option Addr) (n c : Nat) (b : List UInt8) (w : World) (hn : b.length = n) (hr : RdB B w A b) (hB : B ≤ w.heap.size) (hc : n ≤ c) (hm : n ≤ 1000000000) :
    Calls Tryd.prog 18 #[.slice A n c] w fun e w' => TakeFP B (takeF b) w e w' := by
  have HN := Lib.hid hn
  have gm : (n : Int) ≤ 1000000000 := by omega
  by_cases h9 : n < 9
  · have g9 : (n : Int) < 9 := by omega
    have R : Hid (takeF b = (0, [], 0, 2)) := by show _ = _; unfold takeF; rw [if_pos (Or.inl (by omega))]
    clear hn
    go_enter Tryd.func18, Tryd.ntmps18
    go_wp2_with fail
    (try simp only [Exit.inBlock, Exit.then])
    refine bodyPost_ret (results_tmp4 rfl _ _ _) rfl ?_
    rw [R.out]
    exact ⟨⟨none, 0, rfl, RdB.nil _ _ _⟩, Below.refl _ _⟩
  · have g9 : ¬ (n : Int) < 9 := by omega
    obtain ⟨ad, rfl, hbl, c0, c1, c2, c3, c4⟩ := five hr (by omega)
    have b0' := (byteAt b 0).toNat_lt
    have b1' := (byteAt b 1).toNat_lt
    have b2' := (byteAt b 2).toNat_lt
    have b3' := (byteAt b 3).toNat_lt
    have b4' := (byteAt b 4).toNat_lt
    by_cases h0 : byteAt b 0 = 229
    · have e0 : (((byteAt b 0).toNat : Int) != 229) = false := by rw [h0]; rfl
      have e0' : (((byteAt b 0).toNat : Int) == 229) = true := by rw [h0]; rfl
      have HL : Hid (lenF b = 65536 * (byteAt b 2).toNat + 256 * (byteAt b 3).toNat + (byteAt b 4).toNat) := rfl
      have hs : (65536 * ((byteAt b 2).toNat : Int) + 256 * ((byteAt b 3).toNat : Int) + ((byteAt b 4).toNat : Int)) = (lenF b : Nat) := by rw [HL.out]; omega
      have HS := Lib.hid hs
      have H0 := Lib.hid h0
      clear hs h0 hn
      go_enter Tryd.func18, Tryd.ntmps18
      go_wp2_with fail
      go_region
      rw [HS.out]
      have hdw : ∀ A' l', RdB B w A' l' → RdB B w.drew A' l' := fun _ _ h => h
      generalize hLL : lenF b = N
      have HLL := Lib.hid hLL
      clear HS HL hLL
      by_cases hbig : 100000 < N
      · have g1 : (100000 : Int) < (N : Int) := by omega
        have R : Hid (takeF b = (0, [], 0, 2)) := by
          show _ = _
          unfold takeF
          rw [if_neg (by rw [H0.out, HN.out]; simp; omega), if_pos (Or.inl (by rw [HLL.out]; exact hbig))]
        go_wp2_with fail
        (try simp only [Exit.inBlock, Exit.then])
        refine bodyPost_ret (results_tmp4 rfl _ _ _) rfl ?_
        rw [R.out]
        exact ⟨⟨none, 0, rfl, RdB.nil _ _ _⟩, (Below.refl _ _).drew⟩
      · have g1 : ¬ (100000 : Int) < (N : Int) := by omega
        have g1' : (N : Int) ≤ 100000 := by omega
        by_cases hlong : n < N + 9
        · have g2 : (n : Int) < (N : Int) + 9 := by omega
          have R : Hid (takeF b = (0, [], 0, 2)) := by
            show _ = _
            unfold takeF
            rw [if_neg (by rw [H0.out, HN.out]; simp; omega), if_pos (Or.inr (by rw [HLL.out, HN.out]; exact hlong))]
          go_wp2_with fail
          (try simp only [Exit.inBlock, Exit.then])
          refine bodyPost_ret (results_tmp4 rfl _ _ _) rfl ?_
          rw [R.out]
          exact ⟨⟨none, 0, rfl, RdB.nil _ _ _⟩, (Below.refl _ _).drew⟩
        · have g2 : ¬ (n : Int) < (N : Int) + 9 := by omega
          have g3 : (N : Int) + 9 ≤ (n : Int) := by omega
          have q2 : ∀ W : World, (Instr.sliceAt 22 (.slice (some ad) n c) (some (.int .i64 5)) (some (.int .i64 ((N : Int) + 5))) none).run Tryd.prog W = .ok (.slice (cutA (some ad) c 5) N (c - 5)) W := fun W => by
            have h := run_cut2 W (some ad) n c 5 (N + 5) 5 ((N : Int) + 5) rfl (by omega) (by omega) (by omega) hc
            rwa [Nat.add_sub_cancel] at h
          have q0 : ∀ W : World, (Instr.sliceAt 22 (.slice (some ad) n c) none (some (.int .i64 ((N : Int) + 9))) none).run Tryd.prog W = .ok (.slice (some ad) (N + 9) c) W := fun W => run_cut0 W (some ad) n c (N + 9) _ (by omega) (by omega) hc
          have HSUB : Hid (((b.drop 5).take N).length = N) := by show _ = _; rw [List.length_take, List.length_drop, HN.out]; omega
          have hsub : RdB B w (cutA (some ad) c 5) ((b.drop 5).take N) := hr.sub (by rw [HN.out]; exact hc) N
          have FS : Hid (∀ W' : World, Below w.heap.size w W' → Calls Tryd.prog 14 #[.int .u8 ((byteAt b 1).toNat : Int), .slice (cutA (some ad) c 5) N (c - 5)] W' fun e w' => (∃ (A' : Option Addr) (c' : Nat), e = .returned (.tuple #[.slice A' (N + 9) c', .bool true]) ∧ RdB w'.heap.size w' A' (sealL (byteAt b 1) ((b.drop 5).take N)) ∧ (sealL (byteAt b 1) ((b.drop 5).take N)).length = N + 9) ∧ Below W'.heap.size W' w') :=
            fun W' h => sealF_is (byteAt b 1) _ N (c - 5) _ W' HSUB.out (hsub.keep h hB) (Nat.le_trans hB h.size) (by omega)
          have hlt := Nat.lt_of_lt_of_le hbl hB
          have n1 : (1 : Int) < (n : Int) := by omega
          have wr5 : IntKind.i64.wrap ((N : Int) + 5) = (N : Int) + 5 := IntWalk.i64_in _ (by omega)
          have wr9 : IntKind.i64.wrap ((N : Int) + 9) = (N : Int) + 9 := IntWalk.i64_in _ (by omega)
          have hS0 : w.drew.drew.cell? ⟨ad.block, ad.off + 1, none⟩ = some (.int .u8 ((byteAt b 1).toNat : Int)) ∧ Below w.heap.size w w.drew.drew := ⟨c1, (Below.refl w.heap.size w).drew.drew⟩
          go_wp2_with fail
          go_region_held3 (fun w' => w'.cell? ⟨ad.block, ad.off + 1, none⟩ = some (.int .u8 ((byteAt b 1).toNat : Int)) ∧ Below w.heap.size w w')
            (first | assumption | exact hS0 | exact ⟨((by assumption : Below w.heap.size w _).cell (p := ⟨ad.block, ad.off + 1, none⟩) hlt).trans c1, by assumption⟩)
            ((go_at_call 14; ((with_reducible refine (FS.out _ (And.right (by assumption))).mono ?_); rintro e w7 ⟨⟨A7, c7, rfl, hr7, hn7⟩, hb7⟩; have B7 : Below w.heap.size w w7 := bt (Below.refl w.heap.size w).drew.drew hb7)))
          have hrb := hr.keep B7 hB
          have cv1 := conv_rd w7.drew A7 (N + 9) c7 _ hn7 hr7.drew_
          have cv2 := conv_rd w7.drew (some ad) (N + 9) c (b.take (N + 9)) (by rw [List.length_take, HN.out]; omega) (hrb.take (N + 9)).drew_
          have c1' : w7.cell? ⟨ad.block, ad.off + 1, none⟩ = some (.int .u8 ((byteAt b 1).toNat : Int)) := (B7.cell (p := ⟨ad.block, ad.off + 1, none⟩) hlt).trans c1
          have hsub7 := hsub.keep B7 hB
          have es1 : (⟨(sealL (byteAt b 1) ((b.drop 5).take N)).toArray⟩ : ByteArray).data.toList = sealL (byteAt b 1) ((b.drop 5).take N) := rfl
          have es2 : (⟨(b.take (N + 9)).toArray⟩ : ByteArray).data.toList = b.take (N + 9) := rfl
          generalize (⟨(sealL (byteAt b 1) ((b.drop 5).take N)).toArray⟩ : ByteArray) = s1 at cv1 es1
          generalize (⟨(b.take (N + 9)).toArray⟩ : ByteArray) = s2 at cv2 es2
          clear FS hS0
          by_cases hsame : sealL (byteAt b 1) ((b.drop 5).take N) = b.take (N + 9)
          · have e1 : (s1.toList == s2.toList) = true := by rw [ByteArray.toList_eq, ByteArray.toList_eq, es1, es2, hsame]; simp
            have R : Hid (takeF b = (byteAt b 1, (b.drop 5).take N, N + 9, 0)) := by
              show _ = _
              unfold takeF
              rw [if_neg (by rw [H0.out, HN.out]; simp; omega), HLL.out, if_neg (by rw [HN.out]; omega), if_neg (fun h => h hsame)]
            clear es1 es2 hsame
            go_wp2_with fail
            go_region
            go_wp2_with fail
            go_region
            go_wp2_with fail
            (try simp only [Exit.inBlock, Exit.then])
            refine bodyPost_ret (results_tmp4 rfl _ _ _) rfl ?_
            rw [R.out]
            refine ⟨⟨cutA (some ad) c 5, c - 5, ?_, hsub7⟩, B7.drew.drew⟩
            show _ = Ending.returned (.tuple #[_, .slice _ ((b.drop 5).take N).length _, _, _])
            rw [HSUB.out]
            rfl
          · have e1 : (s1.toList == s2.toList) = false := by rw [ByteArray.toList_eq, ByteArray.toList_eq, es1, es2]; simpa using hsame
            have R : Hid (takeF b = (0, [], N + 9, 4)) := by
              show _ = _
              unfold takeF
              rw [if_neg (by rw [H0.out, HN.out]; simp; omega), HLL.out, if_neg (by rw [HN.out]; omega), if_pos hsame]
            clear es1 es2 hsame
            go_wp2_with fail
            go_region
            go_wp2_with fail
            (try simp only [Exit.inBlock, Exit.then])
            refine bodyPost_ret (results_tmp4 rfl _ _ _) rfl ?_
            rw [R.out]
            exact ⟨⟨none, 0, rfl, RdB.nil _ _ _⟩, B7.drew⟩
    · have e0 : (((byteAt b 0).toNat : Int) != 229) = true := by
        rw [bne_iff_ne]
        intro e
        exact h0 (UInt8.toNat_inj.1 (by show _ = 229; omega))
      have e0' : (((byteAt b 0).toNat : Int) == 229) = false := by
        rw [beq_eq_false_iff_ne]
        intro e
        exact h0 (UInt8.toNat_inj.1 (by show _ = 229; omega))
      have R : Hid (takeF b = (0, [], 0, 2)) := by show _ = _; unfold takeF; rw [if_pos (Or.inr h0)]
      clear hn h0
      go_enter Tryd.func18, Tryd.ntmps18
      go_wp2_with fail
      (try simp only [Exit.inBlock, Exit.then])
      refine bodyPost_ret (results_tmp4 rfl _ _ _) rfl ?_
      rw [R.out]
      exact ⟨⟨none, 0, rfl, RdB.nil _ _ _⟩, Below.refl _ _⟩
end Go.Proofs.YtggoinjjdogmaaaDoor
