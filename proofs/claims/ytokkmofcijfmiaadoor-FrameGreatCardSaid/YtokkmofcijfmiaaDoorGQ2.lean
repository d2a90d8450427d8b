/-
  WHAT IS PROVED: the document's taking of a frame from bytes (spinneyref06.Take) is takeF. Conditions: those typed in the theorem. · plain facts: four bits of the sum CRC-32C at once, by a table of sixteen numbers; the sixteen numbers. No program is spoken of. · plain facts: what frames one behind the other are of (a relation, and that it tells its answers); frames that were sealed, one behind the other, the last one torn or whole. · small lemmas by which a block of cells stays known in a world that only grows (own work, over any program). · words for slices of pieces (own work): a slice that reads as a list of pieces (a kind, and bytes), nil let in; such a row that the call owns; append of one piece onto it. Over any program that bears the types named.
-/
import Derived.Test.YtokkmofcijfmiaaDoorGQ1
import Derived.Deep.RegionHeld3
import Derived.BigRegion
import Derived.IntWalk
import GoSem.Claim
import Derived.Test.YtokkmofcijfmiaaDoorGQ0
namespace Go.Proofs.YtokkmofcijfmiaaDoor
open Go.RowKit

def byteAt (b : List UInt8) (i : Nat) : UInt8 := b.getD i 0
/-- How many bytes are inside, by the beginning. -/
def lenF (b : List UInt8) : Nat := 65536 * (byteAt b 2).toNat + 256 * (byteAt b 3).toNat + (byteAt b 4).toNat
/-- The kind, the inside, how long, the error. -/
def takeF (b : List UInt8) : UInt8 × List UInt8 × Nat × Nat :=
  if b.length < 9 ∨ byteAt b 0 ≠ 229 then (0, [], 0, 2)
  else if 100000 < lenF b ∨ b.length < lenF b + 9 then (0, [], 0, 2)
  else if sealL (byteAt b 1) ((b.drop 5).take (lenF b)) ≠ b.take (lenF b + 9) then (0, [], lenF b + 9, 4)
  else (byteAt b 1, (b.drop 5).take (lenF b), lenF b + 9, 0)
/-- What Take answers. -/
def TakeFP (B : Nat) (r : UInt8 × List UInt8 × Nat × Nat) (w : World) (e : Ending) (w' : World) : Prop :=
  (∃ (A : Option Addr) (c : Nat), e = .returned (.tuple #[.int .u8 (r.1.toNat : Int), .slice A r.2.1.length c, .int .i64 (r.2.2.1 : Nat), .int .i64 (r.2.2.2 : Nat)]) ∧ RdB B w' A r.2.1) ∧ Below w.heap.size w w'
theorem byteAt_get {b : List UInt8} {i : Nat} (h : i < b.length) : b[i]? = some (byteAt b i) := by
  unfold byteAt
  rw [List.getD_eq_getElem?_getD, List.getElem?_eq_getElem h]
  rfl
theorem five {B : Nat} {w : World} {A : Option Addr} {b : List UInt8} (hr : RdB B w A b) (h : 5 ≤ b.length) : ∃ ad, A = some ad ∧ ad.block < B ∧ w.cell? ad = some (.int .u8 ((byteAt b 0).toNat : Int)) ∧ w.cell? ⟨ad.block, ad.off + 1, none⟩ = some (.int .u8 ((byteAt b 1).toNat : Int)) ∧
    w.cell? ⟨ad.block, ad.off + 2, none⟩ = some (.int .u8 ((byteAt b 2).toNat : Int)) ∧ w.cell? ⟨ad.block, ad.off + 3, none⟩ = some (.int .u8 ((byteAt b 3).toNat : Int)) ∧ w.cell? ⟨ad.block, ad.off + 4, none⟩ = some (.int .u8 ((byteAt b 4).toNat : Int)) := by
  obtain ⟨ad, rfl, hbl, c0⟩ := hr 0 _ (byteAt_get (by omega))
  have g : ∀ i, i < 5 → w.cell? (ad.add i) = some (.int .u8 ((byteAt b i).toNat : Int)) := fun i hi => by
    obtain ⟨a2, e, _, c⟩ := hr i _ (byteAt_get (by omega))
    injection e with e
    subst e
    exact c
  refine ⟨ad, rfl, hbl, ?_, g 1 (by omega), g 2 (by omega), g 3 (by omega), g 4 (by omega)⟩
  have := g 0 (by omega)
  simpa [Addr.add] using this

theorem results_tmp4 {fn : Func} {t u v x : Tmp} (h : fn.results = #[.tmp t, .tmp u, .tmp v, .tmp x]) (tmps : Array Value) (P : Program) (w : World) :
    (results fn tmps).run P w = .ok (.tuple #[tmps.getD t undef, tmps.getD u undef, tmps.getD v undef, tmps.getD x undef]) w := by
  simp [results, h]
theorem sealF_is {B : Nat} (k : UInt8) (A : Option Addr) (n c : Nat) (l : List UInt8) (w : World) (hn : l.length = n) (hr : RdB B w A l) (hB : B ≤ w.heap.size) (hm : n ≤ 100000) :
    Calls Tryd.prog 19 #[.int .u8 (k.toNat : Int), .slice A n c] w fun e w' => (∃ (A' : Option Addr) (c' : Nat), e = .returned (.tuple #[.slice A' (n + 9) c', .bool true]) ∧ RdB w'.heap.size w' A' (sealL k l) ∧ (sealL k l).length = n + 9) ∧ Below w.heap.size w w' :=
  (refSeal_any k A n c l w hn hr hB hm).mono fun _ _ ⟨⟨A', c', he, hO⟩, hb⟩ => ⟨⟨A', c', he, hO.rd, hO.len⟩, hb⟩

set_option maxRecDepth 100000 in
set_option maxHeartbeats 8000000 in
theorem refTakeF_any {B : Nat} (A : Option Addr) (n c : Nat) (b : List UInt8) (w : World) (hn : b.length = n) (hr : RdB B w A b) (hB : B ≤ w.heap.size) (hc : n ≤ c) (hm : n ≤ 1000000000) :
    Calls Tryd.prog 23 #[.slice A n c] w fun e w' => TakeFP B (takeF b) w e w' := by
  have HN := Lib.hid hn
  have gm : (n : Int) ≤ 1000000000 := by omega
  by_cases h9 : n < 9
  · have g9 : (n : Int) < 9 := by omega
    have R : Hid (takeF b = (0, [], 0, 2)) := by show _ = _; unfold takeF; rw [if_pos (Or.inl (by omega))]
    clear hn
    go_enter Tryd.func23, Tryd.ntmps23
    go_wp2_with fail
    (try simp only [Exit.inBlock, Exit.then])
    refine bodyPost_ret (results_tmp4 rfl _ _ _) rfl ?_
    rw [R.out]
    exact ⟨⟨none, 0, rfl, RdB.nil _ _ _⟩, Below.refl _ _⟩
  · have g9 : ¬ (n : Int) < 9 := by omega
    obtain ⟨ad, rfl, hbl, c0, c1, c2, c3, c4⟩ := five hr (by omega)
    have b0' := (byteAt b 0).toNat_lt
    have b1' := (byteAt b 1).toNat_lt
    have b2' := (byteAt b 2).toNat_lt
    have b3' := (byteAt b 3).toNat_lt
    have b4' := (byteAt b 4).toNat_lt
    by_cases h0 : byteAt b 0 = 229
    · have e0 : (((byteAt b 0).toNat : Int) != 229) = false := by rw [h0]; rfl
      have e0' : (((byteAt b 0).toNat : Int) == 229) = true := by rw [h0]; rfl
      have HL : Hid (lenF b = 65536 * (byteAt b 2).toNat + 256 * (byteAt b 3).toNat + (byteAt b 4).toNat) := rfl
      have hs : (65536 * ((byteAt b 2).toNat : Int) + 256 * ((byteAt b 3).toNat : Int) + ((byteAt b 4).toNat : Int)) = (lenF b : Nat) := by rw [HL.out]; omega
      have HS := Lib.hid hs
      have H0 := Lib.hid h0
      clear hs h0 hn
      go_enter Tryd.func23, Tryd.ntmps23
      go_wp2_with fail
      go_region
      rw [HS.out]
      have hdw : ∀ A' l', RdB B w A' l' → RdB B w.drew A' l' := fun _ _ h => h
      generalize hLL : lenF b = N
      have HLL := Lib.hid hLL
      clear HS HL hLL
      by_cases hbig : 100000 < N
      · have g1 : (100000 : Int) < (N : Int) := by omega
        have R : Hid (takeF b = (0, [], 0, 2)) := by
          show _ = _
          unfold takeF
          rw [if_neg (by rw [H0.out, HN.out]; simp; omega), if_pos (Or.inl (by rw [HLL.out]; exact hbig))]
        go_wp2_with fail
        (try simp only [Exit.inBlock, Exit.then])
        refine bodyPost_ret (results_tmp4 rfl _ _ _) rfl ?_
        rw [R.out]
        exact ⟨⟨none, 0, rfl, RdB.nil _ _ _⟩, (Below.refl _ _).drew⟩
      · have g1 : ¬ (100000 : Int) < (N : Int) := by omega
        have g1' : (N : Int) ≤ 100000 := by omega
        by_cases hlong : n < N + 9
        · have g2 : (n : Int) < (N : Int) + 9 := by omega
          have R : Hid (takeF b = (0, [], 0, 2)) := by
            show _ = _
            unfold takeF
            rw [if_neg (by rw [H0.out, HN.out]; simp; omega), if_pos (Or.inr (by rw [HLL.out, HN.out]; exact hlong))]
          go_wp2_with fail
          (try simp only [Exit.inBlock, Exit.then])
          refine bodyPost_ret (results_tmp4 rfl _ _ _) rfl ?_
          rw [R.out]
          exact ⟨⟨none, 0, rfl, RdB.nil _ _ _⟩, (Below.refl _ _).drew⟩
        · have g2 : ¬ (n : Int) < (N : Int) + 9 := by omega
          have g3 : (N : Int) + 9 ≤ (n : Int) := by omega
          have q2 : ∀ W : World, (Instr.sliceAt 34 (.slice (some ad) n c) (some (.int .i64 5)) (some (.int .i64 ((N : Int) + 5))) none).run Tryd.prog W = .ok (.slice (cutA (some ad) c 5) N (c - 5)) W := fun W => by
            have h := run_cut2 W (some ad) n c 5 (N + 5) 5 ((N : Int) + 5) rfl (by omega) (by omega) (by omega) hc
            rwa [Nat.add_sub_cancel] at h
          have q0 : ∀ W : World, (Instr.sliceAt 34 (.slice (some ad) n c) none (some (.int .i64 ((N : Int) + 9))) none).run Tryd.prog W = .ok (.slice (some ad) (N + 9) c) W := fun W => run_cut0 W (some ad) n c (N + 9) _ (by omega) (by omega) hc
          have HSUB : Hid (((b.drop 5).take N).length = N) := by show _ = _; rw [List.length_take, List.length_drop, HN.out]; omega
          have hsub : RdB B w (cutA (some ad) c 5) ((b.drop 5).take N) := hr.sub (by rw [HN.out]; exact hc) N
          have FS : Hid (∀ W' : World, Below w.heap.size w W' → Calls Tryd.prog 19 #[.int .u8 ((byteAt b 1).toNat : Int), .slice (cutA (some ad) c 5) N (c - 5)] W' fun e w' => (∃ (A' : Option Addr) (c' : Nat), e = .returned (.tuple #[.slice A' (N + 9) c', .bool true]) ∧ RdB w'.heap.size w' A' (sealL (byteAt b 1) ((b.drop 5).take N)) ∧ (sealL (byteAt b 1) ((b.drop 5).take N)).length = N + 9) ∧ Below W'.heap.size W' w') :=
            fun W' h => sealF_is (byteAt b 1) _ N (c - 5) _ W' HSUB.out (hsub.keep h hB) (Nat.le_trans hB h.size) (by omega)
          have hlt := Nat.lt_of_lt_of_le hbl hB
          have n1 : (1 : Int) < (n : Int) := by omega
          have wr5 : IntKind.i64.wrap ((N : Int) + 5) = (N : Int) + 5 := IntWalk.i64_in _ (by omega)
          have wr9 : IntKind.i64.wrap ((N : Int) + 9) = (N : Int) + 9 := IntWalk.i64_in _ (by omega)
          have hS0 : w.drew.drew.cell? ⟨ad.block, ad.off + 1, none⟩ = some (.int .u8 ((byteAt b 1).toNat : Int)) ∧ Below w.heap.size w w.drew.drew := ⟨c1, (Below.refl w.heap.size w).drew.drew⟩
          go_wp2_with fail
          go_region_held3 (fun w' => w'.cell? ⟨ad.block, ad.off + 1, none⟩ = some (.int .u8 ((byteAt b 1).toNat : Int)) ∧ Below w.heap.size w w')
            (first | assumption | exact hS0 | exact ⟨((by assumption : Below w.heap.size w _).cell (p := ⟨ad.block, ad.off + 1, none⟩) hlt).trans c1, by assumption⟩)
            ((go_at_call 19; ((with_reducible refine (FS.out _ (And.right (by assumption))).mono ?_); rintro e w7 ⟨⟨A7, c7, rfl, hr7, hn7⟩, hb7⟩; have B7 : Below w.heap.size w w7 := bt (Below.refl w.heap.size w).drew.drew hb7)))
          have hrb := hr.keep B7 hB
          have cv1 := conv_rd w7.drew A7 (N + 9) c7 _ hn7 hr7.drew_
          have cv2 := conv_rd w7.drew (some ad) (N + 9) c (b.take (N + 9)) (by rw [List.length_take, HN.out]; omega) (hrb.take (N + 9)).drew_
          have c1' : w7.cell? ⟨ad.block, ad.off + 1, none⟩ = some (.int .u8 ((byteAt b 1).toNat : Int)) := (B7.cell (p := ⟨ad.block, ad.off + 1, none⟩) hlt).trans c1
          have hsub7 := hsub.keep B7 hB
          have es1 : (⟨(sealL (byteAt b 1) ((b.drop 5).take N)).toArray⟩ : ByteArray).data.toList = sealL (byteAt b 1) ((b.drop 5).take N) := rfl
          have es2 : (⟨(b.take (N + 9)).toArray⟩ : ByteArray).data.toList = b.take (N + 9) := rfl
          generalize (⟨(sealL (byteAt b 1) ((b.drop 5).take N)).toArray⟩ : ByteArray) = s1 at cv1 es1
          generalize (⟨(b.take (N + 9)).toArray⟩ : ByteArray) = s2 at cv2 es2
          clear FS hS0
          by_cases hsame : sealL (byteAt b 1) ((b.drop 5).take N) = b.take (N + 9)
          · have e1 : (s1.toList == s2.toList) = true := by rw [ByteArray.toList_eq, ByteArray.toList_eq, es1, es2, hsame]; simp
            have R : Hid (takeF b = (byteAt b 1, (b.drop 5).take N, N + 9, 0)) := by
              show _ = _
              unfold takeF
              rw [if_neg (by rw [H0.out, HN.out]; simp; omega), HLL.out, if_neg (by rw [HN.out]; omega), if_neg (fun h => h hsame)]
            clear es1 es2 hsame
            go_wp2_with fail
            go_region
            go_wp2_with fail
            go_region
            go_wp2_with fail
            (try simp only [Exit.inBlock, Exit.then])
            refine bodyPost_ret (results_tmp4 rfl _ _ _) rfl ?_
            rw [R.out]
            refine ⟨⟨cutA (some ad) c 5, c - 5, ?_, hsub7⟩, B7.drew.drew⟩
            show _ = Ending.returned (.tuple #[_, .slice _ ((b.drop 5).take N).length _, _, _])
            rw [HSUB.out]
            rfl
          · have e1 : (s1.toList == s2.toList) = false := by rw [ByteArray.toList_eq, ByteArray.toList_eq, es1, es2]; simpa using hsame
            have R : Hid (takeF b = (0, [], N + 9, 4)) := by
              show _ = _
              unfold takeF
              rw [if_neg (by rw [H0.out, HN.out]; simp; omega), HLL.out, if_neg (by rw [HN.out]; omega), if_pos hsame]
            clear es1 es2 hsame
            go_wp2_with fail
            go_region
            go_wp2_with fail
            (try simp only [Exit.inBlock, Exit.then])
            refine bodyPost_ret (results_tmp4 rfl _ _ _) rfl ?_
            rw [R.out]
            exact ⟨⟨none, 0, rfl, RdB.nil _ _ _⟩, B7.drew⟩
    · have e0 : (((byteAt b 0).toNat : Int) != 229) = true := by
        rw [bne_iff_ne]
        intro e
        exact h0 (UInt8.toNat_inj.1 (by show _ = 229; omega))
      have e0' : (((byteAt b 0).toNat : Int) == 229) = false := by
        rw [beq_eq_false_iff_ne]
        intro e
        exact h0 (UInt8.toNat_inj.1 (by show _ = 229; omega))
      have R : Hid (takeF b = (0, [], 0, 2)) := by show _ = _; unfold takeF; rw [if_pos (Or.inr h0)]
      clear hn h0
      go_enter Tryd.func23, Tryd.ntmps23
      go_wp2_with fail
      (try simp only [Exit.inBlock, Exit.then])
      refine bodyPost_ret (results_tmp4 rfl _ _ _) rfl ?_
      rw [R.out]
      exact ⟨⟨none, 0, rfl, RdB.nil _ _ _⟩, Below.refl _ _⟩
end Go.Proofs.YtokkmofcijfmiaaDoor

namespace Go.Proofs.YtokkmofcijfmiaaDoor

theorem crcStep_xor (a b : Nat) : crcStep (a ^^^ b) = crcStep a ^^^ crcStep b := by
  unfold crcStep
  have h := @Nat.xor_mod_two_eq_one a b
  rw [Nat.xor_div_two]
  by_cases ha : a % 2 = 1
  · by_cases hb : b % 2 = 1
    · rw [if_pos ha, if_pos hb, if_neg (by simp [h, ha, hb])]
      rw [Nat.xor_assoc, ← Nat.xor_assoc 2197175160, Nat.xor_comm 2197175160 (b / 2), Nat.xor_assoc (b / 2), Nat.xor_self, Nat.xor_zero]
    · rw [if_pos ha, if_neg hb, if_pos (by rw [h]; simp [ha, hb])]
      rw [Nat.xor_assoc, Nat.xor_comm (b / 2), ← Nat.xor_assoc]
  · by_cases hb : b % 2 = 1
    · rw [if_neg ha, if_pos hb, if_pos (by rw [h]; simp [ha, hb])]
      rw [Nat.xor_assoc]
    · rw [if_neg ha, if_neg hb, if_neg (by simp [h, ha, hb])]
theorem crcSteps_xor : ∀ (k a b : Nat), crcSteps k (a ^^^ b) = crcSteps k a ^^^ crcSteps k b
  | 0, _, _ => rfl
  | k + 1, a, b => by
    show crcSteps k (crcStep (a ^^^ b)) = crcSteps k (crcStep a) ^^^ crcSteps k (crcStep b)
    rw [crcStep_xor, crcSteps_xor k]
/-- So many bits at once. -/
theorem crcSteps_low : ∀ (k c : Nat), crcSteps k c = (c / 2 ^ k) ^^^ crcSteps k (c % 2 ^ k)
  | 0, c => by
    show c = (c / 1) ^^^ (c % 1)
    rw [Nat.div_one, Nat.mod_one, Nat.xor_zero]
  | k + 1, c => by
    have e1 : c % (2 * 2 ^ k) % 2 = c % 2 := Nat.mod_mul_right_mod c 2 (2 ^ k)
    have e2 : c % (2 * 2 ^ k) / 2 = c / 2 % 2 ^ k := Nat.mod_mul_right_div_self c 2 (2 ^ k)
    have e3 : c / 2 / 2 ^ k = c / (2 * 2 ^ k) := Nat.div_div_eq_div_mul c 2 (2 ^ k)
    show crcSteps k (crcStep c) = (c / 2 ^ (k + 1)) ^^^ crcSteps k (crcStep (c % 2 ^ (k + 1)))
    rw [Nat.pow_succ, Nat.mul_comm (2 ^ k) 2]
    unfold crcStep
    rw [e1, e2]
    by_cases h : c % 2 = 1
    · rw [if_pos h, if_pos h, crcSteps_xor, crcSteps_xor, crcSteps_low k (c / 2), e3, Nat.xor_assoc]
    · rw [if_neg h, if_neg h, crcSteps_low k (c / 2), e3]
theorem crcSteps_add : ∀ (j k c : Nat), crcSteps (j + k) c = crcSteps k (crcSteps j c)
  | 0, k, c => by rw [Nat.zero_add]; rfl
  | j + 1, k, c => by
    rw [show j + 1 + k = (j + k) + 1 by omega]
    exact crcSteps_add j k (crcStep c)
/-- Four bits. -/
theorem nib (c : Nat) : crcSteps 4 c = (c / 16) ^^^ crcSteps 4 (c % 16) := crcSteps_low 4 c
theorem crcByte_nib (c : Nat) (b : UInt8) : crcByte c b = crcSteps 4 (crcSteps 4 (c ^^^ b.toNat)) := crcSteps_add 4 4 _
/-- The table. -/
def nibT : Array Nat := #[0, 274646895, 549293790, 820201905, 1098587580, 1361435347, 1640403810, 1905808397, 2197175160, 2460548119, 2722870694, 2987750089, 3280807620, 3553878443, 3811616794, 4084100981]
theorem nibT_is : ∀ i : Fin 16, nibT[i.val]? = some (crcSteps 4 i.val) := by decide +kernel
theorem nibT_at {i : Nat} (h : i < 16) : nibT[i]? = some (crcSteps 4 i) := nibT_is ⟨i, h⟩
end Go.Proofs.YtokkmofcijfmiaaDoor

namespace Go.Proofs.YtokkmofcijfmiaaDoor

/-- A kind, and bytes. -/
abbrev Pc := UInt8 × List UInt8
/-- Bytes, what the frames at their beginning are of, how many bytes these have, what is wrong with the first that is none. -/
inductive ScanR : List UInt8 → List Pc → Nat → Nat → Prop
  | done : ScanR [] [] 0 0
  | stop {b : List UInt8} (hb : b ≠ []) (h : (takeF b).2.2.2 ≠ 0) : ScanR b [] 0 (takeF b).2.2.2
  | more {b : List UInt8} {l : List Pc} {m code : Nat} (hb : b ≠ []) (h : (takeF b).2.2.2 = 0) (k : ScanR (b.drop (takeF b).2.2.1) l m code) : ScanR b (((takeF b).1, (takeF b).2.1) :: l) ((takeF b).2.2.1 + m) code
theorem ScanR.det {b : List UInt8} {l : List Pc} {m code : Nat} (h : ScanR b l m code) : ∀ {l' : List Pc} {m' code' : Nat}, ScanR b l' m' code' → l = l' ∧ m = m' ∧ code = code' := by
  induction h with
  | done =>
    intro l' m' code' k
    cases k with
    | done => exact ⟨rfl, rfl, rfl⟩
    | stop hb _ => exact absurd rfl hb
    | more hb _ _ => exact absurd rfl hb
  | stop hb h =>
    intro l' m' code' k
    cases k with
    | done => exact absurd rfl hb
    | stop _ _ => exact ⟨rfl, rfl, rfl⟩
    | more _ h2 _ => exact absurd h2 h
  | more hb h _ ih =>
    intro l' m' code' k
    cases k with
    | done => exact absurd rfl hb
    | stop _ h2 => exact absurd h h2
    | more _ _ k2 =>
      obtain ⟨e1, e2, e3⟩ := ih k2
      exact ⟨by rw [e1], by rw [e2], e3⟩
/-- One step. -/
theorem ScanR.step {b : List UInt8} {l : List Pc} {m code : Nat} (h : ScanR b l m code) : (b = [] ∧ l = [] ∧ m = 0 ∧ code = 0) ∨ (b ≠ [] ∧ (takeF b).2.2.2 ≠ 0 ∧ l = [] ∧ m = 0 ∧ code = (takeF b).2.2.2) ∨
    (b ≠ [] ∧ (takeF b).2.2.2 = 0 ∧ ∃ l' m', l = ((takeF b).1, (takeF b).2.1) :: l' ∧ m = (takeF b).2.2.1 + m' ∧ ScanR (b.drop (takeF b).2.2.1) l' m' code) := by
  cases h with
  | done => exact .inl ⟨rfl, rfl, rfl, rfl⟩
  | stop hb h => exact .inr (.inl ⟨hb, h, rfl, rfl, rfl⟩)
  | more hb h k => exact .inr (.inr ⟨hb, h, _, _, rfl, rfl, k⟩)
/-- What is taken is in the bytes. -/
theorem takeF_fits {b : List UInt8} (h : (takeF b).2.2.2 = 0) : 9 ≤ (takeF b).2.2.1 ∧ (takeF b).2.2.1 ≤ b.length ∧ (takeF b).2.1.length + 9 = (takeF b).2.2.1 := by
  unfold takeF at h ⊢
  by_cases h1 : b.length < 9 ∨ byteAt b 0 ≠ 229
  · rw [if_pos h1] at h
    simp at h
  · rw [if_neg h1] at h ⊢
    by_cases h2 : 100000 < lenF b ∨ b.length < lenF b + 9
    · rw [if_pos h2] at h
      simp at h
    · rw [if_neg h2] at h ⊢
      split at h
      · simp at h
      · rename_i h3
        rw [if_neg h3]
        simp only [List.length_take, List.length_drop]
        omega
theorem ScanR.le {b : List UInt8} {l : List Pc} {m code : Nat} (h : ScanR b l m code) : m ≤ b.length ∧ l.length * 9 ≤ b.length ∧ code ≤ 4 := by
  induction h with
  | done => exact ⟨by simp, by simp, by omega⟩
  | @stop b hb h =>
    refine ⟨by simp, by simp, ?_⟩
    unfold takeF
    split
    · show 2 ≤ 4; omega
    · split
      · show 2 ≤ 4; omega
      · split
        · show 4 ≤ 4; omega
        · show 0 ≤ 4; omega
  | more hb h _ ih =>
    have := takeF_fits h
    rw [List.length_drop] at ih
    simp only [List.length_cons]
    omega
end Go.Proofs.YtokkmofcijfmiaaDoor

namespace Go.Proofs.YtokkmofcijfmiaaDoor
open Go.RowKit

/-- A block, whole. -/
def Blk (W : World) (b : Nat) (cs : Array Value) (t : TypeId) : Prop := W.heap[b]? = some (.cells cs t)
theorem Blk.lt {W : World} {b : Nat} {cs : Array Value} {t : TypeId} (h : Blk W b cs t) : b < W.heap.size := (Array.getElem?_eq_some_iff.1 h).1
theorem Blk.keep {W W1 : World} {b : Nat} {cs : Array Value} {t : TypeId} (h : Blk W b cs t) (hb : Below W.heap.size W W1) : Blk W1 b cs t := (hb.block b h.lt).trans h
theorem blk_new (w : World) (cs : Array Value) (t : TypeId) : Blk (w.alloc (.cells cs t)) w.heap.size cs t := by
  show (w.heap.push _)[w.heap.size]? = _
  simp
theorem blk_at {w : World} {b : Nat} (h : b = w.heap.size) (cs : Array Value) (t : TypeId) : Blk (w.alloc (.cells cs t)) b cs t := by
  subst h
  exact blk_new w cs t
theorem Blk.alloc {W : World} {b : Nat} {cs : Array Value} {t : TypeId} (h : Blk W b cs t) (o : Obj) : Blk (W.alloc o) b cs t := h.keep (b0 W o)
theorem Blk.drew {W : World} {b : Nat} {cs : Array Value} {t : TypeId} (h : Blk W b cs t) (n : Nat) : Blk (W.drewN n) b cs t := h
theorem Blk.cell {W : World} {b : Nat} {cs : Array Value} {t : TypeId} (h : Blk W b cs t) (i : Nat) : W.cell? ⟨b, i, none⟩ = cs[i]? := by
  unfold Blk at h
  simp [World.cell?, h]
theorem Blk.free {W : World} {b : Nat} {cs : Array Value} {t : TypeId} (h : Blk W b cs t) (i : Nat) : W.frozen? ⟨b, i, none⟩ = false := by
  unfold Blk at h
  simp [World.frozen?, h]
/-- A value's three cells. -/
theorem Blk.c3 {W : World} {b : Nat} {v0 v1 v2 : Value} {t : TypeId} (h : Blk W b #[v0, v1, v2] t) :
    W.cell? ⟨b, 0, none⟩ = some v0 ∧ W.cell? ⟨b, 1, none⟩ = some v1 ∧ W.cell? ⟨b, 2, none⟩ = some v2 ∧ b < W.heap.size :=
  ⟨h.cell 0, h.cell 1, h.cell 2, h.lt⟩
theorem Blk.f3 {W : World} {b : Nat} {v0 v1 v2 : Value} {t : TypeId} (h : Blk W b #[v0, v1, v2] t) :
    W.frozen? ⟨b, 0, none⟩ = false ∧ W.frozen? ⟨b, 1, none⟩ = false ∧ W.frozen? ⟨b, 2, none⟩ = false :=
  ⟨h.free 0, h.free 1, h.free 2⟩
/-- An operation's eight cells. -/
theorem Blk.c8 {W : World} {b : Nat} {v0 v1 v2 v3 v4 v5 v6 v7 : Value} {t : TypeId} (h : Blk W b #[v0, v1, v2, v3, v4, v5, v6, v7] t) :
    W.cell? ⟨b, 0, none⟩ = some v0 ∧ W.cell? ⟨b, 1, none⟩ = some v1 ∧ W.cell? ⟨b, 2, none⟩ = some v2 ∧ W.cell? ⟨b, 3, none⟩ = some v3 ∧ W.cell? ⟨b, 4, none⟩ = some v4 ∧ W.cell? ⟨b, 5, none⟩ = some v5 ∧ W.cell? ⟨b, 6, none⟩ = some v6 ∧ W.cell? ⟨b, 7, none⟩ = some v7 ∧ b < W.heap.size :=
  ⟨h.cell 0, h.cell 1, h.cell 2, h.cell 3, h.cell 4, h.cell 5, h.cell 6, h.cell 7, h.lt⟩
theorem Blk.f8 {W : World} {b : Nat} {v0 v1 v2 v3 v4 v5 v6 v7 : Value} {t : TypeId} (h : Blk W b #[v0, v1, v2, v3, v4, v5, v6, v7] t) :
    W.frozen? ⟨b, 0, none⟩ = false ∧ W.frozen? ⟨b, 1, none⟩ = false ∧ W.frozen? ⟨b, 2, none⟩ = false ∧ W.frozen? ⟨b, 3, none⟩ = false ∧ W.frozen? ⟨b, 4, none⟩ = false ∧ W.frozen? ⟨b, 5, none⟩ = false ∧ W.frozen? ⟨b, 6, none⟩ = false ∧ W.frozen? ⟨b, 7, none⟩ = false :=
  ⟨h.free 0, h.free 1, h.free 2, h.free 3, h.free 4, h.free 5, h.free 6, h.free 7⟩
theorem below8 {B b : Nat} {w W : World} (h : Below B w W) (hb : B ≤ b) (v0 v1 v2 v3 v4 v5 v6 v7 : Value) : Below B w ((((((((W.setCell ⟨b, 0, none⟩ v0).setCell ⟨b, 1, none⟩ v1).setCell ⟨b, 2, none⟩ v2).setCell ⟨b, 3, none⟩ v3).setCell ⟨b, 4, none⟩ v4).setCell ⟨b, 5, none⟩ v5).setCell ⟨b, 6, none⟩ v6).setCell ⟨b, 7, none⟩ v7) := ((((((((h.setCell (p := ⟨b, 0, none⟩) hb v0).setCell (p := ⟨b, 1, none⟩) hb v1).setCell (p := ⟨b, 2, none⟩) hb v2).setCell (p := ⟨b, 3, none⟩) hb v3).setCell (p := ⟨b, 4, none⟩) hb v4).setCell (p := ⟨b, 5, none⟩) hb v5).setCell (p := ⟨b, 6, none⟩) hb v6).setCell (p := ⟨b, 7, none⟩) hb v7)

/-- A store into a block. -/
theorem Blk.set {W : World} {b : Nat} {cs : Array Value} {t : TypeId} (h : Blk W b cs t) (i : Nat) (v : Value) : Blk (W.setCell ⟨b, i, none⟩ v) b (cs.setIfInBounds i v) t := by
  unfold Blk at h ⊢
  simp [World.setCell, Array.getElem?_modify, h]
/-- .. into another one. -/
theorem Blk.other {W : World} {b : Nat} {cs : Array Value} {t : TypeId} (h : Blk W b cs t) {c : Nat} (hne : b ≠ c) (i : Nat) (v : Value) : Blk (W.setCell ⟨c, i, none⟩ v) b cs t :=
  (Below.heap_setCell W ⟨c, i, none⟩ v b hne).trans h
theorem Blk.other8 {W : World} {b c : Nat} {cs : Array Value} {t : TypeId} (h : Blk W b cs t) (hne : b ≠ c) (v0 v1 v2 v3 v4 v5 v6 v7 : Value) : Blk ((((((((W.setCell ⟨c, 0, none⟩ v0).setCell ⟨c, 1, none⟩ v1).setCell ⟨c, 2, none⟩ v2).setCell ⟨c, 3, none⟩ v3).setCell ⟨c, 4, none⟩ v4).setCell ⟨c, 5, none⟩ v5).setCell ⟨c, 6, none⟩ v6).setCell ⟨c, 7, none⟩ v7) b cs t := ((((((((h.other hne 0 v0).other hne 1 v1).other hne 2 v2).other hne 3 v3).other hne 4 v4).other hne 5 v5).other hne 6 v6).other hne 7 v7)
/-- Six cells. -/
theorem Blk.c6 {W : World} {b : Nat} {v0 v1 v2 v3 v4 v5 : Value} {t : TypeId} (h : Blk W b #[v0, v1, v2, v3, v4, v5] t) :
    W.cell? ⟨b, 0, none⟩ = some v0 ∧ W.cell? ⟨b, 1, none⟩ = some v1 ∧ W.cell? ⟨b, 2, none⟩ = some v2 ∧ W.cell? ⟨b, 3, none⟩ = some v3 ∧ W.cell? ⟨b, 4, none⟩ = some v4 ∧ W.cell? ⟨b, 5, none⟩ = some v5 ∧ b < W.heap.size :=
  ⟨h.cell 0, h.cell 1, h.cell 2, h.cell 3, h.cell 4, h.cell 5, h.lt⟩
theorem Blk.f6 {W : World} {b : Nat} {v0 v1 v2 v3 v4 v5 : Value} {t : TypeId} (h : Blk W b #[v0, v1, v2, v3, v4, v5] t) :
    W.frozen? ⟨b, 0, none⟩ = false ∧ W.frozen? ⟨b, 1, none⟩ = false ∧ W.frozen? ⟨b, 2, none⟩ = false ∧ W.frozen? ⟨b, 3, none⟩ = false ∧ W.frozen? ⟨b, 4, none⟩ = false ∧ W.frozen? ⟨b, 5, none⟩ = false :=
  ⟨h.free 0, h.free 1, h.free 2, h.free 3, h.free 4, h.free 5⟩
end Go.Proofs.YtokkmofcijfmiaaDoor

namespace Go.Proofs.YtokkmofcijfmiaaDoor
open Go.RowKit

/-- The slice at A reads as the pieces l, in blocks below B. -/
def RdPc (B : Nat) (W : World) (A : Option Addr) (l : List Pc) : Prop :=
  ∀ k p, l[k]? = some p → ∃ ad A' c, A = some ad ∧ ad.block < B ∧ W.cell? (ad.add (k * 2)) = some (.int .u8 (p.1.toNat : Int)) ∧ W.cell? ⟨(ad.add (k * 2)).block, (ad.add (k * 2)).off + 1, none⟩ = some (.slice A' p.2.length c) ∧ RdB B W A' p.2
theorem RdPc.nil (B : Nat) (W : World) (A : Option Addr) : RdPc B W A [] := fun k p h => by simp at h
theorem RdPc.keep {B C : Nat} {W W' : World} {A : Option Addr} {l : List Pc} (h : RdPc B W A l) (hb : Below C W W') (hBC : B ≤ C) : RdPc B W' A l := by
  intro k p hp
  obtain ⟨ad, A', c, hA, hl, h1, h2, h3⟩ := h k p hp
  exact ⟨ad, A', c, hA, hl, (hb.cell (by rw [add_block]; omega)).trans h1, (hb.cell (by show (ad.add (k * 2)).block < C; rw [add_block]; omega)).trans h2, h3.keep hb hBC⟩
theorem RdPc.more {B C : Nat} {W : World} {A : Option Addr} {l : List Pc} (h : RdPc B W A l) (hBC : B ≤ C) : RdPc C W A l := by
  intro k p hp
  obtain ⟨ad, A', c, hA, hl, h1, h2, h3⟩ := h k p hp
  exact ⟨ad, A', c, hA, by omega, h1, h2, h3.more hBC⟩
theorem RdPc.drew_ {B : Nat} {W : World} {A : Option Addr} {l : List Pc} (h : RdPc B W A l) : RdPc B W.drew A l := h
/-- A piece, as it lies. -/
structure PcV where
  k : UInt8
  A : Option Addr
  n : Nat
  c : Nat
abbrev PcV.cells (x : PcV) : Array Value := #[.int .u8 (x.k.toNat : Int), .slice x.A x.n x.c]
/-- The cells of pieces. -/
abbrev pcV (l : List PcV) : List Value := l.flatMap fun x => x.cells.toList
theorem pcV_len (l : List PcV) : (pcV l).length = l.length * 2 := by
  induction l with
  | nil => rfl
  | cons x t ih =>
    show (x.cells.toList ++ pcV t).length = _
    rw [List.length_append, ih]
    show 2 + t.length * 2 = (t.length + 1) * 2
    omega
theorem pcV_get : ∀ (l : List PcV) (k j : Nat) (x : PcV) (v : Value), l[k]? = some x → x.cells[j]? = some v → (pcV l)[k * 2 + j]? = some v
  | [], k, j, x, v, h, _ => by simp at h
  | y :: t, 0, j, x, v, h, hv => by
    have e : y = x := by simpa using h
    subst e
    have hj : j < 2 := by
      have := (Array.getElem?_eq_some_iff.1 hv).1
      simpa using this
    show (y.cells.toList ++ pcV t)[0 * 2 + j]? = _
    rw [List.getElem?_append_left (by show _ < 2; omega), Nat.zero_mul, Nat.zero_add, Array.getElem?_toList]
    exact hv
  | y :: t, k + 1, j, x, v, h, hv => by
    have h2 : t[k]? = some x := by simpa using h
    have ih := pcV_get t k j x v h2 hv
    show (y.cells.toList ++ pcV t)[(k + 1) * 2 + j]? = _
    rw [List.getElem?_append_right (by show 2 ≤ _; omega)]
    show (pcV t)[(k + 1) * 2 + j - 2]? = _
    rw [show (k + 1) * 2 + j - 2 = k * 2 + j by omega]
    exact ih
/-- A row of pieces that the call owns, in blocks from base on. -/
def OwnPc (base : Nat) (W : World) (A : Option Addr) (n c : Nat) (l : List PcV) : Prop := W.ownsRow base 38 2 (.slice A n c) n (pcV l)
theorem OwnPc.nil (base : Nat) (W : World) : OwnPc base W none 0 0 [] := World.ownsRow_nil W base 38 2
theorem OwnPc.len {base : Nat} {W : World} {A : Option Addr} {n c : Nat} {l : List PcV} (h : OwnPc base W A n c l) : l.length = n := by
  have h1 := h.1
  have h2 := pcV_len l
  omega
theorem OwnPc.keep {base : Nat} {W W' : World} {A : Option Addr} {n c : Nat} {l : List PcV} (h : OwnPc base W A n c l) (hb : Below W.heap.size W W') : OwnPc base W' A n c l :=
  World.ownsRow.kept h (row := none) ⟨hb.os, hb.tape, hb.output, hb.size, fun k hk _ => hb.block k hk⟩ (by cases A <;> simp [Value.ownBlock])
/-- The rows that pieces name are the call's own, and read as their bytes. -/
def InPc (base : Nat) (W : World) (l : List PcV) (p : List Pc) : Prop := l.length = p.length ∧ ∀ (i : Nat) (x : PcV) (q : Pc), l[i]? = some x → p[i]? = some q → x.k = q.1 ∧ OwnB base W x.A x.n x.c q.2
theorem InPc.nil (base : Nat) (W : World) : InPc base W [] [] := ⟨rfl, fun i x q h => by simp at h⟩
theorem InPc.keep {base : Nat} {W W' : World} {l : List PcV} {p : List Pc} (h : InPc base W l p) (hb : Below W.heap.size W W') : InPc base W' l p :=
  ⟨h.1, fun i x q hx hq => ⟨(h.2 i x q hx hq).1, (h.2 i x q hx hq).2.keep hb⟩⟩
theorem InPc.snoc {base : Nat} {W : World} {l : List PcV} {p : List Pc} {x : PcV} {q : Pc} (h : InPc base W l p) (h1 : x.k = q.1) (h2 : OwnB base W x.A x.n x.c q.2) : InPc base W (l ++ [x]) (p ++ [q]) := by
  refine ⟨by simp [h.1], fun i y r hy hr => ?_⟩
  by_cases hi : i < l.length
  · rw [List.getElem?_append_left hi] at hy
    rw [List.getElem?_append_left (by rw [← h.1]; exact hi)] at hr
    exact h.2 i y r hy hr
  · rw [List.getElem?_append_right (by omega)] at hy
    rw [List.getElem?_append_right (by rw [← h.1]; omega), ← h.1] at hr
    have e : i - l.length = 0 := by
      have := (List.getElem?_eq_some_iff.1 hy).1
      simp at this
      omega
    rw [e] at hy hr
    injection hy with hy
    injection hr with hr
    subst hy
    subst hr
    exact ⟨h1, h2⟩
/-- A row of bytes stays where a row of pieces grows. -/
theorem OwnB.keepPc {base : Nat} {W W' : World} {A A2 : Option Addr} {n c m d : Nat} {l : List PcV} {l2 : List UInt8} (h : OwnB base W A2 m d l2) (hp : OwnPc base W A n c l) (hg : W.grownBy W' (A.map (·.block))) : OwnB base W' A2 m d l2 := by
  refine World.ownsRow.kept h hg ?_
  rcases h.2 with ⟨e, _⟩ | ⟨g2, cap2, cur2, e2, _, hb2, _⟩
  · injection e with e _ _
    subst e
    simp [Value.ownBlock]
  · injection e2 with e2 _ _
    subst e2
    right
    rcases hp.2 with ⟨e, _⟩ | ⟨g, cap, cur, e, _, hb, _⟩
    · injection e with e _ _
      subst e
      simp [Value.ownBlock]
    · injection e with e _ _
      subst e
      intro k
      simp only [Value.ownBlock, Option.map_some, Option.some.injEq] at k
      subst k
      rw [hb] at hb2
      injection hb2 with hb2
      injection hb2 with _ hb2 _
      exact absurd hb2 (by decide)
theorem InPc.grown {base : Nat} {W W' : World} {A : Option Addr} {n c : Nat} {l l2 : List PcV} {p : List Pc} (h : InPc base W l2 p) (hp : OwnPc base W A n c l) (hg : W.grownBy W' (A.map (·.block))) : InPc base W' l2 p :=
  ⟨h.1, fun i x q hx hq => ⟨(h.2 i x q hx hq).1, (h.2 i x q hx hq).2.keepPc hp hg⟩⟩
theorem OwnPc.rd {base : Nat} {W : World} {A : Option Addr} {n c : Nat} {l : List PcV} {p : List Pc} (h : OwnPc base W A n c l) (hp : InPc base W l p) : RdPc W.heap.size W A p := by
  intro k q hq
  have hk := (List.getElem?_eq_some_iff.1 hq).1
  have hl := h.len
  have hkl : k < l.length := by rw [hp.1]; exact hk
  obtain ⟨x, hx⟩ : ∃ x, l[k]? = some x := ⟨_, List.getElem?_eq_getElem hkl⟩
  obtain ⟨e1, e4⟩ := hp.2 k x q hx hq
  have e2 := e4.len
  have e3 := e4.rd
  obtain ⟨g, cap, hv, _, hlt⟩ := World.ownsRow.form h (by omega)
  injection hv with hv
  subst hv
  have hc : ∀ j v, x.cells[j]? = some v → W.cell? ((⟨g, 0, none⟩ : Addr).add (k * 2 + j)) = some v := fun j v hj => h.cells (g := g) rfl _ _ (pcV_get l k j x v hx hj)
  refine ⟨_, x.A, x.c, rfl, hlt, ?_, ?_, e3⟩
  · have := hc 0 _ rfl
    rw [← e1]
    exact this
  · have := hc 1 _ rfl
    rw [← add_add', Addr.add, if_neg (by omega)] at this
    rw [e2]
    exact this
theorem pc_info : (Tryd.prog.info? 38).map (fun i => (i.zero, i.size, i.bytes)) = some (some (.agg #[.int .u8 0, .slice none 0 0]), 2, 32) := by kernel_rfl
theorem pc_one (x : PcV) : ∀ u ∈ x.cells.toList, u.oneCell' = true := by
  intro u hu
  simp only [List.mem_cons, List.not_mem_nil, or_false] at hu
  rcases hu with rfl | rfl <;> rfl
/-- Append of one piece onto a row of the call's own. -/
theorem run_apPc {P : Program} (w : World) {t t' e' ty : TypeId} {i : TypeInfo} (ht : P.underlying t = some (.slice 38)) (ht' : P.underlying t' = some (.slice e')) (hi : P.info? 38 = some i) (hz : i.zero = some (.agg #[.int .u8 0, .slice none 0 0])) (hs : i.size = 2) (hy : i.bytes = 32)
    {base : Nat} {A : Option Addr} {ad : Addr} {n c d : Nat} {l : List PcV} {x : PcV} (hown : OwnPc base w A n c l) (hr : ∀ j v, x.cells[j]? = some v → w.cell? (ad.add j) = some v) (hsz : n ≤ 1000000) (hbase : base ≤ w.heap.size) :
    ∃ A' c' w', (Builtin.append_ #[t, t'] ty #[.slice A n c, .slice (some ad) 1 d]).run P w = .ok (.slice A' (n + 1) c') w' ∧ OwnPc base w' A' (n + 1) c' (l ++ [x]) ∧ Below base w w' ∧ w.grownBy w' (A.map (·.block)) := by
  obtain ⟨v', w', hrun, h2, h3, _, _⟩ := run_append_own_at (P := P) w base t ty 38 i (.agg #[.int .u8 0, .slice none 0 0]) 2 32 ht hi hz hs hy rfl (by omega) (.slice A n c) n (pcV l) hown ad 1 d x.cells.toList rfl (fun j u hu => hr j u (by rw [← Array.getElem?_toList]; exact hu)) (pc_one x)
    (by unfold maxLen; omega) (by omega) hbase
  have hb : Below base w w' := (Below.refl base w).grown h3 hbase (fun k hk => (World.ownsRow.lt hown k hk).1)
  have hv : ∃ A' c', v' = .slice A' (n + 1) c' := by
    rcases h2.2 with ⟨_, e2⟩ | ⟨g, cap, cur, e1, _⟩
    · omega
    · exact ⟨_, _, e1⟩
  obtain ⟨A', c', rfl⟩ := hv
  refine ⟨A', c', w', by rw [run_append_tt w ht ht']; exact hrun, ?_, hb, by cases A <;> exact h3⟩
  unfold OwnPc
  rw [show pcV (l ++ [x]) = pcV l ++ x.cells.toList by simp [pcV]]
  exact h2
section
variable {P : Program} {w : World} {t t' e' : TypeId} {i : TypeInfo} {base : Nat} {A : Option Addr} {ad : Addr} {n c d : Nat} {l : List PcV} {xx : PcV} {o : Oper} {a : Act} {Q : Exit → Act → World → Prop} {ops : Array Oper}
/-- .. in a plain region. -/
theorem wpList_apPc {rest : List Oper} (hgd : o.guard = none) (s x : Operand) (ho : o.op = .call { callee := .builtin .append, args := #[s, x], argTypes := #[t, t'] })
    (ht : P.underlying t = some (.slice 38)) (ht' : P.underlying t' = some (.slice e')) (hi : P.info? 38 = some i) (hz : i.zero = some (.agg #[.int .u8 0, .slice none 0 0])) (hs : i.size = 2) (hy : i.bytes = 32)
    (h1 : a.eval s = .slice A n c) (h2 : a.eval x = .slice (some ad) 1 d) (hown : OwnPc base w A n c l) (hr : ∀ j v, xx.cells[j]? = some v → w.cell? (ad.add j) = some v) (hsz : n ≤ 1000000) (hbase : base ≤ w.heap.size)
    (h : ∀ A' c' w', OwnPc base w' A' (n + 1) c' (l ++ [xx]) → Below base w w' → w.grownBy w' (A.map (·.block)) → wpList P ops Q rest (a.put o.dst (.slice A' (n + 1) c')) w') : wpList P ops Q (o :: rest) a w := by
  refine wpList_plain hgd fun _ hK => ?_
  obtain ⟨A', c', w', hrun, k1, k2, k3⟩ := run_apPc (P := P) (ty := o.type) (d := d) w ht ht' hi hz hs hy hown hr hsz hbase
  unfold Oper.wp execOp
  simp only [ho, resolve, invoke, builtin, Sem.run_bind, Sem.run_pure, Result.andThen_ok, List.map_toArray, List.map_cons, List.map_nil, h1, h2, hrun]
  exact hK _ _ (h A' c' w' k1 k2 k3)
end
end Go.Proofs.YtokkmofcijfmiaaDoor
