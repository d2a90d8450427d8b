/-
  WHAT IS PROVED: plain facts: a frame is opened again; one of which one byte is another isn't; nor one with a byte more or fewer. · package frame's Open and Seal: what they answer, as the chapter says. Conditions: those typed in each theorem. · the fixed fact of layer 8 (spinneylaw08.awake) holds. Condition: what the row lists is laid.
-/
import Derived.Test.YtpjleeeligahaaaGreatDoorGQ14
import Derived.Test.YtpjleeeligahaaaGreatDoorGQ15
import Derived.Test.YtpjleeeligahaaaGreatDoorGQ1
import Derived.Test.YtpjleeeligahaaaGreatDoorGQ3
namespace Go.Proofs.YtpjleeeligahaaaGreatDoor
open Go.RowKit

theorem sealL_eq (k : UInt8) (b : List UInt8) : sealL k b = 229 :: k :: UInt8.ofNat (b.length / 65536) :: UInt8.ofNat (b.length / 256 % 256) :: UInt8.ofNat (b.length % 256) :: (b ++ fourB (crcL (bodyL k b))) := by
  unfold sealL bodyL
  simp
theorem lenF_seal (k : UInt8) (b r : List UInt8) (h : b.length ≤ 100000) : lenF (sealL k b ++ r) = b.length := by
  rw [sealL_eq]
  show 65536 * (UInt8.ofNat (b.length / 65536)).toNat + 256 * (UInt8.ofNat (b.length / 256 % 256)).toNat + (UInt8.ofNat (b.length % 256)).toNat = b.length
  rw [UInt8.toNat_ofNat', UInt8.toNat_ofNat', UInt8.toNat_ofNat']
  omega
/-- A frame, whatever stands behind it, is taken. -/
theorem take_seal (k : UInt8) (b r : List UInt8) (h : b.length ≤ 100000) : takeF (sealL k b ++ r) = (k, b, b.length + 9, 0) := by
  have hl := sealL_len k b
  have h0 : byteAt (sealL k b ++ r) 0 = 229 := by rw [sealL_eq]; rfl
  have h1 : byteAt (sealL k b ++ r) 1 = k := by rw [sealL_eq]; rfl
  have hd : ((sealL k b ++ r).drop 5).take b.length = b := by
    rw [sealL_eq]
    show ((b ++ fourB (crcL (bodyL k b))) ++ r).take b.length = b
    rw [List.append_assoc, List.take_left]
  have ht : (sealL k b ++ r).take (b.length + 9) = sealL k b := by
    rw [show b.length + 9 = (sealL k b).length by omega, List.take_left]
  unfold takeF
  rw [if_neg, if_neg, lenF_seal k b r h, if_neg, h1, hd]
  · rw [h1, hd, ht]
    exact fun e => e rfl
  · rw [lenF_seal k b r h, List.length_append, hl]
    omega
  · rw [h0, List.length_append, hl]
    simp
    omega
theorem open_seal (k : UInt8) (b : List UInt8) (h : b.length ≤ 100000) : openF (sealL k b) = (k, b, 0) := by
  have ht := take_seal k b [] h
  rw [List.append_nil] at ht
  unfold openF
  rw [ht, sealL_len]
  simp only
  rw [if_neg (by omega)]
/-- With bytes more. -/
theorem open_more (k : UInt8) (b r : List UInt8) (h : b.length ≤ 100000) (hr : r ≠ []) : openF (sealL k b ++ r) = (0, [], 2) := by
  have h1 : 0 < r.length := List.length_pos_iff.2 hr
  unfold openF
  rw [take_seal k b r h, List.length_append, sealL_len]
  simp only
  rw [if_pos (by omega)]
/-- How long what is taken is. -/
theorem takeF_size {b : List UInt8} (h : (takeF b).2.2.1 ≠ 0) : 9 ≤ b.length ∧ byteAt b 0 = 229 ∧ lenF b ≤ 100000 ∧ lenF b + 9 ≤ b.length ∧ (takeF b).2.2.1 = lenF b + 9 := by
  unfold takeF at h ⊢
  by_cases h1 : b.length < 9 ∨ byteAt b 0 ≠ 229
  · rw [if_pos h1] at h
    exact absurd rfl h
  · rw [if_neg h1] at h ⊢
    by_cases h2 : 100000 < lenF b ∨ b.length < lenF b + 9
    · rw [if_pos h2] at h
      exact absurd rfl h
    · rw [if_neg h2]
      have h3 : byteAt b 0 = 229 := Classical.byContradiction fun e => h1 (Or.inr e)
      refine ⟨by omega, h3, by omega, by omega, ?_⟩
      split <;> rfl
/-- What is opened is a frame. -/
theorem open_is {x : List UInt8} {k : UInt8} {b : List UInt8} (h : openF x = (k, b, 0)) : x = sealL k b ∧ b.length ≤ 100000 := by
  unfold openF at h
  by_cases h1 : (takeF x).2.2.1 ≠ x.length ∨ (takeF x).2.2.1 = 0
  · rw [if_pos h1] at h
    simp at h
  · rw [if_neg h1] at h
    have hne : (takeF x).2.2.1 ≠ 0 := fun e => h1 (Or.inr e)
    have hsz : (takeF x).2.2.1 = x.length := Classical.byContradiction fun e => h1 (Or.inl e)
    obtain ⟨q1, q2, q3, q4, q5⟩ := takeF_size hne
    have hcode : (takeF x).2.2.2 = 0 := congrArg (fun p => p.2.2) h
    have hk : (takeF x).1 = k := congrArg (fun p => p.1) h
    have hb : (takeF x).2.1 = b := congrArg (fun p => p.2.1) h
    unfold takeF at hcode hk hb
    rw [if_neg (by rw [q2]; simp; omega), if_neg (by omega)] at hcode hk hb
    by_cases h3 : sealL (byteAt x 1) ((x.drop 5).take (lenF x)) ≠ x.take (lenF x + 9)
    · rw [if_pos h3] at hcode
      simp at hcode
    · rw [if_neg h3] at hk hb
      simp only at hk hb
      have h4 : sealL (byteAt x 1) ((x.drop 5).take (lenF x)) = x.take (lenF x + 9) := Classical.byContradiction h3
      rw [hk, hb, List.take_of_length_le (by omega)] at h4
      refine ⟨h4.symm, ?_⟩
      rw [← hb, List.length_take]
      omega
end Go.Proofs.YtpjleeeligahaaaGreatDoor

namespace Go.Proofs.YtpjleeeligahaaaGreatDoor
open Go.RowKit

/-- What Open comes to. -/
theorem open_size {b : List UInt8} : ((takeF b).2.2.1 = 0 → openF b = (0, [], 2)) ∧ ((takeF b).2.2.1 ≠ 0 → (takeF b).2.2.1 ≠ b.length → (takeF b).2.2.1 < b.length ∧ openF b = (0, [], 2)) ∧
    ((takeF b).2.2.1 = b.length → (takeF b).2.2.1 ≠ 0 → openF b = unsF b ∧ 9 ≤ b.length) := by
  refine ⟨fun h => ?_, fun h k => ?_, fun h k => ?_⟩
  · unfold openF
    rw [if_pos (.inr h)]
  · obtain ⟨_, _, _, q4, q5⟩ := takeF_size h
    refine ⟨by omega, ?_⟩
    unfold openF
    rw [if_pos (.inl k)]
  · obtain ⟨q1, q2, q3, q4, q5⟩ := takeF_size k
    have hu := uns_take q1 q2 q3 q4
    rw [List.take_of_length_le (by omega)] at hu
    refine ⟨?_, q1⟩
    unfold openF
    rw [if_neg (by omega), hu]

set_option maxRecDepth 100000 in
set_option maxHeartbeats 4000000 in
theorem open_any (A : Option Addr) (n c : Nat) (b : List UInt8) (w : World) (hL : LaidF w) (hn : b.length = n) (hc : n ≤ c) (hm : n ≤ 200000) (hr : RdB w.heap.size w A b) :
    Calls Tryz.prog 40 #[.slice A n c] w fun e w' => (∃ (A' : Option Addr) (c' : Nat), e = .returned (.tuple #[.agg #[.int .u8 ((openF b).1.toNat : Int), .slice A' (openF b).2.1.length c'], .int .i64 ((openF b).2.2 : Nat)]) ∧ OwnB w.heap.size w' A' (openF b).2.1.length c' (openF b).2.1) ∧ Below w.heap.size w w' := by
  have hO := @open_size b
  have HN := Lib.hid hn
  have gm : (n : Int) ≤ 200000 := by omega
  have hB1 := b0 w (.cells #[.int .u8 0, .slice none 0 0] 99)
  have hP := blk_new w #[.int .u8 0, .slice none 0 0] 99
  have FL := length_any A n c b (w.alloc (.cells #[.int .u8 0, .slice none 0 0] 99)) hn hc (hr.keep hB1 (Nat.le_refl _)) (by omega)
  have HA := Lib.hid (fun W (h : Below w.heap.size w W) v m (hv : ErrF v m) => fanswer_any v m W (hL.keep h) hv)
  have HU := Lib.hid (fun W (h : Below w.heap.size w W) (h9 : 9 ≤ n) => unseal_any A n c b W (hL.keep h) hn (hr.keep h (Nat.le_refl _)) h.size h9 hc (by omega))
  rw [hn] at hO
  generalize openF b = r at hO ⊢
  generalize unsF b = u at hO HU
  generalize (takeF b).2.2.2 = code at FL
  generalize (takeF b).2.2.1 = s at FL hO
  have HO := Lib.hid hO
  have HFL := Lib.hid FL
  clear hO FL hn
  go_enter Tryz.func40, Tryz.ntmps40
  go_wp2_with fail
  refine HFL.out.mono ?_
  rintro e w1 ⟨⟨v, rfl, hv⟩, hb1⟩
  replace hB1 := bt hB1 hb1
  replace hP := hP.keep hb1
  clear HFL hb1
  rcases hv with ⟨hs0, rfl⟩ | ⟨hs0, rfl, hv⟩
  · by_cases hsn : s = n
    · have e1 : ¬ (s : Int) < (n : Int) := by omega
      have R := Lib.hid (HO.out.2.2 hsn hs0)
      have FU := Lib.hid (HU.out w1 hB1 R.out.2)
      clear HU HO
      go_wp2_with fail
      refine FU.out.mono ?_
      rintro e w2 ⟨⟨A2, c2, v, rfl, hO2, hv⟩, hb2⟩
      have hlt1 := hP.lt
      have hz1 := hB1.size
      replace hB1 := bt hB1 hb2
      replace hP := hP.keep hb2
      have RU : Hid (r = u) := R.out.1
      obtain ⟨k, ins, m⟩ := u
      simp only at hO2 hv ⊢
      generalize hil : ins.length = il at hO2 ⊢
      have HIL := Lib.hid hil
      have hQ := blk_new w2 #[.int .u8 (k.toNat : Int), .slice A2 il c2] 99
      have hO3 := hO2.keep (b0 w2 (.cells #[.int .u8 (k.toNat : Int), .slice A2 il c2] 99))
      have hB3 := ba hB1 (.cells #[.int .u8 (k.toNat : Int), .slice A2 il c2] 99)
      have hP3 := hP.keep (b0 w2 (.cells #[.int .u8 (k.toNat : Int), .slice A2 il c2] 99))
      have hlt3 : w.heap.size < (w2.alloc (.cells #[.int .u8 (k.toNat : Int), .slice A2 il c2] 99)).heap.size := hP3.lt
      clear FU hb2 hil
      go_wp2_with fail
      go_region_with ((go_at_call 85; refine (HA.out _ (below_draws hB3 _) v m hv.err).mono ?_; rintro e w4 ⟨rfl, hb4⟩; have hP4 := Blk.keep (Blk.drew hP3 _) hb4; have hQ4 := Blk.keep (Blk.drew hQ _) hb4; have p0 := hP4.cell 0; have p1 := hP4.cell 1; have f0 := hP4.free 0; have f1 := hP4.free 1; have q0 := hQ4.cell 0; have q1 := hQ4.cell 1; have hO4 := OwnB.keep (OwnB.draws hO3 _) hb4; have hB4 := bt (below_draws hB3 _) hb4))
      all_goals
        go_wp2_with fail
        have hP8 := (hP4.set 0 (.int .u8 (k.toNat : Int))).set 1 (.slice A2 il c2)
        have hO8 := ((hO4.other hlt1 0 (.int .u8 (k.toNat : Int))).other hlt1 1 (.slice A2 il c2)).less hz1
        have hB8 : Below w.heap.size w ((w4.setCell ⟨w.heap.size, 0, none⟩ (.int .u8 (k.toNat : Int))).setCell ⟨w.heap.size, 1, none⟩ (.slice A2 il c2)) := (hB4.setCell (p := ⟨w.heap.size, 0, none⟩) (Nat.le_refl _) _).setCell (p := ⟨w.heap.size, 1, none⟩) (Nat.le_refl _) _
        generalize (w4.setCell ⟨w.heap.size, 0, none⟩ (.int .u8 (k.toNat : Int))).setCell ⟨w.heap.size, 1, none⟩ (.slice A2 il c2) = W8 at hP8 hO8 hB8 ⊢
        have p2 : W8.cell? ⟨w.heap.size, 0, none⟩ = some (.int .u8 (k.toNat : Int)) := hP8.cell 0
        have p3 : W8.cell? ⟨w.heap.size, 1, none⟩ = some (.slice A2 il c2) := hP8.cell 1
        refine bodyPost_ret (v := .tuple #[.agg #[.int .u8 (k.toNat : Int), .slice A2 il c2], .int .i64 (m : Nat)]) (by simp [results, Tryz.results40, go_sem, p2, p3]) rfl ?_
        rw [RU.out]
        simp only
        rw [HIL.out]
        exact ⟨⟨A2, c2, rfl, hO8⟩, hB8⟩
    · have R := Lib.hid (HO.out.2.1 hs0 hsn).2
      have e1 : (s : Int) < (n : Int) := by
        have := (HO.out.2.1 hs0 hsn).1
        omega
      have HV : Hid (ErrF (.iface 139 (.agg #[.int .i64 (n : Nat), .int .i64 2])) 2) := .inr (.inr ⟨_, rfl⟩)
      clear HU HO
      go_wp2_with fail
      refine (HA.out w1 hB1 _ 2 HV.out).mono ?_
      rintro e w4 ⟨rfl, hb4⟩
      have hP4 := hP.keep hb4
      have hB4 := bt hB1 hb4
      have p0 := hP4.cell 0
      have p1 := hP4.cell 1
      have f0 := hP4.free 0
      have f1 := hP4.free 1
      go_wp2_with fail
      have hP8 := (hP4.set 0 (.int .u8 0)).set 1 (.slice none 0 0)
      have hB8 : Below w.heap.size w ((w4.setCell ⟨w.heap.size, 0, none⟩ (.int .u8 0)).setCell ⟨w.heap.size, 1, none⟩ (.slice none 0 0)) := (hB4.setCell (p := ⟨w.heap.size, 0, none⟩) (Nat.le_refl _) _).setCell (p := ⟨w.heap.size, 1, none⟩) (Nat.le_refl _) _
      generalize (w4.setCell ⟨w.heap.size, 0, none⟩ (.int .u8 0)).setCell ⟨w.heap.size, 1, none⟩ (.slice none 0 0) = W8 at hP8 hB8 ⊢
      have p2 : W8.cell? ⟨w.heap.size, 0, none⟩ = some (.int .u8 0) := hP8.cell 0
      have p3 : W8.cell? ⟨w.heap.size, 1, none⟩ = some (.slice none 0 0) := hP8.cell 1
      refine bodyPost_ret (v := .tuple #[.agg #[.int .u8 0, .slice none 0 0], .int .i64 2]) (by simp [results, Tryz.results40, go_sem, p2, p3]) rfl ?_
      rw [R.out]
      exact ⟨⟨none, 0, rfl, OwnB.nil _ _⟩, hB8⟩
  · have R := Lib.hid (HO.out.1 hs0)
    rcases hv with rfl | ⟨l, rfl⟩
    · have HV : Hid (ErrF (.iface 188 (.int .i64 2)) 2) := .inr (.inl rfl)
      clear HU HO
      go_wp2_with fail
      refine (HA.out w1 hB1 _ 2 HV.out).mono ?_
      rintro e w4 ⟨rfl, hb4⟩
      have hP4 := hP.keep hb4
      have hB4 := bt hB1 hb4
      have p0 := hP4.cell 0
      have p1 := hP4.cell 1
      have f0 := hP4.free 0
      have f1 := hP4.free 1
      go_wp2_with fail
      have hP8 := (hP4.set 0 (.int .u8 0)).set 1 (.slice none 0 0)
      have hB8 : Below w.heap.size w ((w4.setCell ⟨w.heap.size, 0, none⟩ (.int .u8 0)).setCell ⟨w.heap.size, 1, none⟩ (.slice none 0 0)) := (hB4.setCell (p := ⟨w.heap.size, 0, none⟩) (Nat.le_refl _) _).setCell (p := ⟨w.heap.size, 1, none⟩) (Nat.le_refl _) _
      generalize (w4.setCell ⟨w.heap.size, 0, none⟩ (.int .u8 0)).setCell ⟨w.heap.size, 1, none⟩ (.slice none 0 0) = W8 at hP8 hB8 ⊢
      have p2 : W8.cell? ⟨w.heap.size, 0, none⟩ = some (.int .u8 0) := hP8.cell 0
      have p3 : W8.cell? ⟨w.heap.size, 1, none⟩ = some (.slice none 0 0) := hP8.cell 1
      refine bodyPost_ret (v := .tuple #[.agg #[.int .u8 0, .slice none 0 0], .int .i64 2]) (by simp [results, Tryz.results40, go_sem, p2, p3]) rfl ?_
      rw [R.out]
      exact ⟨⟨none, 0, rfl, OwnB.nil _ _⟩, hB8⟩
    · have HV : Hid (ErrF (.iface 139 (.agg #[.int .i64 l, .int .i64 2])) 2) := .inr (.inr ⟨l, rfl⟩)
      clear HU HO
      go_wp2_with fail
      refine (HA.out w1 hB1 _ 2 HV.out).mono ?_
      rintro e w4 ⟨rfl, hb4⟩
      have hP4 := hP.keep hb4
      have hB4 := bt hB1 hb4
      have p0 := hP4.cell 0
      have p1 := hP4.cell 1
      have f0 := hP4.free 0
      have f1 := hP4.free 1
      go_wp2_with fail
      have hP8 := (hP4.set 0 (.int .u8 0)).set 1 (.slice none 0 0)
      have hB8 : Below w.heap.size w ((w4.setCell ⟨w.heap.size, 0, none⟩ (.int .u8 0)).setCell ⟨w.heap.size, 1, none⟩ (.slice none 0 0)) := (hB4.setCell (p := ⟨w.heap.size, 0, none⟩) (Nat.le_refl _) _).setCell (p := ⟨w.heap.size, 1, none⟩) (Nat.le_refl _) _
      generalize (w4.setCell ⟨w.heap.size, 0, none⟩ (.int .u8 0)).setCell ⟨w.heap.size, 1, none⟩ (.slice none 0 0) = W8 at hP8 hB8 ⊢
      have p2 : W8.cell? ⟨w.heap.size, 0, none⟩ = some (.int .u8 0) := hP8.cell 0
      have p3 : W8.cell? ⟨w.heap.size, 1, none⟩ = some (.slice none 0 0) := hP8.cell 1
      refine bodyPost_ret (v := .tuple #[.agg #[.int .u8 0, .slice none 0 0], .int .i64 2]) (by simp [results, Tryz.results40, go_sem, p2, p3]) rfl ?_
      rw [R.out]
      exact ⟨⟨none, 0, rfl, OwnB.nil _ _⟩, hB8⟩
end Go.Proofs.YtpjleeeligahaaaGreatDoor

namespace Go.Proofs.YtpjleeeligahaaaGreatDoor
open Go.RowKit

abbrev ltW : Lt := ⟨4, 0, 3, 2, 1, 0, 0, 0, 0, 0, 0, 0, false, [], [], [], [], 0, 0, 0, 0, 0, 0, 0, 0, 0, 0, 0, 0⟩
abbrev hn0 : Hn := ⟨none, none, none, none, 0, 0, 0, 0, 0, 0, 0, 0⟩
theorem goodLs_nil {α : Type} {g : α → Bool} {lt : α → α → Bool} : goodLs g lt [] = true := goodLs_yes fun i hi => by simp at hi
theorem tail_nil (x : Lt) (h1 : x.re = []) (h2 : x.ws = []) (h3 : x.ls = []) (h4 : x.cs = []) (h5 : goodLa x.la = true) : tailB x = true := by
  unfold tailB goodLns goodCls goodAll
  rw [h1, h2, h3, h4, h5, goodLs_nil, goodLs_nil]
  rfl
theorem ltW_good : goodLt ltW = true := by
  unfold goodLt
  rw [tail_nil ltW rfl rfl rfl rfl (by decide)]
  decide
theorem ltW_ins : insB ltW = [0, 1, 3, 1, 2, 1, 1, 0, 0, 0, 0, 0, 0, 0, 0, 0, 0, 0, 0, 0, 0, 0, 0, 0, 0, 0, 0, 0, 0, 0, 0] := by decide +kernel
theorem ltR_nil (B : Nat) (W : World) (x : Lt) (h1 : x.re = []) (h2 : x.ws = []) (h3 : x.ls = []) (h4 : x.cs = []) : LtR B W x hn0 :=
  ⟨by rw [h1]; rfl, by rw [h1]; exact RdS.nil _ _ _, by rw [h2]; rfl, by rw [h2]; exact RdW.nil _ _ _, by rw [h3]; rfl, by rw [h3]; exact RdX.nil _ _ _ _, by rw [h4]; rfl, by rw [h4]; exact RdX.nil _ _ _ _⟩
theorem ltF_nil (x : Lt) (h1 : x.re = []) (h2 : x.ws = []) (h3 : x.ls = []) (h4 : x.cs = []) : LtF x :=
  ⟨fun s hs => by rw [h1] at hs; simp at hs, fun s hs => by rw [h2] at hs; simp at hs, fun s hs => by rw [h3] at hs; simp at hs, fun s hs => by rw [h4] at hs; simp at hs, by rw [h1]; exact Nat.zero_le _, by rw [h2]; exact Nat.zero_le _, by rw [h3]; exact Nat.zero_le _, by rw [h4]; exact Nat.zero_le _⟩
def OpR (w : World) (b : List UInt8) (v : Value) (w' : World) : Prop := ∃ (A : Option Addr) (c : Nat), v = .tuple #[.agg #[.int .u8 ((openF b).1.toNat : Int), .slice A (openF b).2.1.length c], .int .i64 ((openF b).2.2 : Nat)] ∧ OwnB w.heap.size w' A (openF b).2.1.length c (openF b).2.1 ∧ Below w.heap.size w w'
theorem open_x (A : Option Addr) (n c : Nat) (b : List UInt8) (w : World) (hL : LaidF w) (hn : b.length = n) (hc : n ≤ c) (hm : n ≤ 200000) (hr : RdB w.heap.size w A b) : Calls Tryz.prog 40 #[.slice A n c] w fun e w' => ∃ v, e = .returned v ∧ OpR w b v w' :=
  (open_any A n c b w hL hn hc hm hr).mono fun _ _ ⟨⟨A, c, he, hO⟩, hb⟩ => ⟨_, he, A, c, rfl, hO, hb⟩
theorem enters_fOpen : ∀ args w, (callFunc 40 args).run Tryz.prog w = .ok (.enter 40 args) w := enters_of Tryz.func40 (by kernel_rfl) rfl
theorem enters_awake8 : ∀ args w, (callFunc 16 args).run Tryz.prog w = .ok (.enter 16 args) w := enters_of Tryz.func16 (by kernel_rfl) rfl

set_option maxRecDepth 100000 in
set_option maxHeartbeats 4000000 in
theorem awake8_any (w : World) (hL : LaidF w) : Calls Tryz.prog 16 #[] w fun e w' => e = .returned (.bool true) ∧ Below w.heap.size w w' := by
  have hgood : LtS ltW := ⟨by rw [ltW_ins]; decide, by decide, by decide⟩
  have HE := Lib.hid (encode_good ltW hn0 w (ltR_nil w.heap.size w ltW rfl rfl rfl rfl) (Nat.le_refl _) (ltF_nil ltW rfl rfl rfl rfl) ltW_good hgood hL)
  go_enter Tryz.func16, Tryz.ntmps16
  go_upto_region 1 with fail
  refine wp_region_lit ?_
  refine fl_start ?_
  generalize ha : Act.mk _ _ = a0
  have hn : a0.tmps.size = 39 := by rw [← ha]; kernel_rfl
  refine g_bd hn ?_ (qs := #[(0, .int .i64 4), (2, .int .i64 3), (3, .int .i64 2), (4, .int .i64 1)]) (v := .agg (ltI ltW hn0)) (hx := by kernel_rfl)
  refine g_c1x enters_Encode hn HE.out ?_
  rintro v w1 ⟨A1, n1, c1, rfl, hO1, hb1⟩
  repeat first | refine g_mv hn ?_ | refine g_as hn ?_ | refine g_fdL hn ?_ | refine g_ldL hn HX.out ?_ | refine g_ldA hn HX.out ?_ | refine g_fd hn ?_ | refine g_ld hn ?_ | refine g_nc hn ?_ | refine g_nt hn ?_ | refine g_an hn ?_ | refine g_or hn ?_ | refine g_ln hn ?_ | refine g_ex hn ?_ | refine g_neq2 hn ?_ | refine g_neq hn ?_ | refine g_eql2 hn ?_ | refine g_eql hn ?_ | refine g_leq2 hn ?_ | refine g_leq hn ?_ | refine g_lss2 hn ?_ | refine g_lss hn ?_ | refine g_gtr2 hn ?_ | refine g_gtr hn ?_ | refine g_geq2 hn ?_ | refine g_geq hn ?_ | refine g_b0 hn ?_ | refine g_bn hn ?_ | refine g_bc hn ?_ | refine g_cv hn ?_ | refine g_ac hn ?_ | refine g_mc hn ?_
  refine fl_end ?_
  clear hn
  subst ha
  dsimp only [fr, cnd, Act.put, cond_true]
  simp only [List.setIfInBounds_toArray, List.set_cons_zero, List.set_cons_succ]
  have hl1 := hO1.len
  have hs1 : (encB ltW).length = 40 := by unfold encB; rw [sealL_len, ltW_ins]; rfl
  have he : openF (encB ltW) = (4, insB ltW, 0) := open_seal 4 (insB ltW) (by rw [ltW_ins]; decide)
  have HO := Lib.hid (open_x A1 n1 c1 (encB ltW) w1 (hL.keep hb1) hl1 hO1.cap.1 (by omega) hO1.rd)
  unfold OpR at HO
  rw [he] at HO
  dsimp only at HO
  have hi : (insB ltW).length = 31 := by rw [ltW_ins]; rfl
  rw [hi] at HO
  have HB := Lib.hid hb1
  have HE2 := Lib.hid he
  clear hs1 hl1 he HE hgood hO1 hb1
  go_upto_region 2 with fail
  refine wp_region_lit ?_
  refine fl_start ?_
  generalize ha : Act.mk _ _ = a0
  have hn : a0.tmps.size = 39 := by rw [← ha]; kernel_rfl
  have h1 : (fr a0 []).eval (.tmp 1) = .slice A1 n1 c1 := by rw [← ha]; kernel_rfl
  refine fl_know hn rfl h1 ?_
  clear h1
  repeat first | refine g_mv hn ?_ | refine g_as hn ?_ | refine g_fd hn ?_ | refine g_ld hn ?_ | refine g_nc hn ?_ | refine g_nt hn ?_ | refine g_an hn ?_ | refine g_or hn ?_ | refine g_ln hn ?_ | refine g_ex hn ?_ | refine g_neq2 hn ?_ | refine g_neq hn ?_ | refine g_eql2 hn ?_ | refine g_eql hn ?_ | refine g_leq2 hn ?_ | refine g_leq hn ?_ | refine g_lss2 hn ?_ | refine g_lss hn ?_ | refine g_gtr2 hn ?_ | refine g_gtr hn ?_ | refine g_geq2 hn ?_ | refine g_geq hn ?_ | refine g_b0 hn ?_ | refine g_bn hn ?_ | refine g_bc hn ?_ | refine g_cv hn ?_ | refine g_ac hn ?_ | refine g_mc hn ?_
  refine g_c1x enters_fOpen hn HO.out ?_
  rintro v w2 ⟨A2, c2, rfl, hO2, hb2⟩
  have HB2 := Lib.hid (bt HB.out hb2)
  have HO2 := Lib.hid hO2
  have hc2 := hO2.cap.1
  clear hb2 HB HO hO2
  repeat first | refine g_mv hn ?_ | refine g_as hn ?_ | refine g_fd hn ?_ | refine g_ld hn ?_ | refine g_nc hn ?_ | refine g_nt hn ?_ | refine g_an hn ?_ | refine g_or hn ?_ | refine g_ln hn ?_ | refine g_ex hn ?_ | refine g_neq2 hn ?_ | refine g_neq hn ?_ | refine g_eql2 hn ?_ | refine g_eql hn ?_ | refine g_leq2 hn ?_ | refine g_leq hn ?_ | refine g_lss2 hn ?_ | refine g_lss hn ?_ | refine g_gtr2 hn ?_ | refine g_gtr hn ?_ | refine g_geq2 hn ?_ | refine g_geq hn ?_ | refine g_b0 hn ?_ | refine g_bn hn ?_ | refine g_bc hn ?_ | refine g_cv hn ?_ | refine g_ac hn ?_ | refine g_mc hn ?_
  refine g_w hn (w2 := w2.alloc (.cells #[.int .u8 0, .slice none 0 0] 99)) (v := .pointer (some ⟨w2.heap.size, 0, none⟩)) (fun _ => by kernel_rfl) ?_
  have hY := blk_new w2 #[.int .u8 0, .slice none 0 0] 99
  have hB3 := b0 w2 (.cells #[.int .u8 0, .slice none 0 0] 99)
  generalize w2.alloc (.cells #[.int .u8 0, .slice none 0 0] 99) = w3 at hY hB3 ⊢
  generalize hg : w2.heap.size = g at hY hB3 ⊢
  refine g_str hY ?_ (h1 := by simp [Value.oneCell'])
  intro w4 ho hY4
  repeat first | refine g_mv hn ?_ | refine g_as hn ?_ | refine g_fd hn ?_ | refine g_ld hn ?_ | refine g_nc hn ?_ | refine g_nt hn ?_ | refine g_an hn ?_ | refine g_or hn ?_ | refine g_ln hn ?_ | refine g_ex hn ?_ | refine g_neq2 hn ?_ | refine g_neq hn ?_ | refine g_eql2 hn ?_ | refine g_eql hn ?_ | refine g_leq2 hn ?_ | refine g_leq hn ?_ | refine g_lss2 hn ?_ | refine g_lss hn ?_ | refine g_gtr2 hn ?_ | refine g_gtr hn ?_ | refine g_geq2 hn ?_ | refine g_geq hn ?_ | refine g_b0 hn ?_ | refine g_bn hn ?_ | refine g_bc hn ?_ | refine g_cv hn ?_ | refine g_ac hn ?_ | refine g_mc hn ?_
  refine fl_end ?_
  clear hn
  subst ha
  dsimp only [fr, cnd, Act.put, cond_true]
  simp only [List.setIfInBounds_toArray, List.set_cons_zero, List.set_cons_succ]
  have hB4 : Below w.heap.size w w4 := by
    have := hB3.trans (ho.below (Nat.le_refl g))
    rw [← hg] at this
    exact bt HB2.out this
  have hR4 : RdB w4.heap.size w4 A2 (insB ltW) := ((HO2.out.rd.keep (hB3.trans (ho.below (Nat.le_refl g))) (Nat.le_of_eq hg)).more (by
    have := (hB3.trans (ho.below (Nat.le_refl g))).size
    omega))
  have hm : (insB ltW).length = 31 := hi
  have q0 : w4.cell? ⟨g, 0, none⟩ = some (.int .u8 4) := hY4.cell 0
  have q1 : w4.cell? ⟨g, 1, none⟩ = some (.slice A2 31 c2) := hY4.cell 1
  have cu : (Instr.sliceAt 23 (.slice A2 31 c2) none (some (.int .i64 7)) none).run Tryz.prog w4 = .ok (.slice A2 7 c2) w4 := run_cut0 w4 A2 31 c2 7 7 rfl (by omega) hc2
  have cv : (convert 23 9 (.slice A2 7 c2)).run Tryz.prog w4 = .ok (.string ⟨#[0, 1, 3, 1, 2, 1, 1]⟩) w4 := by
    have h7 : (insB ltW).take 7 = [0, 1, 3, 1, 2, 1, 1] := by rw [ltW_ins]; rfl
    have := conv_rd w4 A2 7 c2 ((insB ltW).take 7) (by rw [h7]; rfl) (hR4.take 7)
    rwa [h7] at this
  have HB4 := Lib.hid hB4
  clear hR4 hB4 hY4 hY ho hB3 hi hm hc2 HO2 HB2 HE2 hL
  go_wp2_with fail
  go_ret
  exact ⟨rfl, HB4.out⟩
end Go.Proofs.YtpjleeeligahaaaGreatDoor
