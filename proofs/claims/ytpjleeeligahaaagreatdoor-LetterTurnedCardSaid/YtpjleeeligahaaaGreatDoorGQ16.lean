/-
  WHAT IS PROVED: plain facts: a frame is opened again; one of which one byte is another isn't; nor one with a byte more or fewer. · package frame's Open and Seal: what they answer, as the chapter says. Conditions: those typed in each theorem. · the fixed fact of layer 8 (spinneylaw08.awake) holds. Condition: what the row lists is laid. · the cells of a letter that lies in a block of its own (the document's type), as steps of a chain (Fast4). Over this program · whether two lists of cells, of lines are the same (spinneyref07.Same, SameCells); lines as the document has them. Conditions: those typed in each theorem.
-/
import Derived.Test.YtpjleeeligahaaaGreatDoorGQ14
import Derived.Test.YtpjleeeligahaaaGreatDoorGQ15
import Derived.Test.YtpjleeeligahaaaGreatDoorGQ2
import Derived.Test.YtpjleeeligahaaaGreatDoorGQ3
import Derived.Test.YtpjleeeligahaaaGreatDoorGQ9
import Derived.Test.YtpjleeeligahaaaGreatDoorGQ11
namespace Go.Proofs.YtpjleeeligahaaaGreatDoor
open Go.RowKit

theorem sealL_eq (k : UInt8) (b : List UInt8) : sealL k b = 229 :: k :: UInt8.ofNat (b.length / 65536) :: UInt8.ofNat (b.length / 256 % 256) :: UInt8.ofNat (b.length % 256) :: (b ++ fourB (crcL (bodyL k b))) := by
  unfold sealL bodyL
  simp
theorem lenF_seal (k : UInt8) (b r : List UInt8) (h : b.length ≤ 100000) : lenF (sealL k b ++ r) = b.length := by
  rw [sealL_eq]
  show 65536 * (UInt8.ofNat (b.length / 65536)).toNat + 256 * (UInt8.ofNat (b.length / 256 % 256)).toNat + (UInt8.ofNat (b.length % 256)).toNat = b.length
  rw [UInt8.toNat_ofNat', UInt8.toNat_ofNat', UInt8.toNat_ofNat']
  omega
/-- A frame, whatever stands behind it, is taken. -/
theorem take_seal (k : UInt8) (b r : List UInt8) (h : b.length ≤ 100000) : takeF (sealL k b ++ r) = (k, b, b.length + 9, 0) := by
  have hl := sealL_len k b
  have h0 : byteAt (sealL k b ++ r) 0 = 229 := by rw [sealL_eq]; rfl
  have h1 : byteAt (sealL k b ++ r) 1 = k := by rw [sealL_eq]; rfl
  have hd : ((sealL k b ++ r).drop 5).take b.length = b := by
    rw [sealL_eq]
    show ((b ++ fourB (crcL (bodyL k b))) ++ r).take b.length = b
    rw [List.append_assoc, List.take_left]
  have ht : (sealL k b ++ r).take (b.length + 9) = sealL k b := by
    rw [show b.length + 9 = (sealL k b).length by omega, List.take_left]
  unfold takeF
  rw [if_neg, if_neg, lenF_seal k b r h, if_neg, h1, hd]
  · rw [h1, hd, ht]
    exact fun e => e rfl
  · rw [lenF_seal k b r h, List.length_append, hl]
    omega
  · rw [h0, List.length_append, hl]
    simp
    omega
theorem open_seal (k : UInt8) (b : List UInt8) (h : b.length ≤ 100000) : openF (sealL k b) = (k, b, 0) := by
  have ht := take_seal k b [] h
  rw [List.append_nil] at ht
  unfold openF
  rw [ht, sealL_len]
  simp only
  rw [if_neg (by omega)]
/-- With bytes more. -/
theorem open_more (k : UInt8) (b r : List UInt8) (h : b.length ≤ 100000) (hr : r ≠ []) : openF (sealL k b ++ r) = (0, [], 2) := by
  have h1 : 0 < r.length := List.length_pos_iff.2 hr
  unfold openF
  rw [take_seal k b r h, List.length_append, sealL_len]
  simp only
  rw [if_pos (by omega)]
/-- How long what is taken is. -/
theorem takeF_size {b : List UInt8} (h : (takeF b).2.2.1 ≠ 0) : 9 ≤ b.length ∧ byteAt b 0 = 229 ∧ lenF b ≤ 100000 ∧ lenF b + 9 ≤ b.length ∧ (takeF b).2.2.1 = lenF b + 9 := by
  unfold takeF at h ⊢
  by_cases h1 : b.length < 9 ∨ byteAt b 0 ≠ 229
  · rw [if_pos h1] at h
    exact absurd rfl h
  · rw [if_neg h1] at h ⊢
    by_cases h2 : 100000 < lenF b ∨ b.length < lenF b + 9
    · rw [if_pos h2] at h
      exact absurd rfl h
    · rw [if_neg h2]
      have h3 : byteAt b 0 = 229 := Classical.byContradiction fun e => h1 (Or.inr e)
      refine ⟨by omega, h3, by omega, by omega, ?_⟩
      split <;> rfl
/-- What is opened is a frame. -/
theorem open_is {x : List UInt8} {k : UInt8} {b : List UInt8} (h : openF x = (k, b, 0)) : x = sealL k b ∧ b.length ≤ 100000 := by
  unfold openF at h
  by_cases h1 : (takeF x).2.2.1 ≠ x.length ∨ (takeF x).2.2.1 = 0
  · rw [if_pos h1] at h
    simp at h
  · rw [if_neg h1] at h
    have hne : (takeF x).2.2.1 ≠ 0 := fun e => h1 (Or.inr e)
    have hsz : (takeF x).2.2.1 = x.length := Classical.byContradiction fun e => h1 (Or.inl e)
    obtain ⟨q1, q2, q3, q4, q5⟩ := takeF_size hne
    have hcode : (takeF x).2.2.2 = 0 := congrArg (fun p => p.2.2) h
    have hk : (takeF x).1 = k := congrArg (fun p => p.1) h
    have hb : (takeF x).2.1 = b := congrArg (fun p => p.2.1) h
    unfold takeF at hcode hk hb
    rw [if_neg (by rw [q2]; simp; omega), if_neg (by omega)] at hcode hk hb
    by_cases h3 : sealL (byteAt x 1) ((x.drop 5).take (lenF x)) ≠ x.take (lenF x + 9)
    · rw [if_pos h3] at hcode
      simp at hcode
    · rw [if_neg h3] at hk hb
      simp only at hk hb
      have h4 : sealL (byteAt x 1) ((x.drop 5).take (lenF x)) = x.take (lenF x + 9) := Classical.byContradiction h3
      rw [hk, hb, List.take_of_length_le (by omega)] at h4
      refine ⟨h4.symm, ?_⟩
      rw [← hb, List.length_take]
      omega
end Go.Proofs.YtpjleeeligahaaaGreatDoor

namespace Go.Proofs.YtpjleeeligahaaaGreatDoor
open Go.RowKit

/-- What Open comes to. -/
theorem open_size {b : List UInt8} : ((takeF b).2.2.1 = 0 → openF b = (0, [], 2)) ∧ ((takeF b).2.2.1 ≠ 0 → (takeF b).2.2.1 ≠ b.length → (takeF b).2.2.1 < b.length ∧ openF b = (0, [], 2)) ∧
    ((takeF b).2.2.1 = b.length → (takeF b).2.2.1 ≠ 0 → openF b = unsF b ∧ 9 ≤ b.length) := by
  refine ⟨fun h => ?_, fun h k => ?_, fun h k => ?_⟩
  · unfold openF
    rw [if_pos (.inr h)]
  · obtain ⟨_, _, _, q4, q5⟩ := takeF_size h
    refine ⟨by omega, ?_⟩
    unfold openF
    rw [if_pos (.inl k)]
  · obtain ⟨q1, q2, q3, q4, q5⟩ := takeF_size k
    have hu := uns_take q1 q2 q3 q4
    rw [List.take_of_length_le (by omega)] at hu
    refine ⟨?_, q1⟩
    unfold openF
    rw [if_neg (by omega), hu]

set_option maxRecDepth 100000 in
set_option maxHeartbeats 4000000 in
theorem open_any (A : Option Addr) (n c : Nat) (b : List UInt8) (w : World) (hL : LaidF w) (hn : b.length = n) (hc : n ≤ c) (hm : n ≤ 200000) (hr : RdB w.heap.size w A b) :
    Calls Tryz.prog 40 #[.slice A n c] w fun e w' => (∃ (A' : Option Addr) (c' : Nat), e = .returned (.tuple #[.agg #[.int .u8 ((openF b).1.toNat : Int), .slice A' (openF b).2.1.length c'], .int .i64 ((openF b).2.2 : Nat)]) ∧ OwnB w.heap.size w' A' (openF b).2.1.length c' (openF b).2.1) ∧ Below w.heap.size w w' := by
  have hO := @open_size b
  have HN := Lib.hid hn
  have gm : (n : Int) ≤ 200000 := by omega
  have hB1 := b0 w (.cells #[.int .u8 0, .slice none 0 0] 99)
  have hP := blk_new w #[.int .u8 0, .slice none 0 0] 99
  have FL := length_any A n c b (w.alloc (.cells #[.int .u8 0, .slice none 0 0] 99)) hn hc (hr.keep hB1 (Nat.le_refl _)) (by omega)
  have HA := Lib.hid (fun W (h : Below w.heap.size w W) v m (hv : ErrF v m) => fanswer_any v m W (hL.keep h) hv)
  have HU := Lib.hid (fun W (h : Below w.heap.size w W) (h9 : 9 ≤ n) => unseal_any A n c b W (hL.keep h) hn (hr.keep h (Nat.le_refl _)) h.size h9 hc (by omega))
  rw [hn] at hO
  generalize openF b = r at hO ⊢
  generalize unsF b = u at hO HU
  generalize (takeF b).2.2.2 = code at FL
  generalize (takeF b).2.2.1 = s at FL hO
  have HO := Lib.hid hO
  have HFL := Lib.hid FL
  clear hO FL hn
  go_enter Tryz.func40, Tryz.ntmps40
  go_wp2_with fail
  refine HFL.out.mono ?_
  rintro e w1 ⟨⟨v, rfl, hv⟩, hb1⟩
  replace hB1 := bt hB1 hb1
  replace hP := hP.keep hb1
  clear HFL hb1
  rcases hv with ⟨hs0, rfl⟩ | ⟨hs0, rfl, hv⟩
  · by_cases hsn : s = n
    · have e1 : ¬ (s : Int) < (n : Int) := by omega
      have R := Lib.hid (HO.out.2.2 hsn hs0)
      have FU := Lib.hid (HU.out w1 hB1 R.out.2)
      clear HU HO
      go_wp2_with fail
      refine FU.out.mono ?_
      rintro e w2 ⟨⟨A2, c2, v, rfl, hO2, hv⟩, hb2⟩
      have hlt1 := hP.lt
      have hz1 := hB1.size
      replace hB1 := bt hB1 hb2
      replace hP := hP.keep hb2
      have RU : Hid (r = u) := R.out.1
      obtain ⟨k, ins, m⟩ := u
      simp only at hO2 hv ⊢
      generalize hil : ins.length = il at hO2 ⊢
      have HIL := Lib.hid hil
      have hQ := blk_new w2 #[.int .u8 (k.toNat : Int), .slice A2 il c2] 99
      have hO3 := hO2.keep (b0 w2 (.cells #[.int .u8 (k.toNat : Int), .slice A2 il c2] 99))
      have hB3 := ba hB1 (.cells #[.int .u8 (k.toNat : Int), .slice A2 il c2] 99)
      have hP3 := hP.keep (b0 w2 (.cells #[.int .u8 (k.toNat : Int), .slice A2 il c2] 99))
      have hlt3 : w.heap.size < (w2.alloc (.cells #[.int .u8 (k.toNat : Int), .slice A2 il c2] 99)).heap.size := hP3.lt
      clear FU hb2 hil
      go_wp2_with fail
      go_region_with ((go_at_call 85; refine (HA.out _ (below_draws hB3 _) v m hv.err).mono ?_; rintro e w4 ⟨rfl, hb4⟩; have hP4 := Blk.keep (Blk.drew hP3 _) hb4; have hQ4 := Blk.keep (Blk.drew hQ _) hb4; have p0 := hP4.cell 0; have p1 := hP4.cell 1; have f0 := hP4.free 0; have f1 := hP4.free 1; have q0 := hQ4.cell 0; have q1 := hQ4.cell 1; have hO4 := OwnB.keep (OwnB.draws hO3 _) hb4; have hB4 := bt (below_draws hB3 _) hb4))
      all_goals
        go_wp2_with fail
        have hP8 := (hP4.set 0 (.int .u8 (k.toNat : Int))).set 1 (.slice A2 il c2)
        have hO8 := ((hO4.other hlt1 0 (.int .u8 (k.toNat : Int))).other hlt1 1 (.slice A2 il c2)).less hz1
        have hB8 : Below w.heap.size w ((w4.setCell ⟨w.heap.size, 0, none⟩ (.int .u8 (k.toNat : Int))).setCell ⟨w.heap.size, 1, none⟩ (.slice A2 il c2)) := (hB4.setCell (p := ⟨w.heap.size, 0, none⟩) (Nat.le_refl _) _).setCell (p := ⟨w.heap.size, 1, none⟩) (Nat.le_refl _) _
        generalize (w4.setCell ⟨w.heap.size, 0, none⟩ (.int .u8 (k.toNat : Int))).setCell ⟨w.heap.size, 1, none⟩ (.slice A2 il c2) = W8 at hP8 hO8 hB8 ⊢
        have p2 : W8.cell? ⟨w.heap.size, 0, none⟩ = some (.int .u8 (k.toNat : Int)) := hP8.cell 0
        have p3 : W8.cell? ⟨w.heap.size, 1, none⟩ = some (.slice A2 il c2) := hP8.cell 1
        refine bodyPost_ret (v := .tuple #[.agg #[.int .u8 (k.toNat : Int), .slice A2 il c2], .int .i64 (m : Nat)]) (by simp [results, Tryz.results40, go_sem, p2, p3]) rfl ?_
        rw [RU.out]
        simp only
        rw [HIL.out]
        exact ⟨⟨A2, c2, rfl, hO8⟩, hB8⟩
    · have R := Lib.hid (HO.out.2.1 hs0 hsn).2
      have e1 : (s : Int) < (n : Int) := by
        have := (HO.out.2.1 hs0 hsn).1
        omega
      have HV : Hid (ErrF (.iface 139 (.agg #[.int .i64 (n : Nat), .int .i64 2])) 2) := .inr (.inr ⟨_, rfl⟩)
      clear HU HO
      go_wp2_with fail
      refine (HA.out w1 hB1 _ 2 HV.out).mono ?_
      rintro e w4 ⟨rfl, hb4⟩
      have hP4 := hP.keep hb4
      have hB4 := bt hB1 hb4
      have p0 := hP4.cell 0
      have p1 := hP4.cell 1
      have f0 := hP4.free 0
      have f1 := hP4.free 1
      go_wp2_with fail
      have hP8 := (hP4.set 0 (.int .u8 0)).set 1 (.slice none 0 0)
      have hB8 : Below w.heap.size w ((w4.setCell ⟨w.heap.size, 0, none⟩ (.int .u8 0)).setCell ⟨w.heap.size, 1, none⟩ (.slice none 0 0)) := (hB4.setCell (p := ⟨w.heap.size, 0, none⟩) (Nat.le_refl _) _).setCell (p := ⟨w.heap.size, 1, none⟩) (Nat.le_refl _) _
      generalize (w4.setCell ⟨w.heap.size, 0, none⟩ (.int .u8 0)).setCell ⟨w.heap.size, 1, none⟩ (.slice none 0 0) = W8 at hP8 hB8 ⊢
      have p2 : W8.cell? ⟨w.heap.size, 0, none⟩ = some (.int .u8 0) := hP8.cell 0
      have p3 : W8.cell? ⟨w.heap.size, 1, none⟩ = some (.slice none 0 0) := hP8.cell 1
      refine bodyPost_ret (v := .tuple #[.agg #[.int .u8 0, .slice none 0 0], .int .i64 2]) (by simp [results, Tryz.results40, go_sem, p2, p3]) rfl ?_
      rw [R.out]
      exact ⟨⟨none, 0, rfl, OwnB.nil _ _⟩, hB8⟩
  · have R := Lib.hid (HO.out.1 hs0)
    rcases hv with rfl | ⟨l, rfl⟩
    · have HV : Hid (ErrF (.iface 188 (.int .i64 2)) 2) := .inr (.inl rfl)
      clear HU HO
      go_wp2_with fail
      refine (HA.out w1 hB1 _ 2 HV.out).mono ?_
      rintro e w4 ⟨rfl, hb4⟩
      have hP4 := hP.keep hb4
      have hB4 := bt hB1 hb4
      have p0 := hP4.cell 0
      have p1 := hP4.cell 1
      have f0 := hP4.free 0
      have f1 := hP4.free 1
      go_wp2_with fail
      have hP8 := (hP4.set 0 (.int .u8 0)).set 1 (.slice none 0 0)
      have hB8 : Below w.heap.size w ((w4.setCell ⟨w.heap.size, 0, none⟩ (.int .u8 0)).setCell ⟨w.heap.size, 1, none⟩ (.slice none 0 0)) := (hB4.setCell (p := ⟨w.heap.size, 0, none⟩) (Nat.le_refl _) _).setCell (p := ⟨w.heap.size, 1, none⟩) (Nat.le_refl _) _
      generalize (w4.setCell ⟨w.heap.size, 0, none⟩ (.int .u8 0)).setCell ⟨w.heap.size, 1, none⟩ (.slice none 0 0) = W8 at hP8 hB8 ⊢
      have p2 : W8.cell? ⟨w.heap.size, 0, none⟩ = some (.int .u8 0) := hP8.cell 0
      have p3 : W8.cell? ⟨w.heap.size, 1, none⟩ = some (.slice none 0 0) := hP8.cell 1
      refine bodyPost_ret (v := .tuple #[.agg #[.int .u8 0, .slice none 0 0], .int .i64 2]) (by simp [results, Tryz.results40, go_sem, p2, p3]) rfl ?_
      rw [R.out]
      exact ⟨⟨none, 0, rfl, OwnB.nil _ _⟩, hB8⟩
    · have HV : Hid (ErrF (.iface 139 (.agg #[.int .i64 l, .int .i64 2])) 2) := .inr (.inr ⟨l, rfl⟩)
      clear HU HO
      go_wp2_with fail
      refine (HA.out w1 hB1 _ 2 HV.out).mono ?_
      rintro e w4 ⟨rfl, hb4⟩
      have hP4 := hP.keep hb4
      have hB4 := bt hB1 hb4
      have p0 := hP4.cell 0
      have p1 := hP4.cell 1
      have f0 := hP4.free 0
      have f1 := hP4.free 1
      go_wp2_with fail
      have hP8 := (hP4.set 0 (.int .u8 0)).set 1 (.slice none 0 0)
      have hB8 : Below w.heap.size w ((w4.setCell ⟨w.heap.size, 0, none⟩ (.int .u8 0)).setCell ⟨w.heap.size, 1, none⟩ (.slice none 0 0)) := (hB4.setCell (p := ⟨w.heap.size, 0, none⟩) (Nat.le_refl _) _).setCell (p := ⟨w.heap.size, 1, none⟩) (Nat.le_refl _) _
      generalize (w4.setCell ⟨w.heap.size, 0, none⟩ (.int .u8 0)).setCell ⟨w.heap.size, 1, none⟩ (.slice none 0 0) = W8 at hP8 hB8 ⊢
      have p2 : W8.cell? ⟨w.heap.size, 0, none⟩ = some (.int .u8 0) := hP8.cell 0
      have p3 : W8.cell? ⟨w.heap.size, 1, none⟩ = some (.slice none 0 0) := hP8.cell 1
      refine bodyPost_ret (v := .tuple #[.agg #[.int .u8 0, .slice none 0 0], .int .i64 2]) (by simp [results, Tryz.results40, go_sem, p2, p3]) rfl ?_
      rw [R.out]
      exact ⟨⟨none, 0, rfl, OwnB.nil _ _⟩, hB8⟩
end Go.Proofs.YtpjleeeligahaaaGreatDoor

namespace Go.Proofs.YtpjleeeligahaaaGreatDoor
open Go.RowKit

abbrev ltW : Lt := ⟨4, 0, 3, 2, 1, 0, 0, 0, 0, 0, 0, 0, false, [], [], [], [], 0, 0, 0, 0, 0, 0, 0, 0, 0, 0, 0, 0⟩
abbrev hn0 : Hn := ⟨none, none, none, none, 0, 0, 0, 0, 0, 0, 0, 0⟩
theorem goodLs_nil {α : Type} {g : α → Bool} {lt : α → α → Bool} : goodLs g lt [] = true := goodLs_yes fun i hi => by simp at hi
theorem tail_nil (x : Lt) (h1 : x.re = []) (h2 : x.ws = []) (h3 : x.ls = []) (h4 : x.cs = []) (h5 : goodLa x.la = true) : tailB x = true := by
  unfold tailB goodLns goodCls goodAll
  rw [h1, h2, h3, h4, h5, goodLs_nil, goodLs_nil]
  rfl
theorem ltW_good : goodLt ltW = true := by
  unfold goodLt
  rw [tail_nil ltW rfl rfl rfl rfl (by decide)]
  decide
theorem ltW_ins : insB ltW = [0, 1, 3, 1, 2, 1, 1, 0, 0, 0, 0, 0, 0, 0, 0, 0, 0, 0, 0, 0, 0, 0, 0, 0, 0, 0, 0, 0, 0, 0, 0] := by decide +kernel
theorem ltR_nil (B : Nat) (W : World) (x : Lt) (h1 : x.re = []) (h2 : x.ws = []) (h3 : x.ls = []) (h4 : x.cs = []) : LtR B W x hn0 :=
  ⟨by rw [h1]; rfl, by rw [h1]; exact RdS.nil _ _ _, by rw [h2]; rfl, by rw [h2]; exact RdW.nil _ _ _, by rw [h3]; rfl, by rw [h3]; exact RdX.nil _ _ _ _, by rw [h4]; rfl, by rw [h4]; exact RdX.nil _ _ _ _⟩
theorem ltF_nil (x : Lt) (h1 : x.re = []) (h2 : x.ws = []) (h3 : x.ls = []) (h4 : x.cs = []) : LtF x :=
  ⟨fun s hs => by rw [h1] at hs; simp at hs, fun s hs => by rw [h2] at hs; simp at hs, fun s hs => by rw [h3] at hs; simp at hs, fun s hs => by rw [h4] at hs; simp at hs, by rw [h1]; exact Nat.zero_le _, by rw [h2]; exact Nat.zero_le _, by rw [h3]; exact Nat.zero_le _, by rw [h4]; exact Nat.zero_le _⟩
def OpR (w : World) (b : List UInt8) (v : Value) (w' : World) : Prop := ∃ (A : Option Addr) (c : Nat), v = .tuple #[.agg #[.int .u8 ((openF b).1.toNat : Int), .slice A (openF b).2.1.length c], .int .i64 ((openF b).2.2 : Nat)] ∧ OwnB w.heap.size w' A (openF b).2.1.length c (openF b).2.1 ∧ Below w.heap.size w w'
theorem open_x (A : Option Addr) (n c : Nat) (b : List UInt8) (w : World) (hL : LaidF w) (hn : b.length = n) (hc : n ≤ c) (hm : n ≤ 200000) (hr : RdB w.heap.size w A b) : Calls Tryz.prog 40 #[.slice A n c] w fun e w' => ∃ v, e = .returned v ∧ OpR w b v w' :=
  (open_any A n c b w hL hn hc hm hr).mono fun _ _ ⟨⟨A, c, he, hO⟩, hb⟩ => ⟨_, he, A, c, rfl, hO, hb⟩
theorem enters_fOpen : ∀ args w, (callFunc 40 args).run Tryz.prog w = .ok (.enter 40 args) w := enters_of Tryz.func40 (by kernel_rfl) rfl
theorem enters_awake8 : ∀ args w, (callFunc 16 args).run Tryz.prog w = .ok (.enter 16 args) w := enters_of Tryz.func16 (by kernel_rfl) rfl

set_option maxRecDepth 100000 in
set_option maxHeartbeats 4000000 in
theorem awake8_any (w : World) (hL : LaidF w) : Calls Tryz.prog 16 #[] w fun e w' => e = .returned (.bool true) ∧ Below w.heap.size w w' := by
  have hgood : LtS ltW := ⟨by rw [ltW_ins]; decide, by decide, by decide⟩
  have HE := Lib.hid (encode_good ltW hn0 w (ltR_nil w.heap.size w ltW rfl rfl rfl rfl) (Nat.le_refl _) (ltF_nil ltW rfl rfl rfl rfl) ltW_good hgood hL)
  go_enter Tryz.func16, Tryz.ntmps16
  go_upto_region 1 with fail
  refine wp_region_lit ?_
  refine fl_start ?_
  generalize ha : Act.mk _ _ = a0
  have hn : a0.tmps.size = 39 := by rw [← ha]; kernel_rfl
  refine g_bd hn ?_ (qs := #[(0, .int .i64 4), (2, .int .i64 3), (3, .int .i64 2), (4, .int .i64 1)]) (v := .agg (ltI ltW hn0)) (hx := by kernel_rfl)
  refine g_c1x enters_Encode hn HE.out ?_
  rintro v w1 ⟨A1, n1, c1, rfl, hO1, hb1⟩
  repeat first | refine g_mv hn ?_ | refine g_as hn ?_ | refine g_fdL hn ?_ | refine g_ldL hn HX.out ?_ | refine g_ldA hn HX.out ?_ | refine g_fd hn ?_ | refine g_ld hn ?_ | refine g_nc hn ?_ | refine g_nt hn ?_ | refine g_an hn ?_ | refine g_or hn ?_ | refine g_ln hn ?_ | refine g_ex hn ?_ | refine g_neq2 hn ?_ | refine g_neq hn ?_ | refine g_eql2 hn ?_ | refine g_eql hn ?_ | refine g_leq2 hn ?_ | refine g_leq hn ?_ | refine g_lss2 hn ?_ | refine g_lss hn ?_ | refine g_gtr2 hn ?_ | refine g_gtr hn ?_ | refine g_geq2 hn ?_ | refine g_geq hn ?_ | refine g_b0 hn ?_ | refine g_bn hn ?_ | refine g_bc hn ?_ | refine g_cv hn ?_ | refine g_ac hn ?_ | refine g_mc hn ?_
  refine fl_end ?_
  clear hn
  subst ha
  dsimp only [fr, cnd, Act.put, cond_true]
  simp only [List.setIfInBounds_toArray, List.set_cons_zero, List.set_cons_succ]
  have hl1 := hO1.len
  have hs1 : (encB ltW).length = 40 := by unfold encB; rw [sealL_len, ltW_ins]; rfl
  have he : openF (encB ltW) = (4, insB ltW, 0) := open_seal 4 (insB ltW) (by rw [ltW_ins]; decide)
  have HO := Lib.hid (open_x A1 n1 c1 (encB ltW) w1 (hL.keep hb1) hl1 hO1.cap.1 (by omega) hO1.rd)
  unfold OpR at HO
  rw [he] at HO
  dsimp only at HO
  have hi : (insB ltW).length = 31 := by rw [ltW_ins]; rfl
  rw [hi] at HO
  have HB := Lib.hid hb1
  have HE2 := Lib.hid he
  clear hs1 hl1 he HE hgood hO1 hb1
  go_upto_region 2 with fail
  refine wp_region_lit ?_
  refine fl_start ?_
  generalize ha : Act.mk _ _ = a0
  have hn : a0.tmps.size = 39 := by rw [← ha]; kernel_rfl
  have h1 : (fr a0 []).eval (.tmp 1) = .slice A1 n1 c1 := by rw [← ha]; kernel_rfl
  refine fl_know hn rfl h1 ?_
  clear h1
  repeat first | refine g_mv hn ?_ | refine g_as hn ?_ | refine g_fd hn ?_ | refine g_ld hn ?_ | refine g_nc hn ?_ | refine g_nt hn ?_ | refine g_an hn ?_ | refine g_or hn ?_ | refine g_ln hn ?_ | refine g_ex hn ?_ | refine g_neq2 hn ?_ | refine g_neq hn ?_ | refine g_eql2 hn ?_ | refine g_eql hn ?_ | refine g_leq2 hn ?_ | refine g_leq hn ?_ | refine g_lss2 hn ?_ | refine g_lss hn ?_ | refine g_gtr2 hn ?_ | refine g_gtr hn ?_ | refine g_geq2 hn ?_ | refine g_geq hn ?_ | refine g_b0 hn ?_ | refine g_bn hn ?_ | refine g_bc hn ?_ | refine g_cv hn ?_ | refine g_ac hn ?_ | refine g_mc hn ?_
  refine g_c1x enters_fOpen hn HO.out ?_
  rintro v w2 ⟨A2, c2, rfl, hO2, hb2⟩
  have HB2 := Lib.hid (bt HB.out hb2)
  have HO2 := Lib.hid hO2
  have hc2 := hO2.cap.1
  clear hb2 HB HO hO2
  repeat first | refine g_mv hn ?_ | refine g_as hn ?_ | refine g_fd hn ?_ | refine g_ld hn ?_ | refine g_nc hn ?_ | refine g_nt hn ?_ | refine g_an hn ?_ | refine g_or hn ?_ | refine g_ln hn ?_ | refine g_ex hn ?_ | refine g_neq2 hn ?_ | refine g_neq hn ?_ | refine g_eql2 hn ?_ | refine g_eql hn ?_ | refine g_leq2 hn ?_ | refine g_leq hn ?_ | refine g_lss2 hn ?_ | refine g_lss hn ?_ | refine g_gtr2 hn ?_ | refine g_gtr hn ?_ | refine g_geq2 hn ?_ | refine g_geq hn ?_ | refine g_b0 hn ?_ | refine g_bn hn ?_ | refine g_bc hn ?_ | refine g_cv hn ?_ | refine g_ac hn ?_ | refine g_mc hn ?_
  refine g_w hn (w2 := w2.alloc (.cells #[.int .u8 0, .slice none 0 0] 99)) (v := .pointer (some ⟨w2.heap.size, 0, none⟩)) (fun _ => by kernel_rfl) ?_
  have hY := blk_new w2 #[.int .u8 0, .slice none 0 0] 99
  have hB3 := b0 w2 (.cells #[.int .u8 0, .slice none 0 0] 99)
  generalize w2.alloc (.cells #[.int .u8 0, .slice none 0 0] 99) = w3 at hY hB3 ⊢
  generalize hg : w2.heap.size = g at hY hB3 ⊢
  refine g_str hY ?_ (h1 := by simp [Value.oneCell'])
  intro w4 ho hY4
  repeat first | refine g_mv hn ?_ | refine g_as hn ?_ | refine g_fd hn ?_ | refine g_ld hn ?_ | refine g_nc hn ?_ | refine g_nt hn ?_ | refine g_an hn ?_ | refine g_or hn ?_ | refine g_ln hn ?_ | refine g_ex hn ?_ | refine g_neq2 hn ?_ | refine g_neq hn ?_ | refine g_eql2 hn ?_ | refine g_eql hn ?_ | refine g_leq2 hn ?_ | refine g_leq hn ?_ | refine g_lss2 hn ?_ | refine g_lss hn ?_ | refine g_gtr2 hn ?_ | refine g_gtr hn ?_ | refine g_geq2 hn ?_ | refine g_geq hn ?_ | refine g_b0 hn ?_ | refine g_bn hn ?_ | refine g_bc hn ?_ | refine g_cv hn ?_ | refine g_ac hn ?_ | refine g_mc hn ?_
  refine fl_end ?_
  clear hn
  subst ha
  dsimp only [fr, cnd, Act.put, cond_true]
  simp only [List.setIfInBounds_toArray, List.set_cons_zero, List.set_cons_succ]
  have hB4 : Below w.heap.size w w4 := by
    have := hB3.trans (ho.below (Nat.le_refl g))
    rw [← hg] at this
    exact bt HB2.out this
  have hR4 : RdB w4.heap.size w4 A2 (insB ltW) := ((HO2.out.rd.keep (hB3.trans (ho.below (Nat.le_refl g))) (Nat.le_of_eq hg)).more (by
    have := (hB3.trans (ho.below (Nat.le_refl g))).size
    omega))
  have hm : (insB ltW).length = 31 := hi
  have q0 : w4.cell? ⟨g, 0, none⟩ = some (.int .u8 4) := hY4.cell 0
  have q1 : w4.cell? ⟨g, 1, none⟩ = some (.slice A2 31 c2) := hY4.cell 1
  have cu : (Instr.sliceAt 23 (.slice A2 31 c2) none (some (.int .i64 7)) none).run Tryz.prog w4 = .ok (.slice A2 7 c2) w4 := run_cut0 w4 A2 31 c2 7 7 rfl (by omega) hc2
  have cv : (convert 23 9 (.slice A2 7 c2)).run Tryz.prog w4 = .ok (.string ⟨#[0, 1, 3, 1, 2, 1, 1]⟩) w4 := by
    have h7 : (insB ltW).take 7 = [0, 1, 3, 1, 2, 1, 1] := by rw [ltW_ins]; rfl
    have := conv_rd w4 A2 7 c2 ((insB ltW).take 7) (by rw [h7]; rfl) (hR4.take 7)
    rwa [h7] at this
  have HB4 := Lib.hid hB4
  clear hR4 hB4 hY4 hY ho hB3 hi hm hc2 HO2 HB2 HE2 hL
  go_wp2_with fail
  go_ret
  exact ⟨rfl, HB4.out⟩
end Go.Proofs.YtpjleeeligahaaaGreatDoor

namespace Go.Proofs.YtpjleeeligahaaaGreatDoor
open Go.RowKit

/-- A letter's cells, with their types: the document's. -/
def ltCD (x : Lt) (h : Hn) (j : Nat) : Option (TypeId × Value) := match j with
  | 0 => some (3, .int .i64 x.k)
  | 1 => some (3, .int .i64 x.fr)
  | 2 => some (3, .int .i64 x.tt)
  | 3 => some (3, .int .i64 x.li)
  | 4 => some (3, .int .i64 x.tu)
  | 5 => some (3, .int .i64 x.pr)
  | 6 => some (3, .int .i64 x.lo)
  | 7 => some (3, .int .i64 x.fi)
  | 8 => some (3, .int .i64 x.st)
  | 9 => some (3, .int .i64 x.ta)
  | 10 => some (3, .int .i64 x.sr)
  | 11 => some (3, .int .i64 x.en)
  | 12 => some (4, .bool x.sn)
  | 13 => some (53, .slice h.A1 h.n1 h.c1)
  | 14 => some (37, .slice h.A2 h.n2 h.c2)
  | 15 => some (26, .slice h.A3 h.n3 h.c3)
  | 16 => some (54, .slice h.A4 h.n4 h.c4)
  | 17 => some (55, .agg (laI x.a0 x.a1 x.a2 x.a3 x.a4 x.a5 x.a6 x.a7 x.a8 x.a9 x.a10 x.a11))
  | _ => none
section
variable {l : List Oper} {Q : Exit → Act → World → Prop} {rest : List Oper} {a0 : Act} {L : List (Nat × Bool × Value)} {w : World} {b : Nat} {x : Lt} {h : Hn}
theorem ld_a0 (W : World) (b : Nat) : (Instr.fieldAt 70 (.pointer (some ⟨b, 0, none⟩)) 0).run Tryz.prog W = .ok (.pointer (some ⟨b, 0, none⟩)) W := by kernel_rfl
theorem ld_a1 (W : World) (b : Nat) : (Instr.fieldAt 70 (.pointer (some ⟨b, 0, none⟩)) 1).run Tryz.prog W = .ok (.pointer (some ⟨b, 1, none⟩)) W := by kernel_rfl
theorem ld_a2 (W : World) (b : Nat) : (Instr.fieldAt 70 (.pointer (some ⟨b, 0, none⟩)) 2).run Tryz.prog W = .ok (.pointer (some ⟨b, 2, none⟩)) W := by kernel_rfl
theorem ld_a3 (W : World) (b : Nat) : (Instr.fieldAt 70 (.pointer (some ⟨b, 0, none⟩)) 3).run Tryz.prog W = .ok (.pointer (some ⟨b, 3, none⟩)) W := by kernel_rfl
theorem ld_a4 (W : World) (b : Nat) : (Instr.fieldAt 70 (.pointer (some ⟨b, 0, none⟩)) 4).run Tryz.prog W = .ok (.pointer (some ⟨b, 4, none⟩)) W := by kernel_rfl
theorem ld_a5 (W : World) (b : Nat) : (Instr.fieldAt 70 (.pointer (some ⟨b, 0, none⟩)) 5).run Tryz.prog W = .ok (.pointer (some ⟨b, 5, none⟩)) W := by kernel_rfl
theorem ld_a6 (W : World) (b : Nat) : (Instr.fieldAt 70 (.pointer (some ⟨b, 0, none⟩)) 6).run Tryz.prog W = .ok (.pointer (some ⟨b, 6, none⟩)) W := by kernel_rfl
theorem ld_a7 (W : World) (b : Nat) : (Instr.fieldAt 70 (.pointer (some ⟨b, 0, none⟩)) 7).run Tryz.prog W = .ok (.pointer (some ⟨b, 7, none⟩)) W := by kernel_rfl
theorem ld_a8 (W : World) (b : Nat) : (Instr.fieldAt 70 (.pointer (some ⟨b, 0, none⟩)) 8).run Tryz.prog W = .ok (.pointer (some ⟨b, 8, none⟩)) W := by kernel_rfl
theorem ld_a9 (W : World) (b : Nat) : (Instr.fieldAt 70 (.pointer (some ⟨b, 0, none⟩)) 9).run Tryz.prog W = .ok (.pointer (some ⟨b, 9, none⟩)) W := by kernel_rfl
theorem ld_a10 (W : World) (b : Nat) : (Instr.fieldAt 70 (.pointer (some ⟨b, 0, none⟩)) 10).run Tryz.prog W = .ok (.pointer (some ⟨b, 10, none⟩)) W := by kernel_rfl
theorem ld_a11 (W : World) (b : Nat) : (Instr.fieldAt 70 (.pointer (some ⟨b, 0, none⟩)) 11).run Tryz.prog W = .ok (.pointer (some ⟨b, 11, none⟩)) W := by kernel_rfl
theorem ld_a12 (W : World) (b : Nat) : (Instr.fieldAt 70 (.pointer (some ⟨b, 0, none⟩)) 12).run Tryz.prog W = .ok (.pointer (some ⟨b, 12, none⟩)) W := by kernel_rfl
theorem ld_a13 (W : World) (b : Nat) : (Instr.fieldAt 70 (.pointer (some ⟨b, 0, none⟩)) 13).run Tryz.prog W = .ok (.pointer (some ⟨b, 13, none⟩)) W := by kernel_rfl
theorem ld_a14 (W : World) (b : Nat) : (Instr.fieldAt 70 (.pointer (some ⟨b, 0, none⟩)) 14).run Tryz.prog W = .ok (.pointer (some ⟨b, 14, none⟩)) W := by kernel_rfl
theorem ld_a15 (W : World) (b : Nat) : (Instr.fieldAt 70 (.pointer (some ⟨b, 0, none⟩)) 15).run Tryz.prog W = .ok (.pointer (some ⟨b, 15, none⟩)) W := by kernel_rfl
theorem ld_a16 (W : World) (b : Nat) : (Instr.fieldAt 70 (.pointer (some ⟨b, 0, none⟩)) 16).run Tryz.prog W = .ok (.pointer (some ⟨b, 16, none⟩)) W := by kernel_rfl
theorem ld_a17 (W : World) (b : Nat) : (Instr.fieldAt 70 (.pointer (some ⟨b, 0, none⟩)) 17).run Tryz.prog W = .ok (.pointer (some ⟨b, 17, none⟩)) W := by kernel_rfl
theorem ld_l0 {ad : Addr} {v : Value} (q : w.cell? ad = some v) : (Instr.loadAt 3 (.pointer (some ad))).run Tryz.prog w = .ok v w := by go_simp
theorem ld_l12 {ad : Addr} {v : Value} (q : w.cell? ad = some v) : (Instr.loadAt 4 (.pointer (some ad))).run Tryz.prog w = .ok v w := by go_simp
theorem ld_l13 {ad : Addr} {v : Value} (q : w.cell? ad = some v) : (Instr.loadAt 53 (.pointer (some ad))).run Tryz.prog w = .ok v w := by go_simp
theorem ld_l14 {ad : Addr} {v : Value} (q : w.cell? ad = some v) : (Instr.loadAt 37 (.pointer (some ad))).run Tryz.prog w = .ok v w := by go_simp
theorem ld_l15 {ad : Addr} {v : Value} (q : w.cell? ad = some v) : (Instr.loadAt 26 (.pointer (some ad))).run Tryz.prog w = .ok v w := by go_simp
theorem ld_l16 {ad : Addr} {v : Value} (q : w.cell? ad = some v) : (Instr.loadAt 54 (.pointer (some ad))).run Tryz.prog w = .ok v w := by go_simp
theorem ld_l17 (hX : Blk w b (ltI x h) 70) : (Instr.loadAt 55 (.pointer (some ⟨b, 17, none⟩))).run Tryz.prog w = .ok (.agg (laI x.a0 x.a1 x.a2 x.a3 x.a4 x.a5 x.a6 x.a7 x.a8 x.a9 x.a10 x.a11)) w :=
  run_loadAt_mid w b 17 _ (laI x.a0 x.a1 x.a2 x.a3 x.a4 x.a5 x.a6 x.a7 x.a8 x.a9 x.a10 x.a11).toList _ (fun j v hv => (hX.cell (17 + j)).trans (by
    have hj : j < 12 := by have := (List.getElem?_eq_some_iff.1 hv).1; simpa using this
    match j, hj with
    | 0, _ => exact hv | 1, _ => exact hv | 2, _ => exact hv | 3, _ => exact hv | 4, _ => exact hv | 5, _ => exact hv | 6, _ => exact hv | 7, _ => exact hv | 8, _ => exact hv | 9, _ => exact hv | 10, _ => exact hv | 11, _ => exact hv)) Tryz.underlying55 rfl (by kernel_rfl)
theorem ld_all (hX : Blk w b (ltI x h) 70) : (Instr.loadAt 70 (.pointer (some ⟨b, 0, none⟩))).run Tryz.prog w = .ok (.agg (ltI x h)) w :=
  run_loadAt_mid w b 0 _ (ltI x h).toList _ (fun j v hv => by rw [Nat.zero_add, hX.cell j]; exact (Array.getElem?_toList ..).symm.trans hv) Tryz.underlying70 rfl (by kernel_rfl)
theorem ld_at {j : Nat} {t : TypeId} {v : Value} (hX : Blk w b (ltI x h) 70) (hv : ltCD x h j = some (t, v)) : (Instr.loadAt t (.pointer (some ⟨b, j, none⟩))).run Tryz.prog w = .ok v w := by
  match j, hv with
  | 0, hv => cases hv; exact ld_l0 (hX.cell 0)
  | 1, hv => cases hv; exact ld_l0 (hX.cell 1)
  | 2, hv => cases hv; exact ld_l0 (hX.cell 2)
  | 3, hv => cases hv; exact ld_l0 (hX.cell 3)
  | 4, hv => cases hv; exact ld_l0 (hX.cell 4)
  | 5, hv => cases hv; exact ld_l0 (hX.cell 5)
  | 6, hv => cases hv; exact ld_l0 (hX.cell 6)
  | 7, hv => cases hv; exact ld_l0 (hX.cell 7)
  | 8, hv => cases hv; exact ld_l0 (hX.cell 8)
  | 9, hv => cases hv; exact ld_l0 (hX.cell 9)
  | 10, hv => cases hv; exact ld_l0 (hX.cell 10)
  | 11, hv => cases hv; exact ld_l0 (hX.cell 11)
  | 12, hv => cases hv; exact ld_l12 (hX.cell 12)
  | 13, hv => cases hv; exact ld_l13 (hX.cell 13)
  | 14, hv => cases hv; exact ld_l14 (hX.cell 14)
  | 15, hv => cases hv; exact ld_l15 (hX.cell 15)
  | 16, hv => cases hv; exact ld_l16 (hX.cell 16)
  | 17, hv => cases hv; exact ld_l17 hX
theorem ld_ad {f : Nat} (hf : Nat.blt f 18 = true) : (Instr.fieldAt 70 (.pointer (some ⟨b, 0, none⟩)) f).run Tryz.prog w = .ok (.pointer (some ⟨b, f, none⟩)) w := by
  match f, hf with
  | 0, _ => exact ld_a0 w b
  | 1, _ => exact ld_a1 w b
  | 2, _ => exact ld_a2 w b
  | 3, _ => exact ld_a3 w b
  | 4, _ => exact ld_a4 w b
  | 5, _ => exact ld_a5 w b
  | 6, _ => exact ld_a6 w b
  | 7, _ => exact ld_a7 w b
  | 8, _ => exact ld_a8 w b
  | 9, _ => exact ld_a9 w b
  | 10, _ => exact ld_a10 w b
  | 11, _ => exact ld_a11 w b
  | 12, _ => exact ld_a12 w b
  | 13, _ => exact ld_a13 w b
  | 14, _ => exact ld_a14 w b
  | 15, _ => exact ld_a15 w b
  | 16, _ => exact ld_a16 w b
  | 17, _ => exact ld_a17 w b
theorem g_fdD {i f d n : Nat} {ty : TypeId} {p : String} {af : Array Edge} {gd : Option (Nat × Bool)} {g gi : Bool} (hn : a0.tmps.size = n) (k : FL Tryz.prog l Q rest a0 ((d, g, (.pointer (some ⟨b, f, none⟩))) :: L) w) (hd : Nat.blt d n = true := by rfl) (hw : wtG l L gd = some g := by rfl) (hl : lk L i = some (gi, .pointer (some ⟨b, 0, none⟩)) := by rfl) (hs : g = true → gi = true := by first | exact fun _ => rfl | exact id | exact and_l | exact fun h => and_l (and_l h) | exact fun h => and_l (and_l (and_l h)) | exact fun h => and_l (and_l (and_l (and_l h))) | exact fun h => and_l (and_l (and_l (and_l (and_l h))))) (hf : Nat.blt f 18 = true := by rfl) : FL Tryz.prog l Q (⟨some d, .fieldAddr 70 (.tmp i) f, ty, p, af, gd⟩ :: rest) a0 L w := fl_field hn hd hw hl hs (ld_ad hf) k
theorem g_ldD {i j d n : Nat} {t ty : TypeId} {p : String} {af : Array Edge} {gd : Option (Nat × Bool)} {g gi : Bool} {v : Value} (hn : a0.tmps.size = n) (hX : Blk w b (ltI x h) 70) (k : FL Tryz.prog l Q rest a0 ((d, g, v) :: L) w) (hd : Nat.blt d n = true := by rfl) (hw : wtG l L gd = some g := by rfl) (hl : lk L i = some (gi, .pointer (some ⟨b, j, none⟩)) := by rfl) (hs : g = true → gi = true := by first | exact fun _ => rfl | exact id | exact and_l | exact fun h => and_l (and_l h) | exact fun h => and_l (and_l (and_l h)) | exact fun h => and_l (and_l (and_l (and_l h))) | exact fun h => and_l (and_l (and_l (and_l (and_l h))))) (hv : ltCD x h j = some (t, v) := by rfl) : FL Tryz.prog l Q (⟨some d, .load t (.tmp i), ty, p, af, gd⟩ :: rest) a0 L w := fl_load hn hd hw hl hs (ld_at hX hv) k
theorem g_ldDA {i d n : Nat} {ty : TypeId} {p : String} {af : Array Edge} {gd : Option (Nat × Bool)} {g gi : Bool} (hn : a0.tmps.size = n) (hX : Blk w b (ltI x h) 70) (k : FL Tryz.prog l Q rest a0 ((d, g, .agg (ltI x h)) :: L) w) (hd : Nat.blt d n = true := by rfl) (hw : wtG l L gd = some g := by rfl) (hl : lk L i = some (gi, .pointer (some ⟨b, 0, none⟩)) := by rfl) (hs : g = true → gi = true := by first | exact fun _ => rfl | exact id | exact and_l | exact fun h => and_l (and_l h) | exact fun h => and_l (and_l (and_l h)) | exact fun h => and_l (and_l (and_l (and_l h))) | exact fun h => and_l (and_l (and_l (and_l (and_l h))))) : FL Tryz.prog l Q (⟨some d, .load 70 (.tmp i), ty, p, af, gd⟩ :: rest) a0 L w := fl_load hn hd hw hl hs (ld_all hX) k
end
end Go.Proofs.YtpjleeeligahaaaGreatDoor

namespace Go.Proofs.YtpjleeeligahaaaGreatDoor
open Go.RowKit
theorem rl_infoS : (Tryz.prog.info? 75).map (fun i => (i.zero, i.size, i.bytes)) = some (some (.agg (lnI 0 0 0 0 ⟨#[]⟩ 0 0 ⟨#[]⟩ 0 0 ⟨#[]⟩)), 11, 112) := by kernel_rfl
theorem map_getS {α β : Type} {f : α → β} {l : List α} {k : Nat} {x : α} (h : l[k]? = some x) : (l.map f)[k]? = some (f x) := by rw [List.getElem?_map, h]; rfl
attribute [local go_sem ↓] Go.wp_at_zero Go.wp_at_succ

open Classical in
/-- The same lists? -/
noncomputable def sameG {α : Type} (l l2 : List α) : Bool := decide (l = l2)
open Classical in
theorem sameG_no {α : Type} {l l2 : List α} (h : l ≠ l2) : sameG l l2 = false := decide_eq_false h
open Classical in
theorem sameG_yes {α : Type} {l l2 : List α} (h : l = l2) : sameG l l2 = true := decide_eq_true h
theorem cl_neq {x y : Cl} (h : x ≠ y) (W : World) : (binOp .neq 61 (.agg x.cells) (.agg y.cells)).run Tryz.prog W = .ok (.bool true) W := by
  go_simp
  intro h0 h1 h2 h3
  refine h ?_
  have e0 := str_ext h0
  have e3 := str_ext h3
  cases x
  cases y
  simp only at e0 h1 h2 e3
  simp only [e0, h1, h2, e3]
theorem cl_eq (x : Cl) (W : World) : (binOp .neq 61 (.agg x.cells) (.agg x.cells)).run Tryz.prog W = .ok (.bool false) W := by
  go_simp
theorem ln_neq {x y : Ln} (h : x ≠ y) (W : World) : (binOp .neq 75 (.agg x.cells) (.agg y.cells)).run Tryz.prog W = .ok (.bool true) W := by
  go_simp
  intro hp h0 h1 h2 h3 h4 h5 h6 h7 h8 h9
  refine h ?_
  have e3 := str_ext h3
  have e6 := str_ext h6
  have e9 := str_ext h9
  obtain ⟨px, x⟩ := x
  obtain ⟨py, y⟩ := y
  cases x
  cases y
  simp only at hp h0 h1 h2 e3 h4 h5 e6 h7 h8 e9
  simp only [hp, h0, h1, h2, e3, h4, h5, e6, h7, h8, e9]
theorem ln_eq (x : Ln) (W : World) : (binOp .neq 75 (.agg x.cells) (.agg x.cells)).run Tryz.prog W = .ok (.bool false) W := by
  go_simp

set_option maxRecDepth 100000 in
set_option maxHeartbeats 4000000 in
theorem refSameC_any {B C : Nat} (A A2 : Option Addr) (n c m d : Nat) (l l2 : List Cl) (w : World) (hn : l.length = n) (hr : RdX 4 B w A (l.map Cl.cells)) (hm : n ≤ 1000000) (hn2 : l2.length = m) (hr2 : RdX 4 C w A2 (l2.map Cl.cells)) :
    Calls Tryz.prog 52 #[.slice A n c, .slice A2 m d] w fun e w' => e = .returned (.bool (sameG l l2)) ∧ Drn w w' := by
  have HN := Lib.hid hn
  have HN2 := Lib.hid hn2
  by_cases hnm : n = m
  · subst hnm
    clear hn hn2
    go_enter Tryz.func52, Tryz.ntmps52
    go_wp2_with fail
    go_loopw [13] (fun i wr => ∃ k : Nat, k ≤ n ∧ i = .int .i64 k ∧ Hid (l.take k = l2.take k) ∧ Drn w wr) (fun i _ => n - (intOf i).toNat)
    case atStart => exact ⟨0, Nat.zero_le _, rfl, rfl, Drn.refl _⟩
    case round =>
      obtain ⟨k, hk, rfl, hA, hD⟩ := hrel
      by_cases hlt : k < n
      · obtain ⟨x, hx⟩ : ∃ x, l[k]? = some x := ⟨_, List.getElem?_eq_getElem (show k < l.length by have := HN.out; omega)⟩
        obtain ⟨y, hy⟩ : ∃ y, l2[k]? = some y := ⟨_, List.getElem?_eq_getElem (show k < l2.length by have := HN2.out; omega)⟩
        obtain ⟨ad, rfl, _, hc⟩ := (hr.keep (hD.below B) (Nat.le_refl _)) k _ (map_getS hx)
        obtain ⟨ad2, rfl, _, hc2⟩ := (hr2.keep (hD.below C) (Nat.le_refl _)) k _ (map_getS hy)
        have i1 : (0 : Int) ≤ (k : Int) := by omega
        have i2 : (k : Int) < (n : Int) := by omega
        have HX := Lib.hid hx
        have HY := Lib.hid hy
        clear hx hy
        have q0 : wr.cell? (ad.add (k * 4)) = some (.string x.ky) := (celX hc).1 _ rfl
        have q1 : wr.cell? ⟨(ad.add (k * 4)).block, (ad.add (k * 4)).off + 1, none⟩ = some (.int .i64 x.k) := (celX hc).2 0 _ rfl
        have q2 : wr.cell? ⟨(ad.add (k * 4)).block, (ad.add (k * 4)).off + 2, none⟩ = some (.int .i64 x.x) := (celX hc).2 1 _ rfl
        have q3 : wr.cell? ⟨(ad.add (k * 4)).block, (ad.add (k * 4)).off + 3, none⟩ = some (.string x.s) := (celX hc).2 2 _ rfl
        have y0 : wr.cell? (ad2.add (k * 4)) = some (.string y.ky) := (celX hc2).1 _ rfl
        have y1 : wr.cell? ⟨(ad2.add (k * 4)).block, (ad2.add (k * 4)).off + 1, none⟩ = some (.int .i64 y.k) := (celX hc2).2 0 _ rfl
        have y2 : wr.cell? ⟨(ad2.add (k * 4)).block, (ad2.add (k * 4)).off + 2, none⟩ = some (.int .i64 y.x) := (celX hc2).2 1 _ rfl
        have y3 : wr.cell? ⟨(ad2.add (k * 4)).block, (ad2.add (k * 4)).off + 3, none⟩ = some (.string y.s) := (celX hc2).2 2 _ rfl
        clear hc hc2
        by_cases hxy : x = y
        · subst hxy
          have he := fun W => cl_eq x W
          have HA2 : Hid (l.take (k + 1) = l2.take (k + 1)) := by
            show _ = _
            rw [List.take_add_one, List.take_add_one, HX.out, HY.out, hA.out]
          clear hA
          go_wp2_with fail
          go_quiet (fail)
          go_wp2_with fail
          go_roundw
          case rel => exact ⟨k + 1, by omega, by go_num, HA2, hD.draws _⟩
          case measure => simp [intOf]; omega
        · have he := fun W => cl_neq hxy W
          have R : Hid (sameG l l2 = false) := sameG_no fun e => by
            have h := HX.out
            rw [e, HY.out] at h
            injection h with h
            exact hxy h.symm
          clear hxy hA
          go_wp2_with fail
          go_quiet (fail)
          go_wp2_with fail
          go_ret
          exact ⟨ret_bool R.out.symm, hD.draws _⟩
      · have hq : ¬ (k : Int) < (n : Int) := by omega
        have R : Hid (sameG l l2 = true) := by
          refine sameG_yes ?_
          have h := hA.out
          rw [List.take_of_length_le (by have := HN.out; omega), List.take_of_length_le (by have := HN2.out; omega)] at h
          exact h
        clear hA
        go_wp2_with fail
        go_ret
        exact ⟨ret_bool R.out.symm, hD⟩
  · have e0 : ((n : Int) != (m : Int)) = true := by rw [bne_iff_ne]; omega
    have R : Hid (sameG l l2 = false) := sameG_no fun e => by
      have h := HN.out
      rw [e, HN2.out] at h
      exact hnm h.symm
    clear hnm
    go_enter Tryz.func52, Tryz.ntmps52
    go_wp2_with fail
    go_ret
    exact ⟨ret_bool R.out.symm, Drn.refl _⟩

set_option maxRecDepth 100000 in
set_option maxHeartbeats 4000000 in
theorem refSameL_any {B C : Nat} (A A2 : Option Addr) (n c m d : Nat) (l l2 : List Ln) (w : World) (hn : l.length = n) (hr : RdX 11 B w A (l.map Ln.cells)) (hm : n ≤ 1000000) (hn2 : l2.length = m) (hr2 : RdX 11 C w A2 (l2.map Ln.cells)) :
    Calls Tryz.prog 13 #[.slice A n c, .slice A2 m d] w fun e w' => e = .returned (.bool (sameG l l2)) ∧ Drn w w' := by
  have HN := Lib.hid hn
  have HN2 := Lib.hid hn2
  by_cases hnm : n = m
  · subst hnm
    clear hn hn2
    go_enter Tryz.func13, Tryz.ntmps13
    go_wp2_with fail
    go_loopw [13] (fun i wr => ∃ k : Nat, k ≤ n ∧ i = .int .i64 k ∧ Hid (l.take k = l2.take k) ∧ Drn w wr) (fun i _ => n - (intOf i).toNat)
    case atStart => exact ⟨0, Nat.zero_le _, rfl, rfl, Drn.refl _⟩
    case round =>
      obtain ⟨k, hk, rfl, hA, hD⟩ := hrel
      by_cases hlt : k < n
      · obtain ⟨x, hx⟩ : ∃ x, l[k]? = some x := ⟨_, List.getElem?_eq_getElem (show k < l.length by have := HN.out; omega)⟩
        obtain ⟨y, hy⟩ : ∃ y, l2[k]? = some y := ⟨_, List.getElem?_eq_getElem (show k < l2.length by have := HN2.out; omega)⟩
        obtain ⟨ad, rfl, _, hc⟩ := (hr.keep (hD.below B) (Nat.le_refl _)) k _ (map_getS hx)
        obtain ⟨ad2, rfl, _, hc2⟩ := (hr2.keep (hD.below C) (Nat.le_refl _)) k _ (map_getS hy)
        have i1 : (0 : Int) ≤ (k : Int) := by omega
        have i2 : (k : Int) < (n : Int) := by omega
        have HX := Lib.hid hx
        have HY := Lib.hid hy
        clear hx hy
        have q0 : wr.cell? (ad.add (k * 11)) = some (.int .i64 x.pl) := (celX hc).1 _ rfl
        have q1 : wr.cell? ⟨(ad.add (k * 11)).block, (ad.add (k * 11)).off + 1, none⟩ = some (.int .i64 x.w.dev) := (celX hc).2 0 _ rfl
        have q2 : wr.cell? ⟨(ad.add (k * 11)).block, (ad.add (k * 11)).off + 2, none⟩ = some (.int .i64 x.w.seq) := (celX hc).2 1 _ rfl
        have q3 : wr.cell? ⟨(ad.add (k * 11)).block, (ad.add (k * 11)).off + 3, none⟩ = some (.int .i64 x.w.K) := (celX hc).2 2 _ rfl
        have q4 : wr.cell? ⟨(ad.add (k * 11)).block, (ad.add (k * 11)).off + 4, none⟩ = some (.string x.w.ky) := (celX hc).2 3 _ rfl
        have q5 : wr.cell? ⟨(ad.add (k * 11)).block, (ad.add (k * 11)).off + 5, none⟩ = some (.int .i64 x.w.ka) := (celX hc).2 4 _ rfl
        have q6 : wr.cell? ⟨(ad.add (k * 11)).block, (ad.add (k * 11)).off + 6, none⟩ = some (.int .i64 x.w.na) := (celX hc).2 5 _ rfl
        have q7 : wr.cell? ⟨(ad.add (k * 11)).block, (ad.add (k * 11)).off + 7, none⟩ = some (.string x.w.sa) := (celX hc).2 6 _ rfl
        have q8 : wr.cell? ⟨(ad.add (k * 11)).block, (ad.add (k * 11)).off + 8, none⟩ = some (.int .i64 x.w.kb) := (celX hc).2 7 _ rfl
        have q9 : wr.cell? ⟨(ad.add (k * 11)).block, (ad.add (k * 11)).off + 9, none⟩ = some (.int .i64 x.w.nb) := (celX hc).2 8 _ rfl
        have q10 : wr.cell? ⟨(ad.add (k * 11)).block, (ad.add (k * 11)).off + 10, none⟩ = some (.string x.w.sb) := (celX hc).2 9 _ rfl
        have y0 : wr.cell? (ad2.add (k * 11)) = some (.int .i64 y.pl) := (celX hc2).1 _ rfl
        have y1 : wr.cell? ⟨(ad2.add (k * 11)).block, (ad2.add (k * 11)).off + 1, none⟩ = some (.int .i64 y.w.dev) := (celX hc2).2 0 _ rfl
        have y2 : wr.cell? ⟨(ad2.add (k * 11)).block, (ad2.add (k * 11)).off + 2, none⟩ = some (.int .i64 y.w.seq) := (celX hc2).2 1 _ rfl
        have y3 : wr.cell? ⟨(ad2.add (k * 11)).block, (ad2.add (k * 11)).off + 3, none⟩ = some (.int .i64 y.w.K) := (celX hc2).2 2 _ rfl
        have y4 : wr.cell? ⟨(ad2.add (k * 11)).block, (ad2.add (k * 11)).off + 4, none⟩ = some (.string y.w.ky) := (celX hc2).2 3 _ rfl
        have y5 : wr.cell? ⟨(ad2.add (k * 11)).block, (ad2.add (k * 11)).off + 5, none⟩ = some (.int .i64 y.w.ka) := (celX hc2).2 4 _ rfl
        have y6 : wr.cell? ⟨(ad2.add (k * 11)).block, (ad2.add (k * 11)).off + 6, none⟩ = some (.int .i64 y.w.na) := (celX hc2).2 5 _ rfl
        have y7 : wr.cell? ⟨(ad2.add (k * 11)).block, (ad2.add (k * 11)).off + 7, none⟩ = some (.string y.w.sa) := (celX hc2).2 6 _ rfl
        have y8 : wr.cell? ⟨(ad2.add (k * 11)).block, (ad2.add (k * 11)).off + 8, none⟩ = some (.int .i64 y.w.kb) := (celX hc2).2 7 _ rfl
        have y9 : wr.cell? ⟨(ad2.add (k * 11)).block, (ad2.add (k * 11)).off + 9, none⟩ = some (.int .i64 y.w.nb) := (celX hc2).2 8 _ rfl
        have y10 : wr.cell? ⟨(ad2.add (k * 11)).block, (ad2.add (k * 11)).off + 10, none⟩ = some (.string y.w.sb) := (celX hc2).2 9 _ rfl
        clear hc hc2
        by_cases hxy : x = y
        · subst hxy
          have he := fun W => ln_eq x W
          have HA2 : Hid (l.take (k + 1) = l2.take (k + 1)) := by
            show _ = _
            rw [List.take_add_one, List.take_add_one, HX.out, HY.out, hA.out]
          clear hA
          go_wp2_with fail
          go_quiet (fail)
          go_wp2_with fail
          go_roundw
          case rel => exact ⟨k + 1, by omega, by go_num, HA2, hD.draws _⟩
          case measure => simp [intOf]; omega
        · have he := fun W => ln_neq hxy W
          have R : Hid (sameG l l2 = false) := sameG_no fun e => by
            have h := HX.out
            rw [e, HY.out] at h
            injection h with h
            exact hxy h.symm
          clear hxy hA
          go_wp2_with fail
          go_quiet (fail)
          go_wp2_with fail
          go_ret
          exact ⟨ret_bool R.out.symm, hD.draws _⟩
      · have hq : ¬ (k : Int) < (n : Int) := by omega
        have R : Hid (sameG l l2 = true) := by
          refine sameG_yes ?_
          have h := hA.out
          rw [List.take_of_length_le (by have := HN.out; omega), List.take_of_length_le (by have := HN2.out; omega)] at h
          exact h
        clear hA
        go_wp2_with fail
        go_ret
        exact ⟨ret_bool R.out.symm, hD⟩
  · have e0 : ((n : Int) != (m : Int)) = true := by rw [bne_iff_ne]; omega
    have R : Hid (sameG l l2 = false) := sameG_no fun e => by
      have h := HN.out
      rw [e, HN2.out] at h
      exact hnm h.symm
    clear hnm
    go_enter Tryz.func13, Tryz.ntmps13
    go_wp2_with fail
    go_ret
    exact ⟨ret_bool R.out.symm, Drn.refl _⟩

set_option maxRecDepth 100000 in
set_option maxHeartbeats 4000000 in
theorem lines_any {B : Nat} (A : Option Addr) (n c : Nat) (l : List Ln) (w : World) (hn : l.length = n) (hr : RdX 11 B w A (l.map Ln.cells)) (hB : B ≤ w.heap.size) (hm : n ≤ 1000000000) :
    Calls Tryz.prog 8 #[.slice A n c] w fun e w' => (∃ (A' : Option Addr) (c' : Nat), e = .returned (.slice A' n c') ∧ OwnX 75 11 w.heap.size w' A' n c' (l.map Ln.cells)) ∧ Below w.heap.size w w' := by
  obtain ⟨i0, hi0, hz0, hz1, hz2⟩ := info_parts rl_infoS
  have HN := Lib.hid hn
  have HR := Lib.hid (fun W (h : Below w.heap.size w W) => hr.keep (W' := W) h hB)
  clear hn hr
  go_enter Tryz.func8, Tryz.ntmps8
  go_wp2_with fail
  go_loopw [3, 8] (fun u i wr => ∃ (k : Nat) (A3 : Option Addr) (c3 : Nat), k ≤ n ∧ i = .int .i64 k ∧ u = .slice A3 k c3 ∧ OwnX 75 11 w.heap.size wr A3 k c3 ((l.take k).map Ln.cells) ∧ Below w.heap.size w wr) (fun _ i _ => n - (intOf i).toNat)
  case atStart => exact ⟨0, none, 0, Nat.zero_le _, rfl, rfl, OwnX.nil _ _ _ _, Below.refl _ _⟩
  case round =>
    obtain ⟨k, A3, c3, hk, rfl, rfl, hO, hW⟩ := hrel
    by_cases hlt : k < n
    · obtain ⟨x, hx⟩ : ∃ x, l[k]? = some x := ⟨_, List.getElem?_eq_getElem (show k < l.length by have := HN.out; omega)⟩
      obtain ⟨ad, rfl, _, hc⟩ := HR.out wr hW k _ (map_getS hx)
      have i1 : (0 : Int) ≤ (k : Int) := by omega
      have i2 : (k : Int) < (n : Int) := by omega
      have HL : Hid ((l.take (k + 1)).map Ln.cells = (l.take k).map Ln.cells ++ [x.cells]) := by
        show _ = _
        rw [List.take_add_one, hx, List.map_append]
        rfl
      clear hx
      have q0 : wr.cell? (ad.add (k * 11)) = some (.int .i64 x.pl) := (celX hc).1 _ rfl
      have q1 : wr.cell? ⟨(ad.add (k * 11)).block, (ad.add (k * 11)).off + 1, none⟩ = some (.int .i64 x.w.dev) := (celX hc).2 0 _ rfl
      have q2 : wr.cell? ⟨(ad.add (k * 11)).block, (ad.add (k * 11)).off + 2, none⟩ = some (.int .i64 x.w.seq) := (celX hc).2 1 _ rfl
      have q3 : wr.cell? ⟨(ad.add (k * 11)).block, (ad.add (k * 11)).off + 3, none⟩ = some (.int .i64 x.w.K) := (celX hc).2 2 _ rfl
      have q4 : wr.cell? ⟨(ad.add (k * 11)).block, (ad.add (k * 11)).off + 4, none⟩ = some (.string x.w.ky) := (celX hc).2 3 _ rfl
      have q5 : wr.cell? ⟨(ad.add (k * 11)).block, (ad.add (k * 11)).off + 5, none⟩ = some (.int .i64 x.w.ka) := (celX hc).2 4 _ rfl
      have q6 : wr.cell? ⟨(ad.add (k * 11)).block, (ad.add (k * 11)).off + 6, none⟩ = some (.int .i64 x.w.na) := (celX hc).2 5 _ rfl
      have q7 : wr.cell? ⟨(ad.add (k * 11)).block, (ad.add (k * 11)).off + 7, none⟩ = some (.string x.w.sa) := (celX hc).2 6 _ rfl
      have q8 : wr.cell? ⟨(ad.add (k * 11)).block, (ad.add (k * 11)).off + 8, none⟩ = some (.int .i64 x.w.kb) := (celX hc).2 7 _ rfl
      have q9 : wr.cell? ⟨(ad.add (k * 11)).block, (ad.add (k * 11)).off + 9, none⟩ = some (.int .i64 x.w.nb) := (celX hc).2 8 _ rfl
      have q10 : wr.cell? ⟨(ad.add (k * 11)).block, (ad.add (k * 11)).off + 10, none⟩ = some (.string x.w.sb) := (celX hc).2 9 _ rfl
      clear hc
      go_upto_region 5 with fail
      have hX := blk_new wr x.cells 49
      have hW1 := ba hW (.cells x.cells 49)
      have hO1 := hO.keep (b0 wr (.cells x.cells 49))
      clear q0 q1 q2 q3 q4 q5 q6 q7 q8 q9 q10 hO hW
      generalize wr.alloc (.cells x.cells 49) = W1 at hX hW1 hO1 ⊢
      generalize wr.heap.size = bx at hX ⊢
      have c0 := hX.cell 0
      have c1 := hX.cell 1
      have c2 := hX.cell 2
      have c3 := hX.cell 3
      have c4 := hX.cell 4
      have c5 := hX.cell 5
      have c6 := hX.cell 6
      have c7 := hX.cell 7
      have c8 := hX.cell 8
      have c9 := hX.cell 9
      have c10 := hX.cell 10
      have hxx := newX W1 x.cells 75
      have hO2 := hO1.keep (b0 W1 (.cells x.cells 75))
      have hW2 := ba hW1 (.cells x.cells 75)
      have hz := hW2.size
      have hkb : k ≤ 1000000000 := by omega
      clear hO1 hW1
      go_wp2_with (at_builtin; refine wpList_apX (el := 75) (base := w.heap.size) (n := k) (l := (l.take k).map Ln.cells) (xx := x.cells) (by rfl) _ _ (by rfl) Tryz.underlying26 Tryz.underlying26 hi0 hz0 hz1 hz2 (by rfl) (by omega) (by omega) (by rfl) (by rfl) hO2 (by rfl) (ln_one x) hxx hkb hz ?_; intro A5 c5 w5 hO5 hb5)
      rw [← HL.out] at hO5
      go_roundw
      case rel => exact ⟨k + 1, A5, c5, by omega, by go_num, rfl, hO5, hW2.trans hb5⟩
      case measure => simp [intOf]; omega
    · have hq : ¬ (k : Int) < (n : Int) := by omega
      have hkn : k = n := by omega
      subst hkn
      have e : (l.take k).map Ln.cells = l.map Ln.cells := by rw [List.take_of_length_le (by have := HN.out; omega)]
      rw [e] at hO
      clear e
      go_wp2_with fail
      go_ret
      exact ⟨⟨A3, c3, rfl, hO⟩, hW⟩
end Go.Proofs.YtpjleeeligahaaaGreatDoor
