/-
  WHAT IS PROVED: plain words for the law SlateSpoils: what a spoilt block is. Conditions: those typed in each theorem.
-/
import Derived.Test.YtfpfalgbkbmkeaaDoorSlSpoil
import Derived.Test.YtfpfalgbkbmkeaaDoorSlAwake
import Derived.Test.YtfpfalgbkbmkeaaDoorSlBlocks
namespace Go.Proofs.YtfpfalgbkbmkeaaDoor
open Go.RowKit Go.MapKept

/-- The slates of the law, one after the other. -/
def sp1M (k : Nat) (l : List UInt8) : Sl := wrM sl0 3 k l
def sp2M (k : Nat) (l : List UInt8) : Sl := flM (sp1M k l) 3
def sp3M (k i : Nat) (l : List UInt8) : Sl := spM (sp2M k l) 3 k i
def sp4M (k i : Nat) (l : List UInt8) : Sl := spM (sp3M k i l) 3 k i
def newB : List UInt8 := [110, 101, 119]
def sp5M (k i : Nat) (l : List UInt8) : Sl := wrM (sp4M k i l) 3 k newB
def sp6M (k i : Nat) (l : List UInt8) : Sl := spM (sp5M k i l) 3 k i
section
variable {k i : Nat} {l : List UInt8}
theorem sp_place (hk : k < 1024) : placeB 3 (k : Int) = true := by
  unfold placeB fileB
  simp
  omega
theorem sp_okS (hk : k < 1024) (hi : i < 512) : okS 3 (k : Int) (i : Int) = true := by
  unfold okS
  rw [sp_place hk]
  simp
  omega
theorem sp_okW (hk : k < 1024) (hl : l.length ≤ 64) : okW 3 (k : Int) l = true := by
  unfold okW
  rw [sp_place hk]
  simp [hl]
theorem sp1_is (hk : k < 1024) (hl : l.length ≤ 64) : sp1M k l = ⟨fun _ => none, putD (fun _ => none) ⟨3, k, padL l⟩, [⟨3, k, padL l⟩], false, 0, false⟩ ∧ wrCode sl0 3 k l = 0 := by
  unfold sp1M wrM wrCode
  rw [sp_okW hk hl]
  exact ⟨rfl, rfl⟩
theorem sp2_is (hk : k < 1024) (hl : l.length ≤ 64) : sp2M k l = ⟨putD (fun _ => none) ⟨3, k, padL l⟩, putD (fun _ => none) ⟨3, k, padL l⟩, [], false, 0, false⟩ ∧ rmCode (sp1M k l) 3 = 0 := by
  unfold sp2M
  rw [(sp1_is hk hl).1]
  exact ⟨rfl, rfl⟩
theorem blk_put (D : Dk) (f b : Int) (x : List UInt8) : blkD (putD D ⟨f, b, x⟩) f b = x := by
  unfold blkD putD
  simp [putF]
theorem sp3_is (hk : k < 1024) (hi : i < 512) (hl : l.length ≤ 64) : sp3M k i l = ⟨putD (putD (fun _ => none) ⟨3, k, padL l⟩) ⟨3, k, flipL (padL l) i⟩, putD (putD (fun _ => none) ⟨3, k, padL l⟩) ⟨3, k, flipL (padL l) i⟩, [], false, 0, false⟩ := by
  unfold sp3M spM
  rw [sp_okS hk hi, (sp2_is hk hl).1, Int.toNat_natCast]
  rw [cond_true]
  unfold Sl.spoils spotX Sl.doK Sl.doS
  dsimp only
  rw [blk_put]
  rfl
theorem bit_twice (u v : UInt8) : (u ^^^ v) ^^^ v = u := by
  rw [UInt8.xor_assoc, UInt8.xor_self, UInt8.xor_zero]
theorem flip_twice (x : List UInt8) (i : Nat) (h : i / 8 < x.length) : flipL (flipL x i) i = x := by
  unfold flipL
  rw [List.set_set, List.getElem?_set_self h, Option.getD_some, bit_twice, List.getElem?_eq_getElem h, Option.getD_some, List.set_getElem_self]
theorem sp4_is (hk : k < 1024) (hi : i < 512) (hl : l.length ≤ 64) : ∃ D, sp4M k i l = ⟨putD D ⟨3, k, padL l⟩, putD D ⟨3, k, padL l⟩, [], false, 0, false⟩ := by
  refine ⟨putD (putD (fun _ => none) ⟨3, k, padL l⟩) ⟨3, k, flipL (padL l) i⟩, ?_⟩
  unfold sp4M spM
  rw [sp_okS hk hi, sp3_is hk hi hl, Int.toNat_natCast]
  rw [cond_true]
  unfold Sl.spoils spotX Sl.doK Sl.doS
  dsimp only
  rw [blk_put, flip_twice _ _ (by rw [padL_len hl]; omega)]
  rfl
/-- Of one block alone there is something. -/
def OnlyK (D : Dk) (k : Nat) : Prop := ∀ f g m x, D f = some g → g m = some x → m = (k : Int)
theorem only_none : OnlyK (fun _ => none) k := fun f g m x h => by cases h
theorem OnlyK.put {D : Dk} (h : OnlyK D k) (x : List UInt8) : OnlyK (putD D ⟨3, k, x⟩) k := fun f g m y h1 h2 => by
  unfold putD at h1
  dsimp only at h1
  by_cases e : f = 3
  · rw [if_pos e] at h1
    injection h1 with h1
    subst h1
    unfold putF at h2
    by_cases e2 : m = (k : Int)
    · exact e2
    · rw [if_neg e2] at h2
      cases hD : D f with
      | none =>
        rw [hD, Option.getD_none] at h2
        cases h2
      | some g2 =>
        rw [hD, Option.getD_some] at h2
        exact h f g2 m y hD h2
  · rw [if_neg e] at h1
    exact h f g m y h1 h2
theorem blkn_only {D : Dk} {x : List UInt8} {z : Int} (h : OnlyK D k) (hz : BlkN (putD D ⟨3, k, x⟩) 3 z) : z = (k : Int) + 1 := by
  obtain ⟨h0, h1, h2⟩ := hz
  have hg : (putD D ⟨3, k, x⟩) 3 = some (putF ((D 3).getD noF) k x) := if_pos rfl
  have hk : (putF ((D 3).getD noF) k x) (k : Int) = some x := if_pos rfl
  have := h1 _ _ _ hg hk
  rcases h2 with h2 | ⟨g, m, y, hg2, hm, rfl⟩
  · omega
  · have := (h.put x) 3 g m y hg2 hm
    omega
theorem sp5_is (hk : k < 1024) (hi : i < 512) (hl : l.length ≤ 64) : ∃ D, sp5M k i l = ⟨putD D ⟨3, k, padL l⟩, putD (putD D ⟨3, k, padL l⟩) ⟨3, k, padL newB⟩, [⟨3, k, padL newB⟩], false, 0, false⟩ ∧ OnlyK D k := by
  refine ⟨putD (putD (fun _ => none) ⟨3, k, padL l⟩) ⟨3, k, flipL (padL l) i⟩, ?_, (only_none.put _).put _⟩
  unfold sp5M wrM
  rw [sp_okW hk (by decide)]
  have h4 : sp4M k i l = ⟨putD (putD (putD (fun _ => none) ⟨3, k, padL l⟩) ⟨3, k, flipL (padL l) i⟩) ⟨3, k, padL l⟩, putD (putD (putD (fun _ => none) ⟨3, k, padL l⟩) ⟨3, k, flipL (padL l) i⟩) ⟨3, k, padL l⟩, [], false, 0, false⟩ := by
    unfold sp4M spM
    rw [sp_okS hk hi, sp3_is hk hi hl, Int.toNat_natCast]
    rw [cond_true]
    unfold Sl.spoils spotX Sl.doK Sl.doS
    dsimp only
    rw [blk_put, flip_twice _ _ (by rw [padL_len hl]; omega)]
    rfl
  rw [h4]
  rfl
theorem sp6_is (hk : k < 1024) (hi : i < 512) (hl : l.length ≤ 64) : (sp6M k i l).pend.length = 1 ∧ ∃ D, (sp6M k i l).seen = putD D ⟨3, k, padL newB⟩ ∧ OnlyK D k := by
  obtain ⟨D, h5, hD⟩ := sp5_is hk hi hl
  unfold sp6M spM
  rw [sp_okS hk hi, h5, Int.toNat_natCast, cond_true]
  have ha : ([⟨3, k, padL newB⟩] : List Pw).any (isFB 3 k) = true := by simp [isFB]
  unfold Sl.spoils
  dsimp only
  rw [ha]
  exact ⟨rfl, _, rfl, hD.put _⟩
end
end Go.Proofs.YtfpfalgbkbmkeaaDoor
