/-
  WHAT IS PROVED: the fixed fact of the statements of layer 2 holds, in every world in which the library's variables hold what the program's text lays.
-/
import Derived.Test.YtmilcgikncecnaaDoorReadD
import Derived.Test.YtmilcgikncecnaaDoorRefDo
import Derived.Deep.RegionHeld3
namespace Go.Proofs.YtmilcgikncecnaaDoor
open Go.RowKit

theorem readEx1 : readD [97, 100, 100, 32, 110, 46, 49, 32, 53] = some (3, [110, 46, 49], (1, 5, [], 0), nilV) := by kernel_rfl
theorem readEx2 : readD [99, 97, 115, 32, 107, 32, 110, 105, 108, 32, 49] = some (4, [107], (0, 0, [], 0), (1, 1, [], 0)) := by kernel_rfl
theorem read_ex1 (w : World) (hL : LaidD w) :
    Calls Tryd.prog 18 #[.string ⟨#[97, 100, 100, 32, 110, 46, 49, 32, 53]⟩] w fun e w' => e = .returned (opE 3 ⟨#[110, 46, 49]⟩ 1 5 ⟨#[]⟩ 0 0 ⟨#[]⟩ 0) ∧ Below w.heap.size w w' := by
  have h := deedRead_any ⟨#[97, 100, 100, 32, 110, 46, 49, 32, 53]⟩ w (by decide) hL
  have e : readD (⟨#[97, 100, 100, 32, 110, 46, 49, 32, 53]⟩ : ByteArray).data.toList = some (3, [110, 46, 49], (1, 5, [], 0), nilV) := readEx1
  rw [e] at h
  exact h
theorem read_ex2 (w : World) (hL : LaidD w) :
    Calls Tryd.prog 18 #[.string ⟨#[99, 97, 115, 32, 107, 32, 110, 105, 108, 32, 49]⟩] w fun e w' => e = .returned (opE 4 ⟨#[107]⟩ 0 0 ⟨#[]⟩ 1 1 ⟨#[]⟩ 0) ∧ Below w.heap.size w w' := by
  have h := deedRead_any ⟨#[99, 97, 115, 32, 107, 32, 110, 105, 108, 32, 49]⟩ w (by decide) hL
  have e : readD (⟨#[99, 97, 115, 32, 107, 32, 110, 105, 108, 32, 49]⟩ : ByteArray).data.toList = some (4, [107], (0, 0, [], 0), (1, 1, [], 0)) := readEx2
  rw [e] at h
  exact h
theorem do_ex1 (w : World) : Calls Tryd.prog 15 #[opV 3 ⟨#[110, 46, 49]⟩ 1 5 ⟨#[]⟩ 0 0 ⟨#[]⟩, .agg #[.int .i64 1, .int .i64 7, .string ⟨#[]⟩]] w fun e w' => e = .returned (pairV 1 12 ⟨#[]⟩ 0) ∧ Below w.heap.size w w' :=
  do_any 3 1 5 0 0 1 7 _ _ _ _ w (by decide) (by decide) _ _ _ _ (doV_sum 5 0 0 7 ⟨#[]⟩ ⟨#[]⟩ ⟨#[]⟩ (by decide)) (by decide)
theorem do_ex2 (w : World) : Calls Tryd.prog 15 #[opV 3 ⟨#[110, 46, 49]⟩ 1 5 ⟨#[]⟩ 0 0 ⟨#[]⟩, .agg #[.int .i64 2, .int .i64 0, .string ⟨#[55]⟩]] w fun e w' => e = .returned (pairV 2 0 ⟨#[55]⟩ 13) ∧ Below w.heap.size w w' :=
  do_any 3 1 5 0 0 2 0 _ _ _ _ w (by decide) (by decide) _ _ _ _ (doV_kind 1 5 0 0 2 0 ⟨#[]⟩ ⟨#[]⟩ ⟨#[55]⟩ (by decide)) (by decide)
theorem do_ex3 (w : World) : Calls Tryd.prog 15 #[opV 4 ⟨#[107]⟩ 0 0 ⟨#[]⟩ 1 1 ⟨#[]⟩, .agg #[.int .i64 0, .int .i64 0, .string ⟨#[]⟩]] w fun e w' => e = .returned (pairV 1 1 ⟨#[]⟩ 0) ∧ Below w.heap.size w w' :=
  do_any 4 0 0 1 1 0 0 _ _ _ _ w (by decide) (by decide) _ _ _ _ (doV_cas 0 1 1 0 0 0 ⟨#[]⟩ ⟨#[]⟩ ⟨#[]⟩ ⟨rfl, rfl, rfl⟩) (by decide)

/-- A block known in a world that has only grown, with what the walk needs beside it. -/
def AwS (w : World) (b : Nat) (W : World) : Prop := Blk W b (opC 3 ⟨#[110, 46, 49]⟩ 1 5 ⟨#[]⟩ 0 0 ⟨#[]⟩) 28 ∧ Below w.heap.size w W
theorem awHeld {w W w1 : World} {b : Nat} (h : W.cell? ⟨b, 0, none⟩ = some (.int .i64 3) ∧ W.cell? ⟨b, 1, none⟩ = some (.string ⟨#[110, 46, 49]⟩) ∧ W.cell? ⟨b, 2, none⟩ = some (.int .i64 1) ∧ W.cell? ⟨b, 3, none⟩ = some (.int .i64 5) ∧ W.cell? ⟨b, 4, none⟩ = some (.string ⟨#[]⟩) ∧ W.cell? ⟨b, 5, none⟩ = some (.int .i64 0) ∧ W.cell? ⟨b, 6, none⟩ = some (.int .i64 0) ∧ W.cell? ⟨b, 7, none⟩ = some (.string ⟨#[]⟩) ∧ AwS w b W) (hb : Below W.heap.size W w1) : w1.cell? ⟨b, 0, none⟩ = some (.int .i64 3) ∧ w1.cell? ⟨b, 1, none⟩ = some (.string ⟨#[110, 46, 49]⟩) ∧ w1.cell? ⟨b, 2, none⟩ = some (.int .i64 1) ∧ w1.cell? ⟨b, 3, none⟩ = some (.int .i64 5) ∧ w1.cell? ⟨b, 4, none⟩ = some (.string ⟨#[]⟩) ∧ w1.cell? ⟨b, 5, none⟩ = some (.int .i64 0) ∧ w1.cell? ⟨b, 6, none⟩ = some (.int .i64 0) ∧ w1.cell? ⟨b, 7, none⟩ = some (.string ⟨#[]⟩) ∧ AwS w b w1 := by
  obtain ⟨_, _, _, _, _, _, _, _, h1, h2⟩ := h
  have h3 := h1.keep hb
  exact ⟨h3.cell 0, h3.cell 1, h3.cell 2, h3.cell 3, h3.cell 4, h3.cell 5, h3.cell 6, h3.cell 7, h3, bt h2 hb⟩
theorem awSet3 {w W : World} {b c : Nat} (h : W.cell? ⟨b, 0, none⟩ = some (.int .i64 3) ∧ W.cell? ⟨b, 1, none⟩ = some (.string ⟨#[110, 46, 49]⟩) ∧ W.cell? ⟨b, 2, none⟩ = some (.int .i64 1) ∧ W.cell? ⟨b, 3, none⟩ = some (.int .i64 5) ∧ W.cell? ⟨b, 4, none⟩ = some (.string ⟨#[]⟩) ∧ W.cell? ⟨b, 5, none⟩ = some (.int .i64 0) ∧ W.cell? ⟨b, 6, none⟩ = some (.int .i64 0) ∧ W.cell? ⟨b, 7, none⟩ = some (.string ⟨#[]⟩) ∧ AwS w b W) (hne : b ≠ c) (hc : w.heap.size ≤ c) (v0 v1 v2 : Value) : (((W.setCell ⟨c, 0, none⟩ v0).setCell ⟨c, 1, none⟩ v1).setCell ⟨c, 2, none⟩ v2).cell? ⟨b, 0, none⟩ = some (.int .i64 3) ∧ (((W.setCell ⟨c, 0, none⟩ v0).setCell ⟨c, 1, none⟩ v1).setCell ⟨c, 2, none⟩ v2).cell? ⟨b, 1, none⟩ = some (.string ⟨#[110, 46, 49]⟩) ∧ (((W.setCell ⟨c, 0, none⟩ v0).setCell ⟨c, 1, none⟩ v1).setCell ⟨c, 2, none⟩ v2).cell? ⟨b, 2, none⟩ = some (.int .i64 1) ∧ (((W.setCell ⟨c, 0, none⟩ v0).setCell ⟨c, 1, none⟩ v1).setCell ⟨c, 2, none⟩ v2).cell? ⟨b, 3, none⟩ = some (.int .i64 5) ∧ (((W.setCell ⟨c, 0, none⟩ v0).setCell ⟨c, 1, none⟩ v1).setCell ⟨c, 2, none⟩ v2).cell? ⟨b, 4, none⟩ = some (.string ⟨#[]⟩) ∧ (((W.setCell ⟨c, 0, none⟩ v0).setCell ⟨c, 1, none⟩ v1).setCell ⟨c, 2, none⟩ v2).cell? ⟨b, 5, none⟩ = some (.int .i64 0) ∧ (((W.setCell ⟨c, 0, none⟩ v0).setCell ⟨c, 1, none⟩ v1).setCell ⟨c, 2, none⟩ v2).cell? ⟨b, 6, none⟩ = some (.int .i64 0) ∧ (((W.setCell ⟨c, 0, none⟩ v0).setCell ⟨c, 1, none⟩ v1).setCell ⟨c, 2, none⟩ v2).cell? ⟨b, 7, none⟩ = some (.string ⟨#[]⟩) ∧ AwS w b (((W.setCell ⟨c, 0, none⟩ v0).setCell ⟨c, 1, none⟩ v1).setCell ⟨c, 2, none⟩ v2) := by
  obtain ⟨_, _, _, _, _, _, _, _, h1, h2⟩ := h
  have h3 := ((h1.other hne 0 v0).other hne 1 v1).other hne 2 v2
  exact ⟨h3.cell 0, h3.cell 1, h3.cell 2, h3.cell 3, h3.cell 4, h3.cell 5, h3.cell 6, h3.cell 7, h3, ((h2.setCell (p := ⟨c, 0, none⟩) hc v0).setCell (p := ⟨c, 1, none⟩) hc v1).setCell (p := ⟨c, 2, none⟩) hc v2⟩
theorem awNew {w W : World} {b : Nat} (h : W.cell? ⟨b, 0, none⟩ = some (.int .i64 3) ∧ W.cell? ⟨b, 1, none⟩ = some (.string ⟨#[110, 46, 49]⟩) ∧ W.cell? ⟨b, 2, none⟩ = some (.int .i64 1) ∧ W.cell? ⟨b, 3, none⟩ = some (.int .i64 5) ∧ W.cell? ⟨b, 4, none⟩ = some (.string ⟨#[]⟩) ∧ W.cell? ⟨b, 5, none⟩ = some (.int .i64 0) ∧ W.cell? ⟨b, 6, none⟩ = some (.int .i64 0) ∧ W.cell? ⟨b, 7, none⟩ = some (.string ⟨#[]⟩) ∧ AwS w b W) (o : Obj) : (W.alloc o).cell? ⟨b, 0, none⟩ = some (.int .i64 3) ∧ (W.alloc o).cell? ⟨b, 1, none⟩ = some (.string ⟨#[110, 46, 49]⟩) ∧ (W.alloc o).cell? ⟨b, 2, none⟩ = some (.int .i64 1) ∧ (W.alloc o).cell? ⟨b, 3, none⟩ = some (.int .i64 5) ∧ (W.alloc o).cell? ⟨b, 4, none⟩ = some (.string ⟨#[]⟩) ∧ (W.alloc o).cell? ⟨b, 5, none⟩ = some (.int .i64 0) ∧ (W.alloc o).cell? ⟨b, 6, none⟩ = some (.int .i64 0) ∧ (W.alloc o).cell? ⟨b, 7, none⟩ = some (.string ⟨#[]⟩) ∧ AwS w b (W.alloc o) := awHeld h (b0 W o)

def FinS (w : World) (VB XB : Nat) (W : World) : Prop := Blk W VB #[.int .i64 1, .int .i64 12, .string ⟨#[]⟩] 26 ∧ Blk W XB #[.int .i64 1, .int .i64 1, .string ⟨#[]⟩] 26 ∧ Below w.heap.size w W
theorem fin_of {w W : World} {VB XB : Nat} (h1 : Blk W VB #[.int .i64 1, .int .i64 12, .string ⟨#[]⟩] 26) (h2 : Blk W XB #[.int .i64 1, .int .i64 1, .string ⟨#[]⟩] 26) (h3 : Below w.heap.size w W.drew) : W.drew.cell? ⟨VB, 0, none⟩ = some (.int .i64 1) ∧ W.drew.cell? ⟨VB, 1, none⟩ = some (.int .i64 12) ∧ W.drew.cell? ⟨VB, 2, none⟩ = some (.string ⟨#[]⟩) ∧ W.drew.cell? ⟨XB, 0, none⟩ = some (.int .i64 1) ∧ W.drew.cell? ⟨XB, 1, none⟩ = some (.int .i64 1) ∧ W.drew.cell? ⟨XB, 2, none⟩ = some (.string ⟨#[]⟩) ∧ FinS w VB XB W.drew :=
  ⟨h1.cell 0, h1.cell 1, h1.cell 2, h2.cell 0, h2.cell 1, h2.cell 2, h1, h2, h3⟩
theorem finHeld {w W w1 : World} {VB XB : Nat} (h : W.cell? ⟨VB, 0, none⟩ = some (.int .i64 1) ∧ W.cell? ⟨VB, 1, none⟩ = some (.int .i64 12) ∧ W.cell? ⟨VB, 2, none⟩ = some (.string ⟨#[]⟩) ∧ W.cell? ⟨XB, 0, none⟩ = some (.int .i64 1) ∧ W.cell? ⟨XB, 1, none⟩ = some (.int .i64 1) ∧ W.cell? ⟨XB, 2, none⟩ = some (.string ⟨#[]⟩) ∧ FinS w VB XB W) (hb : Below W.heap.size W w1) : w1.cell? ⟨VB, 0, none⟩ = some (.int .i64 1) ∧ w1.cell? ⟨VB, 1, none⟩ = some (.int .i64 12) ∧ w1.cell? ⟨VB, 2, none⟩ = some (.string ⟨#[]⟩) ∧ w1.cell? ⟨XB, 0, none⟩ = some (.int .i64 1) ∧ w1.cell? ⟨XB, 1, none⟩ = some (.int .i64 1) ∧ w1.cell? ⟨XB, 2, none⟩ = some (.string ⟨#[]⟩) ∧ FinS w VB XB w1 := by
  obtain ⟨_, _, _, _, _, _, h1, h2, h3⟩ := h
  have k1 := h1.keep hb
  have k2 := h2.keep hb
  exact ⟨k1.cell 0, k1.cell 1, k1.cell 2, k2.cell 0, k2.cell 1, k2.cell 2, k1, k2, bt h3 hb⟩

set_option maxRecDepth 100000 in
set_option maxHeartbeats 8000000 in
theorem awake_any (w : World) (hL : LaidD w) :
    Calls Tryd.prog 9 #[] w fun e w' => e = .returned (.bool true) ∧ Below w.heap.size w w' := by
  have HL := Lib.hid hL
  clear hL
  go_enter Tryd.func9, Tryd.ntmps9
  go_wp2_with fail
  refine (read_ex1 _ HL.out).mono ?_
  rintro e w1 ⟨rfl, hb1⟩
  go_wp2_with fail
  have HO := blk_new w1 (opC 3 ⟨#[110, 46, 49]⟩ 1 5 ⟨#[]⟩ 0 0 ⟨#[]⟩) 28
  have hB := ba hb1 (.cells (opC 3 ⟨#[110, 46, 49]⟩ 1 5 ⟨#[]⟩ 0 0 ⟨#[]⟩) 28)
  clear hb1
  generalize w1.heap.size = OB at HO ⊢
  generalize w1.alloc (.cells (opC 3 ⟨#[110, 46, 49]⟩ 1 5 ⟨#[]⟩ 0 0 ⟨#[]⟩) 28) = W at HO hB ⊢
  have HS : Hid (W.drew.cell? ⟨OB, 0, none⟩ = some (.int .i64 3) ∧ W.drew.cell? ⟨OB, 1, none⟩ = some (.string ⟨#[110, 46, 49]⟩) ∧ W.drew.cell? ⟨OB, 2, none⟩ = some (.int .i64 1) ∧ W.drew.cell? ⟨OB, 3, none⟩ = some (.int .i64 5) ∧ W.drew.cell? ⟨OB, 4, none⟩ = some (.string ⟨#[]⟩) ∧ W.drew.cell? ⟨OB, 5, none⟩ = some (.int .i64 0) ∧ W.drew.cell? ⟨OB, 6, none⟩ = some (.int .i64 0) ∧ W.drew.cell? ⟨OB, 7, none⟩ = some (.string ⟨#[]⟩) ∧ AwS w OB W.drew) := ⟨HO.cell 0, HO.cell 1, HO.cell 2, HO.cell 3, HO.cell 4, HO.cell 5, HO.cell 6, HO.cell 7, HO, hB.drew⟩
  have HSA : Hid (∀ o : Obj, (W.alloc o).drew.cell? ⟨OB, 0, none⟩ = some (.int .i64 3) ∧ (W.alloc o).drew.cell? ⟨OB, 1, none⟩ = some (.string ⟨#[110, 46, 49]⟩) ∧ (W.alloc o).drew.cell? ⟨OB, 2, none⟩ = some (.int .i64 1) ∧ (W.alloc o).drew.cell? ⟨OB, 3, none⟩ = some (.int .i64 5) ∧ (W.alloc o).drew.cell? ⟨OB, 4, none⟩ = some (.string ⟨#[]⟩) ∧ (W.alloc o).drew.cell? ⟨OB, 5, none⟩ = some (.int .i64 0) ∧ (W.alloc o).drew.cell? ⟨OB, 6, none⟩ = some (.int .i64 0) ∧ (W.alloc o).drew.cell? ⟨OB, 7, none⟩ = some (.string ⟨#[]⟩) ∧ AwS w OB (W.alloc o).drew) := fun o => ⟨(HO.alloc o).cell 0, (HO.alloc o).cell 1, (HO.alloc o).cell 2, (HO.alloc o).cell 3, (HO.alloc o).cell 4, (HO.alloc o).cell 5, (HO.alloc o).cell 6, (HO.alloc o).cell 7, HO.alloc o, (ba hB o).drew⟩
  have hlt := HO.lt
  have hle := hB.size
  clear HO hB
  go_region_held3 (fun W' => W'.cell? ⟨OB, 0, none⟩ = some (.int .i64 3) ∧ W'.cell? ⟨OB, 1, none⟩ = some (.string ⟨#[110, 46, 49]⟩) ∧ W'.cell? ⟨OB, 2, none⟩ = some (.int .i64 1) ∧ W'.cell? ⟨OB, 3, none⟩ = some (.int .i64 5) ∧ W'.cell? ⟨OB, 4, none⟩ = some (.string ⟨#[]⟩) ∧ W'.cell? ⟨OB, 5, none⟩ = some (.int .i64 0) ∧ W'.cell? ⟨OB, 6, none⟩ = some (.int .i64 0) ∧ W'.cell? ⟨OB, 7, none⟩ = some (.string ⟨#[]⟩) ∧ AwS w OB W') (first | with_reducible exact HS.out | with_reducible exact SD.out | with_reducible exact SI.out | with_reducible exact HSA.out _ | with_reducible exact awNew SI.out _ | with_reducible exact awNew SD.out _ | with_reducible exact awSet3 SD.out (by omega) (by omega) _ _ _) (first | (go_at_call 21; ((with_reducible refine (refInt_any 7 _).mono ?_); rintro e w1 ⟨rfl, hbI⟩; have SI := Lib.hid (awHeld (by assumption) hbI); obtain ⟨hcI, hfI⟩ := bcell hbI; have hzI := hbI.size; (try simp at hzI))) | (go_at_call 15; ((with_reducible refine (do_ex1 _).mono ?_); rintro e w2 ⟨rfl, hbD⟩; have SD := Lib.hid (awHeld (by assumption) hbD); (first | have hbC := bt hbI hbD | have hbC := bt hbI (bt (b0 w1 _) hbD)); clear hcI hfI; obtain ⟨hcC, hfC⟩ := bcell hbC; obtain ⟨hcD, hfD⟩ := bcell hbD; have hzD := hbD.size; have hzC := hbC.size; (try simp at hzD); (try simp at hzC))))
  · have hH := (by assumption : _ ∧ _ ∧ _ ∧ _ ∧ _ ∧ _ ∧ _ ∧ _ ∧ AwS w OB (w2.alloc (.cells #[.int .i64 1, .int .i64 12, .string ⟨#[]⟩] 26))).2.2.2.2.2.2.2.2
    have hV := blk_new w2 #[.int .i64 1, .int .i64 12, .string ⟨#[]⟩] 26
    replace hV : Hid (Blk (w2.alloc (.cells #[.int .i64 1, .int .i64 12, .string ⟨#[]⟩] 26)) w2.heap.size #[.int .i64 1, .int .i64 12, .string ⟨#[]⟩] 26) := hV
    have HO := Lib.hid hH.1
    have hB := hH.2
    clear hH
    generalize (w2.alloc (.cells #[.int .i64 1, .int .i64 12, .string ⟨#[]⟩] 26)) = W5 at hV HO hB ⊢
    generalize w2.heap.size = VB at hV ⊢
    try clear hcC hfC hcD hfD hzD hzC
    obtain ⟨p0, p1, p2, p3, p4, p5, p6, p7, p8⟩ := HO.out.c8
    go_wp2_with fail
    refine (do_ex2 _).mono ?_
    rintro e w6 ⟨rfl, hb6⟩
    replace hV := Lib.hid (hV.out.keep hb6)
    replace hB := bt hB hb6
    clear hb6 HO p0 p1 p2 p3 p4 p5 p6 p7 p8
    go_wp2_with fail
    replace hV := Lib.hid (hV.out.alloc (.cells #[.int .i64 2, .int .i64 0, .string ⟨#[55]⟩] 26))
    replace hB := ba hB (.cells #[.int .i64 2, .int .i64 0, .string ⟨#[55]⟩] 26)
    refine (read_ex2 _ (HL.out.keep hB)).mono ?_
    rintro e w7 ⟨rfl, hb7⟩
    replace hV := Lib.hid (hV.out.keep hb7)
    replace hB := bt hB hb7
    clear hb7
    go_wp2_with fail
    replace hV := Lib.hid (hV.out.alloc (.cells (opC 4 ⟨#[107]⟩ 0 0 ⟨#[]⟩ 1 1 ⟨#[]⟩) 28))
    replace hB := ba hB (.cells (opC 4 ⟨#[107]⟩ 0 0 ⟨#[]⟩ 1 1 ⟨#[]⟩) 28)
    refine (do_ex3 _).mono ?_
    rintro e w8 ⟨rfl, hb8⟩
    replace hV := Lib.hid (hV.out.keep hb8)
    replace hB := bt hB hb8
    clear hb8
    go_wp2_with fail
    have hX := Lib.hid (blk_new w8 #[.int .i64 1, .int .i64 1, .string ⟨#[]⟩] 26)
    replace hV := Lib.hid (hV.out.alloc (.cells #[.int .i64 1, .int .i64 1, .string ⟨#[]⟩] 26))
    replace hB := ba hB (.cells #[.int .i64 1, .int .i64 1, .string ⟨#[]⟩] 26)
    generalize w8.alloc (.cells #[.int .i64 1, .int .i64 1, .string ⟨#[]⟩] 26) = W9 at hV hX hB ⊢
    generalize w8.heap.size = XB at hX ⊢
    have HF := Lib.hid (fin_of hV.out hX.out hB.drew)
    clear hV hX hB
    go_region_held3 (fun W' => W'.cell? ⟨VB, 0, none⟩ = some (.int .i64 1) ∧ W'.cell? ⟨VB, 1, none⟩ = some (.int .i64 12) ∧ W'.cell? ⟨VB, 2, none⟩ = some (.string ⟨#[]⟩) ∧ W'.cell? ⟨XB, 0, none⟩ = some (.int .i64 1) ∧ W'.cell? ⟨XB, 1, none⟩ = some (.int .i64 1) ∧ W'.cell? ⟨XB, 2, none⟩ = some (.string ⟨#[]⟩) ∧ FinS w VB XB W') (first | with_reducible exact HF.out | exact finHeld (by assumption) (by assumption)) (first | (go_at_call 21; ((with_reducible refine (refInt_any 12 _).mono ?_); rintro e w1 ⟨rfl, hbI⟩)) | (go_at_call 21; ((with_reducible refine (refInt_any 1 _).mono ?_); rintro e w1 ⟨rfl, hbI⟩)))
    all_goals
      have hf := (by assumption : _ ∧ _ ∧ _ ∧ _ ∧ _ ∧ _ ∧ FinS w VB XB _).2.2.2.2.2.2.2.2
      go_wp2_with fail
      go_ret
      exact ⟨rfl, hf⟩
  · have hH := (by assumption : _ ∧ _ ∧ _ ∧ _ ∧ _ ∧ _ ∧ _ ∧ _ ∧ AwS w OB (((w2.setCell ⟨w1.heap.size, 0, none⟩ (.int .i64 1)).setCell ⟨w1.heap.size, 1, none⟩ (.int .i64 12)).setCell ⟨w1.heap.size, 2, none⟩ (.string ⟨#[]⟩))).2.2.2.2.2.2.2.2
    have hV := ((((blk_new w1 #[.int .i64 0, .int .i64 0, .string ⟨#[]⟩] 26).keep hbD).set 0 (.int .i64 1)).set 1 (.int .i64 12)).set 2 (.string ⟨#[]⟩)
    replace hV : Hid (Blk (((w2.setCell ⟨w1.heap.size, 0, none⟩ (.int .i64 1)).setCell ⟨w1.heap.size, 1, none⟩ (.int .i64 12)).setCell ⟨w1.heap.size, 2, none⟩ (.string ⟨#[]⟩)) w1.heap.size #[.int .i64 1, .int .i64 12, .string ⟨#[]⟩] 26) := hV
    have HO := Lib.hid hH.1
    have hB := hH.2
    clear hH
    generalize (((w2.setCell ⟨w1.heap.size, 0, none⟩ (.int .i64 1)).setCell ⟨w1.heap.size, 1, none⟩ (.int .i64 12)).setCell ⟨w1.heap.size, 2, none⟩ (.string ⟨#[]⟩)) = W5 at hV HO hB ⊢
    generalize w1.heap.size = VB at hV ⊢
    try clear hcC hfC hcD hfD hzD hzC
    obtain ⟨p0, p1, p2, p3, p4, p5, p6, p7, p8⟩ := HO.out.c8
    go_wp2_with fail
    refine (do_ex2 _).mono ?_
    rintro e w6 ⟨rfl, hb6⟩
    replace hV := Lib.hid (hV.out.keep hb6)
    replace hB := bt hB hb6
    clear hb6 HO p0 p1 p2 p3 p4 p5 p6 p7 p8
    go_wp2_with fail
    replace hV := Lib.hid (hV.out.alloc (.cells #[.int .i64 2, .int .i64 0, .string ⟨#[55]⟩] 26))
    replace hB := ba hB (.cells #[.int .i64 2, .int .i64 0, .string ⟨#[55]⟩] 26)
    refine (read_ex2 _ (HL.out.keep hB)).mono ?_
    rintro e w7 ⟨rfl, hb7⟩
    replace hV := Lib.hid (hV.out.keep hb7)
    replace hB := bt hB hb7
    clear hb7
    go_wp2_with fail
    replace hV := Lib.hid (hV.out.alloc (.cells (opC 4 ⟨#[107]⟩ 0 0 ⟨#[]⟩ 1 1 ⟨#[]⟩) 28))
    replace hB := ba hB (.cells (opC 4 ⟨#[107]⟩ 0 0 ⟨#[]⟩ 1 1 ⟨#[]⟩) 28)
    refine (do_ex3 _).mono ?_
    rintro e w8 ⟨rfl, hb8⟩
    replace hV := Lib.hid (hV.out.keep hb8)
    replace hB := bt hB hb8
    clear hb8
    go_wp2_with fail
    have hX := Lib.hid (blk_new w8 #[.int .i64 1, .int .i64 1, .string ⟨#[]⟩] 26)
    replace hV := Lib.hid (hV.out.alloc (.cells #[.int .i64 1, .int .i64 1, .string ⟨#[]⟩] 26))
    replace hB := ba hB (.cells #[.int .i64 1, .int .i64 1, .string ⟨#[]⟩] 26)
    generalize w8.alloc (.cells #[.int .i64 1, .int .i64 1, .string ⟨#[]⟩] 26) = W9 at hV hX hB ⊢
    generalize w8.heap.size = XB at hX ⊢
    have HF := Lib.hid (fin_of hV.out hX.out hB.drew)
    clear hV hX hB
    go_region_held3 (fun W' => W'.cell? ⟨VB, 0, none⟩ = some (.int .i64 1) ∧ W'.cell? ⟨VB, 1, none⟩ = some (.int .i64 12) ∧ W'.cell? ⟨VB, 2, none⟩ = some (.string ⟨#[]⟩) ∧ W'.cell? ⟨XB, 0, none⟩ = some (.int .i64 1) ∧ W'.cell? ⟨XB, 1, none⟩ = some (.int .i64 1) ∧ W'.cell? ⟨XB, 2, none⟩ = some (.string ⟨#[]⟩) ∧ FinS w VB XB W') (first | with_reducible exact HF.out | exact finHeld (by assumption) (by assumption)) (first | (go_at_call 21; ((with_reducible refine (refInt_any 12 _).mono ?_); rintro e w1 ⟨rfl, hbI⟩)) | (go_at_call 21; ((with_reducible refine (refInt_any 1 _).mono ?_); rintro e w1 ⟨rfl, hbI⟩)))
    all_goals
      have hf := (by assumption : _ ∧ _ ∧ _ ∧ _ ∧ _ ∧ _ ∧ FinS w VB XB _).2.2.2.2.2.2.2.2
      go_wp2_with fail
      go_ret
      exact ⟨rfl, hf⟩
  · have hH := (by assumption : _ ∧ _ ∧ _ ∧ _ ∧ _ ∧ _ ∧ _ ∧ _ ∧ AwS w OB (((w2.setCell ⟨W.heap.size, 0, none⟩ (.int .i64 1)).setCell ⟨W.heap.size, 1, none⟩ (.int .i64 12)).setCell ⟨W.heap.size, 2, none⟩ (.string ⟨#[]⟩))).2.2.2.2.2.2.2.2
    have hV := ((((kept hbD (kept hbI (blk_new W #[.int .i64 0, .int .i64 0, .string ⟨#[]⟩] 26)))).set 0 (.int .i64 1)).set 1 (.int .i64 12)).set 2 (.string ⟨#[]⟩)
    replace hV : Hid (Blk (((w2.setCell ⟨W.heap.size, 0, none⟩ (.int .i64 1)).setCell ⟨W.heap.size, 1, none⟩ (.int .i64 12)).setCell ⟨W.heap.size, 2, none⟩ (.string ⟨#[]⟩)) W.heap.size #[.int .i64 1, .int .i64 12, .string ⟨#[]⟩] 26) := hV
    have HO := Lib.hid hH.1
    have hB := hH.2
    clear hH
    generalize (((w2.setCell ⟨W.heap.size, 0, none⟩ (.int .i64 1)).setCell ⟨W.heap.size, 1, none⟩ (.int .i64 12)).setCell ⟨W.heap.size, 2, none⟩ (.string ⟨#[]⟩)) = W5 at hV HO hB ⊢
    generalize W.heap.size = VB at hV ⊢
    try clear hcC hfC hcD hfD hzD hzC
    obtain ⟨p0, p1, p2, p3, p4, p5, p6, p7, p8⟩ := HO.out.c8
    go_wp2_with fail
    refine (do_ex2 _).mono ?_
    rintro e w6 ⟨rfl, hb6⟩
    replace hV := Lib.hid (hV.out.keep hb6)
    replace hB := bt hB hb6
    clear hb6 HO p0 p1 p2 p3 p4 p5 p6 p7 p8
    go_wp2_with fail
    replace hV := Lib.hid (hV.out.alloc (.cells #[.int .i64 2, .int .i64 0, .string ⟨#[55]⟩] 26))
    replace hB := ba hB (.cells #[.int .i64 2, .int .i64 0, .string ⟨#[55]⟩] 26)
    refine (read_ex2 _ (HL.out.keep hB)).mono ?_
    rintro e w7 ⟨rfl, hb7⟩
    replace hV := Lib.hid (hV.out.keep hb7)
    replace hB := bt hB hb7
    clear hb7
    go_wp2_with fail
    replace hV := Lib.hid (hV.out.alloc (.cells (opC 4 ⟨#[107]⟩ 0 0 ⟨#[]⟩ 1 1 ⟨#[]⟩) 28))
    replace hB := ba hB (.cells (opC 4 ⟨#[107]⟩ 0 0 ⟨#[]⟩ 1 1 ⟨#[]⟩) 28)
    refine (do_ex3 _).mono ?_
    rintro e w8 ⟨rfl, hb8⟩
    replace hV := Lib.hid (hV.out.keep hb8)
    replace hB := bt hB hb8
    clear hb8
    go_wp2_with fail
    have hX := Lib.hid (blk_new w8 #[.int .i64 1, .int .i64 1, .string ⟨#[]⟩] 26)
    replace hV := Lib.hid (hV.out.alloc (.cells #[.int .i64 1, .int .i64 1, .string ⟨#[]⟩] 26))
    replace hB := ba hB (.cells #[.int .i64 1, .int .i64 1, .string ⟨#[]⟩] 26)
    generalize w8.alloc (.cells #[.int .i64 1, .int .i64 1, .string ⟨#[]⟩] 26) = W9 at hV hX hB ⊢
    generalize w8.heap.size = XB at hX ⊢
    have HF := Lib.hid (fin_of hV.out hX.out hB.drew)
    clear hV hX hB
    go_region_held3 (fun W' => W'.cell? ⟨VB, 0, none⟩ = some (.int .i64 1) ∧ W'.cell? ⟨VB, 1, none⟩ = some (.int .i64 12) ∧ W'.cell? ⟨VB, 2, none⟩ = some (.string ⟨#[]⟩) ∧ W'.cell? ⟨XB, 0, none⟩ = some (.int .i64 1) ∧ W'.cell? ⟨XB, 1, none⟩ = some (.int .i64 1) ∧ W'.cell? ⟨XB, 2, none⟩ = some (.string ⟨#[]⟩) ∧ FinS w VB XB W') (first | with_reducible exact HF.out | exact finHeld (by assumption) (by assumption)) (first | (go_at_call 21; ((with_reducible refine (refInt_any 12 _).mono ?_); rintro e w1 ⟨rfl, hbI⟩)) | (go_at_call 21; ((with_reducible refine (refInt_any 1 _).mono ?_); rintro e w1 ⟨rfl, hbI⟩)))
    all_goals
      have hf := (by assumption : _ ∧ _ ∧ _ ∧ _ ∧ _ ∧ _ ∧ FinS w VB XB _).2.2.2.2.2.2.2.2
      go_wp2_with fail
      go_ret
      exact ⟨rfl, hf⟩
end Go.Proofs.YtmilcgikncecnaaDoor
