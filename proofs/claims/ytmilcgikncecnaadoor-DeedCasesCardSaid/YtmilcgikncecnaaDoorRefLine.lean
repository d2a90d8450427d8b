/-
  WHAT IS PROVED: the document's line of any good operation is the plain function lineL's text.
-/
import Derived.Test.YtmilcgikncecnaaDoorLine
import Derived.Test.YtmilcgikncecnaaDoorRefCut
import Derived.Deep.RegionHeld3
namespace Go.Proofs.YtmilcgikncecnaaDoor
open Go.RowKit

theorem str_add {a b : ByteArray} (ha : a.size = 1) (hb : b.size ≤ 200) : Op.stringOp .add a b = pure (.string (a ++ b)) := by
  unfold Op.stringOp
  have e : IntKind.i64.max = 9223372036854775807 := rfl
  simp only
  rw [if_neg]
  rw [e]
  omega
theorem opHeld {w W w1 : World} {K ka na kb nb : Int} {ky sa sb : ByteArray} (h : W.cell? ⟨w.heap.size, 0, none⟩ = some (.int .i64 K) ∧ W.cell? ⟨w.heap.size, 1, none⟩ = some (.string ky) ∧ W.cell? ⟨w.heap.size, 2, none⟩ = some (.int .i64 ka) ∧ W.cell? ⟨w.heap.size, 3, none⟩ = some (.int .i64 na) ∧ W.cell? ⟨w.heap.size, 4, none⟩ = some (.string sa) ∧ W.cell? ⟨w.heap.size, 5, none⟩ = some (.int .i64 kb) ∧ W.cell? ⟨w.heap.size, 6, none⟩ = some (.int .i64 nb) ∧ W.cell? ⟨w.heap.size, 7, none⟩ = some (.string sb) ∧ Below w.heap.size w W ∧ w.heap.size < W.heap.size) (hb : Below W.heap.size W w1) : w1.cell? ⟨w.heap.size, 0, none⟩ = some (.int .i64 K) ∧ w1.cell? ⟨w.heap.size, 1, none⟩ = some (.string ky) ∧ w1.cell? ⟨w.heap.size, 2, none⟩ = some (.int .i64 ka) ∧ w1.cell? ⟨w.heap.size, 3, none⟩ = some (.int .i64 na) ∧ w1.cell? ⟨w.heap.size, 4, none⟩ = some (.string sa) ∧ w1.cell? ⟨w.heap.size, 5, none⟩ = some (.int .i64 kb) ∧ w1.cell? ⟨w.heap.size, 6, none⟩ = some (.int .i64 nb) ∧ w1.cell? ⟨w.heap.size, 7, none⟩ = some (.string sb) ∧ Below w.heap.size w w1 ∧ w.heap.size < w1.heap.size := by
  obtain ⟨h0, h1, h2, h3, h4, h5, h6, h7, hB, hz⟩ := h
  have hs := hb.size
  have hc := (bcell hb).1
  exact ⟨(hc _ _ hz).trans h0, (hc _ _ hz).trans h1, (hc _ _ hz).trans h2, (hc _ _ hz).trans h3, (hc _ _ hz).trans h4, (hc _ _ hz).trans h5, (hc _ _ hz).trans h6, (hc _ _ hz).trans h7, bt hB hb, by omega⟩

set_option maxRecDepth 100000 in
set_option maxHeartbeats 8000000 in
theorem refLine1 (ka na kb nb : Int) (ky sa sb A B : ByteArray) (w : World) (sk : ky.size ≤ 20) (sA : A.size ≤ 200) (sB : B.size ≤ 200)
    (Ha : Hid (∀ W : World, Calls Tryd.prog 33 #[.agg #[.int .i64 ka, .int .i64 na, .string sa]] W fun e W' => e = .returned (.string A) ∧ Below W.heap.size W W'))
    (Hb : Hid (∀ W : World, Calls Tryd.prog 33 #[.agg #[.int .i64 kb, .int .i64 nb, .string sb]] W fun e W' => e = .returned (.string B) ∧ Below W.heap.size W W')) :
    Calls Tryd.prog 19 #[opV 1 ky ka na sa kb nb sb] w fun e w' => e = .returned (.string ⟨(lineL 1 ky.data.toList A.data.toList B.data.toList).toArray⟩) ∧ Below w.heap.size w w' := by
  go_enter Tryd.func19, Tryd.ntmps19
  go_wp2_with fail
  have hB := b0 w (.cells (opC 1 ky ka na sa kb nb sb) 28)
  have HC := blk_new w (opC 1 ky ka na sa kb nb sb) 28
  generalize w.alloc (.cells (opC 1 ky ka na sa kb nb sb) 28) = W at HC hB ⊢
  have HS : Hid (W.drew.cell? ⟨w.heap.size, 0, none⟩ = some (.int .i64 1) ∧ W.drew.cell? ⟨w.heap.size, 1, none⟩ = some (.string ky) ∧ W.drew.cell? ⟨w.heap.size, 2, none⟩ = some (.int .i64 ka) ∧ W.drew.cell? ⟨w.heap.size, 3, none⟩ = some (.int .i64 na) ∧ W.drew.cell? ⟨w.heap.size, 4, none⟩ = some (.string sa) ∧ W.drew.cell? ⟨w.heap.size, 5, none⟩ = some (.int .i64 kb) ∧ W.drew.cell? ⟨w.heap.size, 6, none⟩ = some (.int .i64 nb) ∧ W.drew.cell? ⟨w.heap.size, 7, none⟩ = some (.string sb) ∧ Below w.heap.size w W.drew ∧ w.heap.size < W.drew.heap.size) := ⟨HC.cell 0, HC.cell 1, HC.cell 2, HC.cell 3, HC.cell 4, HC.cell 5, HC.cell 6, HC.cell 7, hB.drew, HC.lt⟩
  clear HC hB
  have z1 : (⟨#[32]⟩ : ByteArray).size = 1 := rfl
  have tA : Op.stringOp .add ⟨#[32]⟩ A = pure (.string (⟨#[32]⟩ ++ A)) := str_add z1 sA
  have tB : Op.stringOp .add ⟨#[32]⟩ B = pure (.string (⟨#[32]⟩ ++ B)) := str_add z1 sB
  go_region_held3 (fun W' => W'.cell? ⟨w.heap.size, 0, none⟩ = some (.int .i64 1) ∧ W'.cell? ⟨w.heap.size, 1, none⟩ = some (.string ky) ∧ W'.cell? ⟨w.heap.size, 2, none⟩ = some (.int .i64 ka) ∧ W'.cell? ⟨w.heap.size, 3, none⟩ = some (.int .i64 na) ∧ W'.cell? ⟨w.heap.size, 4, none⟩ = some (.string sa) ∧ W'.cell? ⟨w.heap.size, 5, none⟩ = some (.int .i64 kb) ∧ W'.cell? ⟨w.heap.size, 6, none⟩ = some (.int .i64 nb) ∧ W'.cell? ⟨w.heap.size, 7, none⟩ = some (.string sb) ∧ Below w.heap.size w W' ∧ w.heap.size < W'.heap.size) (first | with_reducible exact HS.out | exact opHeld (by assumption) (by assumption)) (first | (go_at_call 33; ((with_reducible refine (Ha.out _).mono ?_); rintro e w1 ⟨rfl, hb1⟩)) | (go_at_call 33; ((with_reducible refine (Hb.out _).mono ?_); rintro e w1 ⟨rfl, hb1⟩)))
  all_goals
    have hf := (by assumption : _ ∧ _ ∧ _ ∧ _ ∧ _ ∧ _ ∧ _ ∧ _ ∧ Below w.heap.size w _ ∧ _).2.2.2.2.2.2.2.2.1
    go_wp2_with fail
    go_ret
    refine ⟨?_, hf⟩
    refine congrArg (fun x => Ending.returned (Value.string x)) (data_eq' ?_)
    rw [lineL_one 1 _ _ _ (Or.inl rfl)]
    simp [wordL]

set_option maxRecDepth 100000 in
set_option maxHeartbeats 8000000 in
theorem refLine2 (ka na kb nb : Int) (ky sa sb A B : ByteArray) (w : World) (sk : ky.size ≤ 20) (sA : A.size ≤ 200) (sB : B.size ≤ 200)
    (Ha : Hid (∀ W : World, Calls Tryd.prog 33 #[.agg #[.int .i64 ka, .int .i64 na, .string sa]] W fun e W' => e = .returned (.string A) ∧ Below W.heap.size W W'))
    (Hb : Hid (∀ W : World, Calls Tryd.prog 33 #[.agg #[.int .i64 kb, .int .i64 nb, .string sb]] W fun e W' => e = .returned (.string B) ∧ Below W.heap.size W W')) :
    Calls Tryd.prog 19 #[opV 2 ky ka na sa kb nb sb] w fun e w' => e = .returned (.string ⟨(lineL 2 ky.data.toList A.data.toList B.data.toList).toArray⟩) ∧ Below w.heap.size w w' := by
  go_enter Tryd.func19, Tryd.ntmps19
  go_wp2_with fail
  have hB := b0 w (.cells (opC 2 ky ka na sa kb nb sb) 28)
  have HC := blk_new w (opC 2 ky ka na sa kb nb sb) 28
  generalize w.alloc (.cells (opC 2 ky ka na sa kb nb sb) 28) = W at HC hB ⊢
  have HS : Hid (W.drew.cell? ⟨w.heap.size, 0, none⟩ = some (.int .i64 2) ∧ W.drew.cell? ⟨w.heap.size, 1, none⟩ = some (.string ky) ∧ W.drew.cell? ⟨w.heap.size, 2, none⟩ = some (.int .i64 ka) ∧ W.drew.cell? ⟨w.heap.size, 3, none⟩ = some (.int .i64 na) ∧ W.drew.cell? ⟨w.heap.size, 4, none⟩ = some (.string sa) ∧ W.drew.cell? ⟨w.heap.size, 5, none⟩ = some (.int .i64 kb) ∧ W.drew.cell? ⟨w.heap.size, 6, none⟩ = some (.int .i64 nb) ∧ W.drew.cell? ⟨w.heap.size, 7, none⟩ = some (.string sb) ∧ Below w.heap.size w W.drew ∧ w.heap.size < W.drew.heap.size) := ⟨HC.cell 0, HC.cell 1, HC.cell 2, HC.cell 3, HC.cell 4, HC.cell 5, HC.cell 6, HC.cell 7, hB.drew, HC.lt⟩
  clear HC hB
  have z1 : (⟨#[32]⟩ : ByteArray).size = 1 := rfl
  have tA : Op.stringOp .add ⟨#[32]⟩ A = pure (.string (⟨#[32]⟩ ++ A)) := str_add z1 sA
  have tB : Op.stringOp .add ⟨#[32]⟩ B = pure (.string (⟨#[32]⟩ ++ B)) := str_add z1 sB
  go_region_held3 (fun W' => W'.cell? ⟨w.heap.size, 0, none⟩ = some (.int .i64 2) ∧ W'.cell? ⟨w.heap.size, 1, none⟩ = some (.string ky) ∧ W'.cell? ⟨w.heap.size, 2, none⟩ = some (.int .i64 ka) ∧ W'.cell? ⟨w.heap.size, 3, none⟩ = some (.int .i64 na) ∧ W'.cell? ⟨w.heap.size, 4, none⟩ = some (.string sa) ∧ W'.cell? ⟨w.heap.size, 5, none⟩ = some (.int .i64 kb) ∧ W'.cell? ⟨w.heap.size, 6, none⟩ = some (.int .i64 nb) ∧ W'.cell? ⟨w.heap.size, 7, none⟩ = some (.string sb) ∧ Below w.heap.size w W' ∧ w.heap.size < W'.heap.size) (first | with_reducible exact HS.out | exact opHeld (by assumption) (by assumption)) (first | (go_at_call 33; ((with_reducible refine (Ha.out _).mono ?_); rintro e w1 ⟨rfl, hb1⟩)) | (go_at_call 33; ((with_reducible refine (Hb.out _).mono ?_); rintro e w1 ⟨rfl, hb1⟩)))
  all_goals
    have hf := (by assumption : _ ∧ _ ∧ _ ∧ _ ∧ _ ∧ _ ∧ _ ∧ _ ∧ Below w.heap.size w _ ∧ _).2.2.2.2.2.2.2.2.1
    go_wp2_with fail
    go_ret
    refine ⟨?_, hf⟩
    refine congrArg (fun x => Ending.returned (Value.string x)) (data_eq' ?_)
    rw [lineL_del]
    simp [wordL]

set_option maxRecDepth 100000 in
set_option maxHeartbeats 8000000 in
theorem refLine3 (ka na kb nb : Int) (ky sa sb A B : ByteArray) (w : World) (sk : ky.size ≤ 20) (sA : A.size ≤ 200) (sB : B.size ≤ 200)
    (Ha : Hid (∀ W : World, Calls Tryd.prog 33 #[.agg #[.int .i64 ka, .int .i64 na, .string sa]] W fun e W' => e = .returned (.string A) ∧ Below W.heap.size W W'))
    (Hb : Hid (∀ W : World, Calls Tryd.prog 33 #[.agg #[.int .i64 kb, .int .i64 nb, .string sb]] W fun e W' => e = .returned (.string B) ∧ Below W.heap.size W W')) :
    Calls Tryd.prog 19 #[opV 3 ky ka na sa kb nb sb] w fun e w' => e = .returned (.string ⟨(lineL 3 ky.data.toList A.data.toList B.data.toList).toArray⟩) ∧ Below w.heap.size w w' := by
  go_enter Tryd.func19, Tryd.ntmps19
  go_wp2_with fail
  have hB := b0 w (.cells (opC 3 ky ka na sa kb nb sb) 28)
  have HC := blk_new w (opC 3 ky ka na sa kb nb sb) 28
  generalize w.alloc (.cells (opC 3 ky ka na sa kb nb sb) 28) = W at HC hB ⊢
  have HS : Hid (W.drew.cell? ⟨w.heap.size, 0, none⟩ = some (.int .i64 3) ∧ W.drew.cell? ⟨w.heap.size, 1, none⟩ = some (.string ky) ∧ W.drew.cell? ⟨w.heap.size, 2, none⟩ = some (.int .i64 ka) ∧ W.drew.cell? ⟨w.heap.size, 3, none⟩ = some (.int .i64 na) ∧ W.drew.cell? ⟨w.heap.size, 4, none⟩ = some (.string sa) ∧ W.drew.cell? ⟨w.heap.size, 5, none⟩ = some (.int .i64 kb) ∧ W.drew.cell? ⟨w.heap.size, 6, none⟩ = some (.int .i64 nb) ∧ W.drew.cell? ⟨w.heap.size, 7, none⟩ = some (.string sb) ∧ Below w.heap.size w W.drew ∧ w.heap.size < W.drew.heap.size) := ⟨HC.cell 0, HC.cell 1, HC.cell 2, HC.cell 3, HC.cell 4, HC.cell 5, HC.cell 6, HC.cell 7, hB.drew, HC.lt⟩
  clear HC hB
  have z1 : (⟨#[32]⟩ : ByteArray).size = 1 := rfl
  have tA : Op.stringOp .add ⟨#[32]⟩ A = pure (.string (⟨#[32]⟩ ++ A)) := str_add z1 sA
  have tB : Op.stringOp .add ⟨#[32]⟩ B = pure (.string (⟨#[32]⟩ ++ B)) := str_add z1 sB
  go_region_held3 (fun W' => W'.cell? ⟨w.heap.size, 0, none⟩ = some (.int .i64 3) ∧ W'.cell? ⟨w.heap.size, 1, none⟩ = some (.string ky) ∧ W'.cell? ⟨w.heap.size, 2, none⟩ = some (.int .i64 ka) ∧ W'.cell? ⟨w.heap.size, 3, none⟩ = some (.int .i64 na) ∧ W'.cell? ⟨w.heap.size, 4, none⟩ = some (.string sa) ∧ W'.cell? ⟨w.heap.size, 5, none⟩ = some (.int .i64 kb) ∧ W'.cell? ⟨w.heap.size, 6, none⟩ = some (.int .i64 nb) ∧ W'.cell? ⟨w.heap.size, 7, none⟩ = some (.string sb) ∧ Below w.heap.size w W' ∧ w.heap.size < W'.heap.size) (first | with_reducible exact HS.out | exact opHeld (by assumption) (by assumption)) (first | (go_at_call 33; ((with_reducible refine (Ha.out _).mono ?_); rintro e w1 ⟨rfl, hb1⟩)) | (go_at_call 33; ((with_reducible refine (Hb.out _).mono ?_); rintro e w1 ⟨rfl, hb1⟩)))
  all_goals
    have hf := (by assumption : _ ∧ _ ∧ _ ∧ _ ∧ _ ∧ _ ∧ _ ∧ _ ∧ Below w.heap.size w _ ∧ _).2.2.2.2.2.2.2.2.1
    go_wp2_with fail
    go_ret
    refine ⟨?_, hf⟩
    refine congrArg (fun x => Ending.returned (Value.string x)) (data_eq' ?_)
    rw [lineL_one 3 _ _ _ (Or.inr rfl)]
    simp [wordL]

set_option maxRecDepth 100000 in
set_option maxHeartbeats 8000000 in
theorem refLine4 (ka na kb nb : Int) (ky sa sb A B : ByteArray) (w : World) (sk : ky.size ≤ 20) (sA : A.size ≤ 200) (sB : B.size ≤ 200)
    (Ha : Hid (∀ W : World, Calls Tryd.prog 33 #[.agg #[.int .i64 ka, .int .i64 na, .string sa]] W fun e W' => e = .returned (.string A) ∧ Below W.heap.size W W'))
    (Hb : Hid (∀ W : World, Calls Tryd.prog 33 #[.agg #[.int .i64 kb, .int .i64 nb, .string sb]] W fun e W' => e = .returned (.string B) ∧ Below W.heap.size W W')) :
    Calls Tryd.prog 19 #[opV 4 ky ka na sa kb nb sb] w fun e w' => e = .returned (.string ⟨(lineL 4 ky.data.toList A.data.toList B.data.toList).toArray⟩) ∧ Below w.heap.size w w' := by
  go_enter Tryd.func19, Tryd.ntmps19
  go_wp2_with fail
  have hB := b0 w (.cells (opC 4 ky ka na sa kb nb sb) 28)
  have HC := blk_new w (opC 4 ky ka na sa kb nb sb) 28
  generalize w.alloc (.cells (opC 4 ky ka na sa kb nb sb) 28) = W at HC hB ⊢
  have HS : Hid (W.drew.cell? ⟨w.heap.size, 0, none⟩ = some (.int .i64 4) ∧ W.drew.cell? ⟨w.heap.size, 1, none⟩ = some (.string ky) ∧ W.drew.cell? ⟨w.heap.size, 2, none⟩ = some (.int .i64 ka) ∧ W.drew.cell? ⟨w.heap.size, 3, none⟩ = some (.int .i64 na) ∧ W.drew.cell? ⟨w.heap.size, 4, none⟩ = some (.string sa) ∧ W.drew.cell? ⟨w.heap.size, 5, none⟩ = some (.int .i64 kb) ∧ W.drew.cell? ⟨w.heap.size, 6, none⟩ = some (.int .i64 nb) ∧ W.drew.cell? ⟨w.heap.size, 7, none⟩ = some (.string sb) ∧ Below w.heap.size w W.drew ∧ w.heap.size < W.drew.heap.size) := ⟨HC.cell 0, HC.cell 1, HC.cell 2, HC.cell 3, HC.cell 4, HC.cell 5, HC.cell 6, HC.cell 7, hB.drew, HC.lt⟩
  clear HC hB
  have z1 : (⟨#[32]⟩ : ByteArray).size = 1 := rfl
  have tA : Op.stringOp .add ⟨#[32]⟩ A = pure (.string (⟨#[32]⟩ ++ A)) := str_add z1 sA
  have tB : Op.stringOp .add ⟨#[32]⟩ B = pure (.string (⟨#[32]⟩ ++ B)) := str_add z1 sB
  go_region_held3 (fun W' => W'.cell? ⟨w.heap.size, 0, none⟩ = some (.int .i64 4) ∧ W'.cell? ⟨w.heap.size, 1, none⟩ = some (.string ky) ∧ W'.cell? ⟨w.heap.size, 2, none⟩ = some (.int .i64 ka) ∧ W'.cell? ⟨w.heap.size, 3, none⟩ = some (.int .i64 na) ∧ W'.cell? ⟨w.heap.size, 4, none⟩ = some (.string sa) ∧ W'.cell? ⟨w.heap.size, 5, none⟩ = some (.int .i64 kb) ∧ W'.cell? ⟨w.heap.size, 6, none⟩ = some (.int .i64 nb) ∧ W'.cell? ⟨w.heap.size, 7, none⟩ = some (.string sb) ∧ Below w.heap.size w W' ∧ w.heap.size < W'.heap.size) (first | with_reducible exact HS.out | exact opHeld (by assumption) (by assumption)) (first | (go_at_call 33; ((with_reducible refine (Ha.out _).mono ?_); rintro e w1 ⟨rfl, hb1⟩)) | (go_at_call 33; ((with_reducible refine (Hb.out _).mono ?_); rintro e w1 ⟨rfl, hb1⟩)))
  all_goals
    have hf := (by assumption : _ ∧ _ ∧ _ ∧ _ ∧ _ ∧ _ ∧ _ ∧ _ ∧ Below w.heap.size w _ ∧ _).2.2.2.2.2.2.2.2.1
    go_wp2_with fail
    go_ret
    refine ⟨?_, hf⟩
    refine congrArg (fun x => Ending.returned (Value.string x)) (data_eq' ?_)
    rw [lineL_cas]
    simp [wordL]

theorem refLine_any (K ka na kb nb : Int) (ky sa sb : ByteArray) (w : World) (hk : ky.size ≤ 20) (ga : GoodW ka na sa.data.toList) (gb : GoodW kb nb sb.data.toList) (h0 : -9223372036854775808 ≤ na ∧ na ≤ 9223372036854775807) (h1 : -9223372036854775808 ≤ nb ∧ nb ≤ 9223372036854775807) (hK : K = 1 ∨ K = 2 ∨ K = 3 ∨ K = 4) :
    Calls Tryd.prog 19 #[opV K ky ka na sa kb nb sb] w fun e w' => e = .returned (.string ⟨(lineL K ky.data.toList (textV ka na sa.data.toList) (textV kb nb sb.data.toList)).toArray⟩) ∧ Below w.heap.size w w' := by
  have Ha := fun (W : World) => refText_any ka na sa W ga h0.1 h0.2
  have Hb := fun (W : World) => refText_any kb nb sb W gb h1.1 h1.2
  have e1 : (⟨(textV ka na sa.data.toList).toArray⟩ : ByteArray).data.toList = textV ka na sa.data.toList := by simp
  have e2 : (⟨(textV kb nb sb.data.toList).toArray⟩ : ByteArray).data.toList = textV kb nb sb.data.toList := by simp
  have hA : (⟨(textV ka na sa.data.toList).toArray⟩ : ByteArray).size ≤ 200 := by rw [size_of]; exact textV_len ga h0.1 h0.2
  have hB : (⟨(textV kb nb sb.data.toList).toArray⟩ : ByteArray).size ≤ 200 := by rw [size_of]; exact textV_len gb h1.1 h1.2
  rcases hK with rfl | rfl | rfl | rfl
  · have := refLine1 ka na kb nb ky sa sb _ _ w hk hA hB Ha Hb
    rwa [e1, e2] at this
  · have := refLine2 ka na kb nb ky sa sb _ _ w hk hA hB Ha Hb
    rwa [e1, e2] at this
  · have := refLine3 ka na kb nb ky sa sb _ _ w hk hA hB Ha Hb
    rwa [e1, e2] at this
  · have := refLine4 ka na kb nb ky sa sb _ _ w hk hA hB Ha Hb
    rwa [e1, e2] at this
end Go.Proofs.YtmilcgikncecnaaDoor
