/-
  WHAT IS PROVED: the walk of the law DeedGood: it returns true for every operation, where the library's variables hold what the program's text lays.
-/
import Derived.Test.YtmilcgikncecnaaDoorAwake2
import Derived.Test.YtmilcgikncecnaaDoorRefLine
namespace Go.Proofs.YtmilcgikncecnaaDoor
open Go.RowKit

theorem box8 (w : World) (K ka na kb nb : Int) (ky sa sb : ByteArray) : (w.alloc (.cells (opC K ky ka na sa kb nb sb) 28)).drew.cell? ⟨w.heap.size, 0, none⟩ = some (.int .i64 K) ∧ (w.alloc (.cells (opC K ky ka na sa kb nb sb) 28)).drew.cell? ⟨w.heap.size, 1, none⟩ = some (.string ky) ∧ (w.alloc (.cells (opC K ky ka na sa kb nb sb) 28)).drew.cell? ⟨w.heap.size, 2, none⟩ = some (.int .i64 ka) ∧ (w.alloc (.cells (opC K ky ka na sa kb nb sb) 28)).drew.cell? ⟨w.heap.size, 3, none⟩ = some (.int .i64 na) ∧ (w.alloc (.cells (opC K ky ka na sa kb nb sb) 28)).drew.cell? ⟨w.heap.size, 4, none⟩ = some (.string sa) ∧ (w.alloc (.cells (opC K ky ka na sa kb nb sb) 28)).drew.cell? ⟨w.heap.size, 5, none⟩ = some (.int .i64 kb) ∧ (w.alloc (.cells (opC K ky ka na sa kb nb sb) 28)).drew.cell? ⟨w.heap.size, 6, none⟩ = some (.int .i64 nb) ∧ (w.alloc (.cells (opC K ky ka na sa kb nb sb) 28)).drew.cell? ⟨w.heap.size, 7, none⟩ = some (.string sb) ∧ Below w.heap.size w (w.alloc (.cells (opC K ky ka na sa kb nb sb) 28)).drew ∧ w.heap.size < (w.alloc (.cells (opC K ky ka na sa kb nb sb) 28)).drew.heap.size := by
  have h := blk_new w (opC K ky ka na sa kb nb sb) 28
  exact ⟨h.cell 0, h.cell 1, h.cell 2, h.cell 3, h.cell 4, h.cell 5, h.cell 6, h.cell 7, (b0 w _).drew, h.lt⟩

set_option maxRecDepth 100000 in
set_option maxHeartbeats 4000000 in
theorem lawOpGood_any (K : Int) (ky : ByteArray) (ka na : Int) (sa : ByteArray) (kb nb : Int) (sb : ByteArray) (w : World) (_ : -9223372036854775808 ≤ K ∧ K ≤ 9223372036854775807) (hk : ky.size ≤ maxLen) (_ : -9223372036854775808 ≤ ka ∧ ka ≤ 9223372036854775807) (_ : -9223372036854775808 ≤ na ∧ na ≤ 9223372036854775807) (ha : sa.size ≤ maxLen)
    (_ : -9223372036854775808 ≤ kb ∧ kb ≤ 9223372036854775807) (_ : -9223372036854775808 ≤ nb ∧ nb ≤ 9223372036854775807) (hb : sb.size ≤ maxLen) (hL : LaidD w) :
    Calls Tryd.prog 4 #[opV K ky ka na sa kb nb sb] w fun e w' => e = .returned (.bool true) ∧ Below w.heap.size w w' := by
  have HG := Lib.hid (fun W => deedGood_any K ka na kb nb ky sa sb W hk ha hb)
  have HR := Lib.hid (fun W => refOpGood_any K ka na kb nb ky sa sb W hk ha hb)
  have HL : Hid (LaidD (w.alloc (.cells (opC K ky ka na sa kb nb sb) 28)).drew) := hL.keep ((b0 w _).drew)
  generalize opB K ky ka na sa kb nb sb = b at HG HR
  clear hL
  go_enter Tryd.func4, Tryd.ntmps4
  go_wp2_with fail
  have HS := Lib.hid (box8 w K ka na kb nb ky sa sb)
  go_region_held3 (fun W' => W'.cell? ⟨w.heap.size, 0, none⟩ = some (.int .i64 K) ∧ W'.cell? ⟨w.heap.size, 1, none⟩ = some (.string ky) ∧ W'.cell? ⟨w.heap.size, 2, none⟩ = some (.int .i64 ka) ∧ W'.cell? ⟨w.heap.size, 3, none⟩ = some (.int .i64 na) ∧ W'.cell? ⟨w.heap.size, 4, none⟩ = some (.string sa) ∧ W'.cell? ⟨w.heap.size, 5, none⟩ = some (.int .i64 kb) ∧ W'.cell? ⟨w.heap.size, 6, none⟩ = some (.int .i64 nb) ∧ W'.cell? ⟨w.heap.size, 7, none⟩ = some (.string sb) ∧ Below w.heap.size w W' ∧ w.heap.size < W'.heap.size)
    (first | with_reducible exact HS.out | exact opHeld (by assumption) (by assumption))
    (first | (go_at_call 9; ((with_reducible refine (awake_any _ HL.out).mono ?_); rintro e w1 ⟨rfl, hb1⟩)) | (go_at_call 12; ((with_reducible refine (HG.out _).mono ?_); rintro e w1 ⟨rfl, hb1⟩)) | (go_at_call 13; ((with_reducible refine (HR.out _).mono ?_); rintro e w1 ⟨rfl, hb1⟩)))
  all_goals
    have hf := (by assumption : _ ∧ _ ∧ _ ∧ _ ∧ _ ∧ _ ∧ _ ∧ _ ∧ Below w.heap.size w _ ∧ _).2.2.2.2.2.2.2.2.1
    go_wp2_with fail
    go_ret
    exact ⟨by cases b <;> rfl, hf⟩
end Go.Proofs.YtmilcgikncecnaaDoor
