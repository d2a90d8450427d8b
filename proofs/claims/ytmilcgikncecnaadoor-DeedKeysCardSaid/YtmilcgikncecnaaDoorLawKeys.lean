/-
  WHAT IS PROVED: the walk of the law DeedKeys: it returns true for every text, where the library's variables hold what the program's text lays.
-/
import Derived.Test.YtmilcgikncecnaaDoorAwake2
namespace Go.Proofs.YtmilcgikncecnaaDoor
open Go.RowKit

set_option maxHeartbeats 2000000 in
theorem lawKeys_any (s : ByteArray) (w : World) (hs : s.size ≤ maxLen) (hL : LaidD w) :
    Calls Tryd.prog 3 #[.string s] w fun e w' => e = .returned (.bool true) ∧ Below w.heap.size w w' := by
  have HL := Lib.hid hL
  have HK := Lib.hid (fun W => key_any s W hs)
  have HK2 := Lib.hid (fun W => refKey_any s W hs)
  generalize keyB s.data.toList = b at HK HK2
  clear hL
  go_enter Tryd.func3, Tryd.ntmps3
  go_wp2_with fail
  refine (awake_any _ HL.out).mono ?_
  rintro e w1 ⟨rfl, hb1⟩
  go_wp2_with fail
  refine (HK.out _).mono ?_
  rintro e w2 ⟨rfl, hb2⟩
  go_wp2_with fail
  refine (HK2.out _).mono ?_
  rintro e w3 ⟨rfl, rfl⟩
  go_wp2_with fail
  go_ret
  exact ⟨by cases b <;> rfl, bt hb1 hb2⟩
end Go.Proofs.YtmilcgikncecnaaDoor
