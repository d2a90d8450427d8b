/-
  WHAT IS PROVED: strings.Clone answers the same text. Conditions: those typed in the theorem.
-/
import Derived.Test.YtkfhkfddhijkcaaBase
import Derived.Test.YtkfhkfddhijkcaaShelf
namespace Go.Proofs.Ytkfhkfddhijkcaa
open Go.RowKit

theorem sclone_any (s : ByteArray) (w : World) (hs : s.size ≤ 1000000) :
    Calls Try.prog 108 #[.string s] w fun e w' => e = .returned (.string s) ∧ Below w.heap.size w w' := by
  go_enter Try.func108, Try.ntmps108
  go_wp2_with fail
  refine (Try.stringslite_Clone s w (by omega)).mono ?_
  rintro e w2 ⟨rfl, hb2⟩
  go_wp2_with fail
  go_ret
  exact ⟨rfl, hb2⟩

end Go.Proofs.Ytkfhkfddhijkcaa
