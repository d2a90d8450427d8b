/-
  WHAT IS PROVED: the statement PackTakes' law answers true for all bytes, if package pack's calls answer as PackC2 says. Conditions: those typed in each theorem.
-/
import Derived.Test.YtahmjiomkaibgaaDoorLawPackTakes0
import Derived.Test.YtahmjiomkaibgaaDoorLawPackTakes1
namespace Go.Proofs.YtahmjiomkaibgaaDoor
open Go.RowKit
set_option maxRecDepth 100000 in
set_option maxHeartbeats 4000000 in
theorem lawPackTakes_long {S : Addr} {Rdr : World → Nat → Rest → Prop} (hC : PackC2 S Rdr) (A : Option Addr) (n c most : Nat) (w : World) (hL : LaidP S w) (hm : 5000 < n) :
    Calls Tryd.prog 5 #[.slice A n c, .int .u64 most] w fun e w' => e = .returned (.bool true) ∧ Below w.heap.size w w' := by
  have g5 : (5000 : Int) < (n : Int) := by omega
  go_enter Tryd.func5, Tryd.ntmps5
  go_wp2_with fail
  refine (packAwake hC.toPackC w hL).mono ?_
  rintro e w1 ⟨rfl, B1⟩
  go_wp2_with fail
  refine (packAwake hC.toPackC w1 (hL.keep B1)).mono ?_
  rintro e w2 ⟨rfl, hb2⟩
  go_wp2_with fail
  go_ret
  exact ⟨rfl, bt B1 hb2⟩
theorem lawPackTakes_any {S : Addr} {Rdr : World → Nat → Rest → Prop} (hC : PackC2 S Rdr) (A : Option Addr) (n c most : Nat) (b : List UInt8) (w : World) (hL : LaidP S w) (hn : b.length = n) (hr : RdB w.heap.size w A b) (hc : n ≤ c) (hmost : most < 18446744073709551616) :
    Calls Tryd.prog 5 #[.slice A n c, .int .u64 most] w fun e w' => e = .returned (.bool true) ∧ Below w.heap.size w w' := by
  by_cases hm : n ≤ 5000
  · by_cases hk : (takeIntB b).2 = 0
    · exact lawPackTakes_no hC A n c most b w hL hn hr hc hm hmost hk
    · exact lawPackTakes_yes hC A n c most b w hL hn hr hc hm hmost hk
  · exact lawPackTakes_long hC A n c most w hL (by omega)
end Go.Proofs.YtahmjiomkaibgaaDoor
