/-
  WHAT IS PROVED: slate's Arm; what a slate is whose own cells alone have turned. Conditions: those typed in each theorem.
-/
import Derived.Test.YtgbopikhdpmmcaaDoorSlRead
namespace Go.Proofs.YtgbopikhdpmmcaaDoor
open Go.RowKit

theorem sl_head {B s d1 d2 n c : Nat} {tg : Nat → Nat × Int} {f1 f2 : Int → Option Value} {A : Option Addr} {M : Sl} {W W' : World} {cs : Array Value} {ar de : Bool} {bu : Int} (hsB : B ≤ s) (hX : Blk W s cs 81) (hD1 : DkR B tg 0 W d1 M.kept f1) (hD2 : DkR B tg 1 W d2 M.seen f2) (hO : OwnX 87 66 B W A n c (M.pend.map Pw.cells))
    (hP : ∀ y, y ∈ M.pend → y.l.length = 64) (h0 : 0 ≤ bu) (h1 : bu ≤ 1099511627776) (hB : B ≤ W.heap.size) (ho : Only1 s W W') (hX' : Blk W' s (slI d1 d2 A n c ar bu de) 81) : SlR B W' s { M with armed := ar, budget := bu, dead := de } ∧ StK B W W' := by
  refine ⟨⟨tg, d1, d2, f1, f2, A, n, c, hX', hsB, hD1.only hX ho, hD2.only hX ho, hO.only hX ho (by decide), hP, h0, h1, by rw [ho.size]; exact hB⟩, ho.below hsB, fun x ds t fr hx ht _ => ho.block x ?_⟩
  rintro rfl
  unfold Blk at hX
  rw [hX] at hx
  injection hx with hx
  injection hx with _ hx _
  exact ht hx.symm
theorem armB_of (k : Int) : (bif decide (k < 0) then true else decide (k > 1099511627776)) = !armB k := by
  unfold armB
  by_cases h1 : k < 0 <;> by_cases h2 : k > 1099511627776 <;> simp [h1, h2] <;> omega
end Go.Proofs.YtgbopikhdpmmcaaDoor
