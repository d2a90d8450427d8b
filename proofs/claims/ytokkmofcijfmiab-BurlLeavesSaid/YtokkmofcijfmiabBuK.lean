/-
  WHAT IS PROVED: the law BurlOf. Conditions: those typed in each theorem.
-/
import Derived.Test.YtokkmofcijfmiabBuI
import Derived.Test.YtokkmofcijfmiabBuJ
import Derived.Test.YtokkmofcijfmiabRRefGood
import Derived.Test.YtokkmofcijfmiabGQ18
namespace Go.Proofs.Ytokkmofcijfmiab
open Go.RowKit

theorem en_spinney_spinneyref07_SameCells : ∀ args w, (callFunc 15 args).run Try.prog w = .ok (.enter 15 args) w := enters_of Try.func15 (by kernel_rfl) rfl

end Go.Proofs.Ytokkmofcijfmiab
