/-
  WHAT IS PROVED: package frame's calls answer as FrameC says. Conditions: those typed in FrameC.
-/
import Derived.Test.YtggoinjjdogmaaaDoorFSeal
import Derived.Test.YtggoinjjdogmaaaDoorFScan
namespace Go.Proofs.YtggoinjjdogmaaaDoor
open Go.RowKit

theorem frameC : FrameC where
  sumC := fun A n c b w hL hn hm hr => (sum_any A n c b w hL hn hr (by omega)).mono fun _ _ ⟨he, hw⟩ => ⟨he, by subst hw; exact Below.refl _ _⟩
  sealC := fun k A n c b w hL hn hm hr => seal_any k A n c b w hL hn hm hr
  fullC := fun k A n c _ w hL _ hm hm2 _ => full_any k A n c w hL hm hm2
  openC := fun A n c b w hL hn hc hm hr => open_any A n c b w hL hn hc hm hr
  scanC := fun A n c b w hL hn hc hm hr => scan_any A n c b w hL hn hc hm hr
end Go.Proofs.YtggoinjjdogmaaaDoor
