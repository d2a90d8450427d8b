/-
  WHAT IS PROVED: package pack's calls answer as PackC2 says. Conditions: those typed in each theorem.
-/
import Derived.Test.YtahmjiomkaibgaaDoorMPutX
import Derived.Test.YtahmjiomkaibgaaDoorMRdrWrs
import Derived.Test.YtahmjiomkaibgaaDoorMRdr
import Derived.Test.YtahmjiomkaibgaaDoorMTakeWr
namespace Go.Proofs.YtahmjiomkaibgaaDoor
open Go.RowKit

theorem packC (S : Addr) : PackC S (RdrP S) where
  keep := fun _ _ _ _ _ h hg hr => h.keep hg hr
  number := fun A n c l x w _ hl hn hr hc hx => packNumber_any A n c l x w hl hn hr hc hx
  int := fun A n c l x w _ hl hn hr hc h0 h1 => packInt_any A n c l x w hl hn hr hc h0 h1
  text := fun A n c l s w _ hl hn hr hc hs => packText_any A n c l s w hl hn hr hc hs
  flag := fun A n c l f w _ hl hn hr hc => packFlag_any A n c l f w hl hn hr hc
  open_ := fun A n c l w _ hl hn hr => rOpen_any S A n c l w hl hn hr
  rNumber := fun g st most w hL hR hm => rNumber_any S g st most w hL hR hm
  rInt := fun g st w hL hR => rInt_any S g st w hL hR
  rText := fun g st most w hL hR hm => rText_any S g st most w hL hR hm
  rFlag := fun g st w hL hR => rFlag_any S g st w hL hR
  rEnd := fun g st w hL hR => rEnd_any S g st w hL hR
  rValue0 := fun g w hL hR => (rValue_any S g none w hL hR).mono fun _ _ ⟨⟨s, he, hs⟩, h2, h3⟩ => ⟨by
    have e : s = ⟨#[]⟩ := ba_of hs
    subst e
    exact he, h2, h3⟩
  rWrite0 := fun g w hL hR => (rWrite_any S g none w hL hR).mono fun _ _ ⟨he, h2, h3⟩ => ⟨he, h2, h3⟩
  rWrites0 := fun g most w hL hR hm => (rWrites_all S g none most w hL hR hm).mono fun _ _ ⟨⟨A, n, c, he, _, _, _, h0⟩, h2, h3⟩ => ⟨by
    obtain ⟨rfl, rfl, rfl⟩ := h0 rfl
    exact he, h2, h3⟩
theorem packC2 (S : Addr) : PackC2 S (RdrP S) where
  toPackC := packC S
  lt := fun _ _ _ h => h.lt
  value := fun A n c l k x s w _ hl hn hr hc hg h0 h1 => packValue_any A n c l k x s w hl hn hr hc hg h0 h1
  write := fun A n c l x w _ hl hn hr hc hg hf => packWrite_any A n c l x w hl hn hr hc hg hf
  writes := fun A A2 n c m d l xs w _ hl hn hr hc hm hm1 hr2 hf => packWrites_any A A2 n c m d l xs w hl hn hr hc hm hm1 hr2 hf
  rValue := fun g st w hL hR => rValue_any S g st w hL hR
  rWrite := fun g st w hL hR => rWrite_any S g st w hL hR
  rWrites := fun g st most w hL hR hm => rWrites_any S g st most w hL hR hm
end Go.Proofs.YtahmjiomkaibgaaDoor
