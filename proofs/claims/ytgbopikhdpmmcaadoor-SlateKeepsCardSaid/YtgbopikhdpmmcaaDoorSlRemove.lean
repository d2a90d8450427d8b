/-
  WHAT IS PROVED: a step, of a slate as a whole; Remove. Conditions: those typed in each theorem.
-/
import Derived.Test.YtgbopikhdpmmcaaDoorSlForget
namespace Go.Proofs.YtgbopikhdpmmcaaDoor
open Go.RowKit

def Sl.stepped (M : Sl) : Sl := { M with budget := stB M.armed M.budget, dead := stD M.armed M.budget M.dead }
theorem LaidE.stk {S : Addr} {B : Nat} {W W' : World} (h : LaidE S W) (hk : StK B W W') (hg : 1 < B) : LaidE S W' := by
  unfold LaidE World.cell? at *
  rw [hk.bel.block _ hg]
  exact h
theorem SlR.size {B s : Nat} {W : World} {M : Sl} (h : SlR B W s M) : B ≤ W.heap.size := by
  obtain ⟨_, _, _, _, _, _, _, _, _, _, _, _, _, _, _, _, h⟩ := h
  exact h
theorem SlR.lo {B s : Nat} {W : World} {M : Sl} (h : SlR B W s M) : B ≤ s := by
  obtain ⟨_, _, _, _, _, _, _, _, _, h, _⟩ := h
  exact h
/-- What a step leaves. -/
def StepR (S : Addr) (B s : Nat) (M : Sl) (w : World) (v : Value) (w' : World) : Prop := v = stV S M.armed M.budget ∧ SlR B w' s M.stepped ∧ StK B w w' ∧ LaidE S w'
theorem step_sl (S : Addr) (B s : Nat) (M : Sl) (w : World) (hR : SlR B w s M) (hE : LaidE S w) (hg : 1 < B) : Calls Tryd.prog 35 #[.pointer (some ⟨s, 0, none⟩)] w fun e w' => ∃ v, e = .returned v ∧ StepR S B s M w v w' := by
  obtain ⟨tg, d1, d2, f1, f2, A, n, c, hX, hsB, hD1, hD2, hO, hP, hb0, hb1, hBW⟩ := hR
  refine (step_any S s d1 d2 A n c M.armed M.budget M.dead w hX hE (Nat.lt_of_lt_of_le hg hsB) hb0 hb1).mono fun _ _ ⟨v, he, hv, ho, hX'⟩ => ?_
  have hbu : 0 ≤ stB M.armed M.budget ∧ stB M.armed M.budget ≤ 1099511627776 := by
    unfold stB
    split <;> omega
  obtain ⟨h1, h2⟩ := sl_head hsB hX hD1 hD2 hO hP hbu.1 hbu.2 hBW ho hX'
  exact ⟨v, he, hv, h1, h2, hE.stk h2 hg⟩
theorem SlR.drew {B s : Nat} {W : World} {M : Sl} (h : SlR B W s M) : SlR B W.drew s M := h.below ⟨rfl, rfl, rfl, Nat.le_refl _, fun _ _ => rfl⟩
theorem delD_at (D : Dk) (f : Int) : delD D f f = none := if_pos rfl
/-- A disk of which a file has gone. -/
theorem DkR.del {B : Nat} {tg : Nat → Nat × Int} {k : Nat} {W W' : World} {d : Nat} {D : Dk} {f : Int → Option Value} (h : DkR B tg k W d D f) (ho : Only1 d W W') {n : Int} (hm : MpI W' d (upd f n none)) : DkR B tg k W' d (delD D n) (upd f n none) := by
  refine ⟨hm, h.lo, h.tag, fun m hn => ?_, fun m v hv => ?_⟩
  · unfold delD
    by_cases e : m = n
    · rw [if_pos e]
    · rw [if_neg e]
      rw [upd_ne e] at hn
      exact h.no m hn
  · by_cases e : m = n
    · rw [e, upd_at] at hv
      cases hv
    · rw [upd_ne e] at hv
      obtain ⟨c, g, h1, h2, h3, h4, h5, h6⟩ := h.yes m v hv
      refine ⟨c, g, h1, h2, h3, ?_, h5.other ho ?_, h6⟩
      · unfold delD
        rw [if_neg e]
        exact h4
      · rintro rfl
        have := h2.symm.trans h.tag
        injection this with h7 _
        omega
/-- The other disk, when one's own map alone has turned. -/
theorem DkR.apart {B : Nat} {tg : Nat → Nat × Int} {k k2 : Nat} {W W' : World} {d d2 : Nat} {D D2 : Dk} {f f2 : Int → Option Value} (h : DkR B tg k W d D f) (h2 : DkR B tg k2 W d2 D2 f2) (ho : Only1 d2 W W') (hne : k ≠ k2) (hne2 : k + 2 ≠ k2) : DkR B tg k W' d D f :=
  h.keep (fun _ _ => rfl) fun x _ hx => ho.block x (by
    rintro rfl
    rw [h2.tag] at hx
    rcases hx with hx | hx <;> dsimp only at hx <;> omega)
theorem Blk.mp {W W' : World} {b d : Nat} {cs : Array Value} {t : TypeId} {f : Int → Option Value} (h : Blk W b cs t) (hm : MpI W d f) (ho : Only1 d W W') : Blk W' b cs t := (ho.block b (by
  rintro rfl
  obtain ⟨es, cl, hb, _⟩ := hm
  unfold Blk at h
  rw [h] at hb
  cases hb)).trans h
theorem stk_mp {B : Nat} {W W' : World} {d : Nat} {f : Int → Option Value} (hm : MpI W d f) (hB : B ≤ d) (ho : Only1 d W W') : StK B W W' := ⟨ho.below hB, fun x cs t fr hx _ _ => ho.block x (by
  rintro rfl
  obtain ⟨es, cl, hb, _⟩ := hm
  rw [hx] at hb
  cases hb)⟩
theorem OwnX.mp {t : TypeId} {z base : Nat} {W W' : World} {A : Option Addr} {n c : Nat} {l : List (Array Value)} {d : Nat} {f : Int → Option Value} (h : OwnX t z base W A n c l) (hm : MpI W d f) (ho : Only1 d W W') : OwnX t z base W' A n c l :=
  h.same fun x cs hx => ho.block x (by
    rintro rfl
    obtain ⟨es, cl, hb, _⟩ := hm
    unfold Blk at hx
    rw [hx] at hb
    cases hb)
def Sl.removes (M : Sl) (f : Int) : Sl := { M with kept := delD M.kept f, seen := delD M.seen f, pend := notP (isF f) M.pend }
def rmCode (M : Sl) (f : Int) : Int := bif fileB f then (bif M.spent then 7 else 0) else 1
def rmM (M : Sl) (f : Int) : Sl := bif fileB f then (bif M.spent then M.stepped else M.stepped.removes f) else M
end Go.Proofs.YtgbopikhdpmmcaaDoor
