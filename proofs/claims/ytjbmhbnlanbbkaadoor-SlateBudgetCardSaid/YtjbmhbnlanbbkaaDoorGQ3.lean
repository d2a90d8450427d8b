/-
  WHAT IS PROVED: plain words for a slate: writes, disks (which file has which block), what a block is; how a disk lies in memory; what stays of the memory when one turns. Over this program · slate's disk.do: a write is done upon a disk in memory. Conditions: those typed in each theorem. · errors.Is and errors.As of Go's own text, walked, where package pack calls them: of no error, of its sentinel, of its own error type 'wrong'. Conditions: those typed in each theorem. · slate's step, isFile, isBlock: what they answer, what turns. Conditions: those typed in each theorem. · a slate in memory; New, Read and Write. Conditions: those typed in each theorem. · append of one element onto a row of the call's own, with what else stays: nothing turns but the row's own block. Over any program
-/
import Derived.Test.YtjbmhbnlanbbkaaDoorGQ2
import Derived.Test.YtjbmhbnlanbbkaaDoorGQ0
import Derived.Test.YtjbmhbnlanbbkaaDoorFastH
import Derived.Deep.MidRow
import Derived.Shelf.Abstract
import Derived.Deep.QuietTactic
import Derived.BigQuiet
import Derived.BigRegion
import Derived.Outline
import Derived.Deep.Cut
import Derived.WalkKit
import Derived.LaidEql
import Derived.Stop.Asserts
import Derived.RowKitTokens
namespace Go.Proofs.YtjbmhbnlanbbkaaDoor
open Go.RowKit

def bkA (l : List UInt8) : Array Value := (l.map fun u => Value.int .u8 (u.toNat : Int)).toArray
theorem bkA_size (l : List UInt8) : (bkA l).size = l.length := by simp [bkA]
theorem bkA_one (l : List UInt8) : (bkA l).all (·.oneCell') = true := by
  rw [Array.all_eq_true_iff_forall_mem]
  intro v hv
  unfold bkA at hv
  simp only [List.mem_toArray, List.mem_map] at hv
  obtain ⟨u, _, rfl⟩ := hv
  rfl
/-- A write: a file, a block, what it is of. -/
structure Pw where
  (f b : Int)
  l : List UInt8
def Pw.cells (x : Pw) : Array Value := #[.int .i64 x.f, .int .i64 x.b] ++ bkA x.l
theorem pw_size {x : Pw} (h : x.l.length = 64) : x.cells.size = 66 := by
  unfold Pw.cells
  rw [Array.size_append, bkA_size, h]
  rfl
theorem pw_one (x : Pw) : x.cells.all (·.oneCell') = true := by
  unfold Pw.cells
  rw [Array.all_append, bkA_one]
  simp [Value.oneCell']
theorem pw_0 (x : Pw) : x.cells[0]? = some (.int .i64 x.f) := by unfold Pw.cells; rw [Array.getElem?_append_left (by simp)]; rfl
theorem pw_1 (x : Pw) : x.cells[1]? = some (.int .i64 x.b) := by unfold Pw.cells; rw [Array.getElem?_append_left (by simp)]; rfl
theorem pw_at (x : Pw) (j : Nat) : x.cells[2 + j]? = (bkA x.l)[j]? := by
  unfold Pw.cells
  rw [Array.getElem?_append_right (by simp)]
  congr 1
  simp
/-- A disk: of each file that has blocks, by its number, what is written in which block. -/
abbrev Dk := Int → Option (Int → Option (List UInt8))
def noF : Int → Option (List UInt8) := fun _ => none
def putF (g : Int → Option (List UInt8)) (b : Int) (l : List UInt8) : Int → Option (List UInt8) := fun m => if m = b then some l else g m
def putD (D : Dk) (w : Pw) : Dk := fun f => if f = w.f then some (putF ((D f).getD noF) w.b w.l) else D f
def delD (D : Dk) (f : Int) : Dk := fun n => if n = f then none else D n
def z64 : List UInt8 := List.replicate 64 0
def blkD (D : Dk) (f b : Int) : List UInt8 := ((D f).bind (· b)).getD z64
def mpV (g : Int → Option (List UInt8)) : Int → Option Value := fun m => (g m).map fun l => .agg (bkA l)
/-- A disk in memory: the maps' blocks bear tags. -/
structure DkR (B : Nat) (tg : Nat → Nat × Int) (k : Nat) (W : World) (d : Nat) (D : Dk) (f : Int → Option Value) : Prop where
  mp : MpI W d f
  lo : B ≤ d
  tag : tg d = (k, -1)
  no : ∀ n, f n = none → D n = none
  yes : ∀ n v, f n = some v → ∃ c g, v = .map (some c) ∧ tg c = (k + 2, n) ∧ B ≤ c ∧ D n = some g ∧ MpI W c (mpV g) ∧ ∀ m l, g m = some l → l.length = 64
/-- What stays when a disk turns: all that isn't a map of it. -/
structure DoK (B : Nat) (tg : Nat → Nat × Int) (k : Nat) (W W' : World) : Prop where
  bel : Below B W W'
  cel : ∀ (x : Nat) (cs : Array Value) (t : TypeId) (fr : Nat × Nat), W.heap[x]? = some (Obj.cells cs t fr) → W'.heap[x]? = W.heap[x]?
  oth : ∀ (x : Nat), x < W.heap.size → (tg x).1 ≠ k → (tg x).1 ≠ k + 2 → W'.heap[x]? = W.heap[x]?
theorem DoK.refl (B : Nat) (tg : Nat → Nat × Int) (k : Nat) (W : World) : DoK B tg k W W := ⟨Below.refl _ _, fun _ _ _ _ _ => rfl, fun _ _ _ _ => rfl⟩
theorem DoK.blk {B : Nat} {tg : Nat → Nat × Int} {k : Nat} {W W' : World} (h : DoK B tg k W W') {b : Nat} {cs : Array Value} {t : TypeId} (hX : Blk W b cs t) : Blk W' b cs t := (h.cel b cs t (0, 0) hX).trans hX
theorem DkR.keep {B : Nat} {tg tg' : Nat → Nat × Int} {k : Nat} {W W' : World} {d : Nat} {D : Dk} {f : Int → Option Value} (h : DkR B tg k W d D f) (ht : ∀ x, x < W.heap.size → tg' x = tg x) (hh : ∀ x, x < W.heap.size → (tg x).1 = k ∨ (tg x).1 = k + 2 → W'.heap[x]? = W.heap[x]?) : DkR B tg' k W' d D f := by
  have hd := h.mp.lt
  refine ⟨h.mp.same (hh d hd (.inl (by rw [h.tag]))), h.lo, (ht d hd).trans h.tag, h.no, fun n v hv => ?_⟩
  obtain ⟨c, g, e, hc, hB, hD, hm, hl⟩ := h.yes n v hv
  exact ⟨c, g, e, (ht c hm.lt).trans hc, hB, hD, hm.same (hh c hm.lt (.inr (by rw [hc]))), hl⟩
theorem DkR.below {B : Nat} {tg : Nat → Nat × Int} {k : Nat} {W W' : World} {d : Nat} {D : Dk} {f : Int → Option Value} (h : DkR B tg k W d D f) (hb : Below W.heap.size W W') : DkR B tg k W' d D f := h.keep (fun _ _ => rfl) fun x hx _ => hb.block x hx
theorem DkR.maps {B : Nat} {tg : Nat → Nat × Int} {k : Nat} {W W' : World} {d : Nat} {D : Dk} {f : Int → Option Value} (h : DkR B tg k W d D f) (hh : ∀ (x : Nat) (es : Array MapEntry) (cl : Nat), W.heap[x]? = some (Obj.map es cl) → W'.heap[x]? = W.heap[x]?) : DkR B tg k W' d D f := by
  have hm : ∀ {x : Nat} {g : Int → Option Value}, MpI W x g → MpI W' x g := fun {x g} hx => by
    obtain ⟨es, cl, hb, _⟩ := id hx
    exact hx.same (hh x es cl hb)
  refine ⟨hm h.mp, h.lo, h.tag, h.no, fun n v hv => ?_⟩
  obtain ⟨c, g, e, hc, hB, hD, hmp, hl⟩ := h.yes n v hv
  exact ⟨c, g, e, hc, hB, hD, hm hmp, hl⟩
theorem DkR.only {B : Nat} {tg : Nat → Nat × Int} {k : Nat} {W W' : World} {d s : Nat} {D : Dk} {f : Int → Option Value} {cs : Array Value} {t : TypeId} (h : DkR B tg k W d D f) (hX : Blk W s cs t) (ho : Only1 s W W') : DkR B tg k W' d D f :=
  h.maps fun x es cl hx => ho.block x (by
    rintro rfl
    unfold Blk at hX
    rw [hx] at hX
    cases hX)
theorem OwnX.same {t : TypeId} {z base : Nat} {W W' : World} {A : Option Addr} {n c : Nat} {l : List (Array Value)} (h : OwnX t z base W A n c l) (hh : ∀ (x : Nat) (cs : Array Value), Blk W x cs t → W'.heap[x]? = W.heap[x]?) : OwnX t z base W' A n c l := by
  refine ⟨⟨h.1.1, ?_⟩, h.2⟩
  rcases h.1.2 with h | ⟨g, cap, cur, h1, h2, h3, h4⟩
  · exact .inl h
  · exact .inr ⟨g, cap, cur, h1, h2, (hh g cur h3).trans h3, h4⟩
theorem OwnX.only {t t2 : TypeId} {z base s : Nat} {W W' : World} {A : Option Addr} {n c : Nat} {l : List (Array Value)} {cs : Array Value} (h : OwnX t z base W A n c l) (hX : Blk W s cs t2) (ho : Only1 s W W') (hne : t ≠ t2) : OwnX t z base W' A n c l :=
  h.same fun x cs2 hx => ho.block x (by
    rintro rfl
    unfold Blk at hX hx
    rw [hx] at hX
    injection hX with hX
    injection hX with _ hX _
    exact hne hX)
theorem OwnX.row {t : TypeId} {z base : Nat} {W : World} {A : Option Addr} {n c : Nat} {l : List (Array Value)} (h : OwnX t z base W A n c l) {a : Addr} (ha : A = some a) : base ≤ a.block ∧ ∃ cs, Blk W a.block cs t := by
  rcases h.1.2 with ⟨h1, _⟩ | ⟨g, cap, cur, h1, h2, h3, _⟩
  · injection h1 with h1
    rw [h1] at ha
    cases ha
  · injection h1 with h1
    rw [h1] at ha
    cases ha
    exact ⟨h2, _, h3⟩
/-! Operations on maps, as steps of a chain. -/
theorem mUnd : Tryd.prog.underlying 41 = some (.map 3 66) := by kernel_rfl
theorem mUnd2 : Tryd.prog.underlying 66 = some (.map 3 59) := by kernel_rfl
theorem iUnd : Tryd.prog.underlying 3 = some (.int .i64) := by kernel_rfl
theorem zM (W : World) : (zeroValue 66).run Tryd.prog W = .ok (.map none) W := by kernel_rfl
abbrev zA : Value := .agg #[.int .u8 0, .int .u8 0, .int .u8 0, .int .u8 0, .int .u8 0, .int .u8 0, .int .u8 0, .int .u8 0, .int .u8 0, .int .u8 0, .int .u8 0, .int .u8 0, .int .u8 0, .int .u8 0, .int .u8 0, .int .u8 0, .int .u8 0, .int .u8 0, .int .u8 0, .int .u8 0, .int .u8 0, .int .u8 0, .int .u8 0, .int .u8 0, .int .u8 0, .int .u8 0, .int .u8 0, .int .u8 0, .int .u8 0, .int .u8 0, .int .u8 0, .int .u8 0, .int .u8 0, .int .u8 0, .int .u8 0, .int .u8 0, .int .u8 0, .int .u8 0, .int .u8 0, .int .u8 0, .int .u8 0, .int .u8 0, .int .u8 0, .int .u8 0, .int .u8 0, .int .u8 0, .int .u8 0, .int .u8 0, .int .u8 0, .int .u8 0, .int .u8 0, .int .u8 0, .int .u8 0, .int .u8 0, .int .u8 0, .int .u8 0, .int .u8 0, .int .u8 0, .int .u8 0, .int .u8 0, .int .u8 0, .int .u8 0, .int .u8 0, .int .u8 0]
theorem zA_is : zA = .agg (bkA z64) := by kernel_rfl
theorem zB (W : World) : (zeroValue 59).run Tryd.prog W = .ok (.agg (bkA z64)) W := by
  rw [← zA_is]
  kernel_rfl
section
variable {P : Program} {l : List Oper} {Q : Exit → Act → World → Prop} {rest : List Oper} {a0 : Act} {L : List (Nat × Bool × Value)} {w : World}
theorem x_mu {i j k : Nat} {t ty : TypeId} {p : String} {af : Array Edge} {gd : Option (Nat × Bool)} {vi vj vk : Value} {w2 : World} {ρ : Operand → Value} (h1 : ρ (.tmp i) = vi) (h2 : ρ (.tmp j) = vj) (h3 : ρ (.tmp k) = vk) (hr : (Instr.mapUpdate t vi vj vk).run P w = .ok () w2) :
    (execOp ρ ⟨none, .mapUpdate t (.tmp i) (.tmp j) (.tmp k), ty, p, af, gd⟩).run P w = .ok .skip w2 := by
  unfold execOp
  dsimp only
  rw [h1, h2, h3, Sem.run_bind, hr]
  rfl
theorem g_mu {i j k : Nat} {t ty : TypeId} {p : String} {af : Array Edge} {gd : Option (Nat × Bool)} {vi vj vk : Value} {w2 : World} (hr : (Instr.mapUpdate t vi vj vk).run P w = .ok () w2) (h : FL P l Q rest a0 L w2) (hw : wtG l L gd = some true := by rfl) (hi : lk L i = some (true, vi) := by rfl) (hj : lk L j = some (true, vj) := by rfl) (hk : lk L k = some (true, vk) := by rfl) : FL P l Q (⟨none, .mapUpdate t (.tmp i) (.tmp j) (.tmp k), ty, p, af, gd⟩ :: rest) a0 L w :=
  fl_skip rfl hw (fun hh => x_mu (lk_at hh hi (fun _ => rfl) rfl) (lk_at hh hj (fun _ => rfl) rfl) (lk_at hh hk (fun _ => rfl) rfl) hr) h
end
theorem run_mk (t : TypeId) (W : World) : (Instr.makeMap t none).run Tryd.prog W = .ok (.map (some W.heap.size)) (W.alloc (.map #[] 0)) := rfl
theorem eq_nil1 (c : Nat) (W : World) : ((do eqGuard .eql 66 (.tmp 7) (.const (.map none)) (.map (some c)) (.map none); binOp .eql 66 (.map (some c)) (.map none)) : Sem Value).run Tryd.prog W = .ok (.bool false) W := by kernel_rfl
theorem eq_nil0 (W : World) : ((do eqGuard .eql 66 (.tmp 7) (.const (.map none)) (.map none) (.map none); binOp .eql 66 (.map none) (.map none)) : Sem Value).run Tryd.prog W = .ok (.bool true) W := by kernel_rfl
theorem pw_f0 (W : World) (b : Nat) : (Instr.fieldAt 61 (.pointer (some ⟨b, 0, none⟩)) 0).run Tryd.prog W = .ok (.pointer (some ⟨b, 0, none⟩)) W := by kernel_rfl
theorem pw_f1 (W : World) (b : Nat) : (Instr.fieldAt 61 (.pointer (some ⟨b, 0, none⟩)) 1).run Tryd.prog W = .ok (.pointer (some ⟨b, 1, none⟩)) W := by kernel_rfl
theorem pw_f2 (W : World) (b : Nat) : (Instr.fieldAt 61 (.pointer (some ⟨b, 0, none⟩)) 2).run Tryd.prog W = .ok (.pointer (some ⟨b, 2, none⟩)) W := by kernel_rfl
section
variable {W : World} {b : Nat} {x : Pw} {t : TypeId}
theorem pw_l0 (h : Blk W b x.cells t) : (Instr.loadAt 3 (.pointer (some ⟨b, 0, none⟩))).run Tryd.prog W = .ok (.int .i64 x.f) W := load_int ((h.cell 0).trans (pw_0 x))
theorem pw_l1 (h : Blk W b x.cells t) : (Instr.loadAt 3 (.pointer (some ⟨b, 1, none⟩))).run Tryd.prog W = .ok (.int .i64 x.b) W := load_int ((h.cell 1).trans (pw_1 x))
theorem pw_l2 (h : Blk W b x.cells t) (hl : x.l.length = 64) : (Instr.loadAt 59 (.pointer (some ⟨b, 2, none⟩))).run Tryd.prog W = .ok (.agg (bkA x.l)) W := by
  have hi : (Tryd.prog.info? 59).map (·.size) = some 64 := by kernel_rfl
  have := run_loadAt_mid (P := Tryd.prog) W b 2 59 (bkA x.l).toList _ (fun j v hv => ((h.cell (2 + j)).trans (pw_at x j)).trans ((Array.getElem?_toList ..).symm.trans hv)) Tryd.underlying59 rfl (by rw [hi, Array.length_toList, bkA_size, hl])
  simpa using this
theorem pw_la (h : Blk W b x.cells t) (hl : x.l.length = 64) : (Instr.loadAt 61 (.pointer (some ⟨b, 0, none⟩))).run Tryd.prog W = .ok (.agg x.cells) W := by
  have hi : (Tryd.prog.info? 61).map (·.size) = some 66 := by kernel_rfl
  have := run_loadAt_mid (P := Tryd.prog) W b 0 61 x.cells.toList _ (fun j v hv => by rw [Nat.zero_add]; exact (h.cell j).trans ((Array.getElem?_toList ..).symm.trans hv)) Tryd.underlying61 rfl (by rw [hi, Array.length_toList, pw_size hl])
  simpa using this
end
end Go.Proofs.YtjbmhbnlanbbkaaDoor

namespace Go.Proofs.YtjbmhbnlanbbkaaDoor
open Go.RowKit

theorem enters_do : ∀ args w, (callFunc 26 args).run Tryd.prog w = .ok (.enter 26 args) w := enters_of Tryd.func26 (by kernel_rfl) rfl
theorem mpV_put (g : Int → Option (List UInt8)) (b : Int) (l : List UInt8) : upd (mpV g) b (some (.agg (bkA l))) = mpV (putF g b l) := by
  funext m
  unfold upd mpV putF
  by_cases h : m = b
  · rw [if_pos h, if_pos h]; rfl
  · rw [if_neg h, if_neg h]
/-- The tag of a new block. -/
def tgN (tg : Nat → Nat × Int) (x : Nat) (v : Nat × Int) : Nat → Nat × Int := fun y => if y = x then v else tg y
theorem tgN_at (tg : Nat → Nat × Int) (x : Nat) (v : Nat × Int) : tgN tg x v x = v := if_pos rfl
theorem tgN_ne (tg : Nat → Nat × Int) {x y : Nat} (v : Nat × Int) (h : y ≠ x) : tgN tg x v y = tg y := if_neg h
/-- What a write leaves. -/
def DoR (B : Nat) (tg : Nat → Nat × Int) (k d : Nat) (D : Dk) (w : Pw) (W W' : World) : Prop :=
  ∃ tg' f', (∀ x, x < W.heap.size → tg' x = tg x) ∧ DkR B tg' k W' d (putD D w) f' ∧ DoK B tg k W W'
theorem do_fin {B : Nat} {tg : Nat → Nat × Int} {k d c : Nat} {D : Dk} {f : Int → Option Value} {w : Pw} {g : Int → Option (List UInt8)} {W W3 W4 : World} (hD : DkR B tg k W d D f) (hl : w.l.length = 64) (hM3 : MpI W3 d (upd f w.f (some (.map (some c)))))
    (hB3 : Below B W W3) (h3 : ∀ x, x < W.heap.size → x ≠ d → W3.heap[x]? = W.heap[x]?) (ho : Only1 c W3 W4) (hM : MpI W4 c (mpV (putF g w.b w.l))) (hc : W.heap.size ≤ c ∨ (tg c = (k + 2, w.f) ∧ c < W.heap.size ∧ ∃ h, MpI W c h)) (hBc : B ≤ c) (hg : (D w.f).getD noF = g) (hgl : ∀ m l, g m = some l → l.length = 64) (hcd : c ≠ d) : DoR B tg k d D w W W4 := by
  have hdlt := hD.mp.lt
  have htg : ∀ x, x < W.heap.size → tgN tg c (k + 2, w.f) x = tg x := fun x hx => by
    by_cases e : x = c
    · subst e
      rw [tgN_at]
      rcases hc with h | ⟨h, _⟩
      · omega
      · exact h.symm
    · exact tgN_ne tg _ e
  have hother : ∀ x, x < W.heap.size → x ≠ d → x ≠ c → W4.heap[x]? = W.heap[x]? := fun x hx h1 h2 => (ho.block x h2).trans (h3 x hx h1)
  refine ⟨tgN tg c (k + 2, w.f), upd f w.f (some (.map (some c))), htg, ⟨hM3.other ho (Ne.symm hcd), hD.lo, (htg d hdlt).trans hD.tag, fun n hn => ?_, fun n v hv => ?_⟩, ⟨hB3.trans (ho.below hBc), fun x cs t fr hx => ?_, fun x hx h1 h2 => ?_⟩⟩
  · by_cases e : n = w.f
    · rw [e, upd_at] at hn
      cases hn
    · rw [upd_ne e] at hn
      show (if n = w.f then _ else D n) = none
      rw [if_neg e]
      exact hD.no n hn
  · by_cases e : n = w.f
    · subst e
      rw [upd_at] at hv
      cases hv
      refine ⟨c, putF g w.b w.l, rfl, tgN_at .., hBc, ?_, hM, fun m l hm => ?_⟩
      · show (if w.f = w.f then _ else D w.f) = _
        rw [if_pos rfl, hg]
      · unfold putF at hm
        by_cases em : m = w.b
        · rw [if_pos em] at hm
          cases hm
          exact hl
        · rw [if_neg em] at hm
          exact hgl m l hm
    · rw [upd_ne e] at hv
      obtain ⟨c2, g2, ev, ht2, hB2, hD2, hM2, hl2⟩ := hD.yes n v hv
      have hlt2 := hM2.lt
      have hne : c2 ≠ c := by
        rintro rfl
        rcases hc with h | ⟨h, _⟩
        · omega
        · rw [ht2] at h
          injection h with _ h
          exact e h
      have hnd : c2 ≠ d := by
        rintro rfl
        have := ht2.symm.trans hD.tag
        injection this with h1 _
        omega
      refine ⟨c2, g2, ev, (htg c2 hlt2).trans ht2, hB2, ?_, hM2.same (hother c2 hlt2 hnd hne), hl2⟩
      show (if n = w.f then _ else D n) = _
      rw [if_neg e]
      exact hD2
  · have hx2 : x < W.heap.size := (Array.getElem?_eq_some_iff.1 hx).1
    refine hother x hx2 ?_ ?_
    · rintro rfl
      obtain ⟨es, cl, hb, _⟩ := hD.mp
      rw [hx] at hb
      cases hb
    · rintro rfl
      rcases hc with h | ⟨_, _, h, es, cl, hb, _⟩
      · omega
      · rw [hx] at hb
        cases hb
  · refine hother x hx ?_ ?_
    · rintro rfl
      exact h1 (by rw [hD.tag])
    · rintro rfl
      rcases hc with h | ⟨h, _⟩
      · omega
      · exact h2 (by rw [h])
set_option maxRecDepth 100000 in
set_option maxHeartbeats 4000000 in
theorem do_any (B : Nat) (tg : Nat → Nat × Int) (k d : Nat) (D : Dk) (f : Int → Option Value) (w : Pw) (W : World) (hD : DkR B tg k W d D f) (hl : w.l.length = 64) (hB : B ≤ W.heap.size) : Calls Tryd.prog 26 #[.map (some d), .agg w.cells] W fun e W' => e = .returned (.tuple #[]) ∧ DoR B tg k d D w W W' := by
  have HL := Lib.hid hl
  have hdlt := hD.mp.lt
  go_enter Tryd.func26, Tryd.ntmps26
  go_upto_region 1 with fail
  have hY := blk_new W w.cells 61
  have hBel := b0 W (.cells w.cells 61)
  have hD1 := hD.below hBel
  generalize hW1 : W.alloc (.cells w.cells 61) = W1 at hY hBel hD1 ⊢
  generalize hb : W.heap.size = b at hY hB hdlt ⊢
  have hsz1 : W1.heap.size = b + 1 := by rw [← hW1, ← hb]; simp
  have lk := run_lookI (P := Tryd.prog) mUnd iUnd (zM W1) hD1.mp w.f
  have f0 := pw_f0 W1 b
  have l0 := pw_l0 hY
  clear hl
  cases hf : f w.f with
  | none =>
    rw [hf, Option.getD_none] at lk
    have e0 := eq_nil0 W1
    refine wp_region_lit ?_
    refine fl_start ?_
    generalize ha : Act.mk _ _ = a0
    have hn : a0.tmps.size = 21 := by rw [← ha]; kernel_rfl
    have h0 : (fr a0 []).eval (.tmp 0) = .map (some d) := by rw [← ha]; kernel_rfl
    refine fl_know hn rfl h0 ?_
    clear h0
    have h3 : (fr a0 [(0, true, .map (some d))]).eval (.tmp 3) = .pointer (some ⟨b, 0, none⟩) := by rw [← ha]; kernel_rfl
    refine fl_know hn rfl h3 ?_
    clear h3
    repeat first | refine g_mv hn ?_ | refine g_as hn ?_ | refine g_lk hn ?_ | refine g_fd hn ?_ | refine g_ld hn ?_ | refine g_nc hn ?_ | refine g_nt hn ?_ | refine g_an hn ?_ | refine g_or hn ?_ | refine g_ln hn ?_ | refine g_ex hn ?_ | refine g_neq2 hn ?_ | refine g_neq hn ?_ | refine g_eql2 hn ?_ | refine g_eql hn ?_ | refine g_leq2 hn ?_ | refine g_leq hn ?_ | refine g_lss2 hn ?_ | refine g_lss hn ?_ | refine g_gtr2 hn ?_ | refine g_gtr hn ?_ | refine g_geq2 hn ?_ | refine g_geq hn ?_ | refine g_b0 hn ?_ | refine g_bn hn ?_ | refine g_bc hn ?_ | refine g_cv hn ?_ | refine g_ac hn ?_ | refine g_mc hn ?_
    refine fl_end ?_
    clear hn
    subst ha
    dsimp only [fr, cnd, Act.put, cond_true]
    simp only [List.setIfInBounds_toArray, List.set_cons_zero, List.set_cons_succ]
    clear lk e0
    have hMk : MpI (W1.alloc (.map #[] 0)) W1.heap.size (mpV noF) := by
      have := mpi_new W1
      have e : mpV noF = fun _ => none := by funext m; rfl
      rw [e]
      exact this
    have hD2 := hD1.below (b0 W1 (.map #[] 0))
    have hY2 := hY.alloc (.map #[] 0)
    have hB2 := b0 W1 (.map #[] 0)
    go_upto_region 2 with fail
    refine wp_region_lit ?_
    refine fl_start ?_
    generalize ha : Act.mk _ _ = a0
    have hn : a0.tmps.size = 21 := by rw [← ha]; kernel_rfl
    have h0 : (fr a0 []).eval (.tmp 0) = .map (some d) := by rw [← ha]; kernel_rfl
    refine fl_know hn rfl h0 ?_
    clear h0
    have h3 : (fr a0 [(0, true, .map (some d))]).eval (.tmp 3) = .pointer (some ⟨b, 0, none⟩) := by rw [← ha]; kernel_rfl
    refine fl_know hn rfl h3 ?_
    clear h3
    refine g_mv hn ?_
    refine g_fd hn ?_
    refine g_ld hn ?_
    refine g_w hn (w2 := W1.alloc (.map #[] 0)) (v := .map (some W1.heap.size)) (fun _ => by unfold execOp; dsimp only; rw [Option.map_none, Sem.run_bind, run_mk]; rfl) ?_
    clear f0 l0
    generalize W1.alloc (.map #[] 0) = W2 at hMk hD2 hY2 hB2 ⊢
    rw [hsz1] at hMk ⊢
    obtain ⟨W3, hr3, ho3, hM3⟩ := run_putI (P := Tryd.prog) mUnd iUnd hD2.mp w.f (.map (some (b + 1)))
    refine g_mu hr3 ?_
    refine fl_end ?_
    clear hn
    subst ha
    dsimp only [fr, cnd, Act.put, cond_true]
    simp only [List.setIfInBounds_toArray, List.set_cons_zero, List.set_cons_succ]
    have hf3 : upd f w.f (some (.map (some (b + 1)))) w.f = some (.map (some (b + 1))) := upd_at ..
    have hne1 : b ≠ d := by omega
    have hne2 : b + 1 ≠ d := by omega
    have hb3 := hY2.only ho3 hne1
    have hC3 := hMk.other ho3 hne2
    have lb := run_lookI (P := Tryd.prog) mUnd iUnd (zM W3) hM3 w.f
    rw [hf3, Option.getD_some] at lb
    have f1 := pw_f1 W3 b
    have l1 := pw_l1 hb3
    have f2 := pw_f2 W3 b
    have l2 := pw_l2 hb3 HL.out
    have f0 := pw_f0 W3 b
    have l0 := pw_l0 hb3
    obtain ⟨W4, hr4, ho4, hM4⟩ := run_putI (P := Tryd.prog) mUnd2 iUnd hC3 w.b (.agg (bkA w.l))
    go_upto_region 3 with fail
    refine wp_region_lit ?_
    refine fl_start ?_
    generalize ha : Act.mk _ _ = a0
    have hn : a0.tmps.size = 21 := by rw [← ha]; kernel_rfl
    have h0 : (fr a0 []).eval (.tmp 0) = .map (some d) := by rw [← ha]; kernel_rfl
    refine fl_know hn rfl h0 ?_
    clear h0
    have h3 : (fr a0 [(0, true, .map (some d))]).eval (.tmp 3) = .pointer (some ⟨b, 0, none⟩) := by rw [← ha]; kernel_rfl
    refine fl_know hn rfl h3 ?_
    clear h3
    repeat first | refine g_mv hn ?_ | refine g_as hn ?_ | refine g_lk hn ?_ | refine g_fd hn ?_ | refine g_ld hn ?_ | refine g_nc hn ?_ | refine g_nt hn ?_ | refine g_an hn ?_ | refine g_or hn ?_ | refine g_ln hn ?_ | refine g_ex hn ?_ | refine g_neq2 hn ?_ | refine g_neq hn ?_ | refine g_eql2 hn ?_ | refine g_eql hn ?_ | refine g_leq2 hn ?_ | refine g_leq hn ?_ | refine g_lss2 hn ?_ | refine g_lss hn ?_ | refine g_gtr2 hn ?_ | refine g_gtr hn ?_ | refine g_geq2 hn ?_ | refine g_geq hn ?_ | refine g_b0 hn ?_ | refine g_bn hn ?_ | refine g_bc hn ?_ | refine g_cv hn ?_ | refine g_ac hn ?_ | refine g_mc hn ?_
    refine g_mu hr4 ?_
    refine fl_end ?_
    clear hn
    subst ha
    dsimp only [fr, cnd, Act.put, cond_true]
    simp only [List.setIfInBounds_toArray, List.set_cons_zero, List.set_cons_succ]
    go_wp2_with fail
    go_end0
    have hbk : ∀ x, x < b → W2.heap[x]? = W.heap[x]? := fun x hx => (hB2.block x (by omega)).trans (hBel.block x (by rw [hb]; exact hx))
    refine ⟨rfl, do_fin (c := b + 1) (g := noF) hD HL.out hM3 ((((hBel.mono (by rw [hb]; exact hB)).trans (hB2.mono (by omega)))).trans (ho3.below hD.lo)) (fun x hx hxd => (ho3.block x hxd).trans (hbk x (by rw [← hb]; exact hx))) ho4 (by rw [← mpV_put]; exact hM4) (.inl (by rw [hb]; omega)) (by omega) (by rw [hD.no _ hf]; rfl) (fun m l h => by cases h) (by omega)⟩
  | some v =>
    obtain ⟨c, g, rfl, htc, hBc, hDg, hMc, hg⟩ := hD1.yes _ _ hf
    have hMd := hD1.mp
    rw [hf, Option.getD_some] at lk
    have e0 := eq_nil1 c W1
    refine wp_region_lit ?_
    refine fl_start ?_
    generalize ha : Act.mk _ _ = a0
    have hn : a0.tmps.size = 21 := by rw [← ha]; kernel_rfl
    have h0 : (fr a0 []).eval (.tmp 0) = .map (some d) := by rw [← ha]; kernel_rfl
    refine fl_know hn rfl h0 ?_
    clear h0
    have h3 : (fr a0 [(0, true, .map (some d))]).eval (.tmp 3) = .pointer (some ⟨b, 0, none⟩) := by rw [← ha]; kernel_rfl
    refine fl_know hn rfl h3 ?_
    clear h3
    repeat first | refine g_mv hn ?_ | refine g_as hn ?_ | refine g_lk hn ?_ | refine g_fd hn ?_ | refine g_ld hn ?_ | refine g_nc hn ?_ | refine g_nt hn ?_ | refine g_an hn ?_ | refine g_or hn ?_ | refine g_ln hn ?_ | refine g_ex hn ?_ | refine g_neq2 hn ?_ | refine g_neq hn ?_ | refine g_eql2 hn ?_ | refine g_eql hn ?_ | refine g_leq2 hn ?_ | refine g_leq hn ?_ | refine g_lss2 hn ?_ | refine g_lss hn ?_ | refine g_gtr2 hn ?_ | refine g_gtr hn ?_ | refine g_geq2 hn ?_ | refine g_geq hn ?_ | refine g_b0 hn ?_ | refine g_bn hn ?_ | refine g_bc hn ?_ | refine g_cv hn ?_ | refine g_ac hn ?_ | refine g_mc hn ?_
    refine fl_end ?_
    clear hn
    subst ha
    dsimp only [fr, cnd, Act.put, cond_true]
    simp only [List.setIfInBounds_toArray, List.set_cons_zero, List.set_cons_succ]
    clear lk e0 f0 l0
    have hM3 := hMd
    have hf3 := hf
    have hb3 := hY
    have hC3 := hMc
    have e13 : W1 = W1 := rfl
    generalize hW3 : W1 = W3 at hM3 hb3 hC3 hBel ⊢
    have lb := run_lookI (P := Tryd.prog) mUnd iUnd (zM W3) hM3 w.f
    rw [hf3, Option.getD_some] at lb
    have f1 := pw_f1 W3 b
    have l1 := pw_l1 hb3
    have f2 := pw_f2 W3 b
    have l2 := pw_l2 hb3 HL.out
    have f0 := pw_f0 W3 b
    have l0 := pw_l0 hb3
    obtain ⟨W4, hr4, ho4, hM4⟩ := run_putI (P := Tryd.prog) mUnd2 iUnd hC3 w.b (.agg (bkA w.l))
    go_upto_region 3 with fail
    refine wp_region_lit ?_
    refine fl_start ?_
    generalize ha : Act.mk _ _ = a0
    have hn : a0.tmps.size = 21 := by rw [← ha]; kernel_rfl
    have h0 : (fr a0 []).eval (.tmp 0) = .map (some d) := by rw [← ha]; kernel_rfl
    refine fl_know hn rfl h0 ?_
    clear h0
    have h3 : (fr a0 [(0, true, .map (some d))]).eval (.tmp 3) = .pointer (some ⟨b, 0, none⟩) := by rw [← ha]; kernel_rfl
    refine fl_know hn rfl h3 ?_
    clear h3
    repeat first | refine g_mv hn ?_ | refine g_as hn ?_ | refine g_lk hn ?_ | refine g_fd hn ?_ | refine g_ld hn ?_ | refine g_nc hn ?_ | refine g_nt hn ?_ | refine g_an hn ?_ | refine g_or hn ?_ | refine g_ln hn ?_ | refine g_ex hn ?_ | refine g_neq2 hn ?_ | refine g_neq hn ?_ | refine g_eql2 hn ?_ | refine g_eql hn ?_ | refine g_leq2 hn ?_ | refine g_leq hn ?_ | refine g_lss2 hn ?_ | refine g_lss hn ?_ | refine g_gtr2 hn ?_ | refine g_gtr hn ?_ | refine g_geq2 hn ?_ | refine g_geq hn ?_ | refine g_b0 hn ?_ | refine g_bn hn ?_ | refine g_bc hn ?_ | refine g_cv hn ?_ | refine g_ac hn ?_ | refine g_mc hn ?_
    refine g_mu hr4 ?_
    refine fl_end ?_
    clear hn
    subst ha
    dsimp only [fr, cnd, Act.put, cond_true]
    simp only [List.setIfInBounds_toArray, List.set_cons_zero, List.set_cons_succ]
    go_wp2_with fail
    go_end0
    have hcd : c ≠ d := by
      rintro rfl
      have := htc.symm.trans hD.tag
      injection this with h1 _
      omega
    obtain ⟨c', g', ec, htc', hBc', hDg', hMc', hg'⟩ := hD.yes _ _ hf
    injection ec with ec
    injection ec with ec
    subst ec
    have hclt : c < b := by rw [← hb]; exact hMc'.lt
    have hu : upd f w.f (some (.map (some c))) = f := by
      funext m
      by_cases e : m = w.f
      · rw [e, upd_at, hf]
      · exact upd_ne e
    refine ⟨rfl, do_fin (c := c) (g := g) hD HL.out (by rw [hu]; exact hM3) (hBel.mono (by rw [hb]; exact hB)) (fun x hx _ => hBel.block x hx) ho4 (by rw [← mpV_put]; exact hM4) (.inr ⟨htc, by rw [hb]; exact hclt, _, hMc'⟩) hBc (by rw [hDg]; rfl) hg hcd⟩
end Go.Proofs.YtjbmhbnlanbbkaaDoor

namespace Go.Proofs.YtjbmhbnlanbbkaaDoor
open Go.RowKit Go.Extern.Stop Go.Stop Go.Extern

/-! Closed facts on the library's entries, at this program's types. -/
theorem eTypeOfS (v : Value) (w : World) : (Extern.ReflectliteType.typeOf #[.iface 93 v]).run Tryd.prog w = .ok (.iface 83 (.agg #[.pointer (some ⟨1, 93, none⟩)])) w := by kernel_rfl
/-- The model's entry of (rtype).Comparable, as it is found. -/
noncomputable def eCmp : Array Value → Sem Value := (Go.Extern.find Tryd.f60).getD fun _ => pure .nilIface
theorem eComparableS (w : World) : (eCmp #[.agg #[.pointer (some ⟨1, 93, none⟩)]]).run Tryd.prog w = .ok (.bool true) w := by kernel_rfl
theorem eMComparable (v : Value) (w : World) : (Go.method 231 83 v "Comparable").run Tryd.prog w = .ok (60, v) w := by kernel_rfl
theorem eComp : (Tryd.prog.info? 93).map (·.comparable) = some true := by kernel_rfl
theorem eSize : (Tryd.prog.info? 119).map (·.size) = some 1 := by kernel_rfl
/-- errors.Is(nil, the sentinel). -/
theorem is_nil (b : Addr) (w : World) :
    Calls Tryd.prog 24 #[.nilIface, .iface 93 (.pointer (some b))] w fun e w' => e = .returned (.bool false) ∧ w' = w := by
  have hn := run_eql_iface_nil_left (P := Tryd.prog) w 93 (.pointer (some b)) Tryd.underlying57
  go_enter Tryd.func24, Tryd.ntmps24
  go_wp2
  go_ret
  exact ⟨rfl, rfl⟩
/-- errors.Is(the sentinel, itself). -/
theorem is_same (a : Addr) (w : World) :
    Calls Tryd.prog 24 #[.iface 93 (.pointer (some a)), .iface 93 (.pointer (some a))] w fun e w' => e = .returned (.bool true) ∧ w' = w := by
  obtain ⟨i, hi, hcmp⟩ := Option.map_eq_some_iff.1 eComp
  obtain ⟨j, hj, hjs⟩ := Option.map_eq_some_iff.1 eSize
  have h8 := @run_callFunc_extern Tryd.prog 35 _ Extern.ReflectliteType.typeOf Tryd.func35 (by kernel_rfl) (by kernel_rfl) (by kernel_rfl) (by kernel_rfl)
  have h32 := @run_callFunc_extern Tryd.prog 60 _ eCmp Tryd.func60 (by kernel_rfl) (by kernel_rfl) (by kernel_rfl) (by kernel_rfl)
  have tT := eTypeOfS
  have cT := eComparableS
  have mR := eMComparable
  have heq := run_eql_iface_ptr_same (P := Tryd.prog) w a Tryd.underlying57 Tryd.underlying93 hi hcmp hj
  go_enter Tryd.func24, Tryd.ntmps24
  go_wp2
  refine wp_loop_rounds 1 ?_
  rw [rounds_succ]
  go_wp2
  go_ret
  exact ⟨rfl, rfl⟩
end Go.Proofs.YtjbmhbnlanbbkaaDoor

namespace Go.Proofs.YtjbmhbnlanbbkaaDoor
open Go.RowKit

/-- A slate's cells. -/
abbrev slI (d1 d2 : Nat) (A : Option Addr) (n c : Nat) (ar : Bool) (bu : Int) (de : Bool) : Array Value := #[.map (some d1), .map (some d2), .slice A n c, .bool ar, .int .i64 bu, .bool de]
/-- What the row lists: the error of a step behind the budget. -/
def LaidE (S : Addr) (W : World) : Prop := W.cell? ⟨0, 0, none⟩ = some (.iface 93 (.pointer (some S)))
theorem LaidE.keep {S : Addr} {W W' : World} (h : LaidE S W) (hb : Below W.heap.size W W') : LaidE S W' := (hb.cell (World.block_lt_of_cell? W _ h)).trans h
theorem LaidE.only {S : Addr} {W W' : World} {s : Nat} (h : LaidE S W) (ho : Only1 s W W') (hs : 0 < s) : LaidE S W' := by
  unfold LaidE World.cell? at *
  rw [ho.block _ (by show 0 ≠ s; omega)]
  exact h
theorem sl_a0 (W : World) (s : Nat) : (Instr.fieldAt 44 (.pointer (some ⟨s, 0, none⟩)) 0).run Tryd.prog W = .ok (.pointer (some ⟨s, 0, none⟩)) W := by kernel_rfl
theorem sl_a1 (W : World) (s : Nat) : (Instr.fieldAt 44 (.pointer (some ⟨s, 0, none⟩)) 1).run Tryd.prog W = .ok (.pointer (some ⟨s, 1, none⟩)) W := by kernel_rfl
theorem sl_a2 (W : World) (s : Nat) : (Instr.fieldAt 44 (.pointer (some ⟨s, 0, none⟩)) 2).run Tryd.prog W = .ok (.pointer (some ⟨s, 2, none⟩)) W := by kernel_rfl
theorem sl_a3 (W : World) (s : Nat) : (Instr.fieldAt 44 (.pointer (some ⟨s, 0, none⟩)) 3).run Tryd.prog W = .ok (.pointer (some ⟨s, 3, none⟩)) W := by kernel_rfl
theorem sl_a4 (W : World) (s : Nat) : (Instr.fieldAt 44 (.pointer (some ⟨s, 0, none⟩)) 4).run Tryd.prog W = .ok (.pointer (some ⟨s, 4, none⟩)) W := by kernel_rfl
theorem sl_a5 (W : World) (s : Nat) : (Instr.fieldAt 44 (.pointer (some ⟨s, 0, none⟩)) 5).run Tryd.prog W = .ok (.pointer (some ⟨s, 5, none⟩)) W := by kernel_rfl
section
variable {W : World} {s d1 d2 n c : Nat} {A : Option Addr} {ar de : Bool} {bu : Int} {t : TypeId}
theorem sl_l0 (hX : Blk W s (slI d1 d2 A n c ar bu de) t) : (Instr.loadAt 41 (.pointer (some ⟨s, 0, none⟩))).run Tryd.prog W = .ok (.map (some d1)) W := by
  have q : W.cell? ⟨s, 0, none⟩ = some (.map (some d1)) := hX.cell 0
  clear hX
  go_simp
theorem sl_l1 (hX : Blk W s (slI d1 d2 A n c ar bu de) t) : (Instr.loadAt 41 (.pointer (some ⟨s, 1, none⟩))).run Tryd.prog W = .ok (.map (some d2)) W := by
  have q : W.cell? ⟨s, 1, none⟩ = some (.map (some d2)) := hX.cell 1
  clear hX
  go_simp
theorem sl_l2 (hX : Blk W s (slI d1 d2 A n c ar bu de) t) : (Instr.loadAt 42 (.pointer (some ⟨s, 2, none⟩))).run Tryd.prog W = .ok (.slice A n c) W := by
  have q : W.cell? ⟨s, 2, none⟩ = some (.slice A n c) := hX.cell 2
  clear hX
  go_simp
theorem sl_l3 (hX : Blk W s (slI d1 d2 A n c ar bu de) t) : (Instr.loadAt 4 (.pointer (some ⟨s, 3, none⟩))).run Tryd.prog W = .ok (.bool ar) W := by
  have q : W.cell? ⟨s, 3, none⟩ = some (.bool ar) := hX.cell 3
  clear hX
  go_simp
theorem sl_l4 (hX : Blk W s (slI d1 d2 A n c ar bu de) t) : (Instr.loadAt 3 (.pointer (some ⟨s, 4, none⟩))).run Tryd.prog W = .ok (.int .i64 bu) W := by
  have q : W.cell? ⟨s, 4, none⟩ = some (.int .i64 bu) := hX.cell 4
  clear hX
  go_simp
theorem sl_l5 (hX : Blk W s (slI d1 d2 A n c ar bu de) t) : (Instr.loadAt 4 (.pointer (some ⟨s, 5, none⟩))).run Tryd.prog W = .ok (.bool de) W := by
  have q : W.cell? ⟨s, 5, none⟩ = some (.bool de) := hX.cell 5
  clear hX
  go_simp
end
theorem ld_err {S : Addr} {W : World} (h : LaidE S W) : (Instr.loadAt 57 (.pointer (some ⟨0, 0, none⟩))).run Tryd.prog W = .ok (.iface 93 (.pointer (some S))) W := by
  unfold LaidE at h
  go_simp
def spentB (ar : Bool) (bu : Int) : Bool := ar && bu == 0
def stB (ar : Bool) (bu : Int) : Int := if ar = true ∧ bu ≠ 0 then bu - 1 else bu
def stD (ar : Bool) (bu : Int) (de : Bool) : Bool := spentB ar bu || de
def stV (S : Addr) (ar : Bool) (bu : Int) : Value := bif spentB ar bu then .iface 93 (.pointer (some S)) else .nilIface
theorem enters_step : ∀ args w, (callFunc 25 args).run Tryd.prog w = .ok (.enter 25 args) w := enters_of Tryd.func25 (by kernel_rfl) rfl
theorem enters_isFile : ∀ args w, (callFunc 27 args).run Tryd.prog w = .ok (.enter 27 args) w := enters_of Tryd.func27 (by kernel_rfl) rfl
theorem enters_isBlock : ∀ args w, (callFunc 23 args).run Tryd.prog w = .ok (.enter 23 args) w := enters_of Tryd.func23 (by kernel_rfl) rfl
theorem enters_Is : ∀ args w, (callFunc 24 args).run Tryd.prog w = .ok (.enter 24 args) w := enters_of Tryd.func24 (by kernel_rfl) rfl

def StR (S : Addr) (s d1 d2 : Nat) (A : Option Addr) (n c : Nat) (ar : Bool) (bu : Int) (de : Bool) (w : World) (v : Value) (w' : World) : Prop := v = stV S ar bu ∧ Only1 s w w' ∧ Blk w' s (slI d1 d2 A n c ar (stB ar bu) (stD ar bu de)) 44
set_option maxRecDepth 100000 in
set_option maxHeartbeats 4000000 in
theorem step_any (S : Addr) (s d1 d2 : Nat) (A : Option Addr) (n c : Nat) (ar : Bool) (bu : Int) (de : Bool) (w : World) (hX : Blk w s (slI d1 d2 A n c ar bu de) 44) (hE : LaidE S w) (hs : 0 < s) (h0 : 0 ≤ bu) (h1 : bu ≤ 1099511627776) : Calls Tryd.prog 25 #[.pointer (some ⟨s, 0, none⟩)] w fun e w' => ∃ v, e = .returned v ∧ StR S s d1 d2 A n c ar bu de w v w' := by
  have f3 := sl_a3 w s
  have l3 := sl_l3 hX
  go_enter Tryd.func25, Tryd.ntmps25
  go_upto_region 1 with fail
  refine wp_region_lit ?_
  refine fl_start ?_
  generalize ha : Act.mk _ _ = a0
  have hn : a0.tmps.size = 24 := by rw [← ha]; kernel_rfl
  have h0 : (fr a0 []).eval (.tmp 0) = .pointer (some ⟨s, 0, none⟩) := by rw [← ha]; kernel_rfl
  refine fl_know hn rfl h0 ?_
  clear h0
  repeat first | refine g_mv hn ?_ | refine g_as hn ?_ | refine g_fd hn ?_ | refine g_ld hn ?_ | refine g_nc hn ?_ | refine g_nt hn ?_ | refine g_an hn ?_ | refine g_or hn ?_ | refine g_ln hn ?_ | refine g_ex hn ?_ | refine g_neq2 hn ?_ | refine g_neq hn ?_ | refine g_eql2 hn ?_ | refine g_eql hn ?_ | refine g_leq2 hn ?_ | refine g_leq hn ?_ | refine g_lss2 hn ?_ | refine g_lss hn ?_ | refine g_gtr2 hn ?_ | refine g_gtr hn ?_ | refine g_geq2 hn ?_ | refine g_geq hn ?_ | refine g_b0 hn ?_ | refine g_bn hn ?_ | refine g_bc hn ?_ | refine g_cv hn ?_ | refine g_ac hn ?_ | refine g_mc hn ?_
  refine fl_end ?_
  clear hn
  subst ha
  dsimp only [fr, cnd, Act.put, cond_true]
  simp only [List.setIfInBounds_toArray, List.set_cons_zero, List.set_cons_succ]
  clear f3 l3
  cases ar with
  | false =>
    have R : Hid (StR S s d1 d2 A n c false bu de w .nilIface w) := ⟨rfl, Only1.refl _ _, hX⟩
    clear hX
    go_wp2_with fail
    go_ret
    exact ⟨_, rfl, R.out⟩
  | true =>
    have f4 := sl_a4 w s
    have l4 := sl_l4 hX
    go_upto_region 3 with fail
    refine wp_region_lit ?_
    refine fl_start ?_
    generalize ha : Act.mk _ _ = a0
    have hn : a0.tmps.size = 24 := by rw [← ha]; kernel_rfl
    have h0 : (fr a0 []).eval (.tmp 0) = .pointer (some ⟨s, 0, none⟩) := by rw [← ha]; kernel_rfl
    refine fl_know hn rfl h0 ?_
    clear h0
    repeat first | refine g_mv hn ?_ | refine g_as hn ?_ | refine g_fd hn ?_ | refine g_ld hn ?_ | refine g_nc hn ?_ | refine g_nt hn ?_ | refine g_an hn ?_ | refine g_or hn ?_ | refine g_ln hn ?_ | refine g_ex hn ?_ | refine g_neq2 hn ?_ | refine g_neq hn ?_ | refine g_eql2 hn ?_ | refine g_eql hn ?_ | refine g_leq2 hn ?_ | refine g_leq hn ?_ | refine g_lss2 hn ?_ | refine g_lss hn ?_ | refine g_gtr2 hn ?_ | refine g_gtr hn ?_ | refine g_geq2 hn ?_ | refine g_geq hn ?_ | refine g_b0 hn ?_ | refine g_bn hn ?_ | refine g_bc hn ?_ | refine g_cv hn ?_ | refine g_ac hn ?_ | refine g_mc hn ?_
    refine fl_end ?_
    clear hn
    subst ha
    dsimp only [fr, cnd, Act.put, cond_true]
    simp only [List.setIfInBounds_toArray, List.set_cons_zero, List.set_cons_succ]
    clear f4 l4
    by_cases hz : bu = 0
    · subst hz
      have f5 := sl_a5 w s
      go_upto_region 4 with fail
      refine wp_region_lit ?_
      refine fl_start ?_
      generalize ha : Act.mk _ _ = a0
      have hn : a0.tmps.size = 24 := by rw [← ha]; kernel_rfl
      have h0 : (fr a0 []).eval (.tmp 0) = .pointer (some ⟨s, 0, none⟩) := by rw [← ha]; kernel_rfl
      refine fl_know hn rfl h0 ?_
      clear h0
      repeat first | refine g_mv hn ?_ | refine g_as hn ?_ | refine g_fd hn ?_ | refine g_ld hn ?_ | refine g_nc hn ?_ | refine g_nt hn ?_ | refine g_an hn ?_ | refine g_or hn ?_ | refine g_ln hn ?_ | refine g_ex hn ?_ | refine g_neq2 hn ?_ | refine g_neq hn ?_ | refine g_eql2 hn ?_ | refine g_eql hn ?_ | refine g_leq2 hn ?_ | refine g_leq hn ?_ | refine g_lss2 hn ?_ | refine g_lss hn ?_ | refine g_gtr2 hn ?_ | refine g_gtr hn ?_ | refine g_geq2 hn ?_ | refine g_geq hn ?_ | refine g_b0 hn ?_ | refine g_bn hn ?_ | refine g_bc hn ?_ | refine g_cv hn ?_ | refine g_ac hn ?_ | refine g_mc hn ?_
      refine g_stc hX (st_bool (j := 5) hX (by simp) true) ?_
      intro w2 ho hX2
      refine fl_end ?_
      clear hn
      subst ha
      dsimp only [fr, cnd, Act.put, cond_true]
      simp only [List.setIfInBounds_toArray, List.set_cons_zero, List.set_cons_succ]
      have lg := ld_err (hE.only ho hs)
      go_upto_region 5 with fail
      refine wp_region_lit ?_
      refine fl_start ?_
      generalize ha : Act.mk _ _ = a0
      have hn : a0.tmps.size = 24 := by rw [← ha]; kernel_rfl
      refine fl_op hn rfl (d := 16) (g := true) (v := .iface 93 (.pointer (some S))) rfl rfl (fun _ _ => x_lg (u := .pointer (some ⟨0, 0, none⟩)) rfl lg) ?_
      repeat first | refine g_mv hn ?_ | refine g_as hn ?_ | refine g_fd hn ?_ | refine g_ld hn ?_ | refine g_nc hn ?_ | refine g_nt hn ?_ | refine g_an hn ?_ | refine g_or hn ?_ | refine g_ln hn ?_ | refine g_ex hn ?_ | refine g_neq2 hn ?_ | refine g_neq hn ?_ | refine g_eql2 hn ?_ | refine g_eql hn ?_ | refine g_leq2 hn ?_ | refine g_leq hn ?_ | refine g_lss2 hn ?_ | refine g_lss hn ?_ | refine g_gtr2 hn ?_ | refine g_gtr hn ?_ | refine g_geq2 hn ?_ | refine g_geq hn ?_ | refine g_b0 hn ?_ | refine g_bn hn ?_ | refine g_bc hn ?_ | refine g_cv hn ?_ | refine g_ac hn ?_ | refine g_mc hn ?_
      refine fl_end ?_
      clear hn
      subst ha
      dsimp only [fr, cnd, Act.put, cond_true]
      simp only [List.setIfInBounds_toArray, List.set_cons_zero, List.set_cons_succ]
      have R : Hid (StR S s d1 d2 A n c true 0 de w (.iface 93 (.pointer (some S))) w2) := ⟨rfl, ho, hX2⟩
      clear hX hX2 lg f5
      go_wp2_with fail
      go_ret
      exact ⟨_, rfl, R.out⟩
    · have f4 := sl_a4 w s
      have l4 := sl_l4 hX
      have eb : (bu == 0) = false := by simpa using hz
      rw [eb]
      have sb : ((do eqGuard .sub 3 (.tmp 20) (.const (.int .i64 1)) (.int .i64 bu) (.int .i64 1); binOp .sub 3 (.int .i64 bu) (.int .i64 1)) : Sem Value).run Tryd.prog w = .ok (.int .i64 (bu - 1)) w := by
        have hw : IntKind.i64.wrap (bu - 1) = bu - 1 := by unfold IntKind.wrap; simp [IntKind.bits, IntKind.signed]; omega
        clear hX l4
        go_simp
      go_upto_region 6 with fail
      refine wp_region_lit ?_
      refine fl_start ?_
      generalize ha : Act.mk _ _ = a0
      have hn : a0.tmps.size = 24 := by rw [← ha]; kernel_rfl
      have h0 : (fr a0 []).eval (.tmp 0) = .pointer (some ⟨s, 0, none⟩) := by rw [← ha]; kernel_rfl
      refine fl_know hn rfl h0 ?_
      clear h0
      repeat first | refine g_mv hn ?_ | refine g_as hn ?_ | refine g_fd hn ?_ | refine g_ld hn ?_ | refine g_nc hn ?_ | refine g_nt hn ?_ | refine g_an hn ?_ | refine g_or hn ?_ | refine g_ln hn ?_ | refine g_ex hn ?_ | refine g_neq2 hn ?_ | refine g_neq hn ?_ | refine g_eql2 hn ?_ | refine g_eql hn ?_ | refine g_leq2 hn ?_ | refine g_leq hn ?_ | refine g_lss2 hn ?_ | refine g_lss hn ?_ | refine g_gtr2 hn ?_ | refine g_gtr hn ?_ | refine g_geq2 hn ?_ | refine g_geq hn ?_ | refine g_b0 hn ?_ | refine g_bn hn ?_ | refine g_bc hn ?_ | refine g_cv hn ?_ | refine g_ac hn ?_ | refine g_mc hn ?_
      refine g_stt hX (st_int (j := 4) hX (by simp) (bu - 1)) ?_
      intro w2 ho hX2
      refine fl_end ?_
      clear hn
      subst ha
      dsimp only [fr, cnd, Act.put, cond_true]
      simp only [List.setIfInBounds_toArray, List.set_cons_zero, List.set_cons_succ]
      have R : Hid (StR S s d1 d2 A n c true bu de w .nilIface w2) := by
        refine ⟨?_, ho, ?_⟩
        · unfold stV spentB
          rw [eb]
          rfl
        · have e1 : stB true bu = bu - 1 := if_pos ⟨rfl, hz⟩
          have e2 : stD true bu de = de := by
            unfold stD spentB
            rw [eb]
            rfl
          rw [e1, e2]
          exact hX2
      clear hX hX2 sb f4 l4
      go_wp2_with fail
      go_ret
      exact ⟨_, rfl, R.out⟩
def fileB (f : Int) : Bool := decide (0 ≤ f) && decide (f < 4096)
def placeB (f b : Int) : Bool := fileB f && decide (0 ≤ b) && decide (b < 1024)
set_option maxRecDepth 100000 in
set_option maxHeartbeats 4000000 in
theorem isFile_any (f : Int) (w : World) : Calls Tryd.prog 27 #[.int .i64 f] w fun e w' => e = .returned (.bool (fileB f)) ∧ w' = w := by
  go_enter Tryd.func27, Tryd.ntmps27
  go_upto_region 1 with fail
  refine wp_region_lit ?_
  refine fl_start ?_
  generalize ha : Act.mk _ _ = a0
  have hn : a0.tmps.size = 9 := by rw [← ha]; kernel_rfl
  have h0 : (fr a0 []).eval (.tmp 0) = .int .i64 f := by rw [← ha]; kernel_rfl
  refine fl_know hn rfl h0 ?_
  clear h0
  repeat first | refine g_mv hn ?_ | refine g_as hn ?_ | refine g_fd hn ?_ | refine g_ld hn ?_ | refine g_nc hn ?_ | refine g_nt hn ?_ | refine g_an hn ?_ | refine g_or hn ?_ | refine g_ln hn ?_ | refine g_ex hn ?_ | refine g_neq2 hn ?_ | refine g_neq hn ?_ | refine g_eql2 hn ?_ | refine g_eql hn ?_ | refine g_leq2 hn ?_ | refine g_leq hn ?_ | refine g_lss2 hn ?_ | refine g_lss hn ?_ | refine g_gtr2 hn ?_ | refine g_gtr hn ?_ | refine g_geq2 hn ?_ | refine g_geq hn ?_ | refine g_b0 hn ?_ | refine g_bn hn ?_ | refine g_bc hn ?_ | refine g_cv hn ?_ | refine g_ac hn ?_ | refine g_mc hn ?_
  refine fl_endb (c := fileB f) (rfl) ?_
  clear hn 
  subst ha
  dsimp only [fr, cnd, Act.put, cond_true]
  simp only [List.setIfInBounds_toArray, List.set_cons_zero, List.set_cons_succ]
  go_wp2_with fail
  go_ret
  exact ⟨rfl, rfl⟩
set_option maxRecDepth 100000 in
set_option maxHeartbeats 4000000 in
theorem isBlock_any (f b : Int) (w : World) : Calls Tryd.prog 23 #[.int .i64 f, .int .i64 b] w fun e w' => e = .returned (.bool (placeB f b)) ∧ w' = w := by
  go_enter Tryd.func23, Tryd.ntmps23
  go_upto_region 1 with fail
  refine wp_region_lit ?_
  refine fl_start ?_
  generalize ha : Act.mk _ _ = a0
  have hn : a0.tmps.size = 15 := by rw [← ha]; kernel_rfl
  have h0 : (fr a0 []).eval (.tmp 0) = .int .i64 f := by rw [← ha]; kernel_rfl
  refine fl_know hn rfl h0 ?_
  clear h0
  have h1 : (fr a0 [(0, true, .int .i64 f)]).eval (.tmp 1) = .int .i64 b := by rw [← ha]; kernel_rfl
  refine fl_know hn rfl h1 ?_
  clear h1
  refine g_mv hn ?_
  refine g_c1x enters_isFile hn (R := fun v w2 => v = .bool (fileB f) ∧ w2 = w) ((isFile_any f w).mono fun _ _ ⟨he, hw⟩ => ⟨_, he, rfl, hw⟩) ?_
  rintro v w2 ⟨rfl, rfl⟩
  repeat first | refine g_mv hn ?_ | refine g_as hn ?_ | refine g_fd hn ?_ | refine g_ld hn ?_ | refine g_nc hn ?_ | refine g_nt hn ?_ | refine g_an hn ?_ | refine g_or hn ?_ | refine g_ln hn ?_ | refine g_ex hn ?_ | refine g_neq2 hn ?_ | refine g_neq hn ?_ | refine g_eql2 hn ?_ | refine g_eql hn ?_ | refine g_leq2 hn ?_ | refine g_leq hn ?_ | refine g_lss2 hn ?_ | refine g_lss hn ?_ | refine g_gtr2 hn ?_ | refine g_gtr hn ?_ | refine g_geq2 hn ?_ | refine g_geq hn ?_ | refine g_b0 hn ?_ | refine g_bn hn ?_ | refine g_bc hn ?_ | refine g_cv hn ?_ | refine g_ac hn ?_ | refine g_mc hn ?_
  refine fl_endb (c := placeB f b) (rfl) ?_
  clear hn 
  subst ha
  dsimp only [fr, cnd, Act.put, cond_true]
  simp only [List.setIfInBounds_toArray, List.set_cons_zero, List.set_cons_succ]
  go_wp2_with fail
  go_ret
  exact ⟨rfl, rfl⟩
end Go.Proofs.YtjbmhbnlanbbkaaDoor

namespace Go.Proofs.YtjbmhbnlanbbkaaDoor
open Go.RowKit

/-- A slate, plainly. -/
structure Sl where
  (kept seen : Dk)
  pend : List Pw
  armed : Bool
  budget : Int
  dead : Bool
/-- It lies at s, all of it in blocks from B on. -/
def SlR (B : Nat) (W : World) (s : Nat) (M : Sl) : Prop :=
  ∃ (tg : Nat → Nat × Int) (d1 d2 : Nat) (f1 f2 : Int → Option Value) (A : Option Addr) (n c : Nat), Blk W s (slI d1 d2 A n c M.armed M.budget M.dead) 44 ∧ B ≤ s ∧ DkR B tg 0 W d1 M.kept f1 ∧ DkR B tg 1 W d2 M.seen f2 ∧ OwnX 61 66 B W A n c (M.pend.map Pw.cells) ∧
    (∀ x, x ∈ M.pend → x.l.length = 64) ∧ 0 ≤ M.budget ∧ M.budget ≤ 1099511627776 ∧ B ≤ W.heap.size
/-- What stays when a slate turns: all below B, and all cells that aren't a slate's or a write's. -/
structure StK (B : Nat) (W W' : World) : Prop where
  bel : Below B W W'
  cel : ∀ (x : Nat) (cs : Array Value) (t : TypeId) (fr : Nat × Nat), W.heap[x]? = some (Obj.cells cs t fr) → t ≠ 44 → t ≠ 61 → W'.heap[x]? = W.heap[x]?
theorem StK.refl (B : Nat) (W : World) : StK B W W := ⟨Below.refl _ _, fun _ _ _ _ _ _ _ => rfl⟩
theorem StK.trans {B : Nat} {a b c : World} (h : StK B a b) (k : StK B b c) : StK B a c :=
  ⟨h.bel.trans k.bel, fun x cs t fr hx h1 h2 => (k.cel x cs t fr ((h.cel x cs t fr hx h1 h2).trans hx) h1 h2).trans (h.cel x cs t fr hx h1 h2)⟩
theorem StK.of_below {B : Nat} {W W' : World} (h : Below W.heap.size W W') (hB : B ≤ W.heap.size) : StK B W W' := ⟨h.mono hB, fun x _ _ _ hx _ _ => h.block x (Array.getElem?_eq_some_iff.1 hx).1⟩
theorem SlR.below {B s : Nat} {W W' : World} {M : Sl} (h : SlR B W s M) (hb : Below W.heap.size W W') : SlR B W' s M := by
  obtain ⟨tg, d1, d2, f1, f2, A, n, c, h1, h2, h3, h4, h5, h6, h7, h8, h9⟩ := h
  exact ⟨tg, d1, d2, f1, f2, A, n, c, h1.keep hb, h2, h3.below hb, h4.below hb, h5.keep hb, h6, h7, h8, Nat.le_trans h9 hb.size⟩
def sl0 : Sl := ⟨fun _ => none, fun _ => none, [], false, 0, false⟩
theorem dk_new (B : Nat) (tg : Nat → Nat × Int) (k : Nat) (W : World) (hB : B ≤ W.heap.size) (ht : tg W.heap.size = (k, -1)) : DkR B tg k (W.alloc (.map #[] 0)) W.heap.size (fun _ => none) (fun _ => none) :=
  ⟨mpi_new W, hB, ht, fun _ _ => rfl, fun n v h => by cases h⟩
theorem enters_New : ∀ args w, (callFunc 4 args).run Tryd.prog w = .ok (.enter 4 args) w := enters_of Tryd.func4 (by kernel_rfl) rfl

theorem bd_sl (d1 d2 : Nat) (W : World) : (Instr.build 44 #[(0, .map (some d1)), (1, .map (some d2))]).run Tryd.prog W = .ok (.agg (slI d1 d2 none 0 0 false 0 false)) W := by kernel_rfl
theorem sl_one (d1 d2 : Nat) (A : Option Addr) (n c : Nat) (ar : Bool) (bu : Int) (de : Bool) : (slI d1 d2 A n c ar bu de).all (·.oneCell') = true := by simp [Value.oneCell']
def NewR (w : World) (M : Sl) (v : Value) (w' : World) : Prop := ∃ s, v = .pointer (some ⟨s, 0, none⟩) ∧ SlR w.heap.size w' s M ∧ Below w.heap.size w w'
set_option maxRecDepth 100000 in
set_option maxHeartbeats 4000000 in
theorem new_any (w : World) : Calls Tryd.prog 4 #[] w fun e w' => ∃ v, e = .returned v ∧ NewR w sl0 v w' := by
  go_enter Tryd.func4, Tryd.ntmps4
  go_upto_region 1 with fail
  refine wp_region_lit ?_
  refine fl_start ?_
  generalize ha : Act.mk _ _ = a0
  have hn : a0.tmps.size = 5 := by rw [← ha]; kernel_rfl
  refine g_w hn (w2 := w.alloc (.map #[] 0)) (v := .map (some w.heap.size)) (fun _ => by unfold execOp; dsimp only; rw [Option.map_none, Sem.run_bind, run_mk]; rfl) ?_
  have hm1 := dk_new w.heap.size (fun x => if x = w.heap.size then (0, -1) else (1, -1)) 0 w (Nat.le_refl _) (if_pos rfl)
  have hb1 := b0 w (.map #[] 0)
  have hs1 : (w.alloc (.map #[] 0)).heap.size = w.heap.size + 1 := by simp
  generalize w.alloc (.map #[] 0) = w1 at hm1 hb1 hs1 ⊢
  refine g_w hn (w2 := w1.alloc (.map #[] 0)) (v := .map (some w1.heap.size)) (fun _ => by unfold execOp; dsimp only; rw [Option.map_none, Sem.run_bind, run_mk]; rfl) ?_
  have hm2 := dk_new w.heap.size (fun x => if x = w.heap.size then (0, -1) else (1, -1)) 1 w1 (by omega) (if_neg (by omega))
  have hm1b := hm1.below (b0 w1 (.map #[] 0))
  have hb2 := bt hb1 (b0 w1 (.map #[] 0))
  have hs2 : (w1.alloc (.map #[] 0)).heap.size = w.heap.size + 2 := by simp [hs1]
  generalize w1.alloc (.map #[] 0) = w2 at hm2 hm1b hb2 hs2 ⊢
  generalize w1.heap.size = d2 at hm2 hs1 ⊢
  generalize hd1 : w.heap.size = d1 at hm1b hm2 hs1 hs2 hb2 ⊢
  refine g_bd hn ?_ (qs := #[(0, .map (some d1)), (1, .map (some d2))]) (v := .agg (slI d1 d2 none 0 0 false 0 false)) (hx := bd_sl d1 d2 w2) (hp := fun hk _ => by simp only [List.map_toArray, List.map_cons, List.map_nil, lk_at hk (i := 1) rfl (fun _ => rfl) rfl, lk_at hk (i := 2) rfl (fun _ => rfl) rfl])
  refine g_w hn (w2 := w2.alloc (.cells (slI d1 d2 none 0 0 false 0 false) 44)) (v := .pointer (some ⟨w2.heap.size, 0, none⟩)) (fun hk => by unfold execOp; dsimp only; rw [lk_at hk (i := 3) rfl (fun _ => rfl) rfl]; rfl) ?_
  repeat first | refine g_mv hn ?_ | refine g_as hn ?_ | refine g_fd hn ?_ | refine g_ld hn ?_ | refine g_nc hn ?_ | refine g_nt hn ?_ | refine g_an hn ?_ | refine g_or hn ?_ | refine g_ln hn ?_ | refine g_ex hn ?_ | refine g_neq2 hn ?_ | refine g_neq hn ?_ | refine g_eql2 hn ?_ | refine g_eql hn ?_ | refine g_leq2 hn ?_ | refine g_leq hn ?_ | refine g_lss2 hn ?_ | refine g_lss hn ?_ | refine g_gtr2 hn ?_ | refine g_gtr hn ?_ | refine g_geq2 hn ?_ | refine g_geq hn ?_ | refine g_b0 hn ?_ | refine g_bn hn ?_ | refine g_bc hn ?_ | refine g_cv hn ?_ | refine g_ac hn ?_ | refine g_mc hn ?_
  refine fl_end ?_
  clear hn
  subst ha
  dsimp only [fr, cnd, Act.put, cond_true]
  simp only [List.setIfInBounds_toArray, List.set_cons_zero, List.set_cons_succ]
  go_wp2_with fail
  go_ret
  have hbl := b0 w2 (.cells (slI d1 d2 none 0 0 false 0 false) 44)
  refine ⟨_, rfl, w2.heap.size, rfl, ?_, ?_⟩
  · rw [hd1]
    refine ⟨_, d1, d2, _, _, none, 0, 0, blk_new w2 (slI d1 d2 none 0 0 false 0 false) 44, ?_, hm1b.below hbl, hm2.below hbl, OwnX.nil _ _ _ _, fun x hx => ?_, ?_, ?_, ?_⟩
    · omega
    · have hx' : x ∈ ([] : List Pw) := hx
      simp at hx'
    · show (0 : Int) ≤ 0
      omega
    · show (0 : Int) ≤ 1099511627776
      omega
    · have := hbl.size
      omega
  · rw [hd1]
    exact hb2.trans (hbl.mono (by omega))
end Go.Proofs.YtjbmhbnlanbbkaaDoor

namespace Go.Proofs.YtjbmhbnlanbbkaaDoor
open Go.RowKit

theorem run_apG {P : Program} (w : World) {t t' e' ty el : TypeId} {i : TypeInfo} {z y : Nat} {zv : Value} (ht : P.underlying t = some (.slice el)) (ht' : P.underlying t' = some (.slice e')) (hi : P.info? el = some i) (hz : i.zero = some zv) (hs : i.size = z) (hy : i.bytes = y) (hzs : zv.cells.size = z) (hz0 : 0 < z) (hy0 : y ≤ 1000)
    {base : Nat} {A : Option Addr} {ad : Addr} {n c d : Nat} {l : List (Array Value)} {x : Array Value} (hown : OwnX el z base w A n c l) (hx : x.size = z) (h1 : ∀ u ∈ x.toList, u.oneCell' = true) (hr : ∀ j v, x[j]? = some v → w.cell? (ad.add j) = some v) (hsz : n ≤ 1000000000) (hbase : base ≤ w.heap.size) :
    ∃ A' c' w', (Builtin.append_ #[t, t'] ty #[.slice A n c, .slice (some ad) 1 d]).run P w = .ok (.slice A' (n + 1) c') w' ∧ OwnX el z base w' A' (n + 1) c' (l ++ [x]) ∧ w.grownBy w' (A.map (·.block)) := by
  obtain ⟨v', w', hrun, h2, h3, _, _⟩ := run_append_own_at (P := P) w base t ty el i zv z y ht hi hz hs hy hzs hz0 (.slice A n c) n (celV l) hown.1 ad 1 d x.toList (by rw [Array.length_toList, hx, Nat.one_mul]) (fun j u hu => hr j u (by rw [← Array.getElem?_toList]; exact hu)) h1
    (by unfold maxLen; omega) (Nat.le_trans (Nat.mul_le_mul (show n + 1 ≤ 1000000001 by omega) hy0) (by omega)) hbase
  have hv : ∃ A' c', v' = .slice A' (n + 1) c' := by
    rcases h2.2 with ⟨_, e2⟩ | ⟨g, cap, cur, e1, _⟩
    · omega
    · exact ⟨_, _, e1⟩
  obtain ⟨A', c', rfl⟩ := hv
  refine ⟨A', c', w', by rw [run_append_tt w ht ht']; exact hrun, ⟨?_, ?_, ?_⟩, by cases A <;> exact h3⟩
  · rw [show celV (l ++ [x]) = celV l ++ x.toList by simp [celV]]
    exact h2
  · intro cs hc
    rcases List.mem_append.1 hc with h | h
    · exact hown.2.1 cs h
    · rw [List.mem_singleton.1 h]
      exact hx
  · rw [List.length_append, hown.2.2]
    rfl
/-! Two operations that may come up. -/
section
variable {P : Program} {l : List Oper} {Q : Exit → Act → World → Prop} {S : World → Prop} {fuel : Nat} {listed : Array Bool} {a0 : Act} {L : List (Nat × Bool × Value)} {w : World}
/-- An operation taken now, whatever it does. -/
def FHone (P : Program) (l : List Oper) (Q : Exit → Act → World → Prop) (S : World → Prop) (fuel : Nat) (listed : Array Bool) (a0 : Act) (L : List (Nat × Bool × Value)) (w : World) (i : Nat) : Prop :=
  (∀ p, p ∈ L → p.1 < a0.tmps.size) → wpOp P l.toArray Q i (fun a' w' => S w' ∧ wpAnyH P .any l.toArray Q S fuel (listed.setIfInBounds i true) a' w') (fr a0 L) w
theorem fh_two {i j : Nat} (hr : Region.ready .any l.toArray listed = [i, j]) (h1 : FHone P l Q S fuel listed a0 L w i) (h2 : FHone P l Q S fuel listed a0 L w j) : FH P l Q S (fuel + 1) listed a0 L w := by
  refine ⟨fun hk => wpAnyH_all hr (by simp) fun m hm => ?_⟩
  rcases List.mem_cons.1 hm with rfl | hm
  · exact h1 hk
  · have e : m = j := by simpa using hm
    subst e
    exact h2 hk
theorem one_valx {i : Nat} {oi : Oper} {d n : Nat} {v : Value} {w2 : World} (hn : a0.tmps.size = n) (ho : oi.dst = some d) (hx : (∀ p, p ∈ L → p.1 < a0.tmps.size) → (execOp (fr a0 L).eval oi).run P w = .ok (.value v) w2)
    (hS : S w2) (h : FH P l Q S fuel (listed.setIfInBounds i true) a0 ((d, true, v) :: L) w2) (hi : l.toArray[i]? = some oi) (hd : Nat.blt d n = true) (hw : wtG l L oi.guard = some true) : FHone P l Q S fuel listed a0 L w i := by
  intro hk
  unfold wpOp
  simp only [hi, wt_is hk hw, if_true]
  refine .inl ?_
  unfold Oper.wp
  rw [hx hk, Oper.upon_value, ho]
  exact ⟨hS, h.go (fun p hp => by
    rcases List.mem_cons.1 hp with e | e
    · rw [e, hn]; exact blt_lt hd
    · exact hk p e)⟩
end
theorem x_ap {P : Program} {w w2 : World} {i j : Nat} {ts : Array TypeId} {ty : TypeId} {d : Option Tmp} {p : String} {af : Array Edge} {gd : Option (Nat × Bool)} {ρ : Operand → Value} {vi vj v : Value} (h1 : ρ (.tmp i) = vi) (h2 : ρ (.tmp j) = vj) (hr : (Builtin.append_ ts ty #[vi, vj]).run P w = .ok v w2) :
    (execOp ρ ⟨d, .call { callee := .builtin .append, args := #[.tmp i, .tmp j], argTypes := ts }, ty, p, af, gd⟩).run P w = .ok (.value v) w2 := by
  unfold execOp
  simp only [resolve, invoke, builtin, Sem.run_bind, Sem.run_pure, Result.andThen_ok, List.map_toArray, List.map_cons, List.map_nil, h1, h2, hr]
theorem x_cp {P : Program} {w w2 : World} {i j : Nat} {ts : Array TypeId} {ty : TypeId} {d : Option Tmp} {p : String} {af : Array Edge} {gd : Option (Nat × Bool)} {ρ : Operand → Value} {vi vj v : Value} (h1 : ρ (.tmp i) = vi) (h2 : ρ (.tmp j) = vj) (hr : (Builtin.copy_ ts ty #[vi, vj]).run P w = .ok v w2) :
    (execOp ρ ⟨d, .call { callee := .builtin .copy, args := #[.tmp i, .tmp j], argTypes := ts }, ty, p, af, gd⟩).run P w = .ok (.value v) w2 := by
  unfold execOp
  simp only [resolve, invoke, builtin, Sem.run_bind, Sem.run_pure, Result.andThen_ok, List.map_toArray, List.map_cons, List.map_nil, h1, h2, hr]
end Go.Proofs.YtjbmhbnlanbbkaaDoor
