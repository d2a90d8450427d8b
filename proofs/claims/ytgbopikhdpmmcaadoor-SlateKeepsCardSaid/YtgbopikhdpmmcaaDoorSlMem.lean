/-
  WHAT IS PROVED: plain words for a slate: writes, disks (which file has which block), what a block is; how a disk lies in memory; what stays of the memory when one turns. Over this program
-/
import Derived.Test.YtgbopikhdpmmcaaDoorMapI
import Derived.Test.YtgbopikhdpmmcaaDoorRowX
import Derived.Test.YtgbopikhdpmmcaaDoorFastH
import Derived.Deep.MidRow
namespace Go.Proofs.YtgbopikhdpmmcaaDoor
open Go.RowKit

def bkA (l : List UInt8) : Array Value := (l.map fun u => Value.int .u8 (u.toNat : Int)).toArray
theorem bkA_size (l : List UInt8) : (bkA l).size = l.length := by simp [bkA]
theorem bkA_one (l : List UInt8) : (bkA l).all (·.oneCell') = true := by
  rw [Array.all_eq_true_iff_forall_mem]
  intro v hv
  unfold bkA at hv
  simp only [List.mem_toArray, List.mem_map] at hv
  obtain ⟨u, _, rfl⟩ := hv
  rfl
/-- A write: a file, a block, what it is of. -/
structure Pw where
  (f b : Int)
  l : List UInt8
def Pw.cells (x : Pw) : Array Value := #[.int .i64 x.f, .int .i64 x.b] ++ bkA x.l
theorem pw_size {x : Pw} (h : x.l.length = 64) : x.cells.size = 66 := by
  unfold Pw.cells
  rw [Array.size_append, bkA_size, h]
  rfl
theorem pw_one (x : Pw) : x.cells.all (·.oneCell') = true := by
  unfold Pw.cells
  rw [Array.all_append, bkA_one]
  simp [Value.oneCell']
theorem pw_0 (x : Pw) : x.cells[0]? = some (.int .i64 x.f) := by unfold Pw.cells; rw [Array.getElem?_append_left (by simp)]; rfl
theorem pw_1 (x : Pw) : x.cells[1]? = some (.int .i64 x.b) := by unfold Pw.cells; rw [Array.getElem?_append_left (by simp)]; rfl
theorem pw_at (x : Pw) (j : Nat) : x.cells[2 + j]? = (bkA x.l)[j]? := by
  unfold Pw.cells
  rw [Array.getElem?_append_right (by simp)]
  congr 1
  simp
/-- A disk: of each file that has blocks, by its number, what is written in which block. -/
abbrev Dk := Int → Option (Int → Option (List UInt8))
def noF : Int → Option (List UInt8) := fun _ => none
def putF (g : Int → Option (List UInt8)) (b : Int) (l : List UInt8) : Int → Option (List UInt8) := fun m => if m = b then some l else g m
def putD (D : Dk) (w : Pw) : Dk := fun f => if f = w.f then some (putF ((D f).getD noF) w.b w.l) else D f
def delD (D : Dk) (f : Int) : Dk := fun n => if n = f then none else D n
def z64 : List UInt8 := List.replicate 64 0
def blkD (D : Dk) (f b : Int) : List UInt8 := ((D f).bind (· b)).getD z64
def mpV (g : Int → Option (List UInt8)) : Int → Option Value := fun m => (g m).map fun l => .agg (bkA l)
/-- A disk in memory: the maps' blocks bear tags. -/
structure DkR (B : Nat) (tg : Nat → Nat × Int) (k : Nat) (W : World) (d : Nat) (D : Dk) (f : Int → Option Value) : Prop where
  mp : MpI W d f
  lo : B ≤ d
  tag : tg d = (k, -1)
  no : ∀ n, f n = none → D n = none
  yes : ∀ n v, f n = some v → ∃ c g, v = .map (some c) ∧ tg c = (k + 2, n) ∧ B ≤ c ∧ D n = some g ∧ MpI W c (mpV g) ∧ ∀ m l, g m = some l → l.length = 64
/-- What stays when a disk turns: all that isn't a map of it. -/
structure DoK (B : Nat) (tg : Nat → Nat × Int) (k : Nat) (W W' : World) : Prop where
  bel : Below B W W'
  cel : ∀ (x : Nat) (cs : Array Value) (t : TypeId) (fr : Nat × Nat), W.heap[x]? = some (Obj.cells cs t fr) → W'.heap[x]? = W.heap[x]?
  oth : ∀ (x : Nat), x < W.heap.size → (tg x).1 ≠ k → (tg x).1 ≠ k + 2 → W'.heap[x]? = W.heap[x]?
theorem DoK.refl (B : Nat) (tg : Nat → Nat × Int) (k : Nat) (W : World) : DoK B tg k W W := ⟨Below.refl _ _, fun _ _ _ _ _ => rfl, fun _ _ _ _ => rfl⟩
theorem DoK.blk {B : Nat} {tg : Nat → Nat × Int} {k : Nat} {W W' : World} (h : DoK B tg k W W') {b : Nat} {cs : Array Value} {t : TypeId} (hX : Blk W b cs t) : Blk W' b cs t := (h.cel b cs t (0, 0) hX).trans hX
theorem DkR.keep {B : Nat} {tg tg' : Nat → Nat × Int} {k : Nat} {W W' : World} {d : Nat} {D : Dk} {f : Int → Option Value} (h : DkR B tg k W d D f) (ht : ∀ x, x < W.heap.size → tg' x = tg x) (hh : ∀ x, x < W.heap.size → (tg x).1 = k ∨ (tg x).1 = k + 2 → W'.heap[x]? = W.heap[x]?) : DkR B tg' k W' d D f := by
  have hd := h.mp.lt
  refine ⟨h.mp.same (hh d hd (.inl (by rw [h.tag]))), h.lo, (ht d hd).trans h.tag, h.no, fun n v hv => ?_⟩
  obtain ⟨c, g, e, hc, hB, hD, hm, hl⟩ := h.yes n v hv
  exact ⟨c, g, e, (ht c hm.lt).trans hc, hB, hD, hm.same (hh c hm.lt (.inr (by rw [hc]))), hl⟩
theorem DkR.below {B : Nat} {tg : Nat → Nat × Int} {k : Nat} {W W' : World} {d : Nat} {D : Dk} {f : Int → Option Value} (h : DkR B tg k W d D f) (hb : Below W.heap.size W W') : DkR B tg k W' d D f := h.keep (fun _ _ => rfl) fun x hx _ => hb.block x hx
theorem DkR.maps {B : Nat} {tg : Nat → Nat × Int} {k : Nat} {W W' : World} {d : Nat} {D : Dk} {f : Int → Option Value} (h : DkR B tg k W d D f) (hh : ∀ (x : Nat) (es : Array MapEntry) (cl : Nat), W.heap[x]? = some (Obj.map es cl) → W'.heap[x]? = W.heap[x]?) : DkR B tg k W' d D f := by
  have hm : ∀ {x : Nat} {g : Int → Option Value}, MpI W x g → MpI W' x g := fun {x g} hx => by
    obtain ⟨es, cl, hb, _⟩ := id hx
    exact hx.same (hh x es cl hb)
  refine ⟨hm h.mp, h.lo, h.tag, h.no, fun n v hv => ?_⟩
  obtain ⟨c, g, e, hc, hB, hD, hmp, hl⟩ := h.yes n v hv
  exact ⟨c, g, e, hc, hB, hD, hm hmp, hl⟩
theorem DkR.only {B : Nat} {tg : Nat → Nat × Int} {k : Nat} {W W' : World} {d s : Nat} {D : Dk} {f : Int → Option Value} {cs : Array Value} {t : TypeId} (h : DkR B tg k W d D f) (hX : Blk W s cs t) (ho : Only1 s W W') : DkR B tg k W' d D f :=
  h.maps fun x es cl hx => ho.block x (by
    rintro rfl
    unfold Blk at hX
    rw [hx] at hX
    cases hX)
theorem OwnX.same {t : TypeId} {z base : Nat} {W W' : World} {A : Option Addr} {n c : Nat} {l : List (Array Value)} (h : OwnX t z base W A n c l) (hh : ∀ (x : Nat) (cs : Array Value), Blk W x cs t → W'.heap[x]? = W.heap[x]?) : OwnX t z base W' A n c l := by
  refine ⟨⟨h.1.1, ?_⟩, h.2⟩
  rcases h.1.2 with h | ⟨g, cap, cur, h1, h2, h3, h4⟩
  · exact .inl h
  · exact .inr ⟨g, cap, cur, h1, h2, (hh g cur h3).trans h3, h4⟩
theorem OwnX.only {t t2 : TypeId} {z base s : Nat} {W W' : World} {A : Option Addr} {n c : Nat} {l : List (Array Value)} {cs : Array Value} (h : OwnX t z base W A n c l) (hX : Blk W s cs t2) (ho : Only1 s W W') (hne : t ≠ t2) : OwnX t z base W' A n c l :=
  h.same fun x cs2 hx => ho.block x (by
    rintro rfl
    unfold Blk at hX hx
    rw [hx] at hX
    injection hX with hX
    injection hX with _ hX _
    exact hne hX)
theorem OwnX.row {t : TypeId} {z base : Nat} {W : World} {A : Option Addr} {n c : Nat} {l : List (Array Value)} (h : OwnX t z base W A n c l) {a : Addr} (ha : A = some a) : base ≤ a.block ∧ ∃ cs, Blk W a.block cs t := by
  rcases h.1.2 with ⟨h1, _⟩ | ⟨g, cap, cur, h1, h2, h3, _⟩
  · injection h1 with h1
    rw [h1] at ha
    cases ha
  · injection h1 with h1
    rw [h1] at ha
    cases ha
    exact ⟨h2, _, h3⟩
/-! Operations on maps, as steps of a chain. -/
theorem mUnd : Tryd.prog.underlying 78 = some (.map 3 89) := by kernel_rfl
theorem mUnd2 : Tryd.prog.underlying 89 = some (.map 3 85) := by kernel_rfl
theorem iUnd : Tryd.prog.underlying 3 = some (.int .i64) := by kernel_rfl
theorem zM (W : World) : (zeroValue 89).run Tryd.prog W = .ok (.map none) W := by kernel_rfl
abbrev zA : Value := .agg #[.int .u8 0, .int .u8 0, .int .u8 0, .int .u8 0, .int .u8 0, .int .u8 0, .int .u8 0, .int .u8 0, .int .u8 0, .int .u8 0, .int .u8 0, .int .u8 0, .int .u8 0, .int .u8 0, .int .u8 0, .int .u8 0, .int .u8 0, .int .u8 0, .int .u8 0, .int .u8 0, .int .u8 0, .int .u8 0, .int .u8 0, .int .u8 0, .int .u8 0, .int .u8 0, .int .u8 0, .int .u8 0, .int .u8 0, .int .u8 0, .int .u8 0, .int .u8 0, .int .u8 0, .int .u8 0, .int .u8 0, .int .u8 0, .int .u8 0, .int .u8 0, .int .u8 0, .int .u8 0, .int .u8 0, .int .u8 0, .int .u8 0, .int .u8 0, .int .u8 0, .int .u8 0, .int .u8 0, .int .u8 0, .int .u8 0, .int .u8 0, .int .u8 0, .int .u8 0, .int .u8 0, .int .u8 0, .int .u8 0, .int .u8 0, .int .u8 0, .int .u8 0, .int .u8 0, .int .u8 0, .int .u8 0, .int .u8 0, .int .u8 0, .int .u8 0]
theorem zA_is : zA = .agg (bkA z64) := by kernel_rfl
theorem zB (W : World) : (zeroValue 85).run Tryd.prog W = .ok (.agg (bkA z64)) W := by
  rw [← zA_is]
  kernel_rfl
section
variable {P : Program} {l : List Oper} {Q : Exit → Act → World → Prop} {rest : List Oper} {a0 : Act} {L : List (Nat × Bool × Value)} {w : World}
theorem x_mu {i j k : Nat} {t ty : TypeId} {p : String} {af : Array Edge} {gd : Option (Nat × Bool)} {vi vj vk : Value} {w2 : World} {ρ : Operand → Value} (h1 : ρ (.tmp i) = vi) (h2 : ρ (.tmp j) = vj) (h3 : ρ (.tmp k) = vk) (hr : (Instr.mapUpdate t vi vj vk).run P w = .ok () w2) :
    (execOp ρ ⟨none, .mapUpdate t (.tmp i) (.tmp j) (.tmp k), ty, p, af, gd⟩).run P w = .ok .skip w2 := by
  unfold execOp
  dsimp only
  rw [h1, h2, h3, Sem.run_bind, hr]
  rfl
theorem g_mu {i j k : Nat} {t ty : TypeId} {p : String} {af : Array Edge} {gd : Option (Nat × Bool)} {vi vj vk : Value} {w2 : World} (hr : (Instr.mapUpdate t vi vj vk).run P w = .ok () w2) (h : FL P l Q rest a0 L w2) (hw : wtG l L gd = some true := by rfl) (hi : lk L i = some (true, vi) := by rfl) (hj : lk L j = some (true, vj) := by rfl) (hk : lk L k = some (true, vk) := by rfl) : FL P l Q (⟨none, .mapUpdate t (.tmp i) (.tmp j) (.tmp k), ty, p, af, gd⟩ :: rest) a0 L w :=
  fl_skip rfl hw (fun hh => x_mu (lk_at hh hi (fun _ => rfl) rfl) (lk_at hh hj (fun _ => rfl) rfl) (lk_at hh hk (fun _ => rfl) rfl) hr) h
end
theorem run_mk (t : TypeId) (W : World) : (Instr.makeMap t none).run Tryd.prog W = .ok (.map (some W.heap.size)) (W.alloc (.map #[] 0)) := rfl
theorem eq_nil1 (c : Nat) (W : World) : ((do eqGuard .eql 89 (.tmp 7) (.const (.map none)) (.map (some c)) (.map none); binOp .eql 89 (.map (some c)) (.map none)) : Sem Value).run Tryd.prog W = .ok (.bool false) W := by kernel_rfl
theorem eq_nil0 (W : World) : ((do eqGuard .eql 89 (.tmp 7) (.const (.map none)) (.map none) (.map none); binOp .eql 89 (.map none) (.map none)) : Sem Value).run Tryd.prog W = .ok (.bool true) W := by kernel_rfl
theorem pw_f0 (W : World) (b : Nat) : (Instr.fieldAt 87 (.pointer (some ⟨b, 0, none⟩)) 0).run Tryd.prog W = .ok (.pointer (some ⟨b, 0, none⟩)) W := by kernel_rfl
theorem pw_f1 (W : World) (b : Nat) : (Instr.fieldAt 87 (.pointer (some ⟨b, 0, none⟩)) 1).run Tryd.prog W = .ok (.pointer (some ⟨b, 1, none⟩)) W := by kernel_rfl
theorem pw_f2 (W : World) (b : Nat) : (Instr.fieldAt 87 (.pointer (some ⟨b, 0, none⟩)) 2).run Tryd.prog W = .ok (.pointer (some ⟨b, 2, none⟩)) W := by kernel_rfl
section
variable {W : World} {b : Nat} {x : Pw} {t : TypeId}
theorem pw_l0 (h : Blk W b x.cells t) : (Instr.loadAt 3 (.pointer (some ⟨b, 0, none⟩))).run Tryd.prog W = .ok (.int .i64 x.f) W := load_int ((h.cell 0).trans (pw_0 x))
theorem pw_l1 (h : Blk W b x.cells t) : (Instr.loadAt 3 (.pointer (some ⟨b, 1, none⟩))).run Tryd.prog W = .ok (.int .i64 x.b) W := load_int ((h.cell 1).trans (pw_1 x))
theorem pw_l2 (h : Blk W b x.cells t) (hl : x.l.length = 64) : (Instr.loadAt 85 (.pointer (some ⟨b, 2, none⟩))).run Tryd.prog W = .ok (.agg (bkA x.l)) W := by
  have hi : (Tryd.prog.info? 85).map (·.size) = some 64 := by kernel_rfl
  have := run_loadAt_mid (P := Tryd.prog) W b 2 85 (bkA x.l).toList _ (fun j v hv => ((h.cell (2 + j)).trans (pw_at x j)).trans ((Array.getElem?_toList ..).symm.trans hv)) Tryd.underlying85 rfl (by rw [hi, Array.length_toList, bkA_size, hl])
  simpa using this
theorem pw_la (h : Blk W b x.cells t) (hl : x.l.length = 64) : (Instr.loadAt 87 (.pointer (some ⟨b, 0, none⟩))).run Tryd.prog W = .ok (.agg x.cells) W := by
  have hi : (Tryd.prog.info? 87).map (·.size) = some 66 := by kernel_rfl
  have := run_loadAt_mid (P := Tryd.prog) W b 0 87 x.cells.toList _ (fun j v hv => by rw [Nat.zero_add]; exact (h.cell j).trans ((Array.getElem?_toList ..).symm.trans hv)) Tryd.underlying87 rfl (by rw [hi, Array.length_toList, pw_size hl])
  simpa using this
end
end Go.Proofs.YtgbopikhdpmmcaaDoor
