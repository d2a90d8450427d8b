/-
  WHAT IS PROVED: notes and acts in memory; what a slate keeps, told by notes. Conditions: those typed in each theorem. · arguments that are a slice of acts, or of flags: opened (own work, over any program that bears the types named). · of the document's slate (spinneyref09): Place; New; a step of a slate without a budget. Conditions: those typed in each theorem. · of the document's slate: a list that is nil without a file's writes; its fields read and stored. Conditions: those typed in each theorem.
-/
import Derived.Test.YtjbmhbnlanbbkaaDoorGQ7
import Derived.Test.YtjbmhbnlanbbkaaDoorGQ8
import Derived.Great.BuildSlice
import Derived.Test.YtjbmhbnlanbbkaaDoorGQ0
import Derived.Lib.SmallJoins
import Derived.Deep.Slices
import Derived.Test.YtjbmhbnlanbbkaaDoorGQ3
import Derived.Deep.MidRow
namespace Go.Proofs.YtjbmhbnlanbbkaaDoor
open Go.RowKit

/-! Notes. -/
def strL (l : List UInt8) : ByteArray := ⟨l.toArray⟩
def noC (x : Pw) : Array Value := #[.int .i64 x.f, .int .i64 x.b, .string (strL x.l)]
theorem no_oneC (x : Pw) : (noC x).all (·.oneCell') = true := by
  show (([.int .i64 x.f, .int .i64 x.b, .string (strL x.l)] : List Value).toArray).all _ = true
  rw [List.all_toArray]
  simp [Value.oneCell']
theorem no_szd (ws : List Pw) : Szd 3 (ws.map noC) := fun cs hc => by
  obtain ⟨x, _, rfl⟩ := List.mem_map.1 hc
  rfl
theorem no_ones (ws : List Pw) : ∀ x, x ∈ ws.map noC → ∀ u ∈ x.toList, u.oneCell' = true := fun cs hc u hu => by
  obtain ⟨x, _, rfl⟩ := List.mem_map.1 hc
  have h := no_oneC x
  rw [Array.all_eq_true'] at h
  exact h u (Array.mem_toList_iff.1 hu)
section
variable {l : List Oper} {Q : Exit → Act → World → Prop} {rest : List Oper} {a0 : Act} {L : List (Nat × Bool × Value)} {w : World}
end
theorem lstr {W : World} {a : Addr} {t : ByteArray} (h : W.cell? a = some (.string t)) : (Instr.loadAt 9 (.pointer (some a))).run Tryd.prog W = .ok (.string t) W := by go_simp
theorem lsl {W : World} {a : Addr} {n c : Nat} {t : TypeId} (ht : t = 28 ∨ t = 29) {A : Option Addr} (h : W.cell? a = some (.slice A n c)) : (Instr.loadAt t (.pointer (some a))).run Tryd.prog W = .ok (.slice A n c) W := by
  rcases ht with rfl | rfl
  · go_simp
  · go_simp
/-- A row of the call's own, where a slate turns. -/
theorem OwnX.stk {t : TypeId} {z base B : Nat} {W W' : World} {A : Option Addr} {n c : Nat} {l : List (Array Value)} (h : OwnX t z base W A n c l) (hk : StK B W W') (h1 : t ≠ 44) (h2 : t ≠ 61) : OwnX t z base W' A n c l := by
  refine ⟨⟨h.1.1, ?_⟩, h.2⟩
  rcases h.1.2 with h | ⟨g2, cap, cur, k1, k2, k3, k4⟩
  · exact .inl h
  · exact .inr ⟨g2, cap, cur, k1, k2, (hk.cel g2 cur t (0, 0) k3 h1 h2).trans k3, k4⟩
theorem Blk.stk {t : TypeId} {B b : Nat} {W W' : World} {cs : Array Value} (h : Blk W b cs t) (hk : StK B W W') (h1 : t ≠ 44) (h2 : t ≠ 61) : Blk W' b cs t := (hk.cel b cs t (0, 0) h h1 h2).trans h

/-- Rows in blocks of their own. -/
def Dj (A A2 : Option Addr) : Prop := ∀ a a2, A = some a → A2 = some a2 → a.block ≠ a2.block
theorem Dj.symm {A A2 : Option Addr} (h : Dj A A2) : Dj A2 A := fun a a2 h1 h2 => (h a2 a h2 h1).symm
theorem Dj.nil (A : Option Addr) : Dj A none := fun a a2 _ h => nomatch h
/-- Behind an append to the first one. -/
theorem Dj.ap {A A2 A' : Option Addr} {w : World} (h : Dj A A2) (hA : A'.map (·.block) = A.map (·.block) ∨ A'.map (·.block) = some w.heap.size) (h2 : ∀ a, A2 = some a → a.block < w.heap.size) : Dj A' A2 := fun a a2 e1 e2 => by
  subst e1 e2
  rcases hA with e | e
  · cases A with
    | none => cases e
    | some b => injection e with e; intro e3; exact h b a2 rfl rfl (e.symm.trans e3)
  · injection e with e
    have e4 : a.block = w.heap.size := e
    have := h2 a2 rfl
    omega
/-- A row beside one that was appended to. -/
theorem OwnX.aside {t : TypeId} {z base : Nat} {W W' : World} {A A2 : Option Addr} {n c : Nat} {l : List (Array Value)} (h : OwnX t z base W A2 n c l) (hk : ∀ x, x < W.heap.size → (∀ a, A = some a → a.block ≠ x) → W'.heap[x]? = W.heap[x]?) (hd : Dj A A2) : OwnX t z base W' A2 n c l := by
  refine ⟨⟨h.1.1, ?_⟩, h.2⟩
  rcases h.1.2 with h1 | ⟨g2, cap, cur, k1, k2, k3, k4⟩
  · exact .inl h1
  · have e : A2 = some ⟨g2, 0, none⟩ := by injection k1
    refine .inr ⟨g2, cap, cur, k1, k2, (hk g2 (Array.getElem?_eq_some_iff.1 k3).1 fun a ha => ?_).trans k3, k4⟩
    exact hd a ⟨g2, 0, none⟩ ha e
/-! Acts. -/
structure Ac where
  (k f b n : Int)
  l : List UInt8
  ks : List Bool
  (A1 A2 : Option Addr)
  (n1 c1 n2 c2 : Nat)
abbrev tAc : TypeId := 31
abbrev acI (k f b n : Int) (A1 : Option Addr) (n1 c1 : Nat) (A2 : Option Addr) (n2 c2 : Nat) : Array Value := #[.int .i64 k, .int .i64 f, .int .i64 b, .int .i64 n, .slice A1 n1 c1, .slice A2 n2 c2]
abbrev Ac.cells (x : Ac) : Array Value := acI x.k x.f x.b x.n x.A1 x.n1 x.c1 x.A2 x.n2 x.c2
/-- What its slices read. -/
def Ac.rd (B : Nat) (W : World) (x : Ac) : Prop := RdB B W x.A1 x.l ∧ x.l.length = x.n1 ∧ RdK B W x.A2 x.ks ∧ x.ks.length = x.n2 ∧ x.n1 ≤ x.c1 ∧ x.c1 ≤ maxLen
theorem Ac.rd.keep {B C : Nat} {W W' : World} {x : Ac} (h : x.rd B W) (hb : Below C W W') (hBC : B ≤ C) : x.rd B W' := ⟨h.1.keep hb hBC, h.2.1, h.2.2.1.keep hb hBC, h.2.2.2⟩
theorem ac_oneC (x : Ac) : x.cells.all (·.oneCell') = true := by
  show (([.int .i64 x.k, .int .i64 x.f, .int .i64 x.b, .int .i64 x.n, .slice x.A1 x.n1 x.c1, .slice x.A2 x.n2 x.c2] : List Value).toArray).all _ = true
  rw [List.all_toArray]
  simp [Value.oneCell']
theorem alA6 (w : World) : (Instr.alloc tAc true (.tuple #[])).run Tryd.prog w = .ok (.pointer (some ⟨w.heap.size, 0, none⟩)) (w.alloc (.cells (acI 0 0 0 0 none 0 0 none 0 0) tAc)) := by kernel_rfl
theorem aix (W : World) (ad : Addr) (n c k : Nat) (h : k < n) : (Instr.indexAt 22 (.slice (some ad) n c) (.int .i64 (k : Int))).run Tryd.prog W = .ok (.pointer (some (ad.add (k * 6)))) W := by
  have i1 : (0 : Int) ≤ (k : Int) := by omega
  have i2 : (k : Int) < (n : Int) := by omega
  go_simp
theorem ald0 {W : World} {a : Addr} {x : Ac} (c0 : W.cell? a = some (.int .i64 x.k)) (c1 : W.cell? ⟨a.block, a.off + 1, none⟩ = some (.int .i64 x.f)) (c2 : W.cell? ⟨a.block, a.off + 2, none⟩ = some (.int .i64 x.b)) (c3 : W.cell? ⟨a.block, a.off + 3, none⟩ = some (.int .i64 x.n)) (c4 : W.cell? ⟨a.block, a.off + 4, none⟩ = some (.slice x.A1 x.n1 x.c1)) (c5 : W.cell? ⟨a.block, a.off + 5, none⟩ = some (.slice x.A2 x.n2 x.c2)) : (Instr.loadAt tAc (.pointer (some a))).run Tryd.prog W = .ok (.agg x.cells) W := by go_simp
theorem ald {W : World} {ad : Addr} {k : Nat} {x : Ac} (hc : ∀ j v, x.cells[j]? = some v → W.cell? (ad.add (k * 6 + j)) = some v) : (Instr.loadAt tAc (.pointer (some (ad.add (k * 6))))).run Tryd.prog W = .ok (.agg x.cells) W :=
  ald0 ((celX hc).1 _ rfl) ((celX hc).2 0 _ rfl) ((celX hc).2 1 _ rfl) ((celX hc).2 2 _ rfl) ((celX hc).2 3 _ rfl) ((celX hc).2 4 _ rfl)
theorem afd0 (W : World) (g : Nat) : (Instr.fieldAt tAc (.pointer (some ⟨g, 0, none⟩)) 0).run Tryd.prog W = .ok (.pointer (some ⟨g, 0, none⟩)) W := by go_simp
theorem afd1 (W : World) (g : Nat) : (Instr.fieldAt tAc (.pointer (some ⟨g, 0, none⟩)) 1).run Tryd.prog W = .ok (.pointer (some ⟨g, 1, none⟩)) W := by go_simp
theorem afd2 (W : World) (g : Nat) : (Instr.fieldAt tAc (.pointer (some ⟨g, 0, none⟩)) 2).run Tryd.prog W = .ok (.pointer (some ⟨g, 2, none⟩)) W := by go_simp
theorem afd3 (W : World) (g : Nat) : (Instr.fieldAt tAc (.pointer (some ⟨g, 0, none⟩)) 3).run Tryd.prog W = .ok (.pointer (some ⟨g, 3, none⟩)) W := by go_simp
theorem afd4 (W : World) (g : Nat) : (Instr.fieldAt tAc (.pointer (some ⟨g, 0, none⟩)) 4).run Tryd.prog W = .ok (.pointer (some ⟨g, 4, none⟩)) W := by go_simp
/-- A slice of acts. -/
def RdA (B : Nat) (W : World) (A : Option Addr) (l : List Ac) : Prop := RdX 6 B W A (l.map Ac.cells) ∧ ∀ x, x ∈ l → x.rd B W
theorem RdA.keep {B C : Nat} {W W' : World} {A : Option Addr} {l : List Ac} (h : RdA B W A l) (hb : Below C W W') (hBC : B ≤ C) : RdA B W' A l := ⟨h.1.keep hb hBC, fun x hx => (h.2 x hx).keep hb hBC⟩
theorem RdA.at_ {B : Nat} {W : World} {A : Option Addr} {l : List Ac} (h : RdA B W A l) {k : Nat} {x : Ac} (hx : l[k]? = some x) : ∃ ad, A = some ad ∧ ad.block < B ∧ (∀ j v, x.cells[j]? = some v → W.cell? (ad.add (k * 6 + j)) = some v) ∧ x.rd B W := by
  obtain ⟨ad, h1, h2, h3⟩ := h.1 k x.cells (by rw [List.getElem?_map, hx]; rfl)
  exact ⟨ad, h1, h2, h3, h.2 x (List.mem_of_getElem? hx)⟩

/-! What is kept, told by notes. -/
def stepN (f b : Int) (w : List UInt8) (x : Pw) : List UInt8 := bif x.f == f && x.b == b then x.l else w
def lastN (F : List Pw) (f b : Int) : List UInt8 := F.foldl (stepN f b) z64
theorem lastN_next (F : List Pw) (f b : Int) {k : Nat} {x : Pw} (hx : F[k]? = some x) : lastN (F.take (k + 1)) f b = stepN f b (lastN (F.take k) f b) x := by
  unfold lastN
  rw [List.take_add_one, hx, List.foldl_append]
  rfl
theorem blkD_put (D : Dk) (x : Pw) (f b : Int) : blkD (putD D x) f b = stepN f b (blkD D f b) x := by
  unfold blkD putD stepN
  by_cases h1 : x.f = f
  · subst h1
    by_cases h2 : x.b = b
    · subst h2
      simp [putF]
    · have h3 : ¬ b = x.b := fun e => h2 e.symm
      have hb : (x.b == b) = false := beq_eq_false_iff_ne.2 h2
      cases hD : D x.f <;> simp [putF, h3, noF, hb]
  · have h3 : ¬ f = x.f := fun e => h1 e.symm
    have hf : (x.f == f) = false := beq_eq_false_iff_ne.2 h1
    simp [h3, hf]
theorem blkD_keptF (f0 f b : Int) : ∀ (l : List Pw) (D : Dk), blkD (keptF D f0 l) f b = (l.filter (isF f0)).foldl (stepN f b) (blkD D f b)
  | [], _ => rfl
  | x :: r, D => by
    show blkD (keptF (if x.f == f0 then putD D x else D) f0 r) f b = _
    rw [blkD_keptF f0 f b r]
    cases h : x.f == f0 with
    | true =>
      rw [if_pos rfl, blkD_put, List.filter_cons_of_pos (by unfold isF; exact h)]
      rfl
    | false =>
      rw [if_neg (by simp), List.filter_cons_of_neg (by unfold isF; simp [h])]
def matchN (f b : Int) (x : Pw) : Bool := x.f == f && x.b == b
theorem stepN_or (f b : Int) (w : List UInt8) (x : Pw) : stepN f b w x = w ∨ (matchN f b x = true ∧ stepN f b w x = x.l) := by
  unfold stepN matchN
  cases x.f == f && x.b == b with
  | true => exact .inr ⟨rfl, rfl⟩
  | false => exact .inl rfl
theorem crash_foldl (keep : List Bool) (f b : Int) : ∀ (l : List (Pw × Nat)) (D : Dk), blkD (l.foldl (fun D p => if keepB keep p.2 then putD D p.1 else D) D) f b = blkD D f b ∨ ∃ p, p ∈ l ∧ matchN f b p.1 = true ∧ blkD (l.foldl (fun D p => if keepB keep p.2 then putD D p.1 else D) D) f b = p.1.l
  | [], D => .inl rfl
  | p :: r, D => by
    show blkD (r.foldl _ (if keepB keep p.2 then putD D p.1 else D)) f b = _ ∨ _
    rcases crash_foldl keep f b r (if keepB keep p.2 then putD D p.1 else D) with h | ⟨q, hq, h1, h2⟩
    · by_cases hk : keepB keep p.2 = true
      · rw [if_pos hk] at h
        rw [blkD_put] at h
        rcases stepN_or f b (blkD D f b) p.1 with e | ⟨e1, e2⟩
        · left
          rw [if_pos hk, h, e]
        · right
          refine ⟨p, List.mem_cons_self .., e1, ?_⟩
          show blkD (r.foldl _ (if keepB keep p.2 then putD D p.1 else D)) f b = _
          rw [if_pos hk, h, e2]
      · left
        rw [if_neg hk] at h ⊢
        exact h
    · right
      exact ⟨q, List.mem_cons_of_mem _ hq, h1, h2⟩
theorem crash_is (D : Dk) (keep : List Bool) (Q : List Pw) (f b : Int) : blkD (crashF D keep Q) f b = blkD D f b ∨ ∃ x, x ∈ Q ∧ matchN f b x = true ∧ blkD (crashF D keep Q) f b = x.l := by
  rcases crash_foldl keep f b Q.zipIdx D with h | ⟨p, hp, h1, h2⟩
  · exact .inl h
  · refine .inr ⟨p.1, ?_, h1, h2⟩
    have := List.mem_zipIdx hp
    rw [this.2.2]
    exact List.getElem_mem _
end Go.Proofs.YtjbmhbnlanbbkaaDoor

namespace Go.Proofs.YtjbmhbnlanbbkaaDoor
open Go.RowKit Go.WideShapes Go.ChangeShapes

section
open Go.Joins Go.Deep
variable {H : Type} {enc : TypeId × Value → H}
theorem cellsIc : Tryd.prog.cellsOf 3 = 1 := by kernel_rfl
theorem cellsBsc : Tryd.prog.cellsOf 28 = 1 := by kernel_rfl
theorem cellsBoc : Tryd.prog.cellsOf 29 = 1 := by kernel_rfl
theorem cellsB1c : Tryd.prog.cellsOf 4 = 1 := by kernel_rfl
theorem cellsU1c : Tryd.prog.cellsOf 5 = 1 := by kernel_rfl
theorem cellsAc : Tryd.prog.cellsOf 31 = 6 := by kernel_rfl
theorem arr_getC {xs : List (DataW H × List MemPlace)} {n : Nat} (h : xs.length = n) {i : Nat} (hi : i < n) : ∃ y, xs[i]? = some y := ⟨xs[i], List.getElem?_eq_getElem (by omega)⟩
/-- A cell that reads as bytes. -/
theorem rd_bytc {W : World} {base : Nat} {spare : Nat → Bool} {held : Bool} {fuel : Nat} {cs : List Value} {y : DataW H × List MemPlace} (h : DataW.trod enc Tryd.prog W base spare held fuel 28 cs = some y) :
    ∃ (A : Option Addr) (n c : Nat) (l : List UInt8), cs = [.slice A n c] ∧ l.length = n ∧ RdB W.heap.size W A l ∧ n ≤ c ∧ c ≤ maxLen := by
  rcases open_ints Tryd.underlying28 Tryd.underlying5 cellsU1c h with ⟨hcs, _⟩ | ⟨a, n, c, zs, hcs, _, hl, hm, hmm, _, hcell, hwf⟩
  · exact ⟨none, 0, 0, [], hcs, rfl, RdB.nil _ _ _, Nat.le_refl _, by unfold maxLen; omega⟩
  · have hle : n ≤ zs.length := by rw [hmm]; split <;> omega
    refine ⟨some a, n, c, (zs.take n).map (fun z => UInt8.ofNat z.toNat), hcs, by rw [List.length_map, List.length_take]; omega, fun k x hx => ?_, hl, hm⟩
    have hk : k < n := by
      have := (List.getElem?_eq_some_iff.1 hx).1
      rw [List.length_map, List.length_take] at this
      omega
    have hkz : k < zs.length := by omega
    have hc := hcell k hkz
    have e : zs.getD k 0 = zs[k] := by rw [List.getD_eq_getElem?_getD, List.getElem?_eq_getElem hkz]; rfl
    rw [List.getElem?_map, List.getElem?_take, if_pos hk, List.getElem?_eq_getElem hkz] at hx
    injection hx with hx
    subst hx
    have hb := World.block_lt_of_cell? W _ hc
    rw [add_block] at hb
    refine ⟨a, rfl, hb, ?_⟩
    rw [hc, e]
    have := wf_u8 (hwf zs[k] (List.getElem_mem hkz))
    rw [← this]
/-- A cell that reads as flags. -/
theorem rd_boolc {W : World} {base : Nat} {spare : Nat → Bool} {held : Bool} {fuel : Nat} {cs : List Value} {y : DataW H × List MemPlace} (h : DataW.trod enc Tryd.prog W base spare held fuel 29 cs = some y) :
    ∃ (A : Option Addr) (n c : Nat) (l : List Bool), cs = [.slice A n c] ∧ l.length = n ∧ RdK W.heap.size W A l := by
  rcases open_slice Tryd.underlying29 h with ⟨hcs, _⟩ | ⟨a, n, c, m, fu, D, Pl, hcs, _, hl, hm, hmm, _, hi⟩
  · exact ⟨none, 0, 0, [], hcs, rfl, RdK.nil _ _ _⟩
  · have hle : n ≤ m := by rw [hmm]; split <;> omega
    have hx : ∀ i, ∃ x : Bool, i < n → W.cell? (a.add i) = some (.bool x) := by
      intro i
      by_cases hin : i < n
      · obtain ⟨cs', hc, ht'⟩ := hi i (by omega)
        rw [cellsB1c, Nat.mul_one] at hc
        obtain ⟨_, hlen, hcell⟩ := World.cells?_some hc
        obtain ⟨b, rfl, _⟩ := DataW.trod_bool Tryd.underlying4 ht'
        refine ⟨b, fun _ => ?_⟩
        have h0 := hcell 0 (by omega)
        rw [add_add', Nat.add_zero] at h0
        exact h0
      · exact ⟨false, fun h => absurd h hin⟩
    have hF : ∃ g : Nat → Bool, ∀ i, i < n → W.cell? (a.add i) = some (.bool (g i)) := ⟨fun i => Classical.choose (hx i), fun i => Classical.choose_spec (hx i)⟩
    obtain ⟨g, hg⟩ := hF
    refine ⟨some a, n, c, (List.range n).map g, hcs, by simp, fun k x hx => ?_⟩
    have hk : k < n := by
      have := (List.getElem?_eq_some_iff.1 hx).1
      simpa using this
    have e : x = g k := by
      rw [List.getElem?_map, List.getElem?_range hk] at hx
      injection hx with hx
      exact hx.symm
    subst e
    have hc := hg k hk
    have hb := World.block_lt_of_cell? W _ hc
    rw [add_block] at hb
    exact ⟨a, rfl, hb, hc⟩
theorem trod_struct6 {P : Program} {w : World} {base : Nat} {spare : Nat → Bool} {held : Bool} {t : TypeId} {f0 f1 f2 f3 f4 f5 : Field} {fuel : Nat} {cs : List Value} {x : DataW H × List MemPlace} (ht : P.underlying t = some (.struct #[f0, f1, f2, f3, f4, f5])) (h : DataW.trod enc P w base spare held fuel t cs = some x) :
    ∃ n, (∃ y, DataW.trod enc P w base spare held n f0.type ((cs.drop f0.offset).take (P.cellsOf f0.type)) = some y) ∧ (∃ y, DataW.trod enc P w base spare held n f1.type ((cs.drop f1.offset).take (P.cellsOf f1.type)) = some y) ∧ (∃ y, DataW.trod enc P w base spare held n f2.type ((cs.drop f2.offset).take (P.cellsOf f2.type)) = some y) ∧ (∃ y, DataW.trod enc P w base spare held n f3.type ((cs.drop f3.offset).take (P.cellsOf f3.type)) = some y) ∧ (∃ y, DataW.trod enc P w base spare held n f4.type ((cs.drop f4.offset).take (P.cellsOf f4.type)) = some y) ∧ (∃ y, DataW.trod enc P w base spare held n f5.type ((cs.drop f5.offset).take (P.cellsOf f5.type)) = some y) := by
  obtain ⟨xs, n, _, rfl, _, hlen, hf⟩ := DataW.trod_struct ht h
  have hl : xs.length = 6 := hlen
  obtain ⟨y0, e0⟩ := arr_getC hl (i := 0) (by omega)
  obtain ⟨y1, e1⟩ := arr_getC hl (i := 1) (by omega)
  obtain ⟨y2, e2⟩ := arr_getC hl (i := 2) (by omega)
  obtain ⟨y3, e3⟩ := arr_getC hl (i := 3) (by omega)
  obtain ⟨y4, e4⟩ := arr_getC hl (i := 4) (by omega)
  obtain ⟨y5, e5⟩ := arr_getC hl (i := 5) (by omega)
  exact ⟨n, ⟨y0, (hf 0 f0 rfl).trans e0⟩, ⟨y1, (hf 1 f1 rfl).trans e1⟩, ⟨y2, (hf 2 f2 rfl).trans e2⟩, ⟨y3, (hf 3 f3 rfl).trans e3⟩, ⟨y4, (hf 4 f4 rfl).trans e4⟩, ⟨y5, (hf 5 f5 rfl).trans e5⟩⟩
theorem len1c {a b : Value} (h : [a] = [b]) : a = b := by simpa using h
theorem open_acR {W : World} {base : Nat} {spare : Nat → Bool} {held : Bool} {fuel : Nat} {cs : List Value} {y : DataW H × List MemPlace} (hl : cs.length = 6) (h : DataW.trod enc Tryd.prog W base spare held fuel 31 cs = some y) : ∃ x : Ac, cs = x.cells.toList ∧ x.rd W.heap.size W := by
  match cs, hl with
  | [c0, c1, c2, c3, c4, c5], _ =>
    obtain ⟨m, ⟨y0, h0⟩, ⟨y1, h1⟩, ⟨y2, h2⟩, ⟨y3, h3⟩, ⟨y4, h4⟩, ⟨y5, h5⟩⟩ := trod_struct6 Tryd.underlying31 h
    simp only [cellsIc, cellsBsc, cellsBoc, List.drop_zero, List.drop_succ_cons, List.take_succ_cons, List.take_zero] at h0 h1 h2 h3 h4 h5
    obtain ⟨k0, q0, _, _⟩ := DataW.trod_int Tryd.underlying3 h0
    obtain ⟨k1, q1, _, _⟩ := DataW.trod_int Tryd.underlying3 h1
    obtain ⟨k2, q2, _, _⟩ := DataW.trod_int Tryd.underlying3 h2
    obtain ⟨k3, q3, _, _⟩ := DataW.trod_int Tryd.underlying3 h3
    obtain ⟨A1, n1, d1, l1, q4, z1, r1, m1, f1⟩ := rd_bytc h4
    obtain ⟨A2, n2, d2, l2, q5, z2, r2⟩ := rd_boolc h5
    have e4 := len1c q4
    have e5 := len1c q5
    simp at q0 q1 q2 q3
    subst q0 q1 q2 q3 e4 e5
    exact ⟨⟨k0, k1, k2, k3, l1, l2, A1, A2, n1, d1, n2, d2⟩, rfl, r1, z1, r2, z2, m1, f1⟩
set_option maxRecDepth 100000 in
/-- An argument that is a slice of acts, opened. -/
theorem open_acts {t : TypeId} (ht : Tryd.prog.underlying t = some (.slice 31)) {W : World} {r : Reach} {b0 : Nat} {v : Value} {d : DataW H} {p : List MemPlace} (hv : Value.okWide Tryd.prog W r b0 t v) (h : DataW.Trod enc Tryd.prog W 0 (fun _ => true) true t v d p) :
    ∃ (A : Option Addr) (n c : Nat) (l : List Ac), v = .slice A n c ∧ l.length = n ∧ RdA W.heap.size W A l ∧ n ≤ maxLen := by
  obtain ⟨A, n, c, rfl⟩ := okWide_slice ht hv
  obtain ⟨fuel, hf⟩ := h
  rcases open_slice ht hf with ⟨hcs, _⟩ | ⟨a, len, cap, m, fu, D, Pl, hcs, _, hl, hm, hmm, _, hi⟩
  · simp [Value.cells] at hcs
    obtain ⟨rfl, rfl, rfl⟩ := hcs
    exact ⟨none, 0, 0, [], rfl, rfl, ⟨RdX.nil _ _ _ _, fun x hx => by simp at hx⟩, Nat.zero_le _⟩
  · simp [Value.cells] at hcs
    obtain ⟨rfl, rfl, rfl⟩ := hcs
    have hle : n ≤ m := by rw [hmm]; simp; omega
    have hx : ∀ i, ∃ x : Ac, i < n → x.rd W.heap.size W ∧ ∀ j v, x.cells[j]? = some v → W.cell? (a.add (i * 6 + j)) = some v := by
      intro i
      by_cases hin : i < n
      · obtain ⟨cs', hc, ht'⟩ := hi i (by omega)
        rw [cellsAc] at hc
        obtain ⟨_, hlen, hcell⟩ := World.cells?_some hc
        obtain ⟨x, rfl, hfx⟩ := open_acR hlen ht'
        refine ⟨x, fun _ => ⟨hfx, fun j v hj => ?_⟩⟩
        have hj6 : j < 6 := by
          have := (Array.getElem?_eq_some_iff.1 hj).1
          simpa using this
        rw [← add_add', hcell j hj6, Array.getElem?_toList]
        exact hj
      · exact ⟨⟨0, 0, 0, 0, [], [], none, none, 0, 0, 0, 0⟩, fun h => absurd h hin⟩
    have hF : ∃ g : Nat → Ac, ∀ i, i < n → (g i).rd W.heap.size W ∧ ∀ j v, (g i).cells[j]? = some v → W.cell? (a.add (i * 6 + j)) = some v := ⟨fun i => Classical.choose (hx i), fun i => Classical.choose_spec (hx i)⟩
    obtain ⟨g, hg⟩ := hF
    refine ⟨some a, n, c, (List.range n).map g, rfl, by simp, ⟨fun k x hx => ?_, fun x hx => ?_⟩, by omega⟩
    · have hk : k < n := by
        have := (List.getElem?_eq_some_iff.1 hx).1
        simpa using this
      have e : x = (g k).cells := by
        rw [List.getElem?_map, List.getElem?_map, List.getElem?_range hk] at hx
        injection hx with hx
        exact hx.symm
      subst e
      have hc := (hg k hk).2 0 _ rfl
      have hb := World.block_lt_of_cell? W _ hc
      rw [add_block] at hb
      exact ⟨a, rfl, hb, (hg k hk).2⟩
    · obtain ⟨k, hk, rfl⟩ := List.mem_map.1 hx
      exact (hg k (List.mem_range.1 hk)).1
set_option maxRecDepth 100000 in
/-- An argument that is a slice of flags, opened. -/
theorem open_bools {t : TypeId} (ht : t = 29) {W : World} {r : Reach} {b0 : Nat} {v : Value} {d : DataW H} {p : List MemPlace} (hv : Value.okWide Tryd.prog W r b0 t v) (h : DataW.Trod enc Tryd.prog W 0 (fun _ => true) true t v d p) :
    ∃ (A : Option Addr) (n c : Nat) (l : List Bool), v = .slice A n c ∧ l.length = n ∧ RdK W.heap.size W A l := by
  subst ht
  obtain ⟨A, n, c, rfl⟩ := okWide_slice Tryd.underlying29 hv
  obtain ⟨fuel, hf⟩ := h
  obtain ⟨A', n', c', l, hcs, h1, h2⟩ := rd_boolc hf
  have e : Value.slice A n c = Value.slice A' n' c' := by simpa [Value.cells] using hcs
  injection e with e1 e2 e3
  subst e1 e2 e3
  exact ⟨A, n, c, l, rfl, h1, h2⟩
end
end Go.Proofs.YtjbmhbnlanbbkaaDoor

namespace Go.Proofs.YtjbmhbnlanbbkaaDoor
open Go.RowKit

theorem enters_Place : ∀ args w, (callFunc 7 args).run Tryd.prog w = .ok (.enter 7 args) w := enters_of Tryd.func7 (by kernel_rfl) rfl
theorem enters_rNew : ∀ args w, (callFunc 9 args).run Tryd.prog w = .ok (.enter 9 args) w := enters_of Tryd.func9 (by kernel_rfl) rfl
theorem enters_rstep : ∀ args w, (callFunc 30 args).run Tryd.prog w = .ok (.enter 30 args) w := enters_of Tryd.func30 (by kernel_rfl) rfl
set_option maxRecDepth 100000 in
set_option maxHeartbeats 4000000 in
theorem place_any (f b : Int) (W : World) : Calls Tryd.prog 7 #[.int .i64 f, .int .i64 b] W fun e W' => e = .returned (.bool (placeB f b)) ∧ W' = W := by
  go_enter Tryd.func7, Tryd.ntmps7
  go_upto_region 1 with fail
  refine wp_region_lit ?_
  refine fl_start ?_
  generalize ha : Act.mk _ _ = a0
  have hn : a0.tmps.size = 19 := by rw [← ha]; kernel_rfl
  have h0 : (fr a0 []).eval (.tmp 0) = .int .i64 f := by rw [← ha]; kernel_rfl
  refine fl_know hn rfl h0 ?_
  clear h0
  have h1 : (fr a0 [(0, true, .int .i64 f)]).eval (.tmp 1) = .int .i64 b := by rw [← ha]; kernel_rfl
  refine fl_know hn rfl h1 ?_
  clear h1
  repeat first | refine g_mv hn ?_ | refine g_as hn ?_ | refine g_fd hn ?_ | refine g_ld hn ?_ | refine g_nc hn ?_ | refine g_nt hn ?_ | refine g_an hn ?_ | refine g_or hn ?_ | refine g_ln hn ?_ | refine g_ex hn ?_ | refine g_neq2 hn ?_ | refine g_neq hn ?_ | refine g_eql2 hn ?_ | refine g_eql hn ?_ | refine g_leq2 hn ?_ | refine g_leq hn ?_ | refine g_lss2 hn ?_ | refine g_lss hn ?_ | refine g_gtr2 hn ?_ | refine g_gtr hn ?_ | refine g_geq2 hn ?_ | refine g_geq hn ?_ | refine g_b0 hn ?_ | refine g_bn hn ?_ | refine g_bc hn ?_ | refine g_cv hn ?_ | refine g_ac hn ?_ | refine g_mc hn ?_
  refine fl_end ?_
  clear hn
  subst ha
  dsimp only [fr, cnd, Act.put, cond_true]
  simp only [List.setIfInBounds_toArray, List.set_cons_zero, List.set_cons_succ]
  go_wp2_with fail
  go_ret
  exact ⟨rfl, rfl⟩
theorem results_ct_row {P : Program} {fn : Func} {p u : Tmp} {ty : TypeId} (h : fn.results = #[.cell p ty, .tmp u]) (tmps : Array Value) (w : World) (g : Nat) (t : TypeId) (cs : Array Value) (fr : Nat × Nat) (d : TypeDesc)
    (hp : tmps.getD p undef = .pointer (some ⟨g, 0, none⟩)) (hg : w.heap[g]? = some (.cells cs t fr))
    (hu : P.underlying ty = some d) (hd : (match d with | .struct _ | .array _ _ => true | _ => false) = true) (hi : (P.info? ty).map (·.size) = some cs.size) :
    (results fn tmps).run P w = .ok (.tuple #[.agg cs, tmps.getD u undef]) w := by
  have hp' : tmps[p]?.getD undef = .pointer (some ⟨g, 0, none⟩) := by simpa using hp
  simp [results, h, hp', asAddr, run_loadVar_row w g t ty cs fr d hg hu hd hi]
/-- The document's slate that New answers, as cells. -/
abbrev rs0 : Array Value := #[.slice none 0 0, .slice none 0 0, .int .i64 (-1), .bool false]
set_option maxRecDepth 100000 in
set_option maxHeartbeats 4000000 in
theorem rNew_any (W : World) : Calls Tryd.prog 9 #[] W fun e W' => e = .returned (.agg rs0) ∧ Below W.heap.size W W' := by
  go_enter Tryd.func9, Tryd.ntmps9
  go_upto_region 1 with fail
  have hY := blk_new W #[.slice none 0 0, .slice none 0 0, .int .i64 0, .bool false] 35
  have hB := b0 W (.cells #[.slice none 0 0, .slice none 0 0, .int .i64 0, .bool false] 35)
  generalize W.alloc (.cells #[.slice none 0 0, .slice none 0 0, .int .i64 0, .bool false] 35) = W1 at hY hB ⊢
  generalize hg : W.heap.size = g at hY hB ⊢
  refine wp_region_lit ?_
  refine fl_start ?_
  generalize ha : Act.mk _ _ = a0
  have hn : a0.tmps.size = 2 := by rw [← ha]; kernel_rfl
  have h0 : (fr a0 []).eval (.tmp 0) = .pointer (some ⟨g, 0, none⟩) := by rw [← ha]; kernel_rfl
  refine fl_know hn rfl h0 ?_
  clear h0
  refine g_bd hn ?_ (qs := #[(2, .int .i64 (-1))]) (v := .agg rs0) (hx := by kernel_rfl)
  refine g_str hY ?_ (h1 := by simp [Value.oneCell'])
  intro W2 ho hY2
  refine fl_end ?_
  clear hn
  subst ha
  dsimp only [fr, cnd, Act.put, cond_true]
  simp only [List.setIfInBounds_toArray, List.set_cons_zero, List.set_cons_succ]
  go_wp2_with fail
  refine bodyPost_ret (results_cell_row Tryd.results9 _ _ g 35 rs0 (0, 0) _ (by rfl) hY2 Tryd.underlying35 (by rfl) (by kernel_rfl)) rfl ?_
  exact ⟨rfl, by rw [hg]; exact hB.trans (ho.below (Nat.le_refl g))⟩
theorem rs_a2 (W : World) (g : Nat) : (Instr.fieldAt 35 (.pointer (some ⟨g, 0, none⟩)) 2).run Tryd.prog W = .ok (.pointer (some ⟨g, 2, none⟩)) W := by kernel_rfl
theorem rs_la {W : World} {g : Nat} {cs : Array Value} {t : TypeId} (h : Blk W g cs t) (h4 : cs.size = 4) : (Instr.loadAt 35 (.pointer (some ⟨g, 0, none⟩))).run Tryd.prog W = .ok (.agg cs) W := by
  have hi : (Tryd.prog.info? 35).map (·.size) = some 4 := by kernel_rfl
  have := run_loadAt_mid (P := Tryd.prog) W g 0 35 cs.toList _ (fun j v hv => by rw [Nat.zero_add]; exact (h.cell j).trans ((Array.getElem?_toList ..).symm.trans hv)) Tryd.underlying35 rfl (by rw [hi, Array.length_toList, h4])
  simpa using this
set_option maxRecDepth 100000 in
set_option maxHeartbeats 4000000 in
theorem rstep_any (W : World) : Calls Tryd.prog 30 #[.agg rs0] W fun e W' => ∃ v, e = .returned v ∧ v = .tuple #[.agg rs0, .bool true] ∧ Below W.heap.size W W' := by
  go_enter Tryd.func30, Tryd.ntmps30
  go_upto_region 1 with fail
  have hY := blk_new W rs0 35
  have hB := b0 W (.cells rs0 35)
  generalize hW1 : W.alloc (.cells rs0 35) = W1 at hY hB ⊢
  have e6 : W1.heap.size = W.heap.size + 1 := by rw [← hW1]; simp
  clear hW1
  have hZ := blk_new W1 #[.slice none 0 0, .slice none 0 0, .int .i64 0, .bool false] 35
  have hB2 := b0 W1 (.cells #[.slice none 0 0, .slice none 0 0, .int .i64 0, .bool false] 35)
  have hY2 := hY.keep hB2
  have hBB := hB.trans (hB2.mono hB.size)
  rw [e6] at hZ
  generalize W1.alloc (.cells #[.slice none 0 0, .slice none 0 0, .int .i64 0, .bool false] 35) = W2 at hZ hY2 hBB ⊢
  clear hY hB hB2 e6
  generalize hg : W.heap.size = g at hZ hY2 hBB ⊢
  have a2 := rs_a2 W2 g
  have l2 := load_int (hY2.cell 2)
  have la := rs_la hY2 rfl
  refine wp_region_lit ?_
  refine fl_start ?_
  generalize ha : Act.mk _ _ = a0
  have hn : a0.tmps.size = 17 := by rw [← ha]; kernel_rfl
  have h1 : (fr a0 []).eval (.tmp 1) = .pointer (some ⟨g, 0, none⟩) := by rw [← ha]; kernel_rfl
  refine fl_know hn rfl h1 ?_
  clear h1
  repeat first | refine g_mv hn ?_ | refine g_as hn ?_ | refine g_fd hn ?_ | refine g_ld hn ?_ | refine g_nc hn ?_ | refine g_nt hn ?_ | refine g_an hn ?_ | refine g_or hn ?_ | refine g_ln hn ?_ | refine g_ex hn ?_ | refine g_neq2 hn ?_ | refine g_neq hn ?_ | refine g_eql2 hn ?_ | refine g_eql hn ?_ | refine g_leq2 hn ?_ | refine g_leq hn ?_ | refine g_lss2 hn ?_ | refine g_lss hn ?_ | refine g_gtr2 hn ?_ | refine g_gtr hn ?_ | refine g_geq2 hn ?_ | refine g_geq hn ?_ | refine g_b0 hn ?_ | refine g_bn hn ?_ | refine g_bc hn ?_ | refine g_cv hn ?_ | refine g_ac hn ?_ | refine g_mc hn ?_
  refine fl_endb (c := false) (rfl) ?_
  clear hn 
  subst ha
  dsimp only [fr, cnd, Act.put, cond_true]
  simp only [List.setIfInBounds_toArray, List.set_cons_zero, List.set_cons_succ]
  go_upto_region 4 with fail
  refine wp_region_lit ?_
  refine fl_start ?_
  generalize ha : Act.mk _ _ = a0
  have hn : a0.tmps.size = 17 := by rw [← ha]; kernel_rfl
  have h1 : (fr a0 []).eval (.tmp 1) = .pointer (some ⟨g, 0, none⟩) := by rw [← ha]; kernel_rfl
  refine fl_know hn rfl h1 ?_
  clear h1
  repeat first | refine g_mv hn ?_ | refine g_as hn ?_ | refine g_fd hn ?_ | refine g_ld hn ?_ | refine g_nc hn ?_ | refine g_nt hn ?_ | refine g_an hn ?_ | refine g_or hn ?_ | refine g_ln hn ?_ | refine g_ex hn ?_ | refine g_neq2 hn ?_ | refine g_neq hn ?_ | refine g_eql2 hn ?_ | refine g_eql hn ?_ | refine g_leq2 hn ?_ | refine g_leq hn ?_ | refine g_lss2 hn ?_ | refine g_lss hn ?_ | refine g_gtr2 hn ?_ | refine g_gtr hn ?_ | refine g_geq2 hn ?_ | refine g_geq hn ?_ | refine g_b0 hn ?_ | refine g_bn hn ?_ | refine g_bc hn ?_ | refine g_cv hn ?_ | refine g_ac hn ?_ | refine g_mc hn ?_
  refine fl_endb (c := false) (rfl) ?_
  clear hn 
  subst ha
  dsimp only [fr, cnd, Act.put, cond_true]
  simp only [List.setIfInBounds_toArray, List.set_cons_zero, List.set_cons_succ]
  go_upto_region 6 with fail
  refine wp_region_lit ?_
  refine fl_start ?_
  generalize ha : Act.mk _ _ = a0
  have hn : a0.tmps.size = 17 := by rw [← ha]; kernel_rfl
  have h1 : (fr a0 []).eval (.tmp 1) = .pointer (some ⟨g, 0, none⟩) := by rw [← ha]; kernel_rfl
  refine fl_know hn rfl h1 ?_
  clear h1
  have h2 : (fr a0 [(1, true, .pointer (some ⟨g, 0, none⟩))]).eval (.tmp 2) = .pointer (some ⟨g + 1, 0, none⟩) := by rw [← ha]; kernel_rfl
  refine fl_know hn rfl h2 ?_
  clear h2
  repeat first | refine g_mv hn ?_ | refine g_as hn ?_ | refine g_fd hn ?_ | refine g_ld hn ?_ | refine g_nc hn ?_ | refine g_nt hn ?_ | refine g_an hn ?_ | refine g_or hn ?_ | refine g_ln hn ?_ | refine g_ex hn ?_ | refine g_neq2 hn ?_ | refine g_neq hn ?_ | refine g_eql2 hn ?_ | refine g_eql hn ?_ | refine g_leq2 hn ?_ | refine g_leq hn ?_ | refine g_lss2 hn ?_ | refine g_lss hn ?_ | refine g_gtr2 hn ?_ | refine g_gtr hn ?_ | refine g_geq2 hn ?_ | refine g_geq hn ?_ | refine g_b0 hn ?_ | refine g_bn hn ?_ | refine g_bc hn ?_ | refine g_cv hn ?_ | refine g_ac hn ?_ | refine g_mc hn ?_
  refine g_str hZ ?_ (h1 := by simp [Value.oneCell'])
  intro W3 ho hZ3
  repeat first | refine g_mv hn ?_ | refine g_as hn ?_ | refine g_fd hn ?_ | refine g_ld hn ?_ | refine g_nc hn ?_ | refine g_nt hn ?_ | refine g_an hn ?_ | refine g_or hn ?_ | refine g_ln hn ?_ | refine g_ex hn ?_ | refine g_neq2 hn ?_ | refine g_neq hn ?_ | refine g_eql2 hn ?_ | refine g_eql hn ?_ | refine g_leq2 hn ?_ | refine g_leq hn ?_ | refine g_lss2 hn ?_ | refine g_lss hn ?_ | refine g_gtr2 hn ?_ | refine g_gtr hn ?_ | refine g_geq2 hn ?_ | refine g_geq hn ?_ | refine g_b0 hn ?_ | refine g_bn hn ?_ | refine g_bc hn ?_ | refine g_cv hn ?_ | refine g_ac hn ?_ | refine g_mc hn ?_
  refine fl_end ?_
  clear hn
  subst ha
  dsimp only [fr, cnd, Act.put, cond_true]
  simp only [List.setIfInBounds_toArray, List.set_cons_zero, List.set_cons_succ]
  clear a2 l2 la
  go_wp2_with fail
  refine bodyPost_ret (results_ct_row Tryd.results30 _ _ (g + 1) 35 rs0 (0, 0) _ (by rfl) hZ3 Tryd.underlying35 (by rfl) (by kernel_rfl)) rfl ?_
  exact ⟨_, rfl, rfl, by rw [hg]; exact hBB.trans (ho.below (by omega))⟩
end Go.Proofs.YtjbmhbnlanbbkaaDoor

namespace Go.Proofs.YtjbmhbnlanbbkaaDoor
open Go.RowKit

theorem enters_rwithout : ∀ args w, (callFunc 31 args).run Tryd.prog w = .ok (.enter 31 args) w := enters_of Tryd.func31 (by kernel_rfl) rfl
set_option maxRecDepth 100000 in
set_option maxHeartbeats 4000000 in
theorem rwithout_nil (f : Int) (a : Bool) (W : World) : Calls Tryd.prog 31 #[.slice none 0 0, .int .i64 f, .bool a] W fun e W' => e = .returned (.slice none 0 0) ∧ W' = W := by
  go_enter Tryd.func31, Tryd.ntmps31
  go_wp2_with fail
  go_loopw [7, 8, 11] (fun u _ i wr => u = .slice none 0 0 ∧ i = .int .i64 0 ∧ wr = W) (fun _ _ _ _ => 0)
  case atStart => exact ⟨rfl, rfl, rfl⟩
  case round =>
    obtain ⟨rfl, rfl, rfl⟩ := hrel
    go_wp2_with fail
    go_ret
    exact ⟨rfl, rfl⟩
theorem rs_a0 (W : World) (g : Nat) : (Instr.fieldAt 35 (.pointer (some ⟨g, 0, none⟩)) 0).run Tryd.prog W = .ok (.pointer (some ⟨g, 0, none⟩)) W := by kernel_rfl
theorem rs_a1 (W : World) (g : Nat) : (Instr.fieldAt 35 (.pointer (some ⟨g, 0, none⟩)) 1).run Tryd.prog W = .ok (.pointer (some ⟨g, 1, none⟩)) W := by kernel_rfl
section
variable {W : World} {g : Nat} {t : TypeId}
theorem rs_l0 (h : Blk W g rs0 t) : (Instr.loadAt 33 (.pointer (some ⟨g, 0, none⟩))).run Tryd.prog W = .ok (.slice none 0 0) W := by
  have q : W.cell? ⟨g, 0, none⟩ = some (.slice none 0 0) := h.cell 0
  clear h
  go_simp
theorem rs_l1 (h : Blk W g rs0 t) : (Instr.loadAt 33 (.pointer (some ⟨g, 1, none⟩))).run Tryd.prog W = .ok (.slice none 0 0) W := by
  have q : W.cell? ⟨g, 1, none⟩ = some (.slice none 0 0) := h.cell 1
  clear h
  go_simp
theorem rs_st {j : Nat} (h : Blk W g rs0 t) (hj : j < 4) : (Instr.storeAt 33 (.pointer (some ⟨g, j, none⟩)) (.slice none 0 0)).run Tryd.prog W = .ok () (W.setCell ⟨g, j, none⟩ (.slice none 0 0)) := by
  obtain ⟨u, hu⟩ := blk_some h (show j < rs0.size from hj)
  have hf := h.free j
  clear h
  go_simp
end
end Go.Proofs.YtjbmhbnlanbbkaaDoor
