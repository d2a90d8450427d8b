/-
  WHAT IS PROVED: acts of chapter 14's law in memory; a queue's row beside another one. Conditions: those typed in each theorem.
-/
import Derived.Test.YtkfhkfddhijkcaaQuG
import Derived.Test.YtkfhkfddhijkcaaGQ5
namespace Go.Proofs.Ytkfhkfddhijkcaa
open Go.RowKit


/-- An act: a kind, a write, twelve numbers, a slice of writes. -/
structure Qa where
  kd : Int
  w : Wr
  (i0 i1 i2 i3 i4 i5 i6 i7 i8 i9 i10 i11 : Int)
  A : Option Addr
  n : Nat
  c : Nat
def Qa.cells (x : Qa) : Array Value := #[.int .i64 x.kd, .int .i64 x.w.dev, .int .i64 x.w.seq, .int .i64 x.w.K, .string x.w.ky, .int .i64 x.w.ka, .int .i64 x.w.na, .string x.w.sa, .int .i64 x.w.kb, .int .i64 x.w.nb, .string x.w.sb, .int .i64 x.i0, .int .i64 x.i1, .int .i64 x.i2, .int .i64 x.i3, .int .i64 x.i4, .int .i64 x.i5, .int .i64 x.i6, .int .i64 x.i7, .int .i64 x.i8, .int .i64 x.i9, .int .i64 x.i10, .int .i64 x.i11, .slice x.A x.n x.c]
abbrev tAc : TypeId := 41
abbrev qa0 : Qa := ⟨0, ⟨0, 0, 0, ⟨#[]⟩, 0, 0, ⟨#[]⟩, 0, 0, ⟨#[]⟩⟩, 0, 0, 0, 0, 0, 0, 0, 0, 0, 0, 0, 0, none, 0, 0⟩
theorem qa_oneC (x : Qa) : x.cells.all (·.oneCell') = true := by
  unfold Qa.cells
  simp [Value.oneCell']
theorem aix (W : World) (ad : Addr) (n c k : Nat) (h : k < n) : (Instr.indexAt 22 (.slice (some ad) n c) (.int .i64 (k : Int))).run Try.prog W = .ok (.pointer (some (ad.add (k * 24)))) W := by
  have i1 : (0 : Int) ≤ (k : Int) := by omega
  have i2 : (k : Int) < (n : Int) := by omega
  go_simp
theorem ald {W : World} {ad : Addr} {k : Nat} {x : Qa} (hc : ∀ j v, x.cells[j]? = some v → W.cell? (ad.add (k * 24 + j)) = some v) : (Instr.loadAt tAc (.pointer (some (ad.add (k * 24))))).run Try.prog W = .ok (.agg x.cells) W := by
  obtain ⟨h0, h1⟩ := celX (z := 24) hc
  have hsp : (ad.add (k * 24)).spot = none := by
    cases hs : (ad.add (k * 24)).spot with
    | none => rfl
    | some m =>
      exfalso
      have c0 := h0 _ (show x.cells[0]? = some (.int .i64 x.kd) from rfl)
      unfold World.cell? at c0
      cases hh : W.heap[(ad.add (k * 24)).block]? with
      | none => rw [hh] at c0; cases c0
      | some ob =>
        rw [hh] at c0
        cases ob <;> simp [hs] at c0
  have e : ad.add (k * 24) = ⟨(ad.add (k * 24)).block, (ad.add (k * 24)).off, none⟩ := by
    rw [← hsp]
  rw [e] at h0 h1 ⊢
  refine run_loadAt_mid W _ _ _ x.cells.toList _ (fun j v hv => ?_) Try.underlying41 rfl (by kernel_rfl)
  rw [Array.getElem?_toList] at hv
  match j with
  | 0 => exact h0 v hv
  | j + 1 => exact h1 j v hv
theorem alA (w : World) : (Instr.alloc tAc true (.tuple #[])).run Try.prog w = .ok (.pointer (some ⟨w.heap.size, 0, none⟩)) (w.alloc (.cells qa0.cells tAc)) := by kernel_rfl
theorem afd0 (W : World) (b : Nat) : (Instr.fieldAt tAc (.pointer (some ⟨b, 0, none⟩)) 0).run Try.prog W = .ok (.pointer (some ⟨b, 0, none⟩)) W := by kernel_rfl
theorem afd1 (W : World) (b : Nat) : (Instr.fieldAt tAc (.pointer (some ⟨b, 0, none⟩)) 1).run Try.prog W = .ok (.pointer (some ⟨b, 1, none⟩)) W := by kernel_rfl
theorem awl {W : World} {g : Nat} {x : Qa} {t : TypeId} (h : Blk W g x.cells t) : (Instr.loadAt tWr (.pointer (some ⟨g, 1, none⟩))).run Try.prog W = .ok (.agg x.w.cells) W := by
  have c1 := h.cell 1
  have c2 := h.cell 2
  have c3 := h.cell 3
  have c4 := h.cell 4
  have c5 := h.cell 5
  have c6 := h.cell 6
  have c7 := h.cell 7
  have c8 := h.cell 8
  have c9 := h.cell 9
  have c10 := h.cell 10
  unfold Qa.cells at c1 c2 c3 c4 c5 c6 c7 c8 c9 c10
  clear h
  go_simp
theorem ac_ne : (tAc : TypeId) ≠ tWr := by decide
/-- A row stays where its block stays. -/
theorem OwnX.same {t : TypeId} {z base : Nat} {W W' : World} {A : Option Addr} {n c : Nat} {l : List (Array Value)} (h : OwnX t z base W A n c l) (hb : ∀ a, A = some a → W'.heap[a.block]? = W.heap[a.block]?) : OwnX t z base W' A n c l := by
  refine ⟨⟨h.1.1, ?_⟩, h.2⟩
  rcases h.1.2 with h1 | ⟨g, cap, cur, e, h1, h2, h3⟩
  · exact .inl h1
  · refine .inr ⟨g, cap, cur, e, h1, ?_, h3⟩
    injection e with e _ _
    rw [hb _ e]
    exact h2
theorem takeI_zero {room : Int} {l : List Int} {ws : List Wr} {x : Wr} (h : takeI room l ws x = 0) : askI (ofL l ws) x.dev x.seq = 0 ∧ ¬ room ≤ (ws.length : Int) := by
  unfold takeI at h
  split at h
  · rename_i h1
    split at h
    · cases h
    · rename_i h2
      exact ⟨h1, h2⟩
  · rename_i h1
    exact absurd h h1
def Apart (A B : Option Addr) : Prop := ∀ a b, A = some a → B = some b → a.block ≠ b.block
theorem rem_u8d (i : Nat) (W : World) (z : Nat) : ((do eqGuard .rem 5 (.tmp i) (.const (.int .u8 20)) (.int .u8 (z : Int)) (.int .u8 20); binOp .rem 5 (.int .u8 (z : Int)) (.int .u8 20)) : Sem Value).run Try.prog W = .ok (.int .u8 ((z % 20 : Nat) : Int)) W := by
  have m1 : Int.tmod (z : Int) 20 = ((z % 20 : Nat) : Int) := rfl
  rw [← m1]
  clear m1
  unfold binOp
  simp only [eqGuard, go_sem]
  simp
theorem quo_2 (i : Nat) (W : World) (z : Nat) (hz : z ≤ 1000) : ((do eqGuard .quo 3 (.tmp i) (.const (.int .i64 2)) (.int .i64 (z : Int)) (.int .i64 2); binOp .quo 3 (.int .i64 (z : Int)) (.int .i64 2)) : Sem Value).run Try.prog W = .ok (.int .i64 ((z / 2 : Nat) : Int)) W := by
  have m1 : IntKind.i64.wrap (Int.tdiv (z : Int) 2) = ((z / 2 : Nat) : Int) := by
    rw [show Int.tdiv (z : Int) 2 = ((z / 2 : Nat) : Int) from rfl]
    exact wrapI (by omega)
  rw [← m1]
  clear m1 hz
  unfold binOp
  simp only [eqGuard, go_sem]
  simp
theorem gtr_no (i j : Nat) (W : World) (x y : Int) (h : x ≤ y) : ((do eqGuard .gtr 3 (.tmp i) (.tmp j) (.int .i64 x) (.int .i64 y); binOp .gtr 3 (.int .i64 x) (.int .i64 y)) : Sem Value).run Try.prog W = .ok (.bool false) W := by
  have h2 : ¬ y < x := by omega
  go_simp
theorem eq_two (i : Nat) (W : World) (x : Int) : ((do eqGuard .eql 3 (.tmp i) (.const (.int .i64 2)) (.int .i64 x) (.int .i64 2); binOp .eql 3 (.int .i64 x) (.int .i64 2)) : Sem Value).run Try.prog W = .ok (.bool (x == 2)) W := by go_simp
theorem wr_el : ElI tWr (.agg (wrI 0 0 0 ⟨#[]⟩ 0 0 ⟨#[]⟩ 0 0 ⟨#[]⟩)) 10 104 := by unfold ElI; exact wr_infoM
end Go.Proofs.Ytkfhkfddhijkcaa
