/-
  WHAT IS PROVED: fresh.Value and fresh.Write answer what was handed in. Conditions: those typed in each theorem. · an operation in memory: loaded of a row, of a block; cells read in blocks apart from one; a slice of cells without its first. Conditions: those typed in each theorem. · arguments that are a slice of operations, or a slice of cells with its room: opened (own work, over any program that bears the types named). · plain facts on the sum CRC-32C: it is told by exclusive or on numbers below 2^32; bytes of one length that differ in one byte have different sums. No program. No condition.
-/
import Derived.Test.YtokkmofcijfmiabGQ13
import Derived.Test.YtokkmofcijfmiabGQ8
import Derived.Deep.Cut
import Derived.Shelf.Abstract
import Derived.Outline
import Derived.BigRegion
import Derived.BigQuiet
import Derived.Deep.QuietTactic
import Derived.RowKitTokens
import Derived.WalkKit
import Derived.Laws.Rows
import Derived.Test.YtokkmofcijfmiabOpRef
import Derived.Test.YtokkmofcijfmiabGQ12
import Derived.Test.YtokkmofcijfmiabGQ11
import GoSem.Claim
namespace Go.Proofs.Ytokkmofcijfmiab
open Go.RowKit

theorem en_strings_Clone : ∀ args w, (callFunc 46 args).run Try.prog w = .ok (.enter 46 args) w := enters_of Try.func46 (by kernel_rfl) rfl
theorem en_spinney_fresh_Value : ∀ args w, (callFunc 49 args).run Try.prog w = .ok (.enter 49 args) w := enters_of Try.func49 (by kernel_rfl) rfl

theorem all_oneC {l : List Value} (h : ∀ v, v ∈ l → v.oneCell' = true) : (l.toArray).all (·.oneCell') = true := by
  rw [List.all_toArray]
  exact List.all_eq_true.2 h
theorem va_oneC (k n : Int) (t : ByteArray) : (#[.int .i64 k, .int .i64 n, .string t] : Array Value).all (·.oneCell') = true := all_oneC (l := [.int .i64 k, .int .i64 n, .string t]) (by simp [Value.oneCell'])
theorem vfd (W : World) (b : Nat) : (Instr.fieldAt 31 (.pointer (some ⟨b, 0, none⟩)) 2).run Try.prog W = .ok (.pointer (some ⟨b, 2, none⟩)) W := by go_simp
theorem ld_str {W : World} {a : Addr} {t : ByteArray} (h : W.cell? a = some (.string t)) : (Instr.loadAt 9 (.pointer (some a))).run Try.prog W = .ok (.string t) W := by go_simp
theorem st_str {W : World} {b j : Nat} {cs : Array Value} {T : TypeId} (hX : Blk W b cs T) (hj : j < cs.size) (t : ByteArray) : (Instr.storeAt 9 (.pointer (some ⟨b, j, none⟩)) (.string t)).run Try.prog W = .ok () (W.setCell ⟨b, j, none⟩ (.string t)) := by
  obtain ⟨u, hu⟩ := blk_some hX hj
  have hf := hX.free j
  clear hX
  go_simp
theorem vld {W : World} {b o : Nat} {k n : Int} {t : ByteArray} (h0 : W.cell? ⟨b, o, none⟩ = some (.int .i64 k)) (h1 : W.cell? ⟨b, o + 1, none⟩ = some (.int .i64 n)) (h2 : W.cell? ⟨b, o + 2, none⟩ = some (.string t)) : (Instr.loadAt 31 (.pointer (some ⟨b, o, none⟩))).run Try.prog W = .ok (.agg #[.int .i64 k, .int .i64 n, .string t]) W := by go_simp
set_option maxRecDepth 100000 in
set_option maxHeartbeats 4000000 in
theorem freshValue_any (k n : Int) (t : ByteArray) (w : World) (ht : t.size ≤ 1000000) : Calls Try.prog 49 #[.agg #[.int .i64 k, .int .i64 n, .string t]] w fun e w' => e = .returned (.agg #[.int .i64 k, .int .i64 n, .string t]) ∧ Below w.heap.size w w' := by
  have hX0 := blk_new w #[.int .i64 k, .int .i64 n, .string t] 31
  replace hX0 := hX0.alloc (.cells #[.int .i64 0, .int .i64 0, .string ⟨#[]⟩] 31)
  have hz1 : (w.alloc (.cells #[.int .i64 k, .int .i64 n, .string t] 31)).heap.size = w.heap.size + 1 := by simp
  have hX1 := blk_new (w.alloc (.cells #[.int .i64 k, .int .i64 n, .string t] 31)) #[.int .i64 0, .int .i64 0, .string ⟨#[]⟩] 31
  rw [hz1] at hX1
  have hB := ba (b0 w (.cells #[.int .i64 k, .int .i64 n, .string t] 31)) (.cells #[.int .i64 0, .int .i64 0, .string ⟨#[]⟩] 31)
  have hzz : ((w.alloc (.cells #[.int .i64 k, .int .i64 n, .string t] 31)).alloc (.cells #[.int .i64 0, .int .i64 0, .string ⟨#[]⟩] 31)).heap.size = w.heap.size + 2 := by simp
  go_enter Try.func49, Try.ntmps49
  go_upto_region 1 with fail
  generalize ((w.alloc (.cells #[.int .i64 k, .int .i64 n, .string t] 31)).alloc (.cells #[.int .i64 0, .int .i64 0, .string ⟨#[]⟩] 31)) = W0 at hX0 hX1 hB hzz ⊢
  (try simp only [hz1])
  clear hz1
  generalize hb : w.heap.size = b at hX0 hX1 hB hzz ⊢
  have f1 : ∀ W, Kp W0 W → (Instr.fieldAt 31 (.pointer (some ⟨b, 0, none⟩)) 2).run Try.prog W = .ok (.pointer (some ⟨b, 2, none⟩)) W := fun W _ => vfd W b
  have l1 : ∀ W, Kp W0 W → (Instr.loadAt 9 (.pointer (some ⟨b, 2, none⟩))).run Try.prog W = .ok (.string t) W := fun W h => ld_str ((h.blk hX0).cell 2)
  have c1 : ∀ W, Kp W0 W → _ := kp_c fun W _ => sclone_any t W ht
  refine wp_region_lit ?_
  refine fs_start (Kp W0) (Kp.refl _) ?_
  generalize ha : Act.mk _ _ = a0
  have hn : a0.tmps.size = 8 := by rw [← ha]; kernel_rfl
  have h1 : (fr a0 []).eval (.tmp 1) = .pointer (some ⟨b, 0, none⟩) := by rw [← ha]; kernel_rfl
  refine fs_know hn rfl h1 ?_
  clear h1
  refine s_fd hn ?_
  refine s_ld hn ?_
  refine s_callt hn ?_ (he := en_strings_Clone)
  refine s_fd hn ?_
  refine fs_fl fun w3 hS => ?_
  have hX03 := hS.blk hX0
  have hX13 := hS.blk hX1
  have hB3 : Below b w w3 := hB.trans (hS.below.mono (by omega))
  refine g_stt hX03 (st_str (j := 2) hX03 (by simp) t) ?_
  intro w4 ho hX4
  refine fl_end ?_
  clear hn
  subst ha
  dsimp only [fr, cnd, Act.put, cond_true]
  simp only [List.setIfInBounds_toArray, List.set_cons_zero, List.set_cons_succ]
  have hX4 : Blk w4 b #[.int .i64 k, .int .i64 n, .string t] 31 := hX4
  have hX14 := hX13.only ho (by omega)
  have hB4 := hB3.trans (ho.below (B := b) (Nat.le_refl _))
  clear f1 l1 c1 hX0 hX1 hB hS hX03 hX13 hB3 ho
  have l2 := vld (W := w4) (b := b) (o := 0) (hX4.cell 0) (hX4.cell 1) (hX4.cell 2)
  go_upto_region 2 with fail
  refine wp_region_lit ?_
  refine fl_start ?_
  generalize ha : Act.mk _ _ = a0
  have hn : a0.tmps.size = 8 := by rw [← ha]; kernel_rfl
  have h1 : (fr a0 []).eval (.tmp 1) = .pointer (some ⟨b, 0, none⟩) := by rw [← ha]; kernel_rfl
  refine fl_know hn rfl h1 ?_
  clear h1
  have h2 : (fr a0 [(1, true, .pointer (some ⟨b, 0, none⟩))]).eval (.tmp 2) = .pointer (some ⟨b + 1, 0, none⟩) := by rw [← ha]; kernel_rfl
  refine fl_know hn rfl h2 ?_
  clear h2
  refine g_ld hn ?_
  refine g_str hX14 ?_ (h1 := va_oneC k n t)
  intro w5 ho5 hX5
  refine fl_end ?_
  clear hn
  subst ha
  dsimp only [fr, cnd, Act.put, cond_true]
  simp only [List.setIfInBounds_toArray, List.set_cons_zero, List.set_cons_succ]
  have hB5 := hB4.trans (ho5.below (B := b) (by omega))
  clear l2 hX4 hX14 ho5 hB4
  go_wp2_with fail
  refine bodyPost_ret (results_cell_row Try.results49 _ _ (b + 1) 31 #[.int .i64 k, .int .i64 n, .string t] (0, 0) _ (by rfl) hX5 Try.underlying31 (by rfl) (by kernel_rfl)) rfl ?_
  exact ⟨rfl, by first | exact hB5 | (rw [hb]; exact hB5)⟩
theorem ofd1 (W : World) (b : Nat) : (Instr.fieldAt 47 (.pointer (some ⟨b, 2, none⟩)) 1).run Try.prog W = .ok (.pointer (some ⟨b, 3, none⟩)) W := by go_simp
theorem ofd2 (W : World) (b : Nat) : (Instr.fieldAt 47 (.pointer (some ⟨b, 2, none⟩)) 2).run Try.prog W = .ok (.pointer (some ⟨b, 4, none⟩)) W := by go_simp
theorem ofd3 (W : World) (b : Nat) : (Instr.fieldAt 47 (.pointer (some ⟨b, 2, none⟩)) 3).run Try.prog W = .ok (.pointer (some ⟨b, 7, none⟩)) W := by go_simp
theorem st_va {W : World} {b j : Nat} {cs : Array Value} {T : TypeId} (hX : Blk W b cs T) (hj : j + 3 ≤ cs.size) (k n : Int) (t : ByteArray) : (Instr.storeAt 31 (.pointer (some ⟨b, j, none⟩)) (.agg #[.int .i64 k, .int .i64 n, .string t])).run Try.prog W = .ok () (W.setCells b j [.int .i64 k, .int .i64 n, .string t]) := by
  simp only [Instr.storeAt, Instr.sureAddr, Sem.run_bind, Sem.run_pure, Result.andThen_ok]
  exact run_storeVar_mid W b j 31 #[.int .i64 k, .int .i64 n, .string t] (fun i hi => ⟨by rw [hX.cell, Array.getElem?_eq_getElem (by simp at hi; omega)]; rfl, hX.free _⟩) (by kernel_rfl) (va_oneC k n t)
end Go.Proofs.Ytokkmofcijfmiab

namespace Go.Proofs.Ytokkmofcijfmiab
open Go.RowKit

structure Op8 where
  K : Int
  ky : ByteArray
  ka : Int
  na : Int
  sa : ByteArray
  kb : Int
  nb : Int
  sb : ByteArray
abbrev Op8.cells (o : Op8) : Array Value := opC o.K o.ky o.ka o.na o.sa o.kb o.nb o.sb
def Op8.fits (o : Op8) : Prop := o.ky.size ≤ maxLen ∧ o.sa.size ≤ maxLen ∧ o.sb.size ≤ maxLen ∧ (-9223372036854775808 ≤ o.na ∧ o.na ≤ 9223372036854775807) ∧ (-9223372036854775808 ≤ o.nb ∧ o.nb ≤ 9223372036854775807)
abbrev tOp : TypeId := 47
theorem oix (W : World) (ad : Addr) (n c k : Nat) (h : k < n) : (Instr.indexAt 45 (.slice (some ad) n c) (.int .i64 (k : Int))).run Try.prog W = .ok (.pointer (some (ad.add (k * 8)))) W := by
  have i1 : (0 : Int) ≤ (k : Int) := by omega
  have i2 : (k : Int) < (n : Int) := by omega
  go_simp
theorem old_op {W : World} {ad : Addr} {k : Nat} {x : Op8} (hc : ∀ j v, x.cells[j]? = some v → W.cell? (ad.add (k * 8 + j)) = some v) : (Instr.loadAt tOp (.pointer (some (ad.add (k * 8))))).run Try.prog W = .ok (.agg x.cells) W := by
  obtain ⟨K, ky, ka, na, sa, kb, nb, sb⟩ := x
  obtain ⟨h0, h1⟩ := celX hc
  have c0 : W.cell? (ad.add (k * 8)) = some (.int .i64 K) := h0 _ rfl
  have c1 : W.cell? ⟨(ad.add (k * 8)).block, (ad.add (k * 8)).off + 1, none⟩ = some (.string ky) := h1 0 _ rfl
  have c2 : W.cell? ⟨(ad.add (k * 8)).block, (ad.add (k * 8)).off + 2, none⟩ = some (.int .i64 ka) := h1 1 _ rfl
  have c3 : W.cell? ⟨(ad.add (k * 8)).block, (ad.add (k * 8)).off + 3, none⟩ = some (.int .i64 na) := h1 2 _ rfl
  have c4 : W.cell? ⟨(ad.add (k * 8)).block, (ad.add (k * 8)).off + 4, none⟩ = some (.string sa) := h1 3 _ rfl
  have c5 : W.cell? ⟨(ad.add (k * 8)).block, (ad.add (k * 8)).off + 5, none⟩ = some (.int .i64 kb) := h1 4 _ rfl
  have c6 : W.cell? ⟨(ad.add (k * 8)).block, (ad.add (k * 8)).off + 6, none⟩ = some (.int .i64 nb) := h1 5 _ rfl
  have c7 : W.cell? ⟨(ad.add (k * 8)).block, (ad.add (k * 8)).off + 7, none⟩ = some (.string sb) := h1 6 _ rfl
  clear hc h0 h1
  go_simp
theorem old_blk {W : World} {g : Nat} {x : Op8} {t : TypeId} (h : Blk W g x.cells t) : (Instr.loadAt tOp (.pointer (some ⟨g, 0, none⟩))).run Try.prog W = .ok (.agg x.cells) W := by
  have c0 := h.cell 0
  have c1 := h.cell 1
  have c2 := h.cell 2
  have c3 := h.cell 3
  have c4 := h.cell 4
  have c5 := h.cell 5
  have c6 := h.cell 6
  have c7 := h.cell 7
  clear h
  go_simp
theorem alOp (w : World) : (Instr.alloc tOp true (.tuple #[])).run Try.prog w = .ok (.pointer (some ⟨w.heap.size, 0, none⟩)) (w.alloc (.cells (opC 0 ⟨#[]⟩ 0 0 ⟨#[]⟩ 0 0 ⟨#[]⟩) tOp)) := by kernel_rfl
theorem op_oneC (x : Op8) : x.cells.all (·.oneCell') = true := by
  obtain ⟨K, ky, ka, na, sa, kb, nb, sb⟩ := x
  show (opC K ky ka na sa kb nb sb).all _ = true
  rw [show opC K ky ka na sa kb nb sb = [.int .i64 K, .string ky, .int .i64 ka, .int .i64 na, .string sa, .int .i64 kb, .int .i64 nb, .string sb].toArray from rfl, List.all_toArray]
  simp [Value.oneCell']
theorem fop1 (W : World) (b : Nat) : (Instr.fieldAt tOp (.pointer (some ⟨b, 0, none⟩)) 1).run Try.prog W = .ok (.pointer (some ⟨b, 1, none⟩)) W := by kernel_rfl
/-- A row of elements of z cells, in blocks other than q. -/
def RdN (z q B : Nat) (W : World) (A : Option Addr) (l : List (Array Value)) : Prop :=
  ∀ k cs, l[k]? = some cs → ∃ ad, A = some ad ∧ ad.block < B ∧ ad.block ≠ q ∧ ∀ j v, cs[j]? = some v → W.cell? (ad.add (k * z + j)) = some v
theorem RdN.rd {z q B : Nat} {W : World} {A : Option Addr} {l : List (Array Value)} (h : RdN z q B W A l) : RdX z B W A l := fun k cs hk => by
  obtain ⟨ad, h1, h2, _, h3⟩ := h k cs hk
  exact ⟨ad, h1, h2, h3⟩
theorem RdN.keep {z q B C : Nat} {W W' : World} {A : Option Addr} {l : List (Array Value)} (h : RdN z q B W A l) (hb : Below C W W') (hBC : B ≤ C) : RdN z q B W' A l := by
  intro k x hx
  obtain ⟨ad, hA, hl, hq, hc⟩ := h k x hx
  exact ⟨ad, hA, hl, hq, fun j v hv => (hb.cell (by rw [add_block]; omega)).trans (hc j v hv)⟩
theorem RdN.more {z q B C : Nat} {W : World} {A : Option Addr} {l : List (Array Value)} (h : RdN z q B W A l) (hBC : B ≤ C) : RdN z q C W A l := by
  intro k x hx
  obtain ⟨ad, hA, hl, hq, hc⟩ := h k x hx
  exact ⟨ad, hA, by omega, hq, hc⟩
theorem RdN.only {z q B : Nat} {W W' : World} {A : Option Addr} {l : List (Array Value)} (h : RdN z q B W A l) (ho : Only1 q W W') : RdN z q B W' A l := by
  intro k x hx
  obtain ⟨ad, hA, hl, hq, hc⟩ := h k x hx
  exact ⟨ad, hA, hl, hq, fun j v hv => (World.cell?_of_block (w := W) (ho.block (ad.add (k * z + j)).block (by rw [add_block]; exact hq))).trans (hc j v hv)⟩
theorem RdX.apart {z q B C : Nat} {W : World} {A : Option Addr} {l : List (Array Value)} (h : RdX z B W A l) (hq : B ≤ q) (hC : B ≤ C) : RdN z q C W A l := by
  intro k x hx
  obtain ⟨ad, hA, hl, hc⟩ := h k x hx
  exact ⟨ad, hA, by omega, by omega, hc⟩
theorem OwnX.apart {t : TypeId} {z base q n c : Nat} {W : World} {A : Option Addr} {l : List (Array Value)} (h : OwnX t z base W A n c l) (hq : q < base) : RdN z q W.heap.size W A l := by
  intro k x hx
  obtain ⟨ad, hA, hl, hc⟩ := h.rd k x hx
  have := (h.blk hA).1
  exact ⟨ad, hA, hl, by omega, hc⟩
/-- A slice of cells without its first. -/
def cutC (ad : Addr) (c : Nat) : Option Addr := if c = 1 then some ad else some (ad.add 4)
theorem run_cutC (W : World) (ad : Addr) (n c : Nat) (h : 1 ≤ n) (hc : n ≤ c) : (Instr.sliceAt 22 (.slice (some ad) n c) (some (.int .i64 1)) none none).run Try.prog W = .ok (.slice (cutC ad c) (n - 1) (c - 1)) W := by
  have h1 : (1 : Int) ≤ (n : Int) := by omega
  unfold cutC
  by_cases h2 : c = 1
  · have h3 : n = 1 := by omega
    subst h2 h3
    go_simp
  · have h3 : ¬ c = 1 := h2
    go_simp
theorem RdX.tailC {B : Nat} {W : World} {ad : Addr} {x : Cl} {r : List Cl} {c : Nat} (h : RdX 4 B W (some ad) ((x :: r).map Cl.cells)) (hc : (x :: r).length ≤ c) : RdX 4 B W (cutC ad c) (r.map Cl.cells) := by
  intro k cs hk
  have hne : ¬ c = 1 := by
    intro e
    rw [List.length_cons] at hc
    have : r.length = 0 := by omega
    rw [List.length_eq_zero_iff.1 this] at hk
    simp at hk
  obtain ⟨a, ha, hb, h2⟩ := h (k + 1) cs (by rw [List.map_cons]; exact hk)
  injection ha with ha
  subst ha
  refine ⟨ad.add 4, by unfold cutC; rw [if_neg hne], by rw [add_block]; exact hb, fun j v hv => ?_⟩
  have := h2 j v hv
  rw [add_add', show 4 + (k * 4 + j) = (k + 1) * 4 + j by omega]
  exact this
end Go.Proofs.Ytokkmofcijfmiab

namespace Go.Proofs.Ytokkmofcijfmiab
open Go.RowKit Go.WideShapes Go.ChangeShapes
section
open Go.Joins Go.Deep
variable {H : Type} {enc : TypeId × Value → H}
theorem cellsOr : Try.prog.cellsOf 47 = 8 := by kernel_rfl
set_option maxRecDepth 100000 in
theorem open_le {t te : TypeId} (ht : Try.prog.underlying t = some (.slice te)) {W : World} {A : Option Addr} {n c : Nat} {d : DataW H} {p : List MemPlace} (h : DataW.Trod enc Try.prog W 0 (fun _ => true) true t (.slice A n c) d p) : n ≤ c := by
  obtain ⟨fuel, hf⟩ := h
  rcases open_slice ht hf with ⟨hcs, _⟩ | ⟨a, len, cap, m, f, D, Pl, hcs, _, hl, hm, hmm, _, hi⟩
  · simp [Value.cells] at hcs
    omega
  · simp [Value.cells] at hcs
    omega
set_option maxRecDepth 100000 in
/-- Eight cells that read as an operation. -/
theorem open_opR {W : World} {base : Nat} {spare : Nat → Bool} {held : Bool} {fuel : Nat} {cs : List Value} {y : DataW H × List MemPlace} (hl : cs.length = 8) (h : DataW.trod enc Try.prog W base spare held fuel 47 cs = some y) : ∃ x : Op8, cs = x.cells.toList ∧ x.fits := by
  match cs, hl with
  | [c0, c1, c2, c3, c4, c5, c6, c7], _ =>
    obtain ⟨K, ky, ka, na, sa, kb, nb, sb, rfl, rfl, rfl, rfl, rfl, rfl, rfl, rfl, wky, wna, wsa, wnb, wsb⟩ := open_opW h
    exact ⟨⟨K, ky, ka, na, sa, kb, nb, sb⟩, rfl, wky, wsa, wsb, wf_i64 wna, wf_i64 wnb⟩
set_option maxRecDepth 100000 in
theorem open_opl {t : TypeId} (ht : Try.prog.underlying t = some (.slice 47)) {W : World} {r : Reach} {b0 : Nat} {v : Value} {d : DataW H} {p : List MemPlace} (hv : Value.okWide Try.prog W r b0 t v) (h : DataW.Trod enc Try.prog W 0 (fun _ => true) true t v d p) :
    ∃ (A : Option Addr) (n c : Nat) (l : List Op8), v = .slice A n c ∧ l.length = n ∧ RdX 8 W.heap.size W A (l.map Op8.cells) ∧ n ≤ maxLen ∧ ∀ x, x ∈ l → x.fits :=
  open_rowX Op8.cells Op8.fits ⟨0, ⟨#[]⟩, 0, 0, ⟨#[]⟩, 0, 0, ⟨#[]⟩⟩ (by omega) (fun _ => rfl) ht cellsOr (fun hl h => open_opR hl h) hv h
set_option maxRecDepth 100000 in
theorem open_cellsc {t : TypeId} (ht : Try.prog.underlying t = some (.slice 54)) {W : World} {r : Reach} {b0 : Nat} {v : Value} {d : DataW H} {p : List MemPlace} (hv : Value.okWide Try.prog W r b0 t v) (h : DataW.Trod enc Try.prog W 0 (fun _ => true) true t v d p) :
    ∃ (A : Option Addr) (n c : Nat) (l : List Cl), v = .slice A n c ∧ l.length = n ∧ RdX 4 W.heap.size W A (l.map Cl.cells) ∧ n ≤ maxLen ∧ n ≤ c ∧ ∀ x, x ∈ l → x.fits := by
  obtain ⟨A, n, c, l, rfl, h1, h2, h3, h4⟩ := open_cells ht hv h
  exact ⟨A, n, c, l, rfl, h1, h2, h3, open_le ht h, h4⟩
end
end Go.Proofs.Ytokkmofcijfmiab

namespace Go.Proofs.Ytokkmofcijfmiab

theorem xor_lt {a b : Nat} (h : a < 4294967296) (k : b < 4294967296) : a ^^^ b < 4294967296 := Nat.xor_lt_two_pow (n := 32) h k
/-- One bit. -/
def crcStep (c : Nat) : Nat := if c % 2 = 1 then (c / 2) ^^^ 2197175160 else c / 2
theorem crcStep_lt {c : Nat} (h : c < 4294967296) : crcStep c < 4294967296 := by
  unfold crcStep
  split
  · exact xor_lt (by omega) (by omega)
  · omega
theorem top_set {d : Nat} (h : d < 2147483648) : 2147483648 ≤ d ^^^ 2197175160 := by
  have h1 : (d ^^^ 2197175160).testBit 31 = true := by
    rw [Nat.testBit_xor, Nat.testBit_lt_two_pow (show d < 2 ^ 31 from h)]
    decide
  refine Nat.le_of_not_lt fun h2 => ?_
  have h3 := Nat.testBit_lt_two_pow (i := 31) (show d ^^^ 2197175160 < 2 ^ 31 from h2)
  rw [h1] at h3
  cases h3
theorem xor_cancel_right {a b c : Nat} (h : a ^^^ c = b ^^^ c) : a = b := by
  have := congrArg (· ^^^ c) h
  simpa [Nat.xor_assoc] using this
theorem xor_cancel_left {a b c : Nat} (h : c ^^^ a = c ^^^ b) : a = b := by
  rw [Nat.xor_comm c a, Nat.xor_comm c b] at h
  exact xor_cancel_right h
theorem crcStep_inj {c d : Nat} (hc : c < 4294967296) (hd : d < 4294967296) (h : crcStep c = crcStep d) : c = d := by
  unfold crcStep at h
  by_cases h1 : c % 2 = 1
  · rw [if_pos h1] at h
    by_cases h2 : d % 2 = 1
    · rw [if_pos h2] at h
      have := xor_cancel_right h
      omega
    · rw [if_neg h2] at h
      have := top_set (d := c / 2) (by omega)
      omega
  · rw [if_neg h1] at h
    by_cases h2 : d % 2 = 1
    · rw [if_pos h2] at h
      have := top_set (d := d / 2) (by omega)
      omega
    · rw [if_neg h2] at h
      omega
/-- So many bits. -/
def crcSteps : Nat → Nat → Nat
  | 0, c => c
  | k + 1, c => crcSteps k (crcStep c)
theorem crcSteps_succ : ∀ (k c : Nat), crcSteps (k + 1) c = crcStep (crcSteps k c)
  | 0, _ => rfl
  | k + 1, c => by
    show crcSteps (k + 1) (crcStep c) = _
    rw [crcSteps_succ k (crcStep c)]
    rfl
theorem crcSteps_lt : ∀ (k : Nat) {c : Nat}, c < 4294967296 → crcSteps k c < 4294967296
  | 0, _, h => h
  | k + 1, _, h => crcSteps_lt k (crcStep_lt h)
theorem crcSteps_inj : ∀ (k : Nat) {c d : Nat}, c < 4294967296 → d < 4294967296 → crcSteps k c = crcSteps k d → c = d
  | 0, _, _, _, _, h => h
  | k + 1, _, _, hc, hd, h => crcStep_inj hc hd (crcSteps_inj k (crcStep_lt hc) (crcStep_lt hd) h)
/-- One byte. -/
def crcByte (c : Nat) (b : UInt8) : Nat := crcSteps 8 (c ^^^ b.toNat)
theorem byte_lt (b : UInt8) : b.toNat < 4294967296 := Nat.lt_trans b.toNat_lt (by decide)
theorem crcByte_lt {c : Nat} (h : c < 4294967296) (b : UInt8) : crcByte c b < 4294967296 := crcSteps_lt 8 (xor_lt h (byte_lt b))
theorem crcByte_inj {c d : Nat} {b : UInt8} (hc : c < 4294967296) (hd : d < 4294967296) (h : crcByte c b = crcByte d b) : c = d :=
  xor_cancel_right (crcSteps_inj 8 (xor_lt hc (byte_lt b)) (xor_lt hd (byte_lt b)) h)
theorem crcByte_inj2 {c : Nat} {b b' : UInt8} (hc : c < 4294967296) (h : crcByte c b = crcByte c b') : b = b' :=
  UInt8.toNat_inj.1 (xor_cancel_left (crcSteps_inj 8 (xor_lt hc (byte_lt b)) (xor_lt hc (byte_lt b')) h))
/-- Where the bytes lead. -/
def crcTo (c : Nat) (l : List UInt8) : Nat := l.foldl crcByte c
theorem crcTo_snoc (c : Nat) (l : List UInt8) (b : UInt8) : crcTo c (l ++ [b]) = crcByte (crcTo c l) b := by simp [crcTo]
theorem crcTo_lt : ∀ (l : List UInt8) {c : Nat}, c < 4294967296 → crcTo c l < 4294967296
  | [], _, h => h
  | b :: t, _, h => crcTo_lt t (crcByte_lt h b)
theorem crcTo_inj : ∀ (l : List UInt8) {c d : Nat}, c < 4294967296 → d < 4294967296 → crcTo c l = crcTo d l → c = d
  | [], _, _, _, _, h => h
  | b :: t, _, _, hc, hd, h => crcByte_inj hc hd (crcTo_inj t (crcByte_lt hc b) (crcByte_lt hd b) h)
/-- The sum. -/
def crcL (l : List UInt8) : Nat := 4294967295 - crcTo 4294967295 l
theorem crcL_lt (l : List UInt8) : crcL l < 4294967296 := by unfold crcL; omega
/-- Two rows that differ in one byte have different sums. -/
theorem crcL_one {l r : List UInt8} {b b' : UInt8} (h : crcL (l ++ b :: r) = crcL (l ++ b' :: r)) : b = b' := by
  unfold crcL at h
  have h1 := crcTo_lt (l ++ b :: r) (c := 4294967295) (by decide)
  have h2 := crcTo_lt (l ++ b' :: r) (c := 4294967295) (by decide)
  have h3 : crcTo 4294967295 (l ++ b :: r) = crcTo 4294967295 (l ++ b' :: r) := by omega
  have e : ∀ x : UInt8, crcTo 4294967295 (l ++ x :: r) = crcTo (crcByte (crcTo 4294967295 l) x) r := fun x => by simp [crcTo]
  have hl := crcTo_lt l (c := 4294967295) (by decide)
  rw [e, e] at h3
  exact crcByte_inj2 hl (crcTo_inj r (crcByte_lt hl b) (crcByte_lt hl b') h3)
/-- Exclusive or, bit by bit from below. -/
theorem xor_bits (a b i : Nat) : (a ^^^ b) % 2 ^ (i + 1) = (a ^^^ b) % 2 ^ i + (if (a / 2 ^ i % 2 == 1) != (b / 2 ^ i % 2 == 1) then 2 ^ i else 0) := by
  have h1 : (a ^^^ b) % 2 ^ (i + 1) = (a ^^^ b) % 2 ^ i + 2 ^ i * ((a ^^^ b) / 2 ^ i % 2) := by
    rw [Nat.pow_succ, Nat.mod_mul]
  rw [h1]
  congr 1
  have ht : ((a ^^^ b).testBit i) = ((a.testBit i) != (b.testBit i)) := Nat.testBit_xor a b i
  rw [Nat.testBit_eq_decide_div_mod_eq, Nat.testBit_eq_decide_div_mod_eq, Nat.testBit_eq_decide_div_mod_eq] at ht
  have e : ∀ n : Nat, decide (n % 2 = 1) = (n % 2 == 1) := fun n => by rw [Bool.eq_iff_iff]; simp
  rw [e, e, e] at ht
  rw [← ht]
  have h2 : (a ^^^ b) / 2 ^ i % 2 = 0 ∨ (a ^^^ b) / 2 ^ i % 2 = 1 := by omega
  rcases h2 with h | h <;> simp [h]
end Go.Proofs.Ytokkmofcijfmiab
