/-
  WHAT IS PROVED: 'what lay in w0 lies in W' as a word for XFastC's laws. Conditions: those typed in each theorem. · skies: New, Next, Below; the document's half, Next, Below. Conditions: those typed in each theorem. · skies: Below; the document's half, Next, Below. Conditions: those typed in each theorem.
-/
import Derived.Test.YtokkmofcijfmiabFastC
import Derived.Test.YtokkmofcijfmiabGQ9
import Derived.Lib.Hide
import Derived.Deep.Cut
import Derived.Shelf.Abstract
import Derived.Outline
import Derived.BigRegion
import Derived.BigQuiet
import Derived.Deep.QuietTactic
import Derived.RowKitTokens
import Derived.WalkKit
import Derived.Laws.BitsLemmas
import Derived.Lib.EndianBits
namespace Go.Proofs.Ytokkmofcijfmiab
open Go.RowKit

/-- What lay in w0 lies in W. -/
def Kp (w0 W : World) : Prop := Below w0.heap.size w0 W
theorem Kp.refl (w : World) : Kp w w := Below.refl _ _
theorem Kp.drew (w : World) : Kp w w.drew := (Below.refl w.heap.size w).drew
theorem Kp.drews {a b : World} (h : Kp a b) : Kp a b.drew := Below.drew h
theorem Kp.blk {w0 W : World} (h : Kp w0 W) {b : Nat} {cs : Array Value} {t : TypeId} (hX : Blk w0 b cs t) : Blk W b cs t := hX.keep h
theorem Kp.trans {a b c : World} (h : Kp a b) (k : Below b.heap.size b c) : Kp a c := Below.trans h (k.mono h.size)
theorem Kp.below {a b : World} (h : Kp a b) : Below a.heap.size a b := h
/-- A call's contract under Kp. -/
theorem kp_c {w0 : World} {f : FuncId} {args : Array Value} {v : Value} (h : ∀ W, Kp w0 W → Calls Try.prog f args W fun e w' => e = .returned v ∧ Below W.heap.size W w') :
    ∀ W, Kp w0 W → Calls Try.prog f args W fun e w' => e = .returned v ∧ Kp w0 w' := fun W hW => (h W hW).mono fun _ _ ⟨he, hb⟩ => ⟨he, hW.trans hb⟩
theorem same_c {f : FuncId} {args : Array Value} {v : Value} {w : World} (h : Calls Try.prog f args w fun e w' => e = .returned v ∧ w' = w) : Calls Try.prog f args w fun e w' => e = .returned v ∧ Below w.heap.size w w' :=
  h.mono fun _ _ ⟨he, hw⟩ => ⟨he, by rw [hw]; exact Below.refl _ _⟩
theorem er_eql (i : Nat) (m k : Int) (W : World) : ((do eqGuard .eql 25 (.tmp i) (.const (.int .i64 k)) (.int .i64 m) (.int .i64 k); binOp .eql 25 (.int .i64 m) (.int .i64 k)) : Sem Value).run Try.prog W = .ok (.bool (m == k)) W := by go_simp
theorem er_eql2 (i j : Nat) (m k : Int) (W : World) : ((do eqGuard .eql 25 (.tmp i) (.tmp j) (.int .i64 m) (.int .i64 k); binOp .eql 25 (.int .i64 m) (.int .i64 k)) : Sem Value).run Try.prog W = .ok (.bool (m == k)) W := by go_simp
theorem bo_eql2 (i j : Nat) (m k : Bool) (W : World) : ((do eqGuard .eql 4 (.tmp i) (.tmp j) (.bool m) (.bool k); binOp .eql 4 (.bool m) (.bool k)) : Sem Value).run Try.prog W = .ok (.bool (m == k)) W := by cases m <;> cases k <;> go_simp
theorem er_neq (i : Nat) (m k : Int) (W : World) : ((do eqGuard .neq 25 (.tmp i) (.const (.int .i64 k)) (.int .i64 m) (.int .i64 k); binOp .neq 25 (.int .i64 m) (.int .i64 k)) : Sem Value).run Try.prog W = .ok (.bool (m != k)) W := by go_simp
theorem er_neq2 (i j : Nat) (m k : Int) (W : World) : ((do eqGuard .neq 25 (.tmp i) (.tmp j) (.int .i64 m) (.int .i64 k); binOp .neq 25 (.int .i64 m) (.int .i64 k)) : Sem Value).run Try.prog W = .ok (.bool (m != k)) W := by go_simp
theorem bo_neq2 (i j : Nat) (m k : Bool) (W : World) : ((do eqGuard .neq 4 (.tmp i) (.tmp j) (.bool m) (.bool k); binOp .neq 4 (.bool m) (.bool k)) : Sem Value).run Try.prog W = .ok (.bool (m != k)) W := by cases m <;> cases k <;> go_simp
section
variable {P : Program} {l : List Oper} {Q : Exit → Act → World → Prop} {S : World → Prop} {fuel : Nat} {listed : Array Bool} {a0 : Act} {L : List (Nat × Bool × Value)} {w : World}
/-- Any operation that reads, in a region that draws and writes. -/
theorem h_op (k : Nat) {oi : Oper} {d n : Nat} {v : Value} (hn : a0.tmps.size = n) (hS : S w) (hr : ∀ W, S W → (∀ p, p ∈ L → p.1 < a0.tmps.size) → (execOp (fr a0 L).eval oi).run P W = .ok (.value v) W) (h : FH P l Q S fuel (listed.setIfInBounds k true) a0 ((d, true, v) :: L) w) (hi : l.toArray[k]? = some oi := by rfl) (ho : oi.dst = some d := by rfl) (hd : Nat.blt d n = true := by rfl) (hw : wtG l L oi.guard = some true := by rfl) (hs : Region.noSelect l.toArray = true := by kernel_rfl) (hf : Region.free .any l.toArray listed k = true := by kernel_rfl) (hr2 : (Region.ready .any l.toArray listed).contains k = true := by kernel_rfl) (hQ : ∀ c a w, Q (.panic c) (a.put oi.dst (cnd true v)) w → Q (.panic c) a w := by exact fun _ _ _ h => h) : FH P l Q S (fuel + 1) listed a0 L w :=
  fh_op k hn hS h ho hi hd hs hf hr2 hQ hw (fun hk _ w hw => hr w hw hk)
/-- The one operation that may come up reads. -/
theorem h_one (k : Nat) {oi : Oper} {d n : Nat} {v : Value} (hn : a0.tmps.size = n) (hS : S w) (hx : (∀ p, p ∈ L → p.1 < a0.tmps.size) → (execOp (fr a0 L).eval oi).run P w = .ok (.value v) w) (h : FH P l Q S fuel (listed.setIfInBounds k true) a0 ((d, true, v) :: L) w) (hi : l.toArray[k]? = some oi := by rfl) (ho : oi.dst = some d := by rfl) (hd : Nat.blt d n = true := by rfl) (hw : wtG l L oi.guard = some true := by rfl) (hr : Region.ready .any l.toArray listed = [k] := by kernel_rfl) : FH P l Q S (fuel + 1) listed a0 L w :=
  fh_valx k hn ho hx hS h hi hd hr hw
/-- The last operation stores. -/
theorem h_st (k : Nat) {w2 : World} {i j : Nat} {t ty : TypeId} {p : String} {af : Array Edge} {gd : Option (Nat × Bool)} {ad : Addr} {v : Value} (hs : (Instr.storeAt t (.pointer (some ad)) v).run P w = .ok () w2) (hS : S w2) (h : FH P l Q S fuel (listed.setIfInBounds k true) a0 L w2) (hi : l.toArray[k]? = some ⟨none, .store t (.tmp i) (.tmp j), ty, p, af, gd⟩ := by rfl) (h1 : lk L i = some (true, .pointer (some ad)) := by rfl) (h2 : lk L j = some (true, v) := by rfl) (hr : Region.ready .any l.toArray listed = [k] := by kernel_rfl) (hw : wtG l L gd = some true := by rfl) : FH P l Q S (fuel + 1) listed a0 L w :=
  fh_skip k rfl (fun hk => run_st (lk_at hk h1 (fun _ => rfl) rfl) (lk_at hk h2 (fun _ => rfl) rfl) hs) hS h hi hr hw
end
section
variable {P : Program} {l : List Oper} {Q : Exit → Act → World → Prop} {S : World → Prop} {fuel : Nat} {listed : Array Bool} {a0 : Act} {L : List (Nat × Bool × Value)} {w : World}
/-- The one operation that may come up yields one value and keeps S. -/
theorem h_yv (k : Nat) {oi : Oper} {d n : Nat} {v : Value} (hn : a0.tmps.size = n) (hS : S w) (hy : (∀ p, p ∈ L → p.1 < a0.tmps.size) → YV P S (fr a0 L).eval oi v) (h : ∀ w2, S w2 → FH P l Q S fuel (listed.setIfInBounds k true) a0 ((d, true, v) :: L) w2)
    (hi : l.toArray[k]? = some oi := by rfl) (ho : oi.dst = some d := by rfl) (hd : Nat.blt d n = true := by rfl) (hr : Region.ready .any l.toArray listed = [k] := by kernel_rfl) (hw : wtG l L oi.guard = some true := by rfl) : FH P l Q S (fuel + 1) listed a0 L w :=
  fh_val k hn (R := fun u w2 => u = v ∧ S w2) (fun K hK hk => (hy hk).wp hS fun w2 hs => by rw [ho]; exact hK v w2 ⟨rfl, hs⟩) (fun u w2 e => by obtain ⟨rfl, hs⟩ := e; exact ⟨hs, h w2 hs⟩) hi hd hr hw
end
/-- A struct or an array of a call's own: its block, laid and stored. -/
theorem al_row {d n : Nat} {l : List Oper} {Q : Exit → Act → World → Prop} {rest : List Oper} {a0 : Act} {L : List (Nat × Bool × Value)} {w : World} {t ty : TypeId} {p : String} {af : Array Edge} {z : Array Value} (hn : a0.tmps.size = n)
    (hr : (Instr.alloc t true (.tuple #[])).run Try.prog w = .ok (.pointer (some ⟨w.heap.size, 0, none⟩)) (w.alloc (.cells z t)))
    (h : ∀ g w2, g = w.heap.size → Blk w2 g z t → Below w.heap.size w w2 → FL Try.prog l Q rest a0 ((d, true, .pointer (some ⟨g, 0, none⟩)) :: L) w2) (hd : Nat.blt d n = true := by rfl) : FL Try.prog l Q (⟨some d, .alloc t, ty, p, af, none⟩ :: rest) a0 L w :=
  g_w hn (w2 := w.alloc (.cells z t)) (v := .pointer (some ⟨w.heap.size, 0, none⟩)) (fun _ => by unfold execOp; dsimp only; rw [Sem.run_bind, hr]; rfl) (h _ _ rfl (blk_new w z t) (b0 w _)) rfl hd rfl
end Go.Proofs.Ytokkmofcijfmiab

namespace Go.Proofs.Ytokkmofcijfmiab
open Go.RowKit

/-- All that lay there stays, but one block. -/
structure Exc (g : Nat) (W W' : World) : Prop where
  os : W'.os = W.os
  tape : W'.tape = W.tape
  output : W'.output = W.output
  size : W.heap.size ≤ W'.heap.size
  block : ∀ k, k < W.heap.size → k ≠ g → W'.heap[k]? = W.heap[k]?
theorem Exc.refl (g : Nat) (W : World) : Exc g W W := ⟨rfl, rfl, rfl, Nat.le_refl _, fun _ _ _ => rfl⟩
theorem Exc.trans {g : Nat} {a b c : World} (h : Exc g a b) (k : Exc g b c) : Exc g a c :=
  ⟨k.os.trans h.os, k.tape.trans h.tape, k.output.trans h.output, Nat.le_trans h.size k.size, fun i hi hg => (k.block i (Nat.lt_of_lt_of_le hi h.size) hg).trans (h.block i hi hg)⟩
theorem Below.exc {a b : World} (h : Below a.heap.size a b) (g : Nat) : Exc g a b := ⟨h.os, h.tape, h.output, h.size, fun k hk _ => h.block k hk⟩
theorem Only1.exc {g : Nat} {a b : World} (h : Only1 g a b) : Exc g a b := ⟨h.os, h.tape, h.output, Nat.le_of_eq h.size.symm, fun k _ hk => h.block k hk⟩
theorem Exc.below {g B : Nat} {a b : World} (h : Exc g a b) (hB : B ≤ g) (hs : B ≤ a.heap.size) : Below B a b := ⟨h.os, h.tape, h.output, h.size, fun k hk => h.block k (by omega) (by omega)⟩
theorem Exc.blk {g p : Nat} {a b : World} (h : Exc g a b) {cs : Array Value} {t : TypeId} (hX : Blk a p cs t) (hg : p ≠ g) : Blk b p cs t := (h.block p hX.lt hg).trans hX
theorem Exc.up {g : Nat} {a b c : World} (h : Below a.heap.size a b) (k : Exc g b c) (hg : a.heap.size ≤ g) : Below a.heap.size a c :=
  ⟨k.os.trans h.os, k.tape.trans h.tape, k.output.trans h.output, Nat.le_trans h.size k.size, fun i hi => (k.block i (Nat.lt_of_lt_of_le hi h.size) (by omega)).trans (h.block i hi)⟩
theorem xor_u64 (a b : Nat) (ha : a < 18446744073709551616) (hb : b < 18446744073709551616) : bits .xor .u64 (a : Int) (b : Int) = ((a ^^^ b : Nat) : Int) := by
  have hx : a ^^^ b < 2 ^ 64 := Nat.xor_lt_two_pow (by omega) (by omega)
  have h1 : (BitVec.ofInt 64 (a : Int)).toNat = a := by
    rw [BitVec.ofInt_natCast, BitVec.toNat_ofNat]
    exact Nat.mod_eq_of_lt (by omega)
  have h2 : (BitVec.ofInt 64 (b : Int)).toNat = b := by
    rw [BitVec.ofInt_natCast, BitVec.toNat_ofNat]
    exact Nat.mod_eq_of_lt (by omega)
  show IntKind.u64.wrap ((BitVec.ofInt 64 (a : Int) ^^^ BitVec.ofInt 64 (b : Int)).toNat : Int) = _
  rw [BitVec.toNat_xor, h1, h2, IntKind.wrap_u64]
  omega
theorem wrapN (a : Nat) : IntKind.u64.wrap (a : Int) = ((a % 18446744073709551616 : Nat) : Int) := by
  rw [IntKind.wrap_u64]
  omega
end Go.Proofs.Ytokkmofcijfmiab

namespace Go.Proofs.Ytokkmofcijfmiab
open Go.RowKit

theorem wrapD {x : Int} {k n : Nat} (h : x = (k : Int)) (hn : n < 18446744073709551616) (hk : k ≤ n) : IntKind.u64.wrap x = (k : Int) := by
  rw [h, wrapN, Nat.mod_eq_of_lt (by omega)]
theorem wrapI {y : Nat} (h : y ≤ 9223372036854775807) : IntKind.i64.wrap (y : Int) = (y : Int) := by
  unfold IntKind.wrap
  simp [IntKind.bits, IntKind.signed]
  omega
set_option maxRecDepth 100000 in
theorem cv_ui (W : World) {y : Nat} (h : y ≤ 9223372036854775807) : (convert 36 3 (.int .u64 (y : Int))).run Try.prog W = .ok (.int .i64 (y : Int)) W := by
  have h2 : (convert 36 3 (.int .u64 (y : Int))).run Try.prog W = .ok (.int .i64 (IntKind.i64.wrap (y : Int))) W := run_convert_int (P := Try.prog) (w := W) 36 3 .u64 (y : Int) (by kernel_rfl) (by kernel_rfl)
  rw [wrapI h] at h2
  exact h2
theorem rem_uu (i j : Nat) (W : World) (z m : Nat) (hm : 0 < m) (hz : z < 18446744073709551616) : ((do eqGuard .rem 36 (.tmp i) (.tmp j) (.int .u64 (z : Int)) (.int .u64 (m : Int)); binOp .rem 36 (.int .u64 (z : Int)) (.int .u64 (m : Int))) : Sem Value).run Try.prog W = .ok (.int .u64 ((z % m : Nat) : Int)) W := by
  have m0 : ¬ m = 0 := by omega
  have m1 : Int.tmod (z : Int) (m : Int) = ((z % m : Nat) : Int) := rfl
  rw [← m1]
  clear m1 hz hm
  unfold binOp
  simp only [eqGuard, go_sem]
  simp [m0]
theorem conv_iu (n : Int) (h : 1 ≤ n) (h2 : n ≤ 9223372036854775807) : IntKind.u64.wrap n = n := by
  unfold IntKind.wrap
  simp [IntKind.bits, IntKind.signed]
  omega
end Go.Proofs.Ytokkmofcijfmiab
