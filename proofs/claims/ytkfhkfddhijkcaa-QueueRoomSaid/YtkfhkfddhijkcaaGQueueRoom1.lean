/-
  WHAT IS PROVED: 'what lay in w0 lies in W' as a word for XFastC's laws. Conditions: those typed in each theorem. · words for arrays of twelve numbers: as a list, in a block, loaded whole or by a cell. Conditions: those typed in each theorem. · '==' and '!=' of arrays of twelve numbers. Conditions: none. · what package roster tells of lasts: isNode, last, Ask, Next; the document's Ask. Conditions: those typed in each theorem. · roster's Join and Covers, and the document's. Conditions: those typed in each theorem. · the document's Good of values, named goodB here, for every value. No condition. · plain facts on how a text is quoted. No program. No condition. · plain facts on keys: which texts of bytes are keys. No program. No condition. · deed.Key and the document's Key answer the same bool, named keyB, for every text. Condition: the text is no longer than the form's reach. · the document's Good of operations, named opB, for every operation. Condition: the texts are no longer than the form's reach. · plain facts on numbers, ints, texts as bytes, put and taken. No program. No condition. · the document's bytes of numbers, ints, texts and flags (spinneyref05), for all. Conditions: those typed in each theorem. · the document's bytes of good values (spinneyref05.Value). Conditions: those typed in the theorem. · the document's bytes of good writes (spinneyref05.Write). Conditions: those typed in the theorem. · words for slices of writes (own work): a slice that reads as a list of writes, nil let in; the document's Good of ids, of writes, of lists of writes. Conditions: those typed in each theorem. · words for slices of writes (own work): a slice that reads as a list of writes, nil let in; the document's Good of lists of writes. Conditions: those typed in each theorem. · a write's cells, reached by an index into a slice of writes, or in a block of its own. Conditions: those typed in each theorem. · roster's Of, and the document's. Conditions: those typed in each theorem. · words for slices of structs (own work): a slice that reads as a list of elements of so many cells each, nil let in; one that the call owns; append of one element onto such a row. Over any program that bears the types named. · append of a slice's elements, however many, onto a row of the call's own; slices of writes cut. Conditions: those typed in each theorem. · strings.Clone answers the same text. Conditions: those typed in the theorem. · fresh.Value and fresh.Write answer what was handed in. Conditions: those typed in each theorem. · roster's Left, and the document's: a row of their own of the writes that aren't old. Conditions: those typed in each theorem. · plain facts on the sum CRC-32C: it is told by exclusive or on numbers below 2^32; bytes of one length that differ in one byte have different sums. No program. No condition. · plain words for skies: the next number, one below another one, an index by weights. No condition. · skies: New, Next, Below; the document's half, Next, Below. Conditions: those typed in each theorem. · skies: Below; the document's half, Next, Below. Conditions: those typed in each theorem.
-/
import Derived.Test.YtkfhkfddhijkcaaFastC
import Derived.Test.YtkfhkfddhijkcaaGQueueRoom0
import Derived.Deep.MidRow
import Derived.ChangeKeysEq
import Derived.Lib.Hide
import Derived.Deep.Cut
import Derived.Shelf.Abstract
import Derived.Outline
import Derived.BigRegion
import Derived.BigQuiet
import Derived.Deep.QuietTactic
import Derived.RowKitTokens
import Derived.WalkKit
import Derived.Lib.Bytealg
import Derived.Lib.OthersKept
import Derived.Laws.RangeAny
import Derived.IntWalk
import Derived.Lib.AppendStr
import Derived.Deep.RegionHeld3
import Derived.Deep.DrawnRows
import Derived.Test.YtkfhkfddhijkcaaShelf
import Derived.Laws.Rows
import Derived.Great.BuildSlice
import GoSem.Claim
import Derived.Laws.BitsLemmas
import Derived.Lib.EndianBits
namespace Go.Proofs.Ytkfhkfddhijkcaa
open Go.RowKit

/-- What lay in w0 lies in W. -/
def Kp (w0 W : World) : Prop := Below w0.heap.size w0 W
theorem Kp.refl (w : World) : Kp w w := Below.refl _ _
theorem Kp.drew (w : World) : Kp w w.drew := (Below.refl w.heap.size w).drew
theorem Kp.drews {a b : World} (h : Kp a b) : Kp a b.drew := Below.drew h
theorem Kp.blk {w0 W : World} (h : Kp w0 W) {b : Nat} {cs : Array Value} {t : TypeId} (hX : Blk w0 b cs t) : Blk W b cs t := hX.keep h
theorem Kp.trans {a b c : World} (h : Kp a b) (k : Below b.heap.size b c) : Kp a c := Below.trans h (k.mono h.size)
theorem Kp.below {a b : World} (h : Kp a b) : Below a.heap.size a b := h
/-- A call's contract under Kp. -/
theorem kp_c {w0 : World} {f : FuncId} {args : Array Value} {v : Value} (h : ∀ W, Kp w0 W → Calls Try.prog f args W fun e w' => e = .returned v ∧ Below W.heap.size W w') :
    ∀ W, Kp w0 W → Calls Try.prog f args W fun e w' => e = .returned v ∧ Kp w0 w' := fun W hW => (h W hW).mono fun _ _ ⟨he, hb⟩ => ⟨he, hW.trans hb⟩
theorem same_c {f : FuncId} {args : Array Value} {v : Value} {w : World} (h : Calls Try.prog f args w fun e w' => e = .returned v ∧ w' = w) : Calls Try.prog f args w fun e w' => e = .returned v ∧ Below w.heap.size w w' :=
  h.mono fun _ _ ⟨he, hw⟩ => ⟨he, by rw [hw]; exact Below.refl _ _⟩
theorem er_eql (i : Nat) (m k : Int) (W : World) : ((do eqGuard .eql 24 (.tmp i) (.const (.int .i64 k)) (.int .i64 m) (.int .i64 k); binOp .eql 24 (.int .i64 m) (.int .i64 k)) : Sem Value).run Try.prog W = .ok (.bool (m == k)) W := by go_simp
theorem er_eql2 (i j : Nat) (m k : Int) (W : World) : ((do eqGuard .eql 24 (.tmp i) (.tmp j) (.int .i64 m) (.int .i64 k); binOp .eql 24 (.int .i64 m) (.int .i64 k)) : Sem Value).run Try.prog W = .ok (.bool (m == k)) W := by go_simp
theorem bo_eql2 (i j : Nat) (m k : Bool) (W : World) : ((do eqGuard .eql 4 (.tmp i) (.tmp j) (.bool m) (.bool k); binOp .eql 4 (.bool m) (.bool k)) : Sem Value).run Try.prog W = .ok (.bool (m == k)) W := by cases m <;> cases k <;> go_simp
theorem er_neq (i : Nat) (m k : Int) (W : World) : ((do eqGuard .neq 24 (.tmp i) (.const (.int .i64 k)) (.int .i64 m) (.int .i64 k); binOp .neq 24 (.int .i64 m) (.int .i64 k)) : Sem Value).run Try.prog W = .ok (.bool (m != k)) W := by go_simp
theorem er_neq2 (i j : Nat) (m k : Int) (W : World) : ((do eqGuard .neq 24 (.tmp i) (.tmp j) (.int .i64 m) (.int .i64 k); binOp .neq 24 (.int .i64 m) (.int .i64 k)) : Sem Value).run Try.prog W = .ok (.bool (m != k)) W := by go_simp
theorem bo_neq2 (i j : Nat) (m k : Bool) (W : World) : ((do eqGuard .neq 4 (.tmp i) (.tmp j) (.bool m) (.bool k); binOp .neq 4 (.bool m) (.bool k)) : Sem Value).run Try.prog W = .ok (.bool (m != k)) W := by cases m <;> cases k <;> go_simp
section
variable {P : Program} {l : List Oper} {Q : Exit → Act → World → Prop} {S : World → Prop} {fuel : Nat} {listed : Array Bool} {a0 : Act} {L : List (Nat × Bool × Value)} {w : World}
/-- Any operation that reads, in a region that draws and writes. -/
theorem h_op (k : Nat) {oi : Oper} {d n : Nat} {v : Value} (hn : a0.tmps.size = n) (hS : S w) (hr : ∀ W, S W → (∀ p, p ∈ L → p.1 < a0.tmps.size) → (execOp (fr a0 L).eval oi).run P W = .ok (.value v) W) (h : FH P l Q S fuel (listed.setIfInBounds k true) a0 ((d, true, v) :: L) w) (hi : l.toArray[k]? = some oi := by rfl) (ho : oi.dst = some d := by rfl) (hd : Nat.blt d n = true := by rfl) (hw : wtG l L oi.guard = some true := by rfl) (hs : Region.noSelect l.toArray = true := by kernel_rfl) (hf : Region.free .any l.toArray listed k = true := by kernel_rfl) (hr2 : (Region.ready .any l.toArray listed).contains k = true := by kernel_rfl) (hQ : ∀ c a w, Q (.panic c) (a.put oi.dst (cnd true v)) w → Q (.panic c) a w := by exact fun _ _ _ h => h) : FH P l Q S (fuel + 1) listed a0 L w :=
  fh_op k hn hS h ho hi hd hs hf hr2 hQ hw (fun hk _ w hw => hr w hw hk)
/-- The one operation that may come up reads. -/
theorem h_one (k : Nat) {oi : Oper} {d n : Nat} {v : Value} (hn : a0.tmps.size = n) (hS : S w) (hx : (∀ p, p ∈ L → p.1 < a0.tmps.size) → (execOp (fr a0 L).eval oi).run P w = .ok (.value v) w) (h : FH P l Q S fuel (listed.setIfInBounds k true) a0 ((d, true, v) :: L) w) (hi : l.toArray[k]? = some oi := by rfl) (ho : oi.dst = some d := by rfl) (hd : Nat.blt d n = true := by rfl) (hw : wtG l L oi.guard = some true := by rfl) (hr : Region.ready .any l.toArray listed = [k] := by kernel_rfl) : FH P l Q S (fuel + 1) listed a0 L w :=
  fh_valx k hn ho hx hS h hi hd hr hw
/-- The last operation stores. -/
theorem h_st (k : Nat) {w2 : World} {i j : Nat} {t ty : TypeId} {p : String} {af : Array Edge} {gd : Option (Nat × Bool)} {ad : Addr} {v : Value} (hs : (Instr.storeAt t (.pointer (some ad)) v).run P w = .ok () w2) (hS : S w2) (h : FH P l Q S fuel (listed.setIfInBounds k true) a0 L w2) (hi : l.toArray[k]? = some ⟨none, .store t (.tmp i) (.tmp j), ty, p, af, gd⟩ := by rfl) (h1 : lk L i = some (true, .pointer (some ad)) := by rfl) (h2 : lk L j = some (true, v) := by rfl) (hr : Region.ready .any l.toArray listed = [k] := by kernel_rfl) (hw : wtG l L gd = some true := by rfl) : FH P l Q S (fuel + 1) listed a0 L w :=
  fh_skip k rfl (fun hk => run_st (lk_at hk h1 (fun _ => rfl) rfl) (lk_at hk h2 (fun _ => rfl) rfl) hs) hS h hi hr hw
end
section
variable {P : Program} {l : List Oper} {Q : Exit → Act → World → Prop} {S : World → Prop} {fuel : Nat} {listed : Array Bool} {a0 : Act} {L : List (Nat × Bool × Value)} {w : World}
/-- The one operation that may come up yields one value and keeps S. -/
theorem h_yv (k : Nat) {oi : Oper} {d n : Nat} {v : Value} (hn : a0.tmps.size = n) (hS : S w) (hy : (∀ p, p ∈ L → p.1 < a0.tmps.size) → YV P S (fr a0 L).eval oi v) (h : ∀ w2, S w2 → FH P l Q S fuel (listed.setIfInBounds k true) a0 ((d, true, v) :: L) w2)
    (hi : l.toArray[k]? = some oi := by rfl) (ho : oi.dst = some d := by rfl) (hd : Nat.blt d n = true := by rfl) (hr : Region.ready .any l.toArray listed = [k] := by kernel_rfl) (hw : wtG l L oi.guard = some true := by rfl) : FH P l Q S (fuel + 1) listed a0 L w :=
  fh_val k hn (R := fun u w2 => u = v ∧ S w2) (fun K hK hk => (hy hk).wp hS fun w2 hs => by rw [ho]; exact hK v w2 ⟨rfl, hs⟩) (fun u w2 e => by obtain ⟨rfl, hs⟩ := e; exact ⟨hs, h w2 hs⟩) hi hd hr hw
end
/-- A struct or an array of a call's own: its block, laid and stored. -/
theorem al_row {d n : Nat} {l : List Oper} {Q : Exit → Act → World → Prop} {rest : List Oper} {a0 : Act} {L : List (Nat × Bool × Value)} {w : World} {t ty : TypeId} {p : String} {af : Array Edge} {z : Array Value} (hn : a0.tmps.size = n)
    (hr : (Instr.alloc t true (.tuple #[])).run Try.prog w = .ok (.pointer (some ⟨w.heap.size, 0, none⟩)) (w.alloc (.cells z t)))
    (h : ∀ g w2, g = w.heap.size → Blk w2 g z t → Below w.heap.size w w2 → FL Try.prog l Q rest a0 ((d, true, .pointer (some ⟨g, 0, none⟩)) :: L) w2) (hd : Nat.blt d n = true := by rfl) : FL Try.prog l Q (⟨some d, .alloc t, ty, p, af, none⟩ :: rest) a0 L w :=
  g_w hn (w2 := w.alloc (.cells z t)) (v := .pointer (some ⟨w.heap.size, 0, none⟩)) (fun _ => by unfold execOp; dsimp only; rw [Sem.run_bind, hr]; rfl) (h _ _ rfl (blk_new w z t) (b0 w _)) rfl hd rfl
end Go.Proofs.Ytkfhkfddhijkcaa

namespace Go.Proofs.Ytkfhkfddhijkcaa
open Go.RowKit

abbrev laI (a0 a1 a2 a3 a4 a5 a6 a7 a8 a9 a10 a11 : Int) : Array Value := #[.int .i64 a0, .int .i64 a1, .int .i64 a2, .int .i64 a3, .int .i64 a4, .int .i64 a5, .int .i64 a6, .int .i64 a7, .int .i64 a8, .int .i64 a9, .int .i64 a10, .int .i64 a11]
abbrev laL (a0 a1 a2 a3 a4 a5 a6 a7 a8 a9 a10 a11 : Int) : List Int := [a0, a1, a2, a3, a4, a5, a6, a7, a8, a9, a10, a11]
/-- Twelve numbers as a list. -/
abbrev liA (l : List Int) : Array Value := (l.map (Value.int .i64)).toArray
def gI (l : List Int) (j : Nat) : Int := (l[j]?).getD 0
theorem li_cases {l : List Int} (hl : l.length = 12) : ∃ a0 a1 a2 a3 a4 a5 a6 a7 a8 a9 a10 a11 : Int, l = laL a0 a1 a2 a3 a4 a5 a6 a7 a8 a9 a10 a11 := by
  match l, hl with
  | [a0, a1, a2, a3, a4, a5, a6, a7, a8, a9, a10, a11], _ => exact ⟨a0, a1, a2, a3, a4, a5, a6, a7, a8, a9, a10, a11, rfl⟩
theorem gI_some {l : List Int} {j : Nat} (h : j < l.length) : l[j]? = some (gI l j) := by
  unfold gI
  rw [List.getElem?_eq_getElem h]
  rfl
theorem li_cell {W : World} {b : Nat} {l : List Int} {t : TypeId} (h : Blk W b (liA l) t) {j : Nat} (hj : j < l.length) : W.cell? ⟨b, j, none⟩ = some (.int .i64 (gI l j)) := by
  rw [h.cell j, List.getElem?_toArray, List.getElem?_map, gI_some hj]
  rfl
theorem li_set (l : List Int) (j : Nat) (v : Int) : (liA l).setIfInBounds j (.int .i64 v) = liA (l.set j v) := by
  show _ = ((l.set j v).map (Value.int .i64)).toArray
  rw [List.setIfInBounds_toArray, List.map_set]
theorem li_one (l : List Int) : (liA l).all (·.oneCell') = true := by
  rw [List.all_toArray]
  simp [Value.oneCell']
theorem li_size (l : List Int) : (liA l).size = l.length := by simp
/-- Twelve numbers out of a rule. -/
def mk12 (f : Nat → Int) : List Int := (List.range 12).map f
theorem mk12_len (f : Nat → Int) : (mk12 f).length = 12 := by unfold mk12; simp
theorem gI_mk {f : Nat → Int} {j : Nat} (h : j < 12) : gI (mk12 f) j = f j := by
  unfold gI mk12
  rw [List.getElem?_map, List.getElem?_range h]
  rfl
theorem mk12_ext {f g : Nat → Int} (h : ∀ j, j < 12 → f j = g j) : mk12 f = mk12 g := by
  unfold mk12
  exact List.map_congr_left fun j hj => h j (List.mem_range.1 hj)
theorem li_ext {a b : List Int} (ha : a.length = 12) (hb : b.length = 12) (h : ∀ j, j < 12 → gI a j = gI b j) : a = b := by
  refine List.ext_getElem? fun j => ?_
  by_cases hj : j < 12
  · rw [gI_some (by omega), gI_some (by omega), h j hj]
  · rw [List.getElem?_eq_none (by omega), List.getElem?_eq_none (by omega)]
theorem mk12_self {l : List Int} (h : l.length = 12) : mk12 (gI l) = l := li_ext (mk12_len _) h fun _ hj => gI_mk hj
theorem gI_set {l : List Int} {j k : Nat} {v : Int} (h : k < l.length) : gI (l.set j v) k = if j = k then v else gI l k := by
  unfold gI
  rw [List.getElem?_set]
  split
  · rename_i e
    subst e
    rw [if_pos h]
    rfl
  · rfl
theorem in_liL {l : List Int} (hl : l.length = 12) {j : Nat} (hj : j < 12) (W : World) : (Instr.index 29 (.agg (liA l)) (.int .i64 (j : Int))).run Try.prog W = .ok (.int .i64 (gI l j)) W := by
  have hz : Try.prog.arrayLen 29 = 12 := by kernel_rfl
  have hc : Try.prog.cellsOf 3 = 1 := by kernel_rfl
  have i1 : (0 : Int) ≤ (j : Int) := by omega
  have i2 : (j : Int) < 12 := by omega
  have hg : (liA l)[j]? = some (.int .i64 (gI l j)) := by
    rw [List.getElem?_toArray, List.getElem?_map, gI_some (by omega)]
    rfl
  have hsz : (liA l).size = 12 := by rw [li_size, hl]
  obtain ⟨a0, a1, a2, a3, a4, a5, a6, a7, a8, a9, a10, a11, rfl⟩ := li_cases hl
  simp [Instr.index, run_underlying Try.underlying29, asIntOf, go_sem]
  match j, hj with
  | 0, _ | 1, _ | 2, _ | 3, _ | 4, _ | 5, _ | 6, _ | 7, _ | 8, _ | 9, _ | 10, _ | 11, _ => rfl
theorem ld_liL {W : World} {b : Nat} {l : List Int} {t : TypeId} (h : Blk W b (liA l) t) (hl : l.length = 12) : (Instr.loadAt 29 (.pointer (some ⟨b, 0, none⟩))).run Try.prog W = .ok (.agg (liA l)) W := by
  obtain ⟨a0, a1, a2, a3, a4, a5, a6, a7, a8, a9, a10, a11, rfl⟩ := li_cases hl
  exact run_loadAt_mid W b 0 _ (laI a0 a1 a2 a3 a4 a5 a6 a7 a8 a9 a10 a11).toList _ (fun j v hv => by rw [Nat.zero_add, h.cell j]; exact (Array.getElem?_toList ..).symm.trans hv) Try.underlying29 rfl (by kernel_rfl)
theorem ix_liL (W : World) (g j : Nat) (h : j < 12) : (Instr.indexAt 29 (.pointer (some ⟨g, 0, none⟩)) (.int .i64 (j : Int))).run Try.prog W = .ok (.pointer (some ⟨g, j, none⟩)) W := by
  have hz : Try.prog.arrayLen 29 = 12 := by kernel_rfl
  have i1 : (0 : Int) ≤ (j : Int) := by omega
  have i2 : (j : Int) < 12 := by omega
  have e : (⟨g, 0, none⟩ : Addr).add j = ⟨g, j, none⟩ := by
    unfold Addr.add
    split
    · next h => rw [h]
    · rw [Nat.zero_add]
  go_simp
theorem ld_liA {W : World} {b : Nat} {l : List Int} {t : TypeId} (h : Blk W b (liA l) t) (hl : l.length = 12) : (Instr.loadAt 28 (.pointer (some ⟨b, 0, none⟩))).run Try.prog W = .ok (.agg (liA l)) W := by
  obtain ⟨a0, a1, a2, a3, a4, a5, a6, a7, a8, a9, a10, a11, rfl⟩ := li_cases hl
  exact run_loadAt_mid W b 0 _ (laI a0 a1 a2 a3 a4 a5 a6 a7 a8 a9 a10 a11).toList _ (fun j v hv => by rw [Nat.zero_add, h.cell j]; exact (Array.getElem?_toList ..).symm.trans hv) Try.underlying28 rfl (by kernel_rfl)
theorem ix_liA (W : World) (g j : Nat) (h : j < 12) : (Instr.indexAt 28 (.pointer (some ⟨g, 0, none⟩)) (.int .i64 (j : Int))).run Try.prog W = .ok (.pointer (some ⟨g, j, none⟩)) W := by
  have hz : Try.prog.arrayLen 28 = 12 := by kernel_rfl
  have i1 : (0 : Int) ≤ (j : Int) := by omega
  have i2 : (j : Int) < 12 := by omega
  have e : (⟨g, 0, none⟩ : Addr).add j = ⟨g, j, none⟩ := by
    unfold Addr.add
    split
    · next h => rw [h]
    · rw [Nat.zero_add]
  go_simp
end Go.Proofs.Ytkfhkfddhijkcaa

namespace Go.Proofs.Ytkfhkfddhijkcaa
open Go.RowKit

theorem if_ok {p : Prop} [Decidable p] {W : World} {b : Bool} {r : Result Bool} (h : r = .ok b W) : (if p then r else .ok false W) = .ok (decide p && b) W := by
  by_cases hp : p <;> simp [hp, h]
theorem if_ok1 {p : Prop} [Decidable p] {W : World} : (if p then Result.ok true W else .ok false W) = .ok (decide p) W := by
  by_cases hp : p <;> simp [hp]
theorem int_infoT : (Try.prog.info? 3).map (fun i => (i.zero, i.size, i.bytes)) = some (some (.int .i64 0), 1, 8) := by kernel_rfl
theorem cells_intT : Try.prog.cellsOf 3 = 1 := by kernel_rfl
theorem la_eqI (v0 v1 v2 v3 v4 v5 v6 v7 v8 v9 v10 v11 u0 u1 u2 u3 u4 u5 u6 u7 u8 u9 u10 u11 : Int) (W : World) : (Op.equalIn 10000 28 (.agg (laI v0 v1 v2 v3 v4 v5 v6 v7 v8 v9 v10 v11)) (.agg (laI u0 u1 u2 u3 u4 u5 u6 u7 u8 u9 u10 u11))).run Try.prog W = .ok (decide (laL v0 v1 v2 v3 v4 v5 v6 v7 v8 v9 v10 v11 = laL u0 u1 u2 u3 u4 u5 u6 u7 u8 u9 u10 u11)) W := by
  obtain ⟨i0, hi0, _, _, _⟩ := info_parts int_infoT
  rw [run_equalIn_array W 9999 _ _ Try.underlying28 hi0, cells_intT, show List.range 12 = [0, 1, 2, 3, 4, 5, 6, 7, 8, 9, 10, 11] from rfl]
  simp only [Op.eqItems]
  go_simp
  iterate 11 (refine if_ok ?_)
  exact if_ok1
theorem la_neqA (v0 v1 v2 v3 v4 v5 v6 v7 v8 v9 v10 v11 u0 u1 u2 u3 u4 u5 u6 u7 u8 u9 u10 u11 : Int) (W : World) : (binOp .neq 28 (.agg (laI v0 v1 v2 v3 v4 v5 v6 v7 v8 v9 v10 v11)) (.agg (laI u0 u1 u2 u3 u4 u5 u6 u7 u8 u9 u10 u11))).run Try.prog W = .ok (.bool (!decide (laL v0 v1 v2 v3 v4 v5 v6 v7 v8 v9 v10 v11 = laL u0 u1 u2 u3 u4 u5 u6 u7 u8 u9 u10 u11))) W := by
  rw [run_neq_struct, la_eqI]
  rfl
theorem la_eqlA (v0 v1 v2 v3 v4 v5 v6 v7 v8 v9 v10 v11 u0 u1 u2 u3 u4 u5 u6 u7 u8 u9 u10 u11 : Int) (W : World) : (binOp .eql 28 (.agg (laI v0 v1 v2 v3 v4 v5 v6 v7 v8 v9 v10 v11)) (.agg (laI u0 u1 u2 u3 u4 u5 u6 u7 u8 u9 u10 u11))).run Try.prog W = .ok (.bool (decide (laL v0 v1 v2 v3 v4 v5 v6 v7 v8 v9 v10 v11 = laL u0 u1 u2 u3 u4 u5 u6 u7 u8 u9 u10 u11))) W := by
  rw [run_eql_struct, la_eqI]
  rfl
theorem la_eqIL (v0 v1 v2 v3 v4 v5 v6 v7 v8 v9 v10 v11 u0 u1 u2 u3 u4 u5 u6 u7 u8 u9 u10 u11 : Int) (W : World) : (Op.equalIn 10000 29 (.agg (laI v0 v1 v2 v3 v4 v5 v6 v7 v8 v9 v10 v11)) (.agg (laI u0 u1 u2 u3 u4 u5 u6 u7 u8 u9 u10 u11))).run Try.prog W = .ok (decide (laL v0 v1 v2 v3 v4 v5 v6 v7 v8 v9 v10 v11 = laL u0 u1 u2 u3 u4 u5 u6 u7 u8 u9 u10 u11)) W := by
  obtain ⟨i0, hi0, _, _, _⟩ := info_parts int_infoT
  rw [run_equalIn_array W 9999 _ _ Try.underlying29 hi0, cells_intT, show List.range 12 = [0, 1, 2, 3, 4, 5, 6, 7, 8, 9, 10, 11] from rfl]
  simp only [Op.eqItems]
  go_simp
  iterate 11 (refine if_ok ?_)
  exact if_ok1
theorem la_neqAL (v0 v1 v2 v3 v4 v5 v6 v7 v8 v9 v10 v11 u0 u1 u2 u3 u4 u5 u6 u7 u8 u9 u10 u11 : Int) (W : World) : (binOp .neq 29 (.agg (laI v0 v1 v2 v3 v4 v5 v6 v7 v8 v9 v10 v11)) (.agg (laI u0 u1 u2 u3 u4 u5 u6 u7 u8 u9 u10 u11))).run Try.prog W = .ok (.bool (!decide (laL v0 v1 v2 v3 v4 v5 v6 v7 v8 v9 v10 v11 = laL u0 u1 u2 u3 u4 u5 u6 u7 u8 u9 u10 u11))) W := by
  rw [run_neq_struct, la_eqIL]
  rfl
theorem la_eqlAL (v0 v1 v2 v3 v4 v5 v6 v7 v8 v9 v10 v11 u0 u1 u2 u3 u4 u5 u6 u7 u8 u9 u10 u11 : Int) (W : World) : (binOp .eql 29 (.agg (laI v0 v1 v2 v3 v4 v5 v6 v7 v8 v9 v10 v11)) (.agg (laI u0 u1 u2 u3 u4 u5 u6 u7 u8 u9 u10 u11))).run Try.prog W = .ok (.bool (decide (laL v0 v1 v2 v3 v4 v5 v6 v7 v8 v9 v10 v11 = laL u0 u1 u2 u3 u4 u5 u6 u7 u8 u9 u10 u11))) W := by
  rw [run_eql_struct, la_eqIL]
  rfl
theorem li_eqL {a b : List Int} (ha : a.length = 12) (hb : b.length = 12) (W : World) : (binOp .eql 29 (.agg (liA a)) (.agg (liA b))).run Try.prog W = .ok (.bool (decide (a = b))) W := by
  obtain ⟨a0, a1, a2, a3, a4, a5, a6, a7, a8, a9, a10, a11, rfl⟩ := li_cases ha
  obtain ⟨b0, b1, b2, b3, b4, b5, b6, b7, b8, b9, b10, b11, rfl⟩ := li_cases hb
  exact la_eqlAL a0 a1 a2 a3 a4 a5 a6 a7 a8 a9 a10 a11 b0 b1 b2 b3 b4 b5 b6 b7 b8 b9 b10 b11 W
theorem li_eqA {a b : List Int} (ha : a.length = 12) (hb : b.length = 12) (W : World) : (binOp .eql 28 (.agg (liA a)) (.agg (liA b))).run Try.prog W = .ok (.bool (decide (a = b))) W := by
  obtain ⟨a0, a1, a2, a3, a4, a5, a6, a7, a8, a9, a10, a11, rfl⟩ := li_cases ha
  obtain ⟨b0, b1, b2, b3, b4, b5, b6, b7, b8, b9, b10, b11, rfl⟩ := li_cases hb
  exact la_eqlA a0 a1 a2 a3 a4 a5 a6 a7 a8 a9 a10 a11 b0 b1 b2 b3 b4 b5 b6 b7 b8 b9 b10 b11 W
theorem li_eqC (i j : Nat) {x y : List Int} (hx : x.length = 12) (hy : y.length = 12) (W : World) : ((do eqGuard .eql 29 (.tmp i) (.tmp j) (.agg (liA x)) (.agg (liA y)); binOp .eql 29 (.agg (liA x)) (.agg (liA y))) : Sem Value).run Try.prog W = .ok (.bool (decide (x = y))) W := by
  obtain ⟨a0, a1, a2, a3, a4, a5, a6, a7, a8, a9, a10, a11, rfl⟩ := li_cases hx
  obtain ⟨b0, b1, b2, b3, b4, b5, b6, b7, b8, b9, b10, b11, rfl⟩ := li_cases hy
  have h := la_eqIL a0 a1 a2 a3 a4 a5 a6 a7 a8 a9 a10 a11 b0 b1 b2 b3 b4 b5 b6 b7 b8 b9 b10 b11 W
  show ((do eqGuard .eql 29 (.tmp i) (.tmp j) (.agg (laI a0 a1 a2 a3 a4 a5 a6 a7 a8 a9 a10 a11)) (.agg (laI b0 b1 b2 b3 b4 b5 b6 b7 b8 b9 b10 b11)); binOp .eql 29 (.agg (laI a0 a1 a2 a3 a4 a5 a6 a7 a8 a9 a10 a11)) (.agg (laI b0 b1 b2 b3 b4 b5 b6 b7 b8 b9 b10 b11))) : Sem Value).run Try.prog W = _
  generalize laI a0 a1 a2 a3 a4 a5 a6 a7 a8 a9 a10 a11 = a at h ⊢
  generalize laI b0 b1 b2 b3 b4 b5 b6 b7 b8 b9 b10 b11 = c at h ⊢
  go_simp
theorem li_eqCA (i j : Nat) {x y : List Int} (hx : x.length = 12) (hy : y.length = 12) (W : World) : ((do eqGuard .eql 28 (.tmp i) (.tmp j) (.agg (liA x)) (.agg (liA y)); binOp .eql 28 (.agg (liA x)) (.agg (liA y))) : Sem Value).run Try.prog W = .ok (.bool (decide (x = y))) W := by
  obtain ⟨a0, a1, a2, a3, a4, a5, a6, a7, a8, a9, a10, a11, rfl⟩ := li_cases hx
  obtain ⟨b0, b1, b2, b3, b4, b5, b6, b7, b8, b9, b10, b11, rfl⟩ := li_cases hy
  have h := la_eqI a0 a1 a2 a3 a4 a5 a6 a7 a8 a9 a10 a11 b0 b1 b2 b3 b4 b5 b6 b7 b8 b9 b10 b11 W
  show ((do eqGuard .eql 28 (.tmp i) (.tmp j) (.agg (laI a0 a1 a2 a3 a4 a5 a6 a7 a8 a9 a10 a11)) (.agg (laI b0 b1 b2 b3 b4 b5 b6 b7 b8 b9 b10 b11)); binOp .eql 28 (.agg (laI a0 a1 a2 a3 a4 a5 a6 a7 a8 a9 a10 a11)) (.agg (laI b0 b1 b2 b3 b4 b5 b6 b7 b8 b9 b10 b11))) : Sem Value).run Try.prog W = _
  generalize laI a0 a1 a2 a3 a4 a5 a6 a7 a8 a9 a10 a11 = a at h ⊢
  generalize laI b0 b1 b2 b3 b4 b5 b6 b7 b8 b9 b10 b11 = c at h ⊢
  go_simp
end Go.Proofs.Ytkfhkfddhijkcaa

namespace Go.Proofs.Ytkfhkfddhijkcaa
open Go.RowKit

theorem en_spinney_roster_isNode : ∀ args w, (callFunc 125 args).run Try.prog w = .ok (.enter 125 args) w := enters_of Try.func125 (by kernel_rfl) rfl
theorem en_spinney_roster_last : ∀ args w, (callFunc 106 args).run Try.prog w = .ok (.enter 106 args) w := enters_of Try.func106 (by kernel_rfl) rfl
theorem en_spinney_roster_Ask : ∀ args w, (callFunc 72 args).run Try.prog w = .ok (.enter 72 args) w := enters_of Try.func72 (by kernel_rfl) rfl
theorem en_spinney_roster_Of : ∀ args w, (callFunc 107 args).run Try.prog w = .ok (.enter 107 args) w := enters_of Try.func107 (by kernel_rfl) rfl
theorem en_spinney_roster_Left : ∀ args w, (callFunc 70 args).run Try.prog w = .ok (.enter 70 args) w := enters_of Try.func70 (by kernel_rfl) rfl
theorem en_spinney_spinneyref13_Of : ∀ args w, (callFunc 17 args).run Try.prog w = .ok (.enter 17 args) w := enters_of Try.func17 (by kernel_rfl) rfl
theorem en_spinney_spinneyref13_Ask : ∀ args w, (callFunc 77 args).run Try.prog w = .ok (.enter 77 args) w := enters_of Try.func77 (by kernel_rfl) rfl
theorem en_spinney_spinneyref13_Left : ∀ args w, (callFunc 23 args).run Try.prog w = .ok (.enter 23 args) w := enters_of Try.func23 (by kernel_rfl) rfl

/-- Is it a node's number? -/
def nodeB (n : Int) : Bool := decide (0 ≤ n) && decide (n < 12)
/-- A device's last one. -/
def lastI (l : List Int) (n : Int) : Int := bif nodeB n then gI l n.toNat else 0
def Sml (l : List Int) : Prop := l.length = 12 ∧ ∀ j, 0 ≤ gI l j ∧ gI l j ≤ 1000
def askI (l : List Int) (dev seq : Int) : Int := bif decide (seq ≤ lastI l dev) then 6 else bif decide (lastI l dev + 1 < seq) then 15 else 0
theorem lastI_sml {l : List Int} (h : Sml l) (n : Int) : 0 ≤ lastI l n ∧ lastI l n ≤ 1000 := by
  unfold lastI
  cases nodeB n with
  | false => exact ⟨Int.le_refl _, show (0 : Int) ≤ 1000 by decide⟩
  | true => exact h.2 _
set_option maxRecDepth 100000 in
set_option maxHeartbeats 4000000 in
theorem isNode_any (n : Int) (w : World) : Calls Try.prog 125 #[.int .i64 n] w fun e w' => e = .returned (.bool (nodeB n)) ∧ w' = w := by
  go_enter Try.func125, Try.ntmps125
  go_upto_region 1 with fail
  refine wp_region_lit ?_
  refine fs_start (fun W => W = w) (rfl) ?_
  generalize ha : Act.mk _ _ = a0
  have hn : a0.tmps.size = 9 := by rw [← ha]; kernel_rfl
  have h0 : (fr a0 []).eval (.tmp 0) = .int .i64 n := by rw [← ha]; kernel_rfl
  refine fs_know hn rfl h0 ?_
  clear h0
  refine s_mv hn ?_
  refine s_geq hn ?_
  refine s_mv hn ?_
  refine s_mv hn ?_
  refine s_lss hn ?_
  refine s_an hn ?_
  refine s_as hn ?_
  refine fs_end (fun w2 hS => ?_)
  clear hn
  subst ha
  dsimp only [fr, cnd, Act.put, cond_true]
  simp only [List.setIfInBounds_toArray, List.set_cons_zero, List.set_cons_succ]
  subst hS
  go_wp2_with fail
  go_ret
  exact ⟨rfl, rfl⟩
set_option maxRecDepth 100000 in
set_option maxHeartbeats 4000000 in
theorem last_any (l : List Int) (n : Int) (w : World) (hl : l.length = 12) : Calls Try.prog 106 #[.agg (liA l), .int .i64 n] w fun e w' => e = .returned (.int .i64 (lastI l n)) ∧ Below w.heap.size w w' := by
  have hX0 := blk_new w (liA l) 29
  have hB := b0 w (.cells (liA l) 29)
  have hzz : (w.alloc (.cells (liA l) 29)).heap.size = w.heap.size + 1 := by simp
  go_enter Try.func106, Try.ntmps106
  go_upto_region 1 with fail
  generalize (w.alloc (.cells (liA l) 29)) = W0 at hX0 hB hzz ⊢
  generalize hb : w.heap.size = b at hX0 hB hzz ⊢
  have HC := kp_c (w0 := W0) fun W _ => same_c (isNode_any n W)
  refine wp_region_lit ?_
  refine fs_start (Kp W0) (Kp.refl _) ?_
  generalize ha : Act.mk _ _ = a0
  have hn : a0.tmps.size = 11 := by rw [← ha]; kernel_rfl
  have h1 : (fr a0 []).eval (.tmp 1) = .int .i64 n := by rw [← ha]; kernel_rfl
  refine fs_know hn rfl h1 ?_
  clear h1
  refine s_mv hn ?_
  refine s_callt hn ?_ (he := en_spinney_roster_isNode)
  refine s_nt hn ?_
  refine fs_end (fun w2 hS => ?_)
  clear hn
  subst ha
  dsimp only [fr, cnd, Act.put, cond_true]
  simp only [List.setIfInBounds_toArray, List.set_cons_zero, List.set_cons_succ]
  have hX := hS.blk hX0
  have hB2 := hB.trans (hS.below.mono (by omega))
  clear HC hX0 hB hS
  cases hc : nodeB n with
  | false =>
    have R : Hid (lastI l n = 0) := by show lastI l n = 0; unfold lastI; rw [hc]; rfl
    clear hc hX
    go_wp2_with fail
    go_ret
    exact ⟨by rw [R.out]; rfl, by first | exact hB2 | (rw [hb]; exact hB2)⟩
  | true =>
    have R : Hid (lastI l n = gI l n.toNat) := by show lastI l n = _; unfold lastI; rw [hc]; rfl
    have h2 : 0 ≤ n ∧ n < 12 := by unfold nodeB at hc; simpa using hc
    clear hc
    obtain ⟨k, rfl⟩ : ∃ k : Nat, n = (k : Int) := ⟨n.toNat, by omega⟩
    have hk : k < 12 := by omega
    have q := li_cell hX (j := k) (by omega)
    have ix := ix_liL w2 b k hk
    clear h2 hX
    rw [Int.toNat_natCast] at R
    go_wp2_with fail
    go_ret
    exact ⟨by rw [R.out]; rfl, by first | exact hB2 | (rw [hb]; exact hB2)⟩
theorem id_f0 (W : World) (b : Nat) : (Instr.fieldAt 32 (.pointer (some ⟨b, 0, none⟩)) 0).run Try.prog W = .ok (.pointer (some ⟨b, 0, none⟩)) W := by kernel_rfl
theorem id_f1 (W : World) (b : Nat) : (Instr.fieldAt 32 (.pointer (some ⟨b, 0, none⟩)) 1).run Try.prog W = .ok (.pointer (some ⟨b, 1, none⟩)) W := by kernel_rfl
set_option maxRecDepth 100000 in
set_option maxHeartbeats 4000000 in
theorem ask_any (l : List Int) (dev seq : Int) (w : World) (hl : Sml l) : Calls Try.prog 72 #[.agg (liA l), .agg #[.int .i64 dev, .int .i64 seq]] w fun e w' => e = .returned (.int .i64 (askI l dev seq)) ∧ Below w.heap.size w w' := by
  have hX0 := blk_new w (liA l) 29
  replace hX0 := hX0.alloc (.cells #[.int .i64 dev, .int .i64 seq] 32)
  have hz1 : (w.alloc (.cells (liA l) 29)).heap.size = w.heap.size + 1 := by simp
  have hX1 := blk_new (w.alloc (.cells (liA l) 29)) #[.int .i64 dev, .int .i64 seq] 32
  rw [hz1] at hX1
  have hB := ba (b0 w (.cells (liA l) 29)) (.cells #[.int .i64 dev, .int .i64 seq] 32)
  have hzz : ((w.alloc (.cells (liA l) 29)).alloc (.cells #[.int .i64 dev, .int .i64 seq] 32)).heap.size = w.heap.size + 2 := by simp
  go_enter Try.func72, Try.ntmps72
  go_upto_region 1 with fail
  generalize ((w.alloc (.cells (liA l) 29)).alloc (.cells #[.int .i64 dev, .int .i64 seq] 32)) = W0 at hX0 hX1 hB hzz ⊢
  (try simp only [hz1])
  clear hz1
  generalize hb : w.heap.size = b at hX0 hX1 hB hzz ⊢
  have HC := kp_c (w0 := W0) fun W _ => last_any l dev W hl.1
  have HL : ∀ W, Kp W0 W → (Instr.loadAt 29 (.pointer (some ⟨b, 0, none⟩))).run Try.prog W = .ok (.agg (liA l)) W := fun W h => ld_liL (h.blk hX0) hl.1
  have H0 : ∀ W, Kp W0 W → (Instr.fieldAt 32 (.pointer (some ⟨b + 1, 0, none⟩)) 0).run Try.prog W = .ok (.pointer (some ⟨b + 1, 0, none⟩)) W := fun W _ => id_f0 W (b + 1)
  have H1 : ∀ W, Kp W0 W → (Instr.loadAt 3 (.pointer (some ⟨b + 1, 0, none⟩))).run Try.prog W = .ok (.int .i64 dev) W := fun W h => load_int ((h.blk hX1).cell 0)
  refine wp_region_lit ?_
  refine fs_start (Kp W0) (Kp.refl _) ?_
  generalize ha : Act.mk _ _ = a0
  have hn : a0.tmps.size = 21 := by rw [← ha]; kernel_rfl
  have h2 : (fr a0 []).eval (.tmp 2) = .pointer (some ⟨b, 0, none⟩) := by rw [← ha]; kernel_rfl
  refine fs_know hn rfl h2 ?_
  clear h2
  have h3 : (fr a0 [(2, true, .pointer (some ⟨b, 0, none⟩))]).eval (.tmp 3) = .pointer (some ⟨b + 1, 0, none⟩) := by rw [← ha]; kernel_rfl
  refine fs_know hn rfl h3 ?_
  clear h3
  refine s_ld hn ?_
  refine s_fd hn ?_
  refine s_ld hn ?_
  refine s_calltt hn ?_ (he := en_spinney_roster_last)
  refine s_as hn ?_
  refine fs_end (fun w2 hS => ?_)
  clear hn
  subst ha
  dsimp only [fr, cnd, Act.put, cond_true]
  simp only [List.setIfInBounds_toArray, List.set_cons_zero, List.set_cons_succ]
  have hX := hS.blk hX1
  have hB2 := hB.trans (hS.below.mono (by omega))
  have hs := lastI_sml hl dev
  clear HC HL H0 H1 hX0 hX1 hB hS
  have HR : Hid (askI l dev seq = bif decide (seq ≤ lastI l dev) then 6 else bif decide (lastI l dev + 1 < seq) then 15 else 0) := by show askI l dev seq = _; rfl
  generalize lastI l dev = x at hs HR ⊢
  have wr : IntKind.i64.wrap (x + 1) = x + 1 := by unfold IntKind.wrap; simp [IntKind.bits, IntKind.signed]; omega
  have q := hX.cell 1
  have fa := id_f1 w2 (b + 1)
  clear hs hX
  by_cases h1 : seq ≤ x
  · have R : Hid (askI l dev seq = 6) := by show askI l dev seq = _; rw [HR.out, decide_eq_true h1]; rfl
    clear HR
    go_wp2_with fail
    go_ret
    exact ⟨by rw [R.out]; rfl, by first | exact hB2 | (rw [hb]; exact hB2)⟩
  · by_cases h2 : x + 1 < seq
    · have R : Hid (askI l dev seq = 15) := by show askI l dev seq = _; rw [HR.out, decide_eq_false h1, decide_eq_true h2]; rfl
      clear HR
      go_wp2_with fail
      go_ret
      exact ⟨by rw [R.out]; rfl, by first | exact hB2 | (rw [hb]; exact hB2)⟩
    · have R : Hid (askI l dev seq = 0) := by show askI l dev seq = _; rw [HR.out, decide_eq_false h1, decide_eq_false h2]; rfl
      clear HR
      go_wp2_with fail
      go_ret
      exact ⟨by rw [R.out]; rfl, by first | exact hB2 | (rw [hb]; exact hB2)⟩
/-! The document's. -/
set_option maxRecDepth 100000 in
set_option maxHeartbeats 4000000 in
theorem refAsk_any (l : List Int) (k : Nat) (seq : Int) (w : World) (hl : Sml l) (hk : k < 12) (hq : -1000 ≤ seq ∧ seq ≤ 1000) : Calls Try.prog 77 #[.agg (liA l), .agg #[.int .i64 (k : Int), .int .i64 seq]] w fun e w' => e = .returned (.int .i64 (askI l k seq)) ∧ Below w.heap.size w w' := by
  have hX0 := blk_new w (liA l) 28
  replace hX0 := hX0.alloc (.cells #[.int .i64 (k : Int), .int .i64 seq] 32)
  have hz1 : (w.alloc (.cells (liA l) 28)).heap.size = w.heap.size + 1 := by simp
  have hX1 := blk_new (w.alloc (.cells (liA l) 28)) #[.int .i64 (k : Int), .int .i64 seq] 32
  rw [hz1] at hX1
  have hB := ba (b0 w (.cells (liA l) 28)) (.cells #[.int .i64 (k : Int), .int .i64 seq] 32)
  have hzz : ((w.alloc (.cells (liA l) 28)).alloc (.cells #[.int .i64 (k : Int), .int .i64 seq] 32)).heap.size = w.heap.size + 2 := by simp
  go_enter Try.func77, Try.ntmps77
  go_upto_region 1 with fail
  generalize ((w.alloc (.cells (liA l) 28)).alloc (.cells #[.int .i64 (k : Int), .int .i64 seq] 32)) = W0 at hX0 hX1 hB hzz ⊢
  (try simp only [hz1])
  clear hz1
  generalize hb : w.heap.size = b at hX0 hX1 hB hzz ⊢
  have wr : IntKind.i64.wrap (seq - 1) = seq - 1 := by unfold IntKind.wrap; simp [IntKind.bits, IntKind.signed]; omega
  have H0 : ∀ W, Kp W0 W → (Instr.fieldAt 32 (.pointer (some ⟨b + 1, 0, none⟩)) 0).run Try.prog W = .ok (.pointer (some ⟨b + 1, 0, none⟩)) W := fun W _ => id_f0 W (b + 1)
  have H1 : ∀ W, Kp W0 W → (Instr.fieldAt 32 (.pointer (some ⟨b + 1, 0, none⟩)) 1).run Try.prog W = .ok (.pointer (some ⟨b + 1, 1, none⟩)) W := fun W _ => id_f1 W (b + 1)
  have H2 : ∀ W, Kp W0 W → (Instr.loadAt 3 (.pointer (some ⟨b + 1, 0, none⟩))).run Try.prog W = .ok (.int .i64 (k : Int)) W := fun W h => load_int ((h.blk hX1).cell 0)
  have H3 : ∀ W, Kp W0 W → (Instr.loadAt 3 (.pointer (some ⟨b + 1, 1, none⟩))).run Try.prog W = .ok (.int .i64 seq) W := fun W h => load_int ((h.blk hX1).cell 1)
  have H4 : ∀ W, Kp W0 W → (Instr.indexAt 28 (.pointer (some ⟨b, 0, none⟩)) (.int .i64 (k : Int))).run Try.prog W = .ok (.pointer (some ⟨b, k, none⟩)) W := fun W _ => ix_liA W b k hk
  have H5 : ∀ W, Kp W0 W → (Instr.loadAt 3 (.pointer (some ⟨b, k, none⟩))).run Try.prog W = .ok (.int .i64 (gI l k)) W := fun W h => load_int (li_cell (h.blk hX0) (by rw [hl.1]; exact hk))
  have H6 : ∀ W, Kp W0 W → ((do eqGuard .sub 3 (.tmp 13) (.const (.int .i64 1)) (.int .i64 seq) (.int .i64 1); binOp .sub 3 (.int .i64 seq) (.int .i64 1)) : Sem Value).run Try.prog W = .ok (.int .i64 (seq - 1)) W := fun W _ => by
    clear H0 H1 H2 H3 H4 H5
    go_simp
  refine fc_start (S := Kp W0) (by kernel_rfl) (Kp.drew _) ?_
  generalize ha : Act.mk _ _ = a0
  have hn : a0.tmps.size = 20 := by rw [← ha]; kernel_rfl
  have h2 : (fr a0 []).eval (.tmp 2) = .pointer (some ⟨b, 0, none⟩) := by rw [← ha]; kernel_rfl
  refine fc_know hn rfl h2 ?_
  clear h2
  have h3 : (fr a0 [(2, true, .pointer (some ⟨b, 0, none⟩))]).eval (.tmp 3) = .pointer (some ⟨b + 1, 0, none⟩) := by rw [← ha]; kernel_rfl
  refine fc_know hn rfl h3 ?_
  clear h3
  refine c_fd 0 hn ?_
  refine c_ld 1 hn ?_
  refine c_fd 2 hn ?_
  refine c_ld 3 hn ?_
  refine c_ix 4 hn ?_
  refine c_ld 5 hn ?_
  refine c_leq2 6 hn ?_
  refine fc_end (fun w2 hS => ?_)
  clear hn
  subst ha
  dsimp only [fr, cnd, Act.put, cond_true]
  simp only [List.setIfInBounds_toArray, List.set_cons_zero, List.set_cons_succ]
  have e : lastI l k = gI l k := by
    unfold lastI nodeB
    rw [decide_eq_true (by omega), decide_eq_true (by omega), Int.toNat_natCast]
    rfl
  have HR : Hid (askI l k seq = bif decide (seq ≤ gI l k) then 6 else bif decide (gI l k + 1 < seq) then 15 else 0) := by show askI l k seq = _; unfold askI; rw [e]
  clear e wr
  have hB0 := hB
  have hB2 : Below w.heap.size w w2 := by rw [hb]; exact hB.trans (hS.below.mono (by omega))
  clear hB
  generalize gI l k = x at HR H5 ⊢
  by_cases h1 : seq ≤ x
  · have R : Hid (askI l k seq = 6) := by show askI l k seq = _; rw [HR.out, decide_eq_true h1]; rfl
    clear H0 H1 H2 H3 H4 H5 H6 hX0 hX1 hS HR
    go_wp2_with fail
    go_ret
    exact ⟨by rw [R.out]; rfl, hB2⟩
  go_upto_region 3 with fail
  refine fc_start (S := Kp W0) (by kernel_rfl) (hS.drews) ?_
  generalize ha : Act.mk _ _ = a0
  have hn : a0.tmps.size = 20 := by rw [← ha]; kernel_rfl
  have h2 : (fr a0 []).eval (.tmp 2) = .pointer (some ⟨b, 0, none⟩) := by rw [← ha]; kernel_rfl
  refine fc_know hn rfl h2 ?_
  clear h2
  have h3 : (fr a0 [(2, true, .pointer (some ⟨b, 0, none⟩))]).eval (.tmp 3) = .pointer (some ⟨b + 1, 0, none⟩) := by rw [← ha]; kernel_rfl
  refine fc_know hn rfl h3 ?_
  clear h3
  refine c_fd 0 hn ?_
  refine c_ld 1 hn ?_
  refine c_bc 2 hn ?_
  refine c_fd 3 hn ?_
  refine c_ld 4 hn ?_
  refine c_ix 5 hn ?_
  refine c_ld 6 hn ?_
  refine c_gtr2 7 hn ?_
  refine fc_end (fun w3 hS3 => ?_)
  clear hn
  subst ha
  dsimp only [fr, cnd, Act.put, cond_true]
  simp only [List.setIfInBounds_toArray, List.set_cons_zero, List.set_cons_succ]
  have hB3 : Below w.heap.size w w3 := by rw [hb]; exact hB0.trans (hS3.below.mono (by omega))
  clear H0 H1 H2 H3 H4 H5 H6 hX0 hX1 hS hB2 hS3 hB0
  by_cases h2 : x + 1 < seq
  · have h3 : x < seq - 1 := by omega
    have R : Hid (askI l k seq = 15) := by show askI l k seq = _; rw [HR.out, decide_eq_false h1, decide_eq_true h2]; rfl
    clear HR h2 h1
    go_wp2_with fail
    go_ret
    exact ⟨by rw [R.out]; rfl, by first | exact hB3 | (rw [← hb]; exact hB3)⟩
  · have h3 : ¬ x < seq - 1 := by omega
    have R : Hid (askI l k seq = 0) := by show askI l k seq = _; rw [HR.out, decide_eq_false h1, decide_eq_false h2]; rfl
    clear HR h2 h1
    go_wp2_with fail
    go_ret
    exact ⟨by rw [R.out]; rfl, by first | exact hB3 | (rw [← hb]; exact hB3)⟩
end Go.Proofs.Ytkfhkfddhijkcaa

namespace Go.Proofs.Ytkfhkfddhijkcaa
open Go.RowKit

def joinL (x y : List Int) : List Int := mk12 fun i => max (gI x i) (gI y i)
def joinT (x y : List Int) (j : Nat) : List Int := mk12 fun i => if i < j then max (gI x i) (gI y i) else gI x i
theorem joinT_len (x y : List Int) (j : Nat) : (joinT x y j).length = 12 := mk12_len _
theorem joinT_0 {x : List Int} (h : x.length = 12) (y : List Int) : joinT x y 0 = x := by
  unfold joinT
  rw [mk12_ext (g := gI x) (fun j _ => if_neg (Nat.not_lt_zero j)), mk12_self h]
theorem joinT_12 (x y : List Int) : joinT x y 12 = joinL x y := mk12_ext fun j hj => if_pos hj
theorem joinT_at {x y : List Int} {j : Nat} (h : j < 12) : gI (joinT x y j) j = gI x j := by
  unfold joinT
  rw [gI_mk h, if_neg (by omega)]
theorem joinT_set {x y : List Int} {j : Nat} (h : j < 12) : (joinT x y j).set j (max (gI x j) (gI y j)) = joinT x y (j + 1) := by
  refine li_ext (by rw [List.length_set]; exact joinT_len ..) (joinT_len ..) fun k hk => ?_
  rw [gI_set (by rw [joinT_len]; exact hk)]
  unfold joinT
  rw [gI_mk hk, gI_mk hk]
  by_cases e : j = k
  · subst e
    rw [if_pos rfl, if_pos (by omega)]
  · rw [if_neg e]
    by_cases h1 : k < j
    · rw [if_pos h1, if_pos (by omega)]
    · rw [if_neg h1, if_neg (by omega)]
theorem joinT_same {x y : List Int} {j : Nat} (hj : j < 12) (h : ¬ gI x j < gI y j) : joinT x y j = joinT x y (j + 1) := by
  rw [← joinT_set hj]
  refine li_ext (joinT_len ..) (by rw [List.length_set]; exact joinT_len ..) fun k hk => ?_
  rw [gI_set (by rw [joinT_len]; exact hk)]
  split
  · rename_i e
    subst e
    rw [joinT_at hj, Int.max_def]
    split <;> omega
  · rfl
theorem ret_li {l b : List Int} (h : l = b) : Ending.returned (.agg (liA l)) = .returned (.agg (liA b)) := by rw [h]
theorem run_max (W : World) (x y : Int) (ts : Array TypeId) (ty : TypeId) (hx : ts = #[3, 3]) : (Builtin.max_ ts ty #[.int .i64 x, .int .i64 y]).run Try.prog W = .ok (.int .i64 (max x y)) W := by
  subst hx
  rw [Int.max_def]
  go_simp
  by_cases h1 : x < y
  · rw [if_pos h1, if_pos (by omega)]
  · by_cases h2 : x ≤ y
    · rw [if_neg h1, if_pos h2]; omega
    · rw [if_neg h1, if_neg h2]
/-- Nowhere below. -/
def covLB (x y : List Int) : Bool := decide (joinL x y = x)
theorem joinL_len (x y : List Int) : (joinL x y).length = 12 := mk12_len _
theorem gI_join {x y : List Int} {j : Nat} (h : j < 12) : gI (joinL x y) j = max (gI x j) (gI y j) := gI_mk h
theorem covLB_iff {x y : List Int} (hx : x.length = 12) : covLB x y = true ↔ ∀ j, j < 12 → gI y j ≤ gI x j := by
  unfold covLB
  rw [decide_eq_true_iff]
  constructor
  · intro h j hj
    have e := gI_join (x := x) (y := y) hj
    rw [h] at e
    omega
  · intro h
    refine li_ext (joinL_len ..) hx fun j hj => ?_
    rw [gI_join hj]
    have := h j hj
    omega
/-! The document's. -/
end Go.Proofs.Ytkfhkfddhijkcaa

namespace Go.Proofs.Ytkfhkfddhijkcaa
open Go.RowKit

def goodB (k n : Int) (s : ByteArray) : Bool :=
  decide ((k = 0 ∧ n = 0 ∧ s.size = 0) ∨ (k = 1 ∧ s.size = 0) ∨ (k = 2 ∧ n = 0 ∧ s.size ≤ 40))

theorem isEmpty_iff (s : ByteArray) : s.toList.isEmpty = true ↔ s.size = 0 := by
  have : s.data.toList.length = s.size := Array.length_toList
  rw [ByteArray.toList_eq, List.isEmpty_iff, ← List.length_eq_zero_iff, this]

set_option maxHeartbeats 1000000 in
theorem refGood_any (k n : Int) (s : ByteArray) (w : World) (hs : s.size ≤ maxLen) :
    Calls Try.prog 85 #[.agg #[.int .i64 k, .int .i64 n, .string s]] w fun e w' => e = .returned (.bool (goodB k n s)) ∧ Below w.heap.size w w' := by
  unfold maxLen at hs
  go_enter Try.func85, Try.ntmps85
  go_wp2
  all_goals go_ret
  all_goals refine ⟨ret_bool ?_, b0 _ _⟩
  all_goals unfold goodB
  all_goals rw [Bool.eq_iff_iff]
  all_goals simp only [beq_iff_eq, beq_eq_false_iff_ne, decide_eq_true_eq, isEmpty_iff, Bool.false_eq_true, false_iff] at *
  all_goals omega

end Go.Proofs.Ytkfhkfddhijkcaa

namespace Go.Proofs.Ytkfhkfddhijkcaa
open Go

/-- Does a byte stand for itself? -/
def plainB (c : Int) : Bool := decide (33 ≤ c ∧ c ≤ 126 ∧ c ≠ 34 ∧ c ≠ 37)

def plainC (c : UInt8) : Bool := plainB c.toNat
/-- A digit of 0 .. 15. -/
def hexd (n : Nat) : UInt8 := if n < 10 then UInt8.ofNat (48 + n) else UInt8.ofNat (87 + n)
def quoB (c : UInt8) : List UInt8 := if plainC c then [c] else [37, hexd (c.toNat / 16), hexd (c.toNat % 16)]
def quoL (l : List UInt8) : List UInt8 := l.flatMap quoB

theorem quoL_snoc (l : List UInt8) (c : UInt8) : quoL (l ++ [c]) = quoL l ++ quoB c := by simp [quoL]
theorem quoB_len (c : UInt8) : (quoB c).length ≤ 3 := by unfold quoB; split <;> simp
theorem quoL_len (l : List UInt8) : (quoL l).length ≤ 3 * l.length := by
  induction l with
  | nil => simp [quoL]
  | cons c l ih =>
    have := quoB_len c
    simp only [quoL, List.flatMap_cons, List.length_append, List.length_cons] at ih ⊢
    omega
theorem hexd_at (n : Nat) (h : n < 16) (h' : n < (⟨#[48, 49, 50, 51, 52, 53, 54, 55, 56, 57, 97, 98, 99, 100, 101, 102]⟩ : ByteArray).size) :
    (⟨#[48, 49, 50, 51, 52, 53, 54, 55, 56, 57, 97, 98, 99, 100, 101, 102]⟩ : ByteArray)[n] = hexd n := by
  have : ∀ m : Fin 16, (⟨#[48, 49, 50, 51, 52, 53, 54, 55, 56, 57, 97, 98, 99, 100, 101, 102]⟩ : ByteArray)[m.val]'(m.isLt) = hexd m.val := by decide
  exact this ⟨n, h⟩

end Go.Proofs.Ytkfhkfddhijkcaa

namespace Go.Proofs.Ytkfhkfddhijkcaa
open Go

/-- May a key have it? -/
def keyC (c : UInt8) : Bool := decide ((97 ≤ c.toNat ∧ c.toNat ≤ 122) ∨ (48 ≤ c.toNat ∧ c.toNat ≤ 57) ∨ c.toNat = 46 ∨ c.toNat = 45)
/-- .. and as a number. -/
def keyR (n : Int) : Bool := decide ((97 ≤ n ∧ n ≤ 122) ∨ (48 ≤ n ∧ n ≤ 57) ∨ n = 46 ∨ n = 45)
/-- Is it a key? -/
def keyB (l : List UInt8) : Bool := l.all keyC && decide (1 ≤ l.length ∧ l.length ≤ 20)
theorem keyR_nat (c : UInt8) : keyR (c.toNat : Int) = keyC c := by
  unfold keyR keyC
  rw [Bool.eq_iff_iff]
  simp only [decide_eq_true_eq]
  omega
theorem keyB_long {l : List UInt8} (h : l.length < 1 ∨ 20 < l.length) : keyB l = false := by
  unfold keyB
  have : decide (1 ≤ l.length ∧ l.length ≤ 20) = false := by simp only [decide_eq_false_iff_not]; omega
  rw [this, Bool.and_false]
theorem keyB_bad {l : List UInt8} {k : Nat} {c : UInt8} (h : l[k]? = some c) (hc : keyC c = false) : keyB l = false := by
  unfold keyB
  have : l.all keyC = false := by
    rw [List.all_eq_false]
    exact ⟨c, List.mem_of_getElem? h, by simp [hc]⟩
  rw [this, Bool.false_and]
theorem keyB_yes {l : List UInt8} (h : l.all keyC = true) (h1 : 1 ≤ l.length) (h2 : l.length ≤ 20) : keyB l = true := by
  unfold keyB
  rw [h]
  simp only [Bool.true_and, decide_eq_true_eq]
  exact ⟨h1, h2⟩
theorem keyB_all {l : List UInt8} (h : keyB l = true) : l.all keyC = true ∧ 1 ≤ l.length ∧ l.length ≤ 20 := by
  unfold keyB at h
  simp only [Bool.and_eq_true, decide_eq_true_eq] at h
  exact ⟨h.1, h.2.1, h.2.2⟩
theorem keyB_is {l : List UInt8} (h : l.all keyC = true) : keyB l = decide (1 ≤ l.length ∧ l.length ≤ 20) := by
  unfold keyB
  rw [h, Bool.true_and]
theorem keyC_low {c : UInt8} (h : keyC c = true) : c.toNat < 128 ∧ c ≠ 32 := by
  simp only [keyC, decide_eq_true_eq] at h
  refine ⟨by omega, ?_⟩
  rintro rfl
  revert h
  decide
end Go.Proofs.Ytkfhkfddhijkcaa

namespace Go.Proofs.Ytkfhkfddhijkcaa
open Go.RowKit

theorem key_snoc (s : ByteArray) (k : Nat) (h : k < s.size) : s.data.toList.take (k + 1) = s.data.toList.take k ++ [s[k]] := by
  rw [List.take_succ_eq_append_getElem (by simpa using h)]; rfl
theorem key_get (s : ByteArray) (k : Nat) (h : k < s.size) : s.data.toList[k]? = some s[k] := by
  rw [List.getElem?_eq_getElem (by simpa using h)]; rfl

set_option maxHeartbeats 1000000 in
theorem inKey_any (n : Int) (w : World) :
    Calls Try.prog 146 #[.int .i32 n] w fun e w' => e = .returned (.bool (keyR n)) ∧ w = w' := by
  go_enter Try.func146, Try.ntmps146
  go_wp2
  all_goals go_ret
  all_goals exact ⟨ret_bool (by unfold keyR; rw [Bool.eq_iff_iff]; simp; try omega), rfl⟩

theorem inKey_yes (n : Int) (h : keyR n = true) (w : World) :
    Calls Try.prog 146 #[.int .i32 n] w fun e w' => e = .returned (.bool true) ∧ w = w' := by
  have := inKey_any n w
  rwa [h] at this
theorem inKey_no (n : Int) (h : keyR n = false) (w : World) :
    Calls Try.prog 146 #[.int .i32 n] w fun e w' => e = .returned (.bool false) ∧ w = w' := by
  have := inKey_any n w
  rwa [h] at this

set_option maxHeartbeats 1000000 in
theorem key_any (s : ByteArray) (w : World) (hs : s.size ≤ maxLen) :
    Calls Try.prog 127 #[.string s] w fun e w' => e = .returned (.bool (keyB s.data.toList)) ∧ Below w.heap.size w w' := by
  unfold maxLen at hs
  have hl : s.data.toList.length = s.size := Array.length_toList
  by_cases h0 : s.size = 0
  · have R : Hid (keyB s.data.toList = false) := keyB_long (Or.inl (by omega))
    have hn : s.data.toList = [] := List.length_eq_zero_iff.1 (by omega)
    have e1 : s.toList = [] := by rw [ByteArray.toList_eq, hn]
    have e2 : s.toList.isEmpty = true := by rw [e1]; rfl
    clear h0 hl hn
    go_enter Try.func127, Try.ntmps127
    go_wp2_with fail
    go_ret
    exact ⟨ret_bool R.out.symm, Below.refl _ _⟩
  · have e2 : s.toList.isEmpty = false := by
      rw [ByteArray.toList_eq]
      cases hx : s.data.toList with
      | nil => rw [hx] at hl; simp at hl; omega
      | cons => rfl
    by_cases hlong : 20 < s.size
    · have R : Hid (keyB s.data.toList = false) := keyB_long (Or.inr (by omega))
      have i1 : (20 : Int) < (s.size : Int) := by omega
      clear h0 hl
      go_enter Try.func127, Try.ntmps127
      go_wp2_with fail
      go_ret
      exact ⟨ret_bool R.out.symm, Below.refl _ _⟩
    · have i1 : ¬ (20 : Int) < (s.size : Int) := by omega
      go_enter Try.func127, Try.ntmps127
      go_wp2_with fail
      go_loopw [] (fun wr => ∃ k : Nat, k ≤ s.size ∧ wr.heap[w.heap.size]? = some (.stringIter s k) ∧ Below w.heap.size w wr ∧ Hid ((s.data.toList.take k).all keyC = true)) (fun wr => s.size - wr.iterPos w.heap.size)
      case atStart =>
        exact ⟨0, Nat.zero_le _, World.iter_heap w s 0, b0 _ _, rfl⟩
      case round =>
        obtain ⟨k, hk, hit, hbw, hA⟩ := hrel
        have hsz : w.heap.size < wr.heap.size := (Array.getElem?_eq_some_iff.1 hit).1
        by_cases hp : k < s.size
        · have hg := key_get s k hp
          by_cases hd : keyC s[k] = true
          · have hlow := (keyC_low hd).1
            have hR := Lib.hid (show keyR (s[k].toNat : Int) = true by rw [keyR_nat]; exact hd)
            have hnx : ∀ ty, (Instr.next (.pointer (some ⟨w.heap.size, 0, none⟩)) true ty).run Try.prog wr = _ := fun ty => Lib.run_next_ascii_at wr w.heap.size s k ty hit hp (by omega)
            have hA2 : Hid ((s.data.toList.take (k + 1)).all keyC = true) := by
              show _ = _
              rw [key_snoc s k hp, List.all_append, hA.out]
              simp [hd]
            have hbw2 := Lib.below_iterAt hbw (k := w.heap.size) (Nat.le_refl _) s (k + 1)
            have hit2 := Lib.iterAt_heap wr w.heap.size s k (k + 1) hit
            clear hd hg hA
            go_wp2_with (go_at_call 146; refine (inKey_yes _ hR.out _).mono ?_; rintro e w2 ⟨rfl, rfl⟩)
            go_roundw
            case rel => exact ⟨k + 1, by omega, hit2, hbw2, hA2⟩
            case measure =>
              simp only [World.iterPos, hit2, hit]
              omega
          · have R : Hid (keyB s.data.toList = false) := keyB_bad hg (by simpa using hd)
            by_cases h128 : s[k].toNat < 128
            · have hR := Lib.hid (show keyR (s[k].toNat : Int) = false by rw [keyR_nat]; simpa using hd)
              have hnx : ∀ ty, (Instr.next (.pointer (some ⟨w.heap.size, 0, none⟩)) true ty).run Try.prog wr = _ := fun ty => Lib.run_next_ascii_at wr w.heap.size s k ty hit hp (by omega)
              have hbw2 := Lib.below_iterAt hbw (k := w.heap.size) (Nat.le_refl _) s (k + 1)
              clear hd hg hA
              go_wp2_with (go_at_call 146; refine (inKey_no _ hR.out _).mono ?_; rintro e w2 ⟨rfl, rfl⟩)
              go_ret
              exact ⟨ret_bool R.out.symm, hbw2⟩
            · have hnx : ∀ ty, (Instr.next (.pointer (some ⟨w.heap.size, 0, none⟩)) true ty).run Try.prog wr = _ := fun ty => Lib.run_next_any_at wr w.heap.size s k ty hit hp
              have hhi := (decode_high s k hp (by omega)).1
              have hR := Lib.hid (show keyR ((Utf8.decode s k).1 : Int) = false by unfold keyR; simp only [decide_eq_false_iff_not]; omega)
              have hbw2 := Lib.below_iterAt hbw (k := w.heap.size) (Nat.le_refl _) s (k + (Utf8.decode s k).2)
              clear hd hg hA h128 hhi
              go_wp2_with (go_at_call 146; refine (inKey_no _ hR.out _).mono ?_; rintro e w2 ⟨rfl, rfl⟩)
              go_ret
              exact ⟨ret_bool R.out.symm, hbw2⟩
        · have hnx : ∀ ty, (Instr.next (.pointer (some ⟨w.heap.size, 0, none⟩)) true ty).run Try.prog wr = _ := fun ty => Lib.run_next_end_at wr w.heap.size s k ty hit hp
          have ht : s.data.toList.take k = s.data.toList := List.take_of_length_le (by omega)
          have R : Hid (keyB s.data.toList = true) := by
            have hA3 := hA.out
            rw [ht] at hA3
            exact keyB_yes hA3 (by omega) (by omega)
          clear ht
          go_wp2_with fail
          go_ret
          exact ⟨ret_bool R.out.symm, hbw⟩

set_option maxHeartbeats 1000000 in
theorem refKey_any (s : ByteArray) (w : World) (hs : s.size ≤ maxLen) :
    Calls Try.prog 84 #[.string s] w fun e w' => e = .returned (.bool (keyB s.data.toList)) ∧ w = w' := by
  unfold maxLen at hs
  have hl : s.data.toList.length = s.size := Array.length_toList
  go_enter Try.func84, Try.ntmps84
  go_wp2_with fail
  go_loop [3] (fun i => ∃ k : Nat, k ≤ s.size ∧ i = .int .i64 k ∧ Hid ((s.data.toList.take k).all keyC = true)) (fun i => s.size - (intOf i).toNat)
  case atStart => exact ⟨0, Nat.zero_le _, rfl, rfl⟩
  case round =>
    obtain ⟨k, hk, rfl, hA⟩ := hrel
    by_cases hp : k < s.size
    · have hg := key_get s k hp
      have hc := s[k].toNat_lt
      by_cases hd : keyC s[k] = true
      · have hA2 : Hid ((s.data.toList.take (k + 1)).all keyC = true) := by
          show _ = _
          rw [key_snoc s k hp, List.all_append, hA.out]
          simp [hd]
        simp only [keyC, decide_eq_true_eq] at hd
        clear hg hA
        have j : (97 ≤ (s[k].toNat : Int) ∧ (s[k].toNat : Int) ≤ 122) ∨ ((s[k].toNat : Int) < 97 ∧ 48 ≤ (s[k].toNat : Int) ∧ (s[k].toNat : Int) ≤ 57) ∨ ((s[k].toNat : Int) < 48 ∧ ((s[k].toNat : Int) != 46) = false) ∨ ((s[k].toNat : Int) < 48 ∧ ((s[k].toNat : Int) != 46) = true ∧ ((s[k].toNat : Int) != 45) = false) := by
          rcases hd with h | h | h | h
          · exact Or.inl (by omega)
          · exact Or.inr (Or.inl (by omega))
          · exact Or.inr (Or.inr (Or.inl ⟨by omega, by rw [h]; rfl⟩))
          · exact Or.inr (Or.inr (Or.inr ⟨by omega, by rw [h]; rfl, by rw [h]; rfl⟩))
        clear hd
        rcases j with ⟨j1, j2⟩ | ⟨j1, j2, j3⟩ | ⟨j1, j2⟩ | ⟨j1, j2, j3⟩
        all_goals
          go_wp2_with fail
          go_round
          case rel => exact ⟨k + 1, by omega, by go_num, hA2⟩
          case measure => simp [intOf]; omega
      · have R : Hid (keyB s.data.toList = false) := keyB_bad hg (by simpa using hd)
        simp only [keyC, decide_eq_true_eq] at hd
        have n46 : ((s[k].toNat : Int) != 46) = true := by rw [bne_iff_ne]; omega
        have n45 : ((s[k].toNat : Int) != 45) = true := by rw [bne_iff_ne]; omega
        have j : ((s[k].toNat : Int) < 97 ∧ (s[k].toNat : Int) < 48) ∨ ((s[k].toNat : Int) < 97 ∧ 48 ≤ (s[k].toNat : Int) ∧ 57 < (s[k].toNat : Int)) ∨ (97 ≤ (s[k].toNat : Int) ∧ 122 < (s[k].toNat : Int)) := by omega
        clear hg hA hd
        rcases j with ⟨j1, j2⟩ | ⟨j1, j2, j3⟩ | ⟨j1, j2⟩
        all_goals
          go_wp2_with fail
          go_ret
          exact ⟨ret_bool R.out.symm, rfl⟩
    · have ht : s.data.toList.take k = s.data.toList := List.take_of_length_le (by omega)
      have R : Hid (keyB s.data.toList = decide (1 ≤ s.size ∧ s.size ≤ 20)) := by
        have hA3 := hA.out
        rw [ht] at hA3
        show _ = _
        rw [keyB_is hA3, hl]
      clear ht hA
      by_cases q : 1 ≤ s.size
      · have q1 : (1 : Int) ≤ (s.size : Int) := by omega
        have hq : ¬ (k : Int) < (s.size : Int) := by omega
        go_wp2_with fail
        go_ret
        refine ⟨ret_bool ?_, rfl⟩
        rw [R.out, Bool.eq_iff_iff]
        simp
        omega
      · have q1 : ¬ (1 : Int) ≤ (s.size : Int) := by omega
        have hq : ¬ (k : Int) < (s.size : Int) := by omega
        go_wp2_with fail
        go_ret
        refine ⟨ret_bool ?_, rfl⟩
        rw [R.out, Bool.eq_iff_iff]
        simp
        omega
end Go.Proofs.Ytkfhkfddhijkcaa

namespace Go.Proofs.Ytkfhkfddhijkcaa
open Go.RowKit

/-- An operation as a value. -/
abbrev opV (K : Int) (ky : ByteArray) (ka na : Int) (sa : ByteArray) (kb nb : Int) (sb : ByteArray) : Value :=
  .agg #[.int .i64 K, .string ky, .int .i64 ka, .int .i64 na, .string sa, .int .i64 kb, .int .i64 nb, .string sb]
/-- .. and as cells. -/
abbrev opC (K : Int) (ky : ByteArray) (ka na : Int) (sa : ByteArray) (kb nb : Int) (sb : ByteArray) : Array Value :=
  #[.int .i64 K, .string ky, .int .i64 ka, .int .i64 na, .string sa, .int .i64 kb, .int .i64 nb, .string sb]
/-- Is an operation good? -/
def opB (K : Int) (ky : ByteArray) (ka na : Int) (sa : ByteArray) (kb nb : Int) (sb : ByteArray) : Bool :=
  keyB ky.data.toList && goodB ka na sa && goodB kb nb sb && decide ((K = 1 ∧ ka ≠ 0 ∧ kb = 0) ∨ (K = 2 ∧ ka = 0 ∧ kb = 0) ∨ (K = 3 ∧ ka = 1 ∧ kb = 0) ∨ K = 4)

set_option maxHeartbeats 4000000 in
theorem refOpGood_any (K ka na kb nb : Int) (ky sa sb : ByteArray) (w : World) (hk : ky.size ≤ maxLen) (ha : sa.size ≤ maxLen) (hb : sb.size ≤ maxLen) :
    Calls Try.prog 48 #[opV K ky ka na sa kb nb sb] w fun e w' => e = .returned (.bool (opB K ky ka na sa kb nb sb)) ∧ Below w.heap.size w w' := by
  go_enter Try.func48, Try.ntmps48
  go_wp2_with fail
  have hC := Lib.hid (blk_new w (opC K ky ka na sa kb nb sb) 37)
  have hB := b0 w (.cells (opC K ky ka na sa kb nb sb) 37)
  generalize w.alloc (.cells (opC K ky ka na sa kb nb sb) 37) = W at hC hB ⊢
  obtain ⟨d0, d1, d2, d3, d4, d5, d6, d7, d8⟩ := hC.out.c8
  refine (refKey_any _ _ hk).mono ?_
  rintro e w2 ⟨rfl, rfl⟩
  cases gk : keyB ky.data.toList
  · have R : Hid (opB K ky ka na sa kb nb sb = false) := by show _ = _; unfold opB; rw [gk]; rfl
    clear gk
    go_wp2_with fail
    go_ret
    exact ⟨ret_bool R.out.symm, hB⟩
  · have Gk := Lib.hid gk
    clear gk
    go_wp2_with fail
    refine (refGood_any _ _ _ _ (by assumption)).mono ?_
    rintro e w2 ⟨rfl, hb2⟩
    replace hB := bt hB hb2
    replace hC := Lib.hid (hC.out.keep hb2)
    clear d0 d1 d2 d3 d4 d5 d6 d7 d8
    obtain ⟨d0, d1, d2, d3, d4, d5, d6, d7, d8⟩ := hC.out.c8
    cases ga : goodB ka na sa
    · have R : Hid (opB K ky ka na sa kb nb sb = false) := by show _ = _; unfold opB; rw [Gk.out, ga]; rfl
      clear ga
      go_wp2_with fail
      go_ret
      exact ⟨ret_bool R.out.symm, hB⟩
    · have Ga := Lib.hid ga
      clear ga
      go_wp2_with fail
      refine (refGood_any _ _ _ _ (by assumption)).mono ?_
      rintro e w3 ⟨rfl, hb3⟩
      replace hB := bt hB hb3
      replace hC := Lib.hid (hC.out.keep hb3)
      clear d0 d1 d2 d3 d4 d5 d6 d7 d8
      obtain ⟨d0, d1, d2, d3, d4, d5, d6, d7, d8⟩ := hC.out.c8
      cases gb : goodB kb nb sb
      · have R : Hid (opB K ky ka na sa kb nb sb = false) := by show _ = _; unfold opB; rw [Gk.out, Ga.out, gb]; rfl
        clear gb
        go_wp2_with fail
        go_ret
        exact ⟨ret_bool R.out.symm, hB⟩
      · have R : Hid (opB K ky ka na sa kb nb sb = decide ((K = 1 ∧ ka ≠ 0 ∧ kb = 0) ∨ (K = 2 ∧ ka = 0 ∧ kb = 0) ∨ (K = 3 ∧ ka = 1 ∧ kb = 0) ∨ K = 4)) := by show _ = _; unfold opB; rw [Gk.out, Ga.out, gb]; rfl
        clear gb
        go_wp2_with fail
        go_quiet (fail)
        go_wp2_with fail
        all_goals go_ret
        all_goals refine ⟨ret_bool ?_, hB.trans ⟨rfl, rfl, rfl, Nat.le_refl _, fun _ _ => rfl⟩⟩
        all_goals rw [R.out, Bool.eq_iff_iff]
        all_goals simp only [Bool.and_eq_true, decide_eq_true_eq, beq_iff_eq, beq_eq_false_iff_ne, bne_iff_ne, Bool.false_eq_true, false_iff] at *
        all_goals omega
end Go.Proofs.Ytkfhkfddhijkcaa

namespace Go.Proofs.Ytkfhkfddhijkcaa
open Go

/-- A number's bytes, the highest first, none of them ahead 0. -/
def beB (n : Nat) : List UInt8 := if _h : n = 0 then [] else beB (n / 256) ++ [UInt8.ofNat (n % 256)]
termination_by n
decreasing_by omega
theorem beB_zero : beB 0 = [] := by rw [beB]; simp
theorem beB_pos {n : Nat} (h : n ≠ 0) : beB n = beB (n / 256) ++ [UInt8.ofNat (n % 256)] := by rw [beB]; simp [h]
/-- .. and back. -/
def beV (l : List UInt8) : Nat := l.foldl (fun a c => a * 256 + c.toNat) 0
theorem beV_snoc (l : List UInt8) (c : UInt8) : beV (l ++ [c]) = beV l * 256 + c.toNat := by simp [beV]
theorem beV_nil : beV [] = 0 := rfl
theorem toNat_mod (n : Nat) : (UInt8.ofNat (n % 256)).toNat = n % 256 := by
  rw [UInt8.toNat_ofNat']
  omega
theorem beV_beB (n : Nat) : beV (beB n) = n := by
  induction n using Nat.strongRecOn with
  | _ n ih =>
    by_cases h : n = 0
    · subst h; rw [beB_zero]; rfl
    · rw [beB_pos h, beV_snoc, ih (n / 256) (by omega), toNat_mod]
      omega
theorem beB_ne {n : Nat} (h : n ≠ 0) : beB n ≠ [] := by rw [beB_pos h]; simp
theorem beB_head (n : Nat) : ∀ c t, beB n = c :: t → c ≠ 0 := by
  induction n using Nat.strongRecOn with
  | _ n ih =>
    intro c t e
    by_cases h : n = 0
    · rw [h, beB_zero] at e; cases e
    · rw [beB_pos h] at e
      by_cases h2 : n / 256 = 0
      · rw [h2, beB_zero] at e
        injection e with e _
        intro hc
        have h3 := congrArg UInt8.toNat e
        rw [toNat_mod, hc] at h3
        have : (0 : UInt8).toNat = 0 := rfl
        omega
      · cases hb : beB (n / 256) with
        | nil => exact absurd hb (beB_ne h2)
        | cons d u =>
          rw [hb] at e
          injection e with e _
          rw [← e]
          exact ih (n / 256) (by omega) d u hb
theorem snoc_ind {α : Type} {P : List α → Prop} (h0 : P []) (h1 : ∀ l c, P l → P (l ++ [c])) : ∀ l, P l := by
  have key : ∀ n, ∀ l : List α, l.length = n → P l := by
    intro n
    induction n with
    | zero => intro l hl; rw [List.length_eq_zero_iff.1 hl]; exact h0
    | succ n ih =>
      intro l hl
      have hne : l ≠ [] := by rintro rfl; cases hl
      have e := List.dropLast_concat_getLast hne
      rw [← e]
      exact h1 _ _ (ih _ (by rw [List.length_dropLast]; omega))
  exact fun l => key l.length l rfl
theorem beV_lt : ∀ l : List UInt8, beV l < 256 ^ l.length := by
  refine snoc_ind (by simp [beV]) fun l c ih => ?_
  rw [beV_snoc, List.length_append, List.length_singleton, Nat.pow_succ]
  have := c.toNat_lt
  omega
theorem beV_cons_pos : ∀ (t : List UInt8) (c : UInt8), c ≠ 0 → 1 ≤ beV (c :: t) := by
  refine snoc_ind (fun c hc => ?_) fun l d ih c hc => ?_
  · have : c.toNat ≠ 0 := fun e => hc (UInt8.toNat_inj.1 e)
    simp only [beV, List.foldl_cons, List.foldl_nil]
    omega
  · have := ih c hc
    rw [← List.cons_append, beV_snoc]
    omega
theorem ofNat_mod (c : UInt8) (n : Nat) : UInt8.ofNat ((n * 256 + c.toNat) % 256) = c := by
  apply UInt8.toNat_inj.1
  rw [toNat_mod]
  have := c.toNat_lt
  omega
theorem beB_beV : ∀ l : List UInt8, (∀ c t, l = c :: t → c ≠ 0) → beB (beV l) = l := by
  refine snoc_ind (fun _ => by rw [beV_nil, beB_zero]) fun l c ih hl => ?_
  have hc := c.toNat_lt
  rw [beV_snoc]
  cases l with
  | nil =>
    have h0 : c ≠ 0 := hl c [] rfl
    have : c.toNat ≠ 0 := fun e => h0 (UInt8.toNat_inj.1 e)
    rw [beV_nil, beB_pos (by omega), ofNat_mod, show (0 * 256 + c.toNat) / 256 = 0 by omega, beB_zero]
  | cons d t =>
    have h1 := beV_cons_pos t d (hl d (t ++ [c]) rfl)
    rw [beB_pos (by omega), ofNat_mod, show (beV (d :: t) * 256 + c.toNat) / 256 = beV (d :: t) by omega, ih fun c' t' e => by
      injection e with e1 e2
      rw [← e1]
      exact hl d (t ++ [c]) rfl]
theorem beB_len : ∀ (k n : Nat), n < 256 ^ k → (beB n).length ≤ k
  | 0, n, h => by
    have : n = 0 := by simpa using h
    rw [this, beB_zero]
    simp
  | k + 1, n, h => by
    by_cases h0 : n = 0
    · rw [h0, beB_zero]; simp
    · rw [beB_pos h0, List.length_append, List.length_singleton]
      have := beB_len k (n / 256) (by rw [Nat.pow_succ] at h; omega)
      omega
theorem pow_eight : 256 ^ 8 = 18446744073709551616 := by decide
theorem beB_eight {n : Nat} (h : n < 18446744073709551616) : (beB n).length ≤ 8 := beB_len 8 n (by rw [pow_eight]; exact h)

/-- A number, put. -/
def numB (n : Nat) : List UInt8 := UInt8.ofNat (beB n).length :: beB n
/-- The number at the front, how many bytes; 0: none of at most so much stands there. -/
def takeNum : List UInt8 → Nat → Nat × Nat
  | [], _ => (0, 0)
  | c :: t, most => if 8 < c.toNat ∨ t.length < c.toNat ∨ (0 < c.toNat ∧ t.head? = some 0) then (0, 0) else if most < beV (t.take c.toNat) then (0, 0) else (beV (t.take c.toNat), 1 + c.toNat)
theorem takeNum_cons (c : UInt8) (t : List UInt8) (most : Nat) : takeNum (c :: t) most = if 8 < c.toNat ∨ t.length < c.toNat ∨ (0 < c.toNat ∧ t.head? = some 0) then (0, 0) else if most < beV (t.take c.toNat) then (0, 0) else (beV (t.take c.toNat), 1 + c.toNat) := rfl
theorem numB_len (n : Nat) : (numB n).length = 1 + (beB n).length := by simp [numB, Nat.add_comm]
theorem ofNat_len {n : Nat} (h : n < 18446744073709551616) : (UInt8.ofNat (beB n).length).toNat = (beB n).length := by
  have := beB_eight h
  rw [UInt8.toNat_ofNat']
  omega
/-- What is put is taken. -/
theorem take_num {n most : Nat} (r : List UInt8) (h : n < 18446744073709551616) (hm : n ≤ most) : takeNum (numB n ++ r) most = (n, (numB n).length) := by
  have h8 := beB_eight h
  have hl := ofNat_len h
  show takeNum (UInt8.ofNat (beB n).length :: (beB n ++ r)) most = _
  rw [takeNum_cons, hl, List.take_left, beV_beB]
  rw [if_neg, if_neg (by omega), numB_len]
  rintro (h1 | h1 | ⟨h1, h2⟩)
  · omega
  · rw [List.length_append] at h1; omega
  · cases hb : beB n with
    | nil => rw [hb] at h1; simp at h1
    | cons d u =>
      rw [hb] at h2
      exact beB_head n d u hb (by simpa using h2)
/-- What is taken was put. -/
theorem num_take {b : List UInt8} {most n k : Nat} (h : takeNum b most = (n, k)) (hk : k ≠ 0) : n ≤ most ∧ n < 18446744073709551616 ∧ k = (numB n).length ∧ b = numB n ++ b.drop k ∧ 1 ≤ k ∧ k ≤ 9 := by
  cases b with
  | nil => unfold takeNum at h; injection h with _ h; omega
  | cons c t =>
    rw [takeNum_cons] at h
    by_cases h1 : 8 < c.toNat ∨ t.length < c.toNat ∨ (0 < c.toNat ∧ t.head? = some 0)
    · rw [if_pos h1] at h; injection h with _ h; omega
    · rw [if_neg h1] at h
      by_cases h2 : most < beV (t.take c.toNat)
      · rw [if_pos h2] at h; injection h with _ h; omega
      · rw [if_neg h2] at h
        injection h with e1 e2
        have c8 : ¬ 8 < c.toNat := fun h => h1 (Or.inl h)
        have cl : ¬ t.length < c.toNat := fun h => h1 (Or.inr (Or.inl h))
        have c0 : ¬ (0 < c.toNat ∧ t.head? = some 0) := fun h => h1 (Or.inr (Or.inr h))
        have hlen : (t.take c.toNat).length = c.toNat := by rw [List.length_take]; omega
        have hb : beB n = t.take c.toNat := by
          rw [← e1]
          refine beB_beV _ fun d u e hd => ?_
          cases t with
          | nil => simp at e
          | cons x y =>
            have hx : x = d := by
              cases hcc : c.toNat with
              | zero => rw [hcc] at e; simp at e
              | succ m =>
                rw [hcc, List.take_succ_cons] at e
                injection e
            refine c0 ⟨?_, by rw [hx, hd]; rfl⟩
            cases hcc : c.toNat with
            | zero => rw [hcc] at e; simp at e
            | succ m => omega
        have hlt := beV_lt (t.take c.toNat)
        rw [hlen, e1] at hlt
        have hp : 256 ^ c.toNat ≤ 256 ^ 8 := Nat.pow_le_pow_right (by omega) (by omega)
        rw [pow_eight] at hp
        have hnum : numB n = c :: t.take c.toNat := by
          unfold numB
          rw [hb, hlen]
          congr 1
          apply UInt8.toNat_inj.1
          rw [UInt8.toNat_ofNat']
          have := c.toNat_lt
          omega
        refine ⟨by omega, by omega, ?_, ?_, by omega, by omega⟩
        · rw [hnum, List.length_cons, hlen]; omega
        · rw [hnum, ← e2, show 1 + c.toNat = c.toNat + 1 by omega, List.drop_succ_cons, List.cons_append, List.take_append_drop]
/-- No number's bytes begin another one's. -/
theorem num_apart {a b : Nat} (ha : a < 18446744073709551616) (hb : b < 18446744073709551616) {r s : List UInt8} (h : numB a ++ r = numB b ++ s) : a = b := by
  have h1 := take_num (most := a + b) r ha (by omega)
  have h2 := take_num (most := a + b) s hb (by omega)
  rw [h, h2] at h1
  injection h1 with h1 _
  exact h1.symm

/-- An int as a number. -/
def zig (n : Int) : Nat := if n < 0 then (2 * (-n) - 1).toNat else (2 * n).toNat
def unzig (n : Nat) : Int := if n % 2 = 1 then -1 - ((n / 2 : Nat) : Int) else ((n / 2 : Nat) : Int)
theorem unzig_zig (n : Int) : unzig (zig n) = n := by
  unfold unzig zig
  by_cases h : n < 0
  · rw [if_pos h]
    have e : (2 * (-n) - 1).toNat % 2 = 1 := by omega
    rw [if_pos e]
    omega
  · rw [if_neg h]
    have e : ¬ (2 * n).toNat % 2 = 1 := by omega
    rw [if_neg e]
    omega
theorem zig_unzig (n : Nat) : zig (unzig n) = n := by
  unfold unzig zig
  by_cases h : n % 2 = 1
  · rw [if_pos h, if_pos (by omega)]
    omega
  · rw [if_neg h, if_neg (by omega)]
    omega
theorem zig_lt {n : Int} (h0 : -9223372036854775808 ≤ n) (h1 : n ≤ 9223372036854775807) : zig n < 18446744073709551616 := by
  unfold zig
  split <;> omega
theorem unzig_in {n : Nat} (h : n < 18446744073709551616) : -9223372036854775808 ≤ unzig n ∧ unzig n ≤ 9223372036854775807 := by
  unfold unzig
  split <;> omega
theorem zig_inj {a b : Int} (h : zig a = zig b) : a = b := by rw [← unzig_zig a, h, unzig_zig]
/-- An int, taken. -/
def takeIntB (b : List UInt8) : Int × Nat := (unzig (takeNum b 18446744073709551615).1, (takeNum b 18446744073709551615).2)
theorem take_int {n : Int} (r : List UInt8) (h0 : -9223372036854775808 ≤ n) (h1 : n ≤ 9223372036854775807) : takeIntB (numB (zig n) ++ r) = (n, (numB (zig n)).length) := by
  unfold takeIntB
  have hz := zig_lt h0 h1
  rw [take_num r hz (by omega)]
  show (unzig (zig n), _) = _
  rw [unzig_zig]
/-- A text, put; taken. -/
def textB (s : List UInt8) : List UInt8 := numB s.length ++ s
def takeTextB (b : List UInt8) (most : Nat) : List UInt8 × Nat :=
  if (takeNum b most).2 = 0 ∨ b.length - (takeNum b most).2 < (takeNum b most).1 then ([], 0) else ((b.drop (takeNum b most).2).take (takeNum b most).1, (takeNum b most).2 + (takeNum b most).1)
theorem take_text {s : List UInt8} {most : Nat} (r : List UInt8) (h : s.length < 18446744073709551616) (hm : s.length ≤ most) : takeTextB (textB s ++ r) most = (s, (textB s).length) := by
  unfold takeTextB textB
  rw [List.append_assoc, take_num _ h hm]
  have hl := numB_len s.length
  rw [if_neg]
  · simp
  · rintro (e | e)
    · omega
    · simp at e
      omega
theorem text_take {b : List UInt8} {most k : Nat} {s : List UInt8} (h : takeTextB b most = (s, k)) (hk : k ≠ 0) : s.length ≤ most ∧ s.length < 18446744073709551616 ∧ k = (textB s).length ∧ b = textB s ++ b.drop k := by
  unfold takeTextB at h
  generalize hn : takeNum b most = p at h
  obtain ⟨n, j⟩ := p
  simp only at h
  by_cases h1 : j = 0 ∨ b.length - j < n
  · rw [if_pos h1] at h; injection h with _ h; omega
  · rw [if_neg h1] at h
    injection h with e1 e2
    obtain ⟨a1, a2, a3, a4, _, _⟩ := num_take hn (fun e => h1 (Or.inl e))
    have hl : s.length = n := by
      rw [← e1, List.length_take, List.length_drop]
      have : ¬ b.length - j < n := fun e => h1 (Or.inr e)
      omega
    refine ⟨by omega, by omega, ?_, ?_⟩
    · unfold textB
      rw [List.length_append, hl]
      omega
    · unfold textB
      rw [hl, List.append_assoc]
      conv => lhs; rw [a4]
      congr 1
      rw [← e2, ← e1, ← List.drop_drop, List.take_append_drop]
theorem text_apart {a b : List UInt8} (ha : a.length < 18446744073709551616) (hb : b.length < 18446744073709551616) {r s : List UInt8} (h : textB a ++ r = textB b ++ s) : a = b := by
  have h1 := take_text (most := a.length + b.length) r ha (by omega)
  have h2 := take_text (most := a.length + b.length) s hb (by omega)
  rw [h, h2] at h1
  injection h1 with h1 _
  exact h1.symm
/-- A flag, put; taken. -/
def flagB (f : Bool) : List UInt8 := if f then [1] else [0]
def takeFlagB : List UInt8 → Bool × Nat
  | [] => (false, 0)
  | c :: _ => if 1 < c.toNat then (false, 0) else (c == 1, 1)
theorem take_flag (f : Bool) (r : List UInt8) : takeFlagB (flagB f ++ r) = (f, 1) := by cases f <;> rfl
end Go.Proofs.Ytkfhkfddhijkcaa

namespace Go.Proofs.Ytkfhkfddhijkcaa
open Go.RowKit

/-- A row of bytes that a call answered. -/
def PutP (w : World) (l : List UInt8) (e : Ending) (w' : World) : Prop :=
  (∃ (A : Option Addr) (n c : Nat), e = .returned (.slice A n c) ∧ OwnB w.heap.size w' A n c l) ∧ Below w.heap.size w w'

/-- One byte in a row of its own. -/
theorem litB (w : World) {base : Nat} (z : Int) (c : UInt8) (h : z = (c.toNat : Int)) (hb : base ≤ w.heap.size) : OwnB base (w.alloc (.cells #[.int .u8 z] 5)) (some ⟨w.heap.size, 0, none⟩) 1 1 [c] := by
  subst h
  exact OwnB.lit w #[.int .u8 (c.toNat : Int)] [c] rfl rfl hb (by unfold maxLen; omega)
theorem mod_byte (v : Nat) : (v : Int) % 256 = ((UInt8.ofNat (v % 256)).toNat : Int) := by
  rw [toNat_mod]
  omega

theorem wrap_quo {v n : Nat} (hv : v ≤ n) (hn : n < 18446744073709551616) : IntKind.u64.wrap ((v : Int) / 256) = ((v / 256 : Nat) : Int) := by
  rw [IntKind.wrap_u64]
  omega

set_option maxRecDepth 100000 in
set_option maxHeartbeats 1000000 in
theorem refNumber_any (n : Nat) (w : World) (hn : n < 18446744073709551616) :
    Calls Try.prog 129 #[.int .u64 n] w fun e w' => PutP w (numB n) e w' := by
  obtain ⟨i0, hi0, hz0, hz1, hz2⟩ := info_parts byt_info
  have h8 := beB_eight hn
  have H8 := Lib.hid h8
  have HN := Lib.hid hn
  clear h8 hn
  go_enter Try.func129, Try.ntmps129
  go_wp2_with fail
  go_loopw [0, 3] (fun t u wr => ∃ (v : Nat) (A : Option Addr) (k c : Nat) (l : List UInt8), t = .int .u64 v ∧ u = .slice A k c ∧ v ≤ n ∧ OwnB w.heap.size wr A k c l ∧ Hid (beB n = beB v ++ l) ∧ Below w.heap.size w wr) (fun t _ _ => (intOf t).toNat)
  case atStart => exact ⟨n, none, 0, 0, [], rfl, rfl, Nat.le_refl _, OwnB.nil _ _, by simp [Hid], Below.refl _ _⟩
  case round =>
    obtain ⟨v, A, k, c, l, rfl, rfl, hv, hO, hL, hB⟩ := hrel
    have hk := hO.len
    have hk8 : k ≤ 8 := by
      have h1 := congrArg List.length hL.out
      rw [List.length_append, hk] at h1
      have := H8.out
      omega
    have HK := Lib.hid hk
    clear hk
    by_cases h0 : v = 0
    · have g0 : decide (0 < v) = false := by simp; omega
      have HL : Hid (numB n = UInt8.ofNat k :: l) := by
        have h1 := hL.out
        rw [h0, beB_zero, List.nil_append] at h1
        show _ = _
        unfold numB
        rw [h1, HK.out]
      have hz : (k : Int) = ((UInt8.ofNat k).toNat : Int) := by rw [UInt8.toNat_ofNat']; omega
      have hown := litB wr (base := w.heap.size) (k : Int) (UInt8.ofNat k) hz hB.size
      have hrd := hO.rd.keep (b0 wr (.cells #[.int .u8 (k : Int)] 5)) (Nat.le_refl _)
      have hB2 := hB.alloc hB.size (.cells #[.int .u8 (k : Int)] 5)
      have q1 : (k : Int) ≤ 8 := by omega
      have q2 : (0 : Int) ≤ (k : Int) := by omega
      have HZ := Lib.hid hz
      clear h0 hz
      go_wp2_with (at_builtin; refine wpList_apB (base := w.heap.size) (n := 1) (m := k) (l := [UInt8.ofNat k]) (l2 := l) (by rfl) _ _ (by rfl) Try.underlying105 Try.underlying105 hi0 hz0 hz1 hz2 (by rfl) (by rfl) hown hrd HK.out (1 + k) rfl (by omega) hB2.size ?_; intro A5 c5 w5 hO5 hb5 hg5)
      go_ret
      exact ⟨⟨A5, 1 + k, c5, rfl, by rw [HL.out]; exact hO5⟩, hB2.trans hb5⟩
    · have g0 : (0 : Int) < (v : Int) := by omega
      have HL : Hid (beB n = beB (v / 256) ++ ([UInt8.ofNat (v % 256)] ++ l)) := by
        show _ = _
        rw [hL.out, beB_pos h0, List.append_assoc]
      have HQ := Lib.hid (wrap_quo hv HN.out)
      have hown := litB wr (base := w.heap.size) ((v : Int) % 256) (UInt8.ofNat (v % 256)) (mod_byte v) hB.size
      have hrd := hO.rd.keep (b0 wr (.cells #[.int .u8 ((v : Int) % 256)] 5)) (Nat.le_refl _)
      have hB2 := hB.alloc hB.size (.cells #[.int .u8 ((v : Int) % 256)] 5)
      go_wp2_with (at_builtin; refine wpList_apB (base := w.heap.size) (n := 1) (m := k) (l := [UInt8.ofNat (v % 256)]) (l2 := l) (by rfl) _ _ (by rfl) Try.underlying105 Try.underlying105 hi0 hz0 hz1 hz2 (by rfl) (by rfl) hown hrd HK.out (1 + k) rfl (by omega) hB2.size ?_; intro A5 c5 w5 hO5 hb5 hg5)
      go_roundw
      case rel => exact ⟨v / 256, A5, 1 + k, c5, [UInt8.ofNat (v % 256)] ++ l, by rw [HQ.out], rfl, by omega, hO5, HL, hB2.trans hb5⟩
      case measure => simp only [intOf, HQ.out]; omega

theorem zig_neg {n : Int} (h : n < 0) (h0 : -9223372036854775808 ≤ n) : IntKind.u64.wrap (IntKind.u64.wrap (2 * IntKind.u64.wrap (-IntKind.u64.wrap n)) - 1) = ((zig n : Nat) : Int) := by
  unfold zig
  rw [if_pos h]
  simp only [IntKind.wrap_u64]
  omega
theorem zig_pos {n : Int} (h : ¬ n < 0) (h1 : n ≤ 9223372036854775807) : IntKind.u64.wrap (2 * IntKind.u64.wrap n) = ((zig n : Nat) : Int) := by
  unfold zig
  rw [if_neg h]
  simp only [IntKind.wrap_u64]
  omega

set_option maxRecDepth 100000 in
set_option maxHeartbeats 1000000 in
theorem refPInt_any (n : Int) (w : World) (h0 : -9223372036854775808 ≤ n) (h1 : n ≤ 9223372036854775807) :
    Calls Try.prog 130 #[.int .i64 n] w fun e w' => PutP w (numB (zig n)) e w' := by
  have HZ := Lib.hid (zig_lt h0 h1)
  by_cases hn : n < 0
  · have HE := Lib.hid (zig_neg hn h0)
    clear h0 h1
    go_enter Try.func130, Try.ntmps130
    go_wp2_with fail
    rw [HE.out]
    refine (refNumber_any _ w HZ.out).mono ?_
    rintro e w1 ⟨⟨A, m, c, rfl, hO⟩, hb⟩
    go_wp2_with fail
    go_ret
    exact ⟨⟨A, m, c, rfl, hO⟩, hb⟩
  · have HE := Lib.hid (zig_pos hn h1)
    clear h0 h1
    go_enter Try.func130, Try.ntmps130
    go_wp2_with fail
    rw [HE.out]
    refine (refNumber_any _ w HZ.out).mono ?_
    rintro e w1 ⟨⟨A, m, c, rfl, hO⟩, hb⟩
    go_wp2_with fail
    go_ret
    exact ⟨⟨A, m, c, rfl, hO⟩, hb⟩

theorem strCells_is (s : ByteArray) : Lib.strCells s = bytV s.data.toList := rfl
section
variable {P : Program} {w : World} {t u : TypeId} {i : TypeInfo} {base : Nat} {A : Option Addr} {n c : Nat} {l : List UInt8} {o : Oper} {a : Act} {Q : Exit → Act → World → Prop} {ops : Array Oper}
theorem run_apT {ty : TypeId} (ht : P.underlying t = some (.slice 5)) (hu : P.underlying u = some .string) (hi : P.info? 5 = some i) (hz : i.zero = some (.int .u8 0)) (hs : i.size = 1) (hy : i.bytes = 1)
    (hown : OwnB base w A n c l) (s : ByteArray) (hsz : n + s.size ≤ 1099511627776) (hbase : base ≤ w.heap.size) :
    ∃ A' c' w', (Builtin.append_ #[t, u] ty #[.slice A n c, .string s]).run P w = .ok (.slice A' (n + s.size) c') w' ∧ OwnB base w' A' (n + s.size) c' (l ++ s.data.toList) ∧ Below base w w' ∧ w.grownBy w' (A.map (·.block)) := by
  obtain ⟨v', w', hrun, h2, h3, _⟩ := Lib.run_append_own_string (P := P) w base t u ty 5 i ht hu hi hz hs hy (.slice A n c) n (bytV l) hown s (by unfold maxLen; omega) (by omega) hbase
  have hb : Below base w w' := (Below.refl base w).grown h3 hbase (fun k hk => (World.ownsRow.lt hown k hk).1)
  have hv : ∃ A' c', v' = .slice A' (n + s.size) c' := by
    rcases h2.2 with ⟨e1, e2⟩ | ⟨g, cap, cur, e1, _⟩
    · exact ⟨none, 0, by rw [e1, e2]⟩
    · exact ⟨_, _, e1⟩
  obtain ⟨A', c', rfl⟩ := hv
  refine ⟨A', c', w', hrun, ?_, hb, by cases A <;> exact h3⟩
  unfold OwnB
  rw [show bytV (l ++ s.data.toList) = bytV l ++ bytV s.data.toList from List.map_append]
  exact h2
theorem wp_apT {K : Act → World → Prop} (sl x : Operand) (ho : o.op = .call { callee := .builtin .append, args := #[sl, x], argTypes := #[t, u] })
    (ht : P.underlying t = some (.slice 5)) (hu : P.underlying u = some .string) (hi : P.info? 5 = some i) (hz : i.zero = some (.int .u8 0)) (hs : i.size = 1) (hy : i.bytes = 1) (s : ByteArray)
    (h1 : a.eval sl = .slice A n c) (h2 : a.eval x = .string s) (hown : OwnB base w A n c l) (N : Nat) (hN : n + s.size = N) (hsz : n + s.size ≤ 1099511627776) (hbase : base ≤ w.heap.size)
    (h : ∀ A' c' w', OwnB base w' A' N c' (l ++ s.data.toList) → Below base w w' → w.grownBy w' (A.map (·.block)) → K (a.put o.dst (.slice A' N c')) w') : o.wp P a w K Q := by
  subst hN
  obtain ⟨A', c', w', hrun, k1, k2, k3⟩ := run_apT (P := P) (ty := o.type) (w := w) ht hu hi hz hs hy hown s hsz hbase
  unfold Oper.wp execOp
  simp only [ho, resolve, invoke, builtin, Sem.run_bind, Sem.run_pure, Result.andThen_ok, List.map_toArray, List.map_cons, List.map_nil, h1, h2, hrun]
  exact h A' c' w' k1 k2 k3
theorem wpList_apT {rest : List Oper} (hgd : o.guard = none) (sl x : Operand) (ho : o.op = .call { callee := .builtin .append, args := #[sl, x], argTypes := #[t, u] })
    (ht : P.underlying t = some (.slice 5)) (hu : P.underlying u = some .string) (hi : P.info? 5 = some i) (hz : i.zero = some (.int .u8 0)) (hs : i.size = 1) (hy : i.bytes = 1) (s : ByteArray)
    (h1 : a.eval sl = .slice A n c) (h2 : a.eval x = .string s) (hown : OwnB base w A n c l) (N : Nat) (hN : n + s.size = N) (hsz : n + s.size ≤ 1099511627776) (hbase : base ≤ w.heap.size)
    (h : ∀ A' c' w', OwnB base w' A' N c' (l ++ s.data.toList) → Below base w w' → w.grownBy w' (A.map (·.block)) → wpList P ops Q rest (a.put o.dst (.slice A' N c')) w') : wpList P ops Q (o :: rest) a w :=
  wpList_plain hgd fun _ hK => wp_apT sl x ho ht hu hi hz hs hy s h1 h2 hown N hN hsz hbase fun A' c' w' k1 k2 k3 => hK _ _ (h A' c' w' k1 k2 k3)
end

theorem numB_small {n : Nat} (h : n < 18446744073709551616) : (numB n).length ≤ 9 := by
  have := beB_eight h
  rw [numB_len]
  omega
theorem wrap_size {n : Nat} (h : n ≤ 1099511627776) : IntKind.u64.wrap (n : Int) = (n : Int) := by
  rw [IntKind.wrap_u64]
  omega

set_option maxRecDepth 100000 in
set_option maxHeartbeats 1000000 in
theorem refPText_any (s : ByteArray) (w : World) (hs : s.size ≤ 1000000) :
    Calls Try.prog 114 #[.string s] w fun e w' => PutP w (textB s.data.toList) e w' := by
  obtain ⟨i0, hi0, hz0, hz1, hz2⟩ := info_parts byt_info
  have hl : s.data.toList.length = s.size := Array.length_toList
  have HL := Lib.hid hl
  clear hl
  have s0 : (0 : Int) ≤ (s.size : Int) := by omega
  have s1 : (s.size : Int) ≤ 1000000 := by omega
  go_enter Try.func114, Try.ntmps114
  go_wp2_with fail
  refine (refNumber_any s.size w (by omega)).mono ?_
  rintro e w1 ⟨⟨A, m, c, rfl, hO⟩, hb⟩
  have hm := numB_small (n := s.size) (by omega)
  have hk := hO.len
  have hm2 : m ≤ 9 := by omega
  clear hm hk
  go_wp2_with (at_builtin; refine wpList_apT (base := w.heap.size) (n := m) (l := numB s.size) (by rfl) _ _ (by rfl) Try.underlying105 Try.underlying9 hi0 hz0 hz1 hz2 s (by rfl) (by rfl) hO (m + s.size) rfl (by omega) hb.size ?_; intro A5 c5 w5 hO5 hb5 hg5)
  go_ret
  refine ⟨⟨A5, m + s.size, c5, rfl, ?_⟩, hb.trans hb5⟩
  unfold textB
  rw [HL.out]
  exact hO5
end Go.Proofs.Ytkfhkfddhijkcaa

namespace Go.Proofs.Ytkfhkfddhijkcaa
open Go.RowKit

/-- A value's bytes. -/
def valB (k n : Int) (s : List UInt8) : List UInt8 := numB k.toNat ++ (if k = 1 then numB (zig n) else if k = 2 then textB s else [])

theorem textB_small {s : ByteArray} (h : s.size ≤ 1000000) : (textB s.data.toList).length ≤ 1000009 := by
  have hl : s.data.toList.length = s.size := Array.length_toList
  have := numB_small (n := s.size) (by omega)
  unfold textB
  rw [List.length_append, hl]
  omega
theorem valB_0 (n : Int) (s : List UInt8) : valB 0 n s = numB 0 := by simp [valB]
theorem valB_1 (n : Int) (s : List UInt8) : valB 1 n s = numB 1 ++ numB (zig n) := by simp [valB]
theorem valB_2 (n : Int) (s : List UInt8) : valB 2 n s = numB 2 ++ textB s := by simp [valB]

set_option maxRecDepth 100000 in
set_option maxHeartbeats 1000000 in
theorem refPValue_any (k n : Int) (s : ByteArray) (w : World) (hk : k = 0 ∨ k = 1 ∨ k = 2) (h0 : -9223372036854775808 ≤ n) (h1 : n ≤ 9223372036854775807) (hs : s.size ≤ 1000000) :
    Calls Try.prog 115 #[.agg #[.int .i64 k, .int .i64 n, .string s]] w fun e w' => PutP w (valB k n s.data.toList) e w' := by
  obtain ⟨i0, hi0, hz0, hz1, hz2⟩ := info_parts byt_info
  have H0 := Lib.hid h0
  have H1 := Lib.hid h1
  clear h0 h1
  rcases hk with rfl | rfl | rfl
  all_goals
    go_enter Try.func115, Try.ntmps115
    go_wp2_with fail
  · have hC := blk_new w #[.int .i64 0, .int .i64 n, .string s] 35
    have hB := b0 w (.cells #[.int .i64 0, .int .i64 n, .string s] 35)
    generalize w.alloc (.cells #[.int .i64 0, .int .i64 n, .string s] 35) = W at hC hB ⊢
    refine (refNumber_any 0 W (by omega)).mono ?_
    rintro e w1 ⟨⟨A, m, c, rfl, hO⟩, hb⟩
    obtain ⟨c0, c1, c2, c3⟩ := (hC.keep hb).c3
    go_wp2_with fail
    go_ret
    exact ⟨⟨A, m, c, rfl, by rw [valB_0]; exact hO.less hB.size⟩, bt hB hb⟩
  · have hC := blk_new w #[.int .i64 1, .int .i64 n, .string s] 35
    have hB := b0 w (.cells #[.int .i64 1, .int .i64 n, .string s] 35)
    generalize w.alloc (.cells #[.int .i64 1, .int .i64 n, .string s] 35) = W at hC hB ⊢
    refine (refNumber_any 1 W (by omega)).mono ?_
    rintro e w1 ⟨⟨A, m, c, rfl, hO⟩, hb⟩
    have hC1 := hC.keep hb
    obtain ⟨c0, c1, c2, c3⟩ := hC1.c3
    have hk1 := hO.len
    have hm1 : m ≤ 9 := by have := numB_small (n := 1) (by omega); omega
    clear hk1
    go_wp2_with fail
    refine (refPInt_any n w1 H0.out H1.out).mono ?_
    rintro e w2 ⟨⟨A2, m2, d, rfl, hO2⟩, hb2⟩
    have hC2 := hC1.keep hb2
    obtain ⟨d0, d1, d2, d3⟩ := hC2.c3
    have hk2 := hO2.len
    have HK2 := Lib.hid hk2
    have hm2 : m2 ≤ 9 := by have := numB_small (zig_lt H0.out H1.out); omega
    clear hk2 c0 c1 c2 c3
    have hO1 := hO.keep hb2
    have hBB := bt hb hb2
    go_wp2_with (at_builtin; refine wpList_apB (base := W.heap.size) (n := m) (m := m2) (l := numB 1) (l2 := numB (zig n)) (by rfl) _ _ (by rfl) Try.underlying105 Try.underlying105 hi0 hz0 hz1 hz2 (by rfl) (by rfl) hO1 hO2.rd HK2.out (m + m2) rfl (by omega) hBB.size ?_; intro A5 c5 w5 hO5 hb5 hg5; obtain ⟨q0, q1, q2, q3⟩ := (hC.keep (hBB.trans hb5)).c3)
    go_ret
    exact ⟨⟨A5, m + m2, c5, rfl, by rw [valB_1]; exact hO5.less hB.size⟩, bt hB (hBB.trans hb5)⟩
  · have hC := blk_new w #[.int .i64 2, .int .i64 n, .string s] 35
    have hB := b0 w (.cells #[.int .i64 2, .int .i64 n, .string s] 35)
    generalize w.alloc (.cells #[.int .i64 2, .int .i64 n, .string s] 35) = W at hC hB ⊢
    refine (refNumber_any 2 W (by omega)).mono ?_
    rintro e w1 ⟨⟨A, m, c, rfl, hO⟩, hb⟩
    have hC1 := hC.keep hb
    obtain ⟨c0, c1, c2, c3⟩ := hC1.c3
    have hk1 := hO.len
    have hm1 : m ≤ 9 := by have := numB_small (n := 2) (by omega); omega
    clear hk1
    go_wp2_with fail
    refine (refPText_any s w1 hs).mono ?_
    rintro e w2 ⟨⟨A2, m2, d, rfl, hO2⟩, hb2⟩
    have hC2 := hC1.keep hb2
    obtain ⟨d0, d1, d2, d3⟩ := hC2.c3
    have hk2 := hO2.len
    have HK2 := Lib.hid hk2
    have hm2 : m2 ≤ 1000009 := by have := textB_small hs; omega
    clear hk2 c0 c1 c2 c3
    have hO1 := hO.keep hb2
    have hBB := bt hb hb2
    go_wp2_with (at_builtin; refine wpList_apB (base := W.heap.size) (n := m) (m := m2) (l := numB 2) (l2 := textB s.data.toList) (by rfl) _ _ (by rfl) Try.underlying105 Try.underlying105 hi0 hz0 hz1 hz2 (by rfl) (by rfl) hO1 hO2.rd HK2.out (m + m2) rfl (by omega) hBB.size ?_; intro A5 c5 w5 hO5 hb5 hg5; obtain ⟨q0, q1, q2, q3⟩ := (hC.keep (hBB.trans hb5)).c3)
    go_ret
    exact ⟨⟨A5, m + m2, c5, rfl, by rw [valB_2]; exact hO5.less hB.size⟩, bt hB (hBB.trans hb5)⟩
end Go.Proofs.Ytkfhkfddhijkcaa

namespace Go.Proofs.Ytkfhkfddhijkcaa
open Go.RowKit
attribute [local go_sem ↓] Go.wp_at_zero Go.wp_at_succ

/-- A write as a value, and as cells. -/
abbrev wrC (dev seq : Nat) (K : Nat) (ky : ByteArray) (ka na : Int) (sa : ByteArray) (kb nb : Int) (sb : ByteArray) : Array Value :=
  #[.int .i64 dev, .int .i64 seq, .int .i64 K, .string ky, .int .i64 ka, .int .i64 na, .string sa, .int .i64 kb, .int .i64 nb, .string sb]
/-- Its bytes. -/
def wrB (dev seq K : Nat) (ky : List UInt8) (ka na : Int) (sa : List UInt8) (kb nb : Int) (sb : List UInt8) : List UInt8 :=
  numB dev ++ numB seq ++ numB K ++ textB ky ++ valB ka na sa ++ valB kb nb sb
/-- The ten cells of a block. -/
def Ten (W : World) (b : Nat) (dev seq : Nat) (K : Nat) (ky : ByteArray) (ka na : Int) (sa : ByteArray) (kb nb : Int) (sb : ByteArray) : Prop :=
  W.cell? ⟨b, 0, none⟩ = some (.int .i64 dev) ∧ W.cell? ⟨b, 1, none⟩ = some (.int .i64 seq) ∧ W.cell? ⟨b, 2, none⟩ = some (.int .i64 K) ∧ W.cell? ⟨b, 3, none⟩ = some (.string ky) ∧ W.cell? ⟨b, 4, none⟩ = some (.int .i64 ka) ∧
    W.cell? ⟨b, 5, none⟩ = some (.int .i64 na) ∧ W.cell? ⟨b, 6, none⟩ = some (.string sa) ∧ W.cell? ⟨b, 7, none⟩ = some (.int .i64 kb) ∧ W.cell? ⟨b, 8, none⟩ = some (.int .i64 nb) ∧ W.cell? ⟨b, 9, none⟩ = some (.string sb)
theorem Ten.keep {W W' : World} {b dev seq K : Nat} {ky : ByteArray} {ka na : Int} {sa : ByteArray} {kb nb : Int} {sb : ByteArray} (h : Ten W b dev seq K ky ka na sa kb nb sb) {B : Nat} (hb : Below B W W') (hB : b < B) : Ten W' b dev seq K ky ka na sa kb nb sb := by
  have hc : ∀ i, W'.cell? ⟨b, i, none⟩ = W.cell? ⟨b, i, none⟩ := fun i => hb.cell (p := ⟨b, i, none⟩) hB
  unfold Ten at h ⊢
  simp only [hc]
  exact h
theorem ten_new (w : World) (dev seq K : Nat) (ky : ByteArray) (ka na : Int) (sa : ByteArray) (kb nb : Int) (sb : ByteArray) (t : TypeId) : Ten (w.alloc (.cells (wrC dev seq K ky ka na sa kb nb sb) t)) w.heap.size dev seq K ky ka na sa kb nb sb := by
  have h := blk_new w (wrC dev seq K ky ka na sa kb nb sb) t
  exact ⟨h.cell 0, h.cell 1, h.cell 2, h.cell 3, h.cell 4, h.cell 5, h.cell 6, h.cell 7, h.cell 8, h.cell 9⟩
theorem OwnB.keepG {base : Nat} {W W' : World} {A A3 : Option Addr} {n c : Nat} {l : List UInt8} (h : OwnB base W A n c l) (hg : W.grownBy W' (A3.map (·.block))) (hlt : ∀ a, A3 = some a → a.block < base) : OwnB base W' A n c l := by
  refine World.ownsRow.kept h hg ?_
  cases A with
  | none => exact Or.inl rfl
  | some a =>
    right
    cases A3 with
    | none => simp [Value.ownBlock]
    | some a3 =>
      have h1 := (h.blk rfl).1
      have h2 := hlt a3 rfl
      simp only [Value.ownBlock, Option.map_some, ne_eq, Option.some.injEq]
      omega
theorem below_h {H : Nat} {w w' : World} (h : Below w.heap.size w w') (hH : H ≤ w.heap.size) : Below H w w' := h.mono hH

section
variable {W w' w1 : World} {p q : Addr} {u v : Value} {H : Nat}
theorem sP0 (h : W.cell? p = some u) (k : W.cell? q = some v) : W.drew.cell? p = some u ∧ W.drew.cell? q = some v ∧ Below W.heap.size W W.drew := ⟨h, k, (Below.refl _ _).drew⟩
theorem sP1 (h : w'.cell? p = some u ∧ w'.cell? q = some v ∧ Below H W w') (hp : p.block < H) (hq : q.block < H) (hH : H ≤ W.heap.size) (hb : Below w'.heap.size w' w1) : w1.cell? p = some u ∧ w1.cell? q = some v ∧ Below H W w1 := by
  have hz := h.2.2.size
  exact ⟨(hb.cell (by omega)).trans h.1, (hb.cell (by omega)).trans h.2.1, h.2.2.trans (hb.mono (by omega))⟩
theorem sP2 (h : w'.cell? p = some u ∧ w'.cell? q = some v ∧ Below H W w') (hp : p.block < H) (hq : q.block < H) (hb : Below H w' w1) : w1.cell? p = some u ∧ w1.cell? q = some v ∧ Below H W w1 :=
  ⟨(hb.cell hp).trans h.1, (hb.cell hq).trans h.2.1, h.2.2.trans hb⟩
theorem lessP {A : Option Addr} {n c : Nat} {l : List UInt8} (h : OwnB w'.heap.size w1 A n c l) (hS : w'.cell? p = some u ∧ w'.cell? q = some v ∧ Below H W w') (hH : H ≤ W.heap.size) : OwnB H w1 A n c l := h.less (Nat.le_trans hH hS.2.2.size)
theorem szP (hS : w'.cell? p = some u ∧ w'.cell? q = some v ∧ Below H W w') (hH : H ≤ W.heap.size) : H ≤ w'.heap.size := Nat.le_trans hH hS.2.2.size
end
section
variable {W W0 w' w1 : World} {p q : Addr} {u v : Value} {H b : Nat} {v4 v5 v6 v7 v8 v9 : Value}
theorem sQ0 (h : W.cell? p = some u) (k : W.cell? q = some v) (hB : Below H W0 W) : W.drew.cell? p = some u ∧ W.drew.cell? q = some v ∧ Below H W0 W.drew := ⟨h, k, hB.drew⟩
/-- Six cells, from the fifth on. -/
theorem s60 (h : W.cell? ⟨b, 4, none⟩ = some v4 ∧ W.cell? ⟨b, 5, none⟩ = some v5 ∧ W.cell? ⟨b, 6, none⟩ = some v6 ∧ W.cell? ⟨b, 7, none⟩ = some v7 ∧ W.cell? ⟨b, 8, none⟩ = some v8 ∧ W.cell? ⟨b, 9, none⟩ = some v9) (hB : Below H W0 W) :
    W.drew.cell? ⟨b, 4, none⟩ = some v4 ∧ W.drew.cell? ⟨b, 5, none⟩ = some v5 ∧ W.drew.cell? ⟨b, 6, none⟩ = some v6 ∧ W.drew.cell? ⟨b, 7, none⟩ = some v7 ∧ W.drew.cell? ⟨b, 8, none⟩ = some v8 ∧ W.drew.cell? ⟨b, 9, none⟩ = some v9 ∧ Below H W0 W.drew := ⟨h.1, h.2.1, h.2.2.1, h.2.2.2.1, h.2.2.2.2.1, h.2.2.2.2.2, hB.drew⟩
theorem s62 (h : w'.cell? ⟨b, 4, none⟩ = some v4 ∧ w'.cell? ⟨b, 5, none⟩ = some v5 ∧ w'.cell? ⟨b, 6, none⟩ = some v6 ∧ w'.cell? ⟨b, 7, none⟩ = some v7 ∧ w'.cell? ⟨b, 8, none⟩ = some v8 ∧ w'.cell? ⟨b, 9, none⟩ = some v9 ∧ Below H W0 w') (hp : b < H) (hb : Below H w' w1) :
    w1.cell? ⟨b, 4, none⟩ = some v4 ∧ w1.cell? ⟨b, 5, none⟩ = some v5 ∧ w1.cell? ⟨b, 6, none⟩ = some v6 ∧ w1.cell? ⟨b, 7, none⟩ = some v7 ∧ w1.cell? ⟨b, 8, none⟩ = some v8 ∧ w1.cell? ⟨b, 9, none⟩ = some v9 ∧ Below H W0 w1 := by
  have hc : ∀ i, w1.cell? ⟨b, i, none⟩ = w'.cell? ⟨b, i, none⟩ := fun i => hb.cell (p := ⟨b, i, none⟩) hp
  simp only [hc]
  exact ⟨h.1, h.2.1, h.2.2.1, h.2.2.2.1, h.2.2.2.2.1, h.2.2.2.2.2.1, h.2.2.2.2.2.2.trans hb⟩
theorem s61 (h : w'.cell? ⟨b, 4, none⟩ = some v4 ∧ w'.cell? ⟨b, 5, none⟩ = some v5 ∧ w'.cell? ⟨b, 6, none⟩ = some v6 ∧ w'.cell? ⟨b, 7, none⟩ = some v7 ∧ w'.cell? ⟨b, 8, none⟩ = some v8 ∧ w'.cell? ⟨b, 9, none⟩ = some v9 ∧ Below H W0 w') (hp : b < H) (hH : H ≤ W0.heap.size) (hb : Below w'.heap.size w' w1) :
    w1.cell? ⟨b, 4, none⟩ = some v4 ∧ w1.cell? ⟨b, 5, none⟩ = some v5 ∧ w1.cell? ⟨b, 6, none⟩ = some v6 ∧ w1.cell? ⟨b, 7, none⟩ = some v7 ∧ w1.cell? ⟨b, 8, none⟩ = some v8 ∧ w1.cell? ⟨b, 9, none⟩ = some v9 ∧ Below H W0 w1 :=
  s62 h hp (hb.mono (Nat.le_trans hH h.2.2.2.2.2.2.size))
theorem b6 (h : w'.cell? ⟨b, 4, none⟩ = some v4 ∧ w'.cell? ⟨b, 5, none⟩ = some v5 ∧ w'.cell? ⟨b, 6, none⟩ = some v6 ∧ w'.cell? ⟨b, 7, none⟩ = some v7 ∧ w'.cell? ⟨b, 8, none⟩ = some v8 ∧ w'.cell? ⟨b, 9, none⟩ = some v9 ∧ Below H W0 w') : Below H W0 w' := h.2.2.2.2.2.2
end
theorem ten_tail {W w' : World} {b K : Nat} {ky : ByteArray} {ka na : Int} {sa : ByteArray} {kb nb : Int} {sb : ByteArray}
    (h : W.cell? ⟨b, 2, none⟩ = some (.int .i64 K) ∧ W.cell? ⟨b, 3, none⟩ = some (.string ky) ∧ W.cell? ⟨b, 4, none⟩ = some (.int .i64 ka) ∧ W.cell? ⟨b, 5, none⟩ = some (.int .i64 na) ∧ W.cell? ⟨b, 6, none⟩ = some (.string sa) ∧ W.cell? ⟨b, 7, none⟩ = some (.int .i64 kb) ∧ W.cell? ⟨b, 8, none⟩ = some (.int .i64 nb) ∧ W.cell? ⟨b, 9, none⟩ = some (.string sb))
    {H : Nat} (hb : Below H W w') (hB : b < H) : w'.cell? ⟨b, 2, none⟩ = some (.int .i64 K) ∧ w'.cell? ⟨b, 3, none⟩ = some (.string ky) ∧ w'.cell? ⟨b, 4, none⟩ = some (.int .i64 ka) ∧ w'.cell? ⟨b, 5, none⟩ = some (.int .i64 na) ∧ w'.cell? ⟨b, 6, none⟩ = some (.string sa) ∧ w'.cell? ⟨b, 7, none⟩ = some (.int .i64 kb) ∧ w'.cell? ⟨b, 8, none⟩ = some (.int .i64 nb) ∧ w'.cell? ⟨b, 9, none⟩ = some (.string sb) := by
  have hc : ∀ i, w'.cell? ⟨b, i, none⟩ = W.cell? ⟨b, i, none⟩ := fun i => hb.cell (p := ⟨b, i, none⟩) hB
  simp only [hc]
  exact h
theorem six_keep {W w1 w2 : World} {b H : Nat} {v4 v5 v6 v7 v8 v9 : Value} (h : w1.cell? ⟨b, 4, none⟩ = some v4 ∧ w1.cell? ⟨b, 5, none⟩ = some v5 ∧ w1.cell? ⟨b, 6, none⟩ = some v6 ∧ w1.cell? ⟨b, 7, none⟩ = some v7 ∧ w1.cell? ⟨b, 8, none⟩ = some v8 ∧ w1.cell? ⟨b, 9, none⟩ = some v9)
    (h1 : Below H W w1) (h2 : Below H W w2) (hB : b < H) : w2.cell? ⟨b, 4, none⟩ = some v4 ∧ w2.cell? ⟨b, 5, none⟩ = some v5 ∧ w2.cell? ⟨b, 6, none⟩ = some v6 ∧ w2.cell? ⟨b, 7, none⟩ = some v7 ∧ w2.cell? ⟨b, 8, none⟩ = some v8 ∧ w2.cell? ⟨b, 9, none⟩ = some v9 := by
  have hc : ∀ i, w2.cell? ⟨b, i, none⟩ = w1.cell? ⟨b, i, none⟩ := fun i => (h2.cell (p := ⟨b, i, none⟩) hB).trans (h1.cell (p := ⟨b, i, none⟩) hB).symm
  simp only [hc]
  exact h
theorem refPText_b (s : ByteArray) (w : World) (hs : s.size ≤ 1000) : Calls Try.prog 114 #[.string s] w fun e w' => (∃ (A : Option Addr) (m c : Nat), e = .returned (.slice A m c) ∧ OwnB w.heap.size w' A m c (textB s.data.toList) ∧ m ≤ 1000009) ∧ Below w.heap.size w w' :=
  (refPText_any s w (by omega)).mono fun _ _ ⟨⟨A, m, c, he, hO⟩, hb⟩ => ⟨⟨A, m, c, he, hO, by have := textB_small (s := s) (by omega); have := hO.len; omega⟩, hb⟩
theorem valB_small {k n : Int} {s : ByteArray} (hk : k = 0 ∨ k = 1 ∨ k = 2) (h0 : -9223372036854775808 ≤ n) (h1 : n ≤ 9223372036854775807) (hs : s.size ≤ 1000000) : (valB k n s.data.toList).length ≤ 1000018 := by
  rcases hk with rfl | rfl | rfl
  · rw [valB_0]
    have := numB_small (n := 0) (by omega)
    omega
  · rw [valB_1, List.length_append]
    have := numB_small (n := 1) (by omega)
    have := numB_small (zig_lt h0 h1)
    omega
  · rw [valB_2, List.length_append]
    have := numB_small (n := 2) (by omega)
    have := textB_small hs
    omega
theorem refPValue_b (k n : Int) (s : ByteArray) (w : World) (hk : k = 0 ∨ k = 1 ∨ k = 2) (h0 : -9223372036854775808 ≤ n) (h1 : n ≤ 9223372036854775807) (hs : s.size ≤ 1000) :
    Calls Try.prog 115 #[.agg #[.int .i64 k, .int .i64 n, .string s]] w fun e w' => (∃ (A : Option Addr) (m c : Nat), e = .returned (.slice A m c) ∧ OwnB w.heap.size w' A m c (valB k n s.data.toList) ∧ m ≤ 1000018) ∧ Below w.heap.size w w' :=
  (refPValue_any k n s w hk h0 h1 (by omega)).mono fun _ _ ⟨⟨A, m, c, he, hO⟩, hb⟩ => ⟨⟨A, m, c, he, hO, by have := valB_small (s := s) hk h0 h1 (by omega); have := hO.len; omega⟩, hb⟩
theorem refNumber_b (n : Nat) (w : World) (hn : n ≤ 1000) : Calls Try.prog 129 #[.int .u64 n] w fun e w' => (∃ (A : Option Addr) (m c : Nat), e = .returned (.slice A m c) ∧ OwnB w.heap.size w' A m c (numB n) ∧ m ≤ 9) ∧ Below w.heap.size w w' :=
  (refNumber_any n w (by omega)).mono fun _ _ ⟨⟨A, m, c, he, hO⟩, hb⟩ => ⟨⟨A, m, c, he, hO, by have := numB_small (n := n) (by omega); have := hO.len; omega⟩, hb⟩

end Go.Proofs.Ytkfhkfddhijkcaa

namespace Go.Proofs.Ytkfhkfddhijkcaa
open Go.RowKit

/-- A write's ten cells, as a value. -/
abbrev wrI (dev seq K : Int) (ky : ByteArray) (ka na : Int) (sa : ByteArray) (kb nb : Int) (sb : ByteArray) : Array Value :=
  #[.int .i64 dev, .int .i64 seq, .int .i64 K, .string ky, .int .i64 ka, .int .i64 na, .string sa, .int .i64 kb, .int .i64 nb, .string sb]
/-- Is it good? -/
def idB (dev seq : Int) : Bool := decide (1 ≤ dev ∧ dev ≤ 11 ∧ 1 ≤ seq ∧ seq ≤ 40)
def wrGoodB (dev seq K : Int) (ky : ByteArray) (ka na : Int) (sa : ByteArray) (kb nb : Int) (sb : ByteArray) : Bool := idB dev seq && opB K ky ka na sa kb nb sb

set_option maxHeartbeats 1000000 in
theorem refGoodId_any (dev seq : Int) (w : World) :
    Calls Try.prog 69 #[.agg #[.int .i64 dev, .int .i64 seq]] w fun e w' => e = .returned (.bool (idB dev seq)) ∧ Below w.heap.size w w' := by
  go_enter Try.func69, Try.ntmps69
  go_wp2
  all_goals go_ret
  all_goals refine ⟨ret_bool ?_, b0 _ _⟩
  all_goals unfold idB
  all_goals rw [Bool.eq_iff_iff]
  all_goals simp only [decide_eq_true_eq, Bool.false_eq_true, false_iff] at *
  all_goals omega

theorem blk_c10 {W : World} {b : Nat} {v0 v1 v2 v3 v4 v5 v6 v7 v8 v9 : Value} {t : TypeId} (h : Blk W b #[v0, v1, v2, v3, v4, v5, v6, v7, v8, v9] t) :
    W.cell? ⟨b, 0, none⟩ = some v0 ∧ W.cell? ⟨b, 1, none⟩ = some v1 ∧ W.cell? ⟨b, 2, none⟩ = some v2 ∧ W.cell? ⟨b, 3, none⟩ = some v3 ∧ W.cell? ⟨b, 4, none⟩ = some v4 ∧ W.cell? ⟨b, 5, none⟩ = some v5 ∧ W.cell? ⟨b, 6, none⟩ = some v6 ∧ W.cell? ⟨b, 7, none⟩ = some v7 ∧ W.cell? ⟨b, 8, none⟩ = some v8 ∧ W.cell? ⟨b, 9, none⟩ = some v9 ∧ b < W.heap.size :=
  ⟨h.cell 0, h.cell 1, h.cell 2, h.cell 3, h.cell 4, h.cell 5, h.cell 6, h.cell 7, h.cell 8, h.cell 9, h.lt⟩

set_option maxHeartbeats 2000000 in
theorem refWrGood_any (dev seq K ka na kb nb : Int) (ky sa sb : ByteArray) (w : World) (hk : ky.size ≤ maxLen) (ha : sa.size ≤ maxLen) (hb : sb.size ≤ maxLen) :
    Calls Try.prog 16 #[.agg (wrI dev seq K ky ka na sa kb nb sb)] w fun e w' => e = .returned (.bool (wrGoodB dev seq K ky ka na sa kb nb sb)) ∧ Below w.heap.size w w' := by
  go_enter Try.func16, Try.ntmps16
  go_wp2_with fail
  have hC := Lib.hid (blk_new w (wrI dev seq K ky ka na sa kb nb sb) 39)
  have hB := b0 w (.cells (wrI dev seq K ky ka na sa kb nb sb) 39)
  generalize w.alloc (.cells (wrI dev seq K ky ka na sa kb nb sb) 39) = W at hC hB ⊢
  refine (refGoodId_any _ _ _).mono ?_
  rintro e w1 ⟨rfl, hb1⟩
  replace hB := bt hB hb1
  replace hC := Lib.hid (hC.out.keep hb1)
  clear hb1
  obtain ⟨c0, c1, c2, c3, c4, c5, c6, c7, c8, c9, c10⟩ := blk_c10 hC.out
  cases gi : idB dev seq
  · have R : Hid (wrGoodB dev seq K ky ka na sa kb nb sb = false) := by show _ = _; unfold wrGoodB; rw [gi]; rfl
    clear gi
    go_wp2_with fail
    go_ret
    exact ⟨ret_bool R.out.symm, hB⟩
  · have R : Hid (wrGoodB dev seq K ky ka na sa kb nb sb = opB K ky ka na sa kb nb sb) := by show _ = _; unfold wrGoodB; rw [gi]; rfl
    clear gi
    go_wp2_with fail
    refine (refOpGood_any _ _ _ _ _ _ _ _ _ hk ha hb).mono ?_
    rintro e w2 ⟨rfl, hb2⟩
    replace hB := bt hB hb2
    go_wp2_with fail
    go_ret
    exact ⟨ret_bool R.out.symm, hB⟩
end Go.Proofs.Ytkfhkfddhijkcaa

namespace Go.Proofs.Ytkfhkfddhijkcaa
open Go.RowKit
attribute [local go_sem ↓] Go.wp_at_zero Go.wp_at_succ

/-- A write. -/
structure Wr where
  dev : Int
  seq : Int
  K : Int
  ky : ByteArray
  ka : Int
  na : Int
  sa : ByteArray
  kb : Int
  nb : Int
  sb : ByteArray
abbrev Wr.cells (x : Wr) : Array Value := wrI x.dev x.seq x.K x.ky x.ka x.na x.sa x.kb x.nb x.sb
def Wr.good (x : Wr) : Bool := wrGoodB x.dev x.seq x.K x.ky x.ka x.na x.sa x.kb x.nb x.sb
/-- Its texts are no longer than the form's reach, its numbers are of 64 bits. -/
def Wr.fits (x : Wr) : Prop := x.ky.size ≤ maxLen ∧ x.sa.size ≤ maxLen ∧ x.sb.size ≤ maxLen ∧ (-9223372036854775808 ≤ x.na ∧ x.na ≤ 9223372036854775807) ∧ (-9223372036854775808 ≤ x.nb ∧ x.nb ≤ 9223372036854775807)
/-- The slice at A reads as the writes l, in blocks below B. -/
def RdW (B : Nat) (W : World) (A : Option Addr) (l : List Wr) : Prop :=
  ∀ k x, l[k]? = some x → ∃ ad, A = some ad ∧ ad.block < B ∧ ∀ j v, x.cells[j]? = some v → W.cell? (ad.add (k * 10 + j)) = some v
theorem RdW.nil (B : Nat) (W : World) (A : Option Addr) : RdW B W A [] := fun k x h => by simp at h
theorem RdW.keep {B C : Nat} {W W' : World} {A : Option Addr} {l : List Wr} (h : RdW B W A l) (hb : Below C W W') (hBC : B ≤ C) : RdW B W' A l := by
  intro k x hx
  obtain ⟨ad, hA, hl, hc⟩ := h k x hx
  exact ⟨ad, hA, hl, fun j v hv => (hb.cell (by rw [add_block]; omega)).trans (hc j v hv)⟩
theorem RdW.more {B C : Nat} {W : World} {A : Option Addr} {l : List Wr} (h : RdW B W A l) (hBC : B ≤ C) : RdW C W A l := by
  intro k x hx
  obtain ⟨ad, hA, hl, hc⟩ := h k x hx
  exact ⟨ad, hA, by omega, hc⟩
theorem RdW.drew_ {B : Nat} {W : World} {A : Option Addr} {l : List Wr} (h : RdW B W A l) : RdW B W.drew A l := h
theorem RdW.at_ {B : Nat} {W : World} {A : Option Addr} {l : List Wr} (h : RdW B W A l) {k : Nat} (hk : k < l.length) : ∃ ad, A = some ad ∧ ad.block < B ∧ ∀ j v, (l[k]).cells[j]? = some v → W.cell? (ad.add (k * 10 + j)) = some v :=
  h k _ (List.getElem?_eq_getElem hk)

theorem add_at (a : Addr) (i j : Nat) : a.add (i + (j + 1)) = ⟨(a.add i).block, (a.add i).off + (j + 1), none⟩ := by
  rw [← add_add', Addr.add, if_neg (by omega)]
/-- A write's ten cells, as a load asks for them. -/
theorem wr_cells {W : World} {ad : Addr} {k : Nat} {x : Wr} (hc : ∀ j v, x.cells[j]? = some v → W.cell? (ad.add (k * 10 + j)) = some v) :
    W.cell? (ad.add (k * 10)) = some (.int .i64 x.dev) ∧ W.cell? ⟨(ad.add (k * 10)).block, (ad.add (k * 10)).off + 1, none⟩ = some (.int .i64 x.seq) ∧ W.cell? ⟨(ad.add (k * 10)).block, (ad.add (k * 10)).off + 2, none⟩ = some (.int .i64 x.K) ∧ W.cell? ⟨(ad.add (k * 10)).block, (ad.add (k * 10)).off + 3, none⟩ = some (.string x.ky) ∧
    W.cell? ⟨(ad.add (k * 10)).block, (ad.add (k * 10)).off + 4, none⟩ = some (.int .i64 x.ka) ∧ W.cell? ⟨(ad.add (k * 10)).block, (ad.add (k * 10)).off + 5, none⟩ = some (.int .i64 x.na) ∧ W.cell? ⟨(ad.add (k * 10)).block, (ad.add (k * 10)).off + 6, none⟩ = some (.string x.sa) ∧
    W.cell? ⟨(ad.add (k * 10)).block, (ad.add (k * 10)).off + 7, none⟩ = some (.int .i64 x.kb) ∧ W.cell? ⟨(ad.add (k * 10)).block, (ad.add (k * 10)).off + 8, none⟩ = some (.int .i64 x.nb) ∧ W.cell? ⟨(ad.add (k * 10)).block, (ad.add (k * 10)).off + 9, none⟩ = some (.string x.sb) := by
  have h : ∀ j v, x.cells[j + 1]? = some v → W.cell? ⟨(ad.add (k * 10)).block, (ad.add (k * 10)).off + (j + 1), none⟩ = some v := fun j v hv => by
    rw [← add_at]
    exact hc (j + 1) v hv
  exact ⟨hc 0 _ rfl, h 0 _ rfl, h 1 _ rfl, h 2 _ rfl, h 3 _ rfl, h 4 _ rfl, h 5 _ rfl, h 6 _ rfl, h 7 _ rfl, h 8 _ rfl⟩

def goodAll (l : List Wr) : Bool := l.all Wr.good

end Go.Proofs.Ytkfhkfddhijkcaa

namespace Go.Proofs.Ytkfhkfddhijkcaa
open Go.RowKit

abbrev tWr : TypeId := 39
abbrev tId : TypeId := 32
theorem wix (W : World) (ad : Addr) (n c k : Nat) (h : k < n) : (Instr.indexAt 30 (.slice (some ad) n c) (.int .i64 (k : Int))).run Try.prog W = .ok (.pointer (some (ad.add (k * 10)))) W := by
  have i1 : (0 : Int) ≤ (k : Int) := by omega
  have i2 : (k : Int) < (n : Int) := by omega
  go_simp
theorem wld {W : World} {ad : Addr} {k : Nat} {x : Wr} (hc : ∀ j v, x.cells[j]? = some v → W.cell? (ad.add (k * 10 + j)) = some v) : (Instr.loadAt tWr (.pointer (some (ad.add (k * 10))))).run Try.prog W = .ok (.agg x.cells) W := by
  obtain ⟨c0, c1, c2, c3, c4, c5, c6, c7, c8, c9⟩ := wr_cells hc
  clear hc
  go_simp
theorem wld_blk {W : World} {g : Nat} {x : Wr} {t : TypeId} (h : Blk W g x.cells t) : (Instr.loadAt tWr (.pointer (some ⟨g, 0, none⟩))).run Try.prog W = .ok (.agg x.cells) W := by
  have c0 := h.cell 0
  have c1 := h.cell 1
  have c2 := h.cell 2
  have c3 := h.cell 3
  have c4 := h.cell 4
  have c5 := h.cell 5
  have c6 := h.cell 6
  have c7 := h.cell 7
  have c8 := h.cell 8
  have c9 := h.cell 9
  clear h
  go_simp
theorem wfd0 (W : World) (a : Addr) : (Instr.fieldAt tWr (.pointer (some a)) 0).run Try.prog W = .ok (.pointer (some a)) W := by go_simp
theorem wfd1 (W : World) (a : Addr) : (Instr.fieldAt tWr (.pointer (some a)) 1).run Try.prog W = .ok (.pointer (some ⟨a.block, a.off + 2, none⟩)) W := by go_simp
theorem ifd0 (W : World) (a : Addr) : (Instr.fieldAt tId (.pointer (some a)) 0).run Try.prog W = .ok (.pointer (some a)) W := by go_simp
theorem ifd1 (W : World) (a : Addr) : (Instr.fieldAt tId (.pointer (some a)) 1).run Try.prog W = .ok (.pointer (some ⟨a.block, a.off + 1, none⟩)) W := by go_simp
theorem ild {W : World} {a : Addr} {dev seq : Value} (h0 : W.cell? a = some dev) (h1 : W.cell? ⟨a.block, a.off + 1, none⟩ = some seq) : (Instr.loadAt tId (.pointer (some a))).run Try.prog W = .ok (.agg #[dev, seq]) W := by go_simp
theorem alW (w : World) : (Instr.alloc tWr true (.tuple #[])).run Try.prog w = .ok (.pointer (some ⟨w.heap.size, 0, none⟩)) (w.alloc (.cells (⟨0, 0, 0, ⟨#[]⟩, 0, 0, ⟨#[]⟩, 0, 0, ⟨#[]⟩⟩ : Wr).cells tWr)) := by kernel_rfl
theorem alI (w : World) : (Instr.alloc tId true (.tuple #[])).run Try.prog w = .ok (.pointer (some ⟨w.heap.size, 0, none⟩)) (w.alloc (.cells #[.int .i64 0, .int .i64 0] tId)) := by kernel_rfl
theorem id_oneC (a b : Int) : (#[.int .i64 a, .int .i64 b] : Array Value).all (·.oneCell') = true := by
  rw [show (#[.int .i64 a, .int .i64 b] : Array Value) = [.int .i64 a, .int .i64 b].toArray from rfl, List.all_toArray]
  simp [Value.oneCell']
theorem wr_oneC (x : Wr) : x.cells.all (·.oneCell') = true := by
  obtain ⟨dev, seq, K, ky, ka, na, sa, kb, nb, sb⟩ := x
  show (wrI dev seq K ky ka na sa kb nb sb).all _ = true
  rw [show wrI dev seq K ky ka na sa kb nb sb = [.int .i64 dev, .int .i64 seq, .int .i64 K, .string ky, .int .i64 ka, .int .i64 na, .string sa, .int .i64 kb, .int .i64 nb, .string sb].toArray from rfl, List.all_toArray]
  simp [Value.oneCell']
end Go.Proofs.Ytkfhkfddhijkcaa

namespace Go.Proofs.Ytkfhkfddhijkcaa
open Go.RowKit

/-- Lasts with a write's. -/
def ofS (l : List Int) (x : Wr) : List Int := bif nodeB x.dev then l.set x.dev.toNat (max (gI l x.dev.toNat) x.seq) else l
def ofL (l : List Int) (ws : List Wr) : List Int := ws.foldl ofS l
theorem ofS_len {l : List Int} (h : l.length = 12) (x : Wr) : (ofS l x).length = 12 := by
  unfold ofS
  cases nodeB x.dev with
  | false => exact h
  | true => show (l.set _ _).length = 12; rw [List.length_set]; exact h
theorem ofL_len {l : List Int} (h : l.length = 12) (ws : List Wr) : (ofL l ws).length = 12 := by
  unfold ofL
  induction ws generalizing l with
  | nil => exact h
  | cons x r ih => exact ih (ofS_len h x)
theorem ofL_next (l : List Int) {ws : List Wr} {k : Nat} {x : Wr} (hx : ws[k]? = some x) : ofL l (ws.take (k + 1)) = ofS (ofL l (ws.take k)) x := by
  unfold ofL
  rw [List.take_add_one, hx, List.foldl_append]
  rfl
theorem ofS_no {l : List Int} {x : Wr} (h : nodeB x.dev = false) : ofS l x = l := by unfold ofS; rw [h]; rfl
theorem ofS_yes {l : List Int} {x : Wr} {d : Nat} (h : d < 12) (e : x.dev = (d : Int)) : ofS l x = l.set d (max (gI l d) x.seq) := by
  unfold ofS nodeB
  rw [e, decide_eq_true (by omega), decide_eq_true (by omega), Int.toNat_natCast]
  rfl
theorem nodeB_nat {n : Int} (h : nodeB n = true) : ∃ d : Nat, d < 12 ∧ n = (d : Int) := by
  unfold nodeB at h
  have h2 : 0 ≤ n ∧ n < 12 := by simpa using h
  exact ⟨n.toNat, by omega, by omega⟩
theorem li_st {T : TypeId} {W : World} {b j : Nat} {l : List Int} (hX : Blk W b (liA l) T) (hj : j < l.length) (v : Int) : (Instr.storeAt 3 (.pointer (some ⟨b, j, none⟩)) (.int .i64 v)).run Try.prog W = .ok () (W.setCell ⟨b, j, none⟩ (.int .i64 v)) := by
  have q := li_cell hX hj
  have hf := hX.free j
  clear hX
  go_simp
theorem x_maxI {w : World} {ρ : Operand → Value} {d : Option Tmp} {ty : TypeId} {p : String} {af : Array Edge} {gd : Option (Nat × Bool)} {i j : Nat} {x y : Int} (h : ρ (.tmp i) = .int .i64 x) (h2 : ρ (.tmp j) = .int .i64 y) : (execOp ρ ⟨d, .call { callee := .builtin .max, args := #[.tmp i, .tmp j], argTypes := #[3, 3] }, ty, p, af, gd⟩).run Try.prog w = .ok (.value (.int .i64 (max x y))) w := by
  have mx := run_max w x y #[3, 3] ty rfl
  unfold execOp
  dsimp only
  go_simp
set_option maxRecDepth 100000 in
set_option maxHeartbeats 4000000 in
theorem of_any {C : Nat} (l : List Int) (A : Option Addr) (n c : Nat) (ws : List Wr) (w : World) (hl : l.length = 12) (hn0 : ws.length = n) (hr : RdW C w A ws) (hC : C ≤ w.heap.size) (hm : n ≤ 1000000) : Calls Try.prog 107 #[.agg (liA l), .slice A n c] w fun e w' => e = .returned (.agg (liA (ofL l ws))) ∧ Below w.heap.size w w' := by
  have HN := Lib.hid hn0
  have HR := Lib.hid (fun W hb => hr.keep (W' := W) hb hC)
  clear hn0 hr
  have hX0 := blk_new w (liA l) 29
  replace hX0 := hX0.alloc (.cells (laI 0 0 0 0 0 0 0 0 0 0 0 0) 29)
  have hz1 : (w.alloc (.cells (liA l) 29)).heap.size = w.heap.size + 1 := by simp
  have hX1 := blk_new (w.alloc (.cells (liA l) 29)) (laI 0 0 0 0 0 0 0 0 0 0 0 0) 29
  rw [hz1] at hX1
  have hB := ba (b0 w (.cells (liA l) 29)) (.cells (laI 0 0 0 0 0 0 0 0 0 0 0 0) 29)
  have hzz : ((w.alloc (.cells (liA l) 29)).alloc (.cells (laI 0 0 0 0 0 0 0 0 0 0 0 0) 29)).heap.size = w.heap.size + 2 := by simp
  go_enter Try.func107, Try.ntmps107
  go_upto_region 1 with fail
  generalize ((w.alloc (.cells (liA l) 29)).alloc (.cells (laI 0 0 0 0 0 0 0 0 0 0 0 0) 29)) = W0 at hX0 hX1 hB hzz ⊢
  (try simp only [hz1])
  clear hz1
  generalize hb : w.heap.size = b at hX0 hX1 hB hzz ⊢
  go_wp2_with fail
  go_loopw [6, 9] (fun _ i wr => ∃ k : Nat, k ≤ n ∧ i = .int .i64 k ∧ Blk wr b (liA (ofL l (ws.take k))) 29 ∧ Blk wr (b + 1) (laI 0 0 0 0 0 0 0 0 0 0 0 0) 29 ∧ Below b w wr) (fun _ i _ => n - (intOf i).toNat)
  case atStart => exact ⟨0, Nat.zero_le _, rfl, by rw [List.take_zero]; exact hX0, hX1, hB⟩
  case round =>
    clear hX0 hX1 hB
    obtain ⟨k, hk, rfl, hX0, hX1, hB⟩ := hrel
    by_cases hlt : k < n
    · obtain ⟨x, hx⟩ : ∃ x, ws[k]? = some x := ⟨_, List.getElem?_eq_getElem (show k < ws.length by have := HN.out; omega)⟩
      obtain ⟨ad, rfl, hadb, hc⟩ := HR.out wr (by rw [hb]; exact hB) k x hx
      have HX := Lib.hid (ofL_next l hx)
      have hL12 := ofL_len hl (ws.take k)
      clear hx
      have i2 : (k : Int) < (n : Int) := by omega
      have ix := wix wr ad n c k hlt
      have ld := wld hc
      go_upto_region 3 with fail
      refine wp_region_lit ?_
      refine fl_start ?_
      generalize ha : Act.mk _ _ = a0
      have hn : a0.tmps.size = 32 := by rw [← ha]; kernel_rfl
      have h7 : (fr a0 []).eval (.tmp 7) = .slice (some ad) n c := by rw [← ha]; kernel_rfl
      refine fl_know hn rfl h7 ?_
      clear h7
      have h9 : (fr a0 [(7, true, .slice (some ad) n c)]).eval (.tmp 9) = .int .i64 (k : Int) := by rw [← ha]; kernel_rfl
      refine fl_know hn rfl h9 ?_
      clear h9
      refine g_ix hn ?_
      refine g_ld hn ?_
      refine al_row hn (alW wr) ?_
      intro g w2 hg hY hB2
      refine g_str hY ?_ (h1 := wr_oneC x)
      intro w3 ho hY3
      refine fl_end ?_
      clear hn
      subst ha
      dsimp only [fr, cnd, Act.put, cond_true]
      simp only [List.setIfInBounds_toArray, List.set_cons_zero, List.set_cons_succ]
      have hbg : b + 1 < g := by have := hX1.lt; omega
      have hX03 := (hX0.keep hB2).only ho (by omega)
      have hX13 := (hX1.keep hB2).only ho (by omega)
      have hB3 : Below b w w3 := (hB.trans (hB2.mono (by omega))).trans (ho.below (by omega))
      clear ix ld hc hY hX0 hX1 hB hB2 ho
      have c0 : w3.cell? ⟨g, 0, none⟩ = some (.int .i64 x.dev) := hY3.cell 0
      have c1 : w3.cell? ⟨g, 1, none⟩ = some (.int .i64 x.seq) := hY3.cell 1
      have f0 := wfd0 w3 ⟨g, 0, none⟩
      have f1 := ifd0 w3 ⟨g, 0, none⟩
      have l0 := load_int (w := w3) c0
      have cI := isNode_any x.dev w3
      go_upto_region 4 with fail
      refine wp_region_lit ?_
      refine fl_start ?_
      generalize ha : Act.mk _ _ = a0
      have hn : a0.tmps.size = 32 := by rw [← ha]; kernel_rfl
      have h6 : (fr a0 []).eval (.tmp 6) = .pointer (some ⟨g, 0, none⟩) := by rw [← ha]; kernel_rfl
      refine fl_know hn rfl h6 ?_
      clear h6
      refine g_fd hn ?_
      refine g_fd hn ?_
      refine g_ld hn ?_
      refine g_c1x en_spinney_roster_isNode hn (R := fun v w2 => v = .bool (nodeB x.dev) ∧ w2 = w3) (cI.mono fun _ _ ⟨he, hw⟩ => ⟨_, he, rfl, hw⟩) ?_
      rintro v w4 ⟨rfl, rfl⟩
      refine fl_end ?_
      clear hn
      subst ha
      dsimp only [fr, cnd, Act.put, cond_true]
      simp only [List.setIfInBounds_toArray, List.set_cons_zero, List.set_cons_succ]
      clear cI l0 f0 f1
      generalize hL : ofL l (ws.take k) = L at hX03 HX hL12
      cases hd : nodeB x.dev with
      | false =>
        have HX2 : Hid (ofL l (ws.take (k + 1)) = L) := by show _ = L; rw [HX.out, ofS_no hd]
        clear HX hd c0 c1
        go_wp2_with fail
        go_roundw
        case rel => exact ⟨k + 1, by omega, by go_num, by rw [HX2.out]; exact hX03, hX13, hB3⟩
        case measure => simp [intOf]; omega
      | true =>
        obtain ⟨dn, hdn, ed⟩ := nodeB_nat hd
        have HX2 : Hid (ofL l (ws.take (k + 1)) = L.set dn (max (gI L dn) x.seq)) := by show _ = _; rw [HX.out, ofS_yes hdn ed]
        rw [ed] at c0
        clear HX hd
        have f0 : ∀ W, Blk W g x.cells 39 → (Instr.fieldAt 39 (.pointer (some ⟨g, 0, none⟩)) 0).run Try.prog W = .ok (.pointer (some ⟨g, 0, none⟩)) W := fun W _ => wfd0 W ⟨g, 0, none⟩
        have f1 : ∀ W, Blk W g x.cells 39 → (Instr.fieldAt 32 (.pointer (some ⟨g, 0, none⟩)) 0).run Try.prog W = .ok (.pointer (some ⟨g, 0, none⟩)) W := fun W _ => ifd0 W ⟨g, 0, none⟩
        have f2 : ∀ W, Blk W g x.cells 39 → (Instr.fieldAt 32 (.pointer (some ⟨g, 0, none⟩)) 1).run Try.prog W = .ok (.pointer (some ⟨g, 1, none⟩)) W := fun W _ => by have := ifd1 W ⟨g, 0, none⟩; rwa [Nat.zero_add] at this
        have l0 : ∀ W, Blk W g x.cells 39 → (Instr.loadAt 3 (.pointer (some ⟨g, 0, none⟩))).run Try.prog W = .ok (.int .i64 (dn : Int)) W := fun W e => load_int ((e.cell 0).trans (by rw [← ed]; rfl))
        have l1 : ∀ W, Blk W g x.cells 39 → (Instr.loadAt 3 (.pointer (some ⟨g, 1, none⟩))).run Try.prog W = .ok (.int .i64 x.seq) W := fun W e => load_int (e.cell 1)
        have x1 : ∀ W, Blk W g x.cells 39 → (Instr.indexAt 29 (.pointer (some ⟨b, 0, none⟩)) (.int .i64 (dn : Int))).run Try.prog W = .ok (.pointer (some ⟨b, dn, none⟩)) W := fun W _ => ix_liL W b dn hdn
        have hXd : Blk w4.drew b (liA L) 29 := hX03
        go_upto_region 5 with fail
        refine fh_start (S := fun W => Blk W g x.cells 39) (by kernel_rfl) (hY3) (fun hS => ?_)
        generalize ha : Act.mk _ _ = a0
        have hn : a0.tmps.size = 32 := by rw [← ha]; kernel_rfl
        have h2 : (fr a0 []).eval (.tmp 2) = .pointer (some ⟨b, 0, none⟩) := by rw [← ha]; kernel_rfl
        refine fh_know hn rfl h2 ?_
        clear h2
        have h6 : (fr a0 [(2, true, .pointer (some ⟨b, 0, none⟩))]).eval (.tmp 6) = .pointer (some ⟨g, 0, none⟩) := by rw [← ha]; kernel_rfl
        refine fh_know hn rfl h6 ?_
        clear h6
        refine h_fd 0 hn hS ?_
        refine h_fd 1 hn hS ?_
        refine h_ld 2 hn hS ?_
        refine h_fd 3 hn hS ?_
        refine h_fd 4 hn hS ?_
        refine h_ld 5 hn hS ?_
        refine h_ix 6 hn hS ?_
        refine h_fd 8 hn hS ?_
        refine h_fd 9 hn hS ?_
        refine h_ld 10 hn hS ?_
        refine h_one 7 hn hS (fun hk => x_ld (lk_at hk (i := 23) rfl (fun _ => rfl) rfl) (load_int (li_cell hXd (by omega)))) ?_
        refine h_op 11 hn hS (fun W _ hk => x_maxI (lk_at hk (i := 24) rfl (fun _ => rfl) rfl) (lk_at hk (i := 27) rfl (fun _ => rfl) rfl)) ?_
        refine h_ix 12 hn hS ?_
        have hX5 := hXd.set dn (.int .i64 (max (gI L dn) x.seq))
        rw [li_set, ← HX2.out] at hX5
        have hX6 := Blk.other (W := w4.drew) (c := b) hX13 (by omega) dn (.int .i64 (max (gI L dn) x.seq))
        have hB6 : Below b w (w4.drew.setCell ⟨b, dn, none⟩ (.int .i64 (max (gI L dn) x.seq))) := hB3.drew.setCell (p := ⟨b, dn, none⟩) (Nat.le_refl b) _
        refine h_st 13 (li_st hXd (by omega) (max (gI L dn) x.seq)) (Blk.other (W := w4.drew) (c := b) hY3 (by omega) dn _) ?_
        generalize w4.drew.setCell ⟨b, dn, none⟩ (.int .i64 (max (gI L dn) x.seq)) = w6 at hX5 hX6 hB6 ⊢
        refine fh_end (by kernel_rfl) ?_
        clear hn
        subst ha
        dsimp only [fr, cnd, Act.put, cond_true]
        simp only [List.setIfInBounds_toArray, List.set_cons_zero, List.set_cons_succ]
        clear f0 f1 f2 l0 l1 x1 hXd hY3 hX03 hX13 hB3 c0 c1 hS
        go_wp2_with fail
        go_roundw
        case rel => exact ⟨k + 1, by omega, by go_num, hX5, hX6, hB6⟩
        case measure => simp [intOf]; omega
    · have e : k = n := by omega
      subst e
      rw [List.take_of_length_le (by have := HN.out; omega)] at hX0
      have h12 := ofL_len hl ws
      have l2 := ld_liL hX0 h12
      go_upto_region 7 with fail
      refine wp_region_lit ?_
      refine fl_start ?_
      generalize ha : Act.mk _ _ = a0
      have hn : a0.tmps.size = 32 := by rw [← ha]; kernel_rfl
      have h2 : (fr a0 []).eval (.tmp 2) = .pointer (some ⟨b, 0, none⟩) := by rw [← ha]; kernel_rfl
      refine fl_know hn rfl h2 ?_
      clear h2
      have h4 : (fr a0 [(2, true, .pointer (some ⟨b, 0, none⟩))]).eval (.tmp 4) = .pointer (some ⟨b + 1, 0, none⟩) := by rw [← ha]; kernel_rfl
      refine fl_know hn rfl h4 ?_
      clear h4
      refine g_ld hn ?_
      refine g_str hX1 ?_ (hs := by rw [li_size, h12]; rfl) (hi := by rw [li_size, h12]; kernel_rfl) (h1 := li_one _)
      intro w4 ho hX4
      refine fl_end ?_
      clear hn
      subst ha
      dsimp only [fr, cnd, Act.put, cond_true]
      simp only [List.setIfInBounds_toArray, List.set_cons_zero, List.set_cons_succ]
      have hB4 := hB.trans (ho.below (B := b) (by omega))
      clear l2 hX0 hX1 ho hB
      obtain ⟨r0, r1, r2, r3, r4, r5, r6, r7, r8, r9, r10, r11, hr⟩ := li_cases h12
      rw [hr] at hX4
      have HR2 := Lib.hid hr
      clear hr
      go_wp2_with fail
      refine bodyPost_ret (results_cell_row Try.results107 _ _ (b + 1) 29 (laI r0 r1 r2 r3 r4 r5 r6 r7 r8 r9 r10 r11) (0, 0) _ (by rfl) hX4 Try.underlying29 (by rfl) (by kernel_rfl)) rfl ?_
      exact ⟨ret_li (l := laL r0 r1 r2 r3 r4 r5 r6 r7 r8 r9 r10 r11) HR2.out.symm, by first | exact hB4 | (rw [hb]; exact hB4)⟩
/-! The document's. -/
theorem ofS_same {l : List Int} {x : Wr} {d : Nat} (h : d < 12) (hl : l.length = 12) (e : x.dev = (d : Int)) (hc : ¬ gI l d < x.seq) : ofS l x = l := by
  rw [ofS_yes h e]
  refine li_ext (by rw [List.length_set]; exact hl) hl fun j hj => ?_
  rw [gI_set (by omega)]
  split
  · rename_i e
    subst e
    omega
  · rfl
set_option maxRecDepth 100000 in
set_option maxHeartbeats 4000000 in
theorem refOf_any {C : Nat} (l : List Int) (A : Option Addr) (n c : Nat) (ws : List Wr) (w : World) (hl : l.length = 12) (hn0 : ws.length = n) (hr : RdW C w A ws) (hC : C ≤ w.heap.size) (hm : n ≤ 1000000) (hg : ∀ x, x ∈ ws → nodeB x.dev = true) : Calls Try.prog 17 #[.agg (liA l), .slice A n c] w fun e w' => e = .returned (.agg (liA (ofL l ws))) ∧ Below w.heap.size w w' := by
  have HN := Lib.hid hn0
  have HG := Lib.hid hg
  have HR := Lib.hid (fun W hb => hr.keep (W' := W) hb hC)
  clear hn0 hr hg
  have hX0 := blk_new w (liA l) 28
  replace hX0 := hX0.alloc (.cells (laI 0 0 0 0 0 0 0 0 0 0 0 0) 28)
  have hz1 : (w.alloc (.cells (liA l) 28)).heap.size = w.heap.size + 1 := by simp
  have hX1 := blk_new (w.alloc (.cells (liA l) 28)) (laI 0 0 0 0 0 0 0 0 0 0 0 0) 28
  rw [hz1] at hX1
  have hB := ba (b0 w (.cells (liA l) 28)) (.cells (laI 0 0 0 0 0 0 0 0 0 0 0 0) 28)
  have hzz : ((w.alloc (.cells (liA l) 28)).alloc (.cells (laI 0 0 0 0 0 0 0 0 0 0 0 0) 28)).heap.size = w.heap.size + 2 := by simp
  go_enter Try.func17, Try.ntmps17
  go_upto_region 1 with fail
  generalize ((w.alloc (.cells (liA l) 28)).alloc (.cells (laI 0 0 0 0 0 0 0 0 0 0 0 0) 28)) = W0 at hX0 hX1 hB hzz ⊢
  (try simp only [hz1])
  clear hz1
  generalize hb : w.heap.size = b at hX0 hX1 hB hzz ⊢
  go_wp2_with fail
  go_loopw [5, 6, 9] (fun _ _ i wr => ∃ k : Nat, k ≤ n ∧ i = .int .i64 k ∧ Blk wr b (liA (ofL l (ws.take k))) 28 ∧ Blk wr (b + 1) (laI 0 0 0 0 0 0 0 0 0 0 0 0) 28 ∧ Below b w wr) (fun _ _ i _ => n - (intOf i).toNat)
  case atStart => exact ⟨0, Nat.zero_le _, rfl, by rw [List.take_zero]; exact hX0, hX1, hB⟩
  case round =>
    clear hX0 hX1 hB
    obtain ⟨k, hk, rfl, hX0, hX1, hB⟩ := hrel
    by_cases hlt : k < n
    · obtain ⟨x, hx⟩ : ∃ x, ws[k]? = some x := ⟨_, List.getElem?_eq_getElem (show k < ws.length by have := HN.out; omega)⟩
      obtain ⟨ad, rfl, hadb, hc⟩ := HR.out wr (by rw [hb]; exact hB) k x hx
      have HX := Lib.hid (ofL_next l hx)
      have hL12 := ofL_len hl (ws.take k)
      obtain ⟨dn, hdn, ed⟩ := nodeB_nat (HG.out x (List.mem_of_getElem? hx))
      clear hx
      have i2 : (k : Int) < (n : Int) := by omega
      have ix := wix wr ad n c k hlt
      obtain ⟨c0, c1, _⟩ := wr_cells hc
      rw [ed] at c0
      have f0 := wfd0 wr (ad.add (k * 10))
      have l0 := ild c0 c1
      go_upto_region 4 with fail
      refine wp_region_lit ?_
      refine fl_start ?_
      generalize ha : Act.mk _ _ = a0
      have hn : a0.tmps.size = 31 := by rw [← ha]; kernel_rfl
      have h1 : (fr a0 []).eval (.tmp 1) = .slice (some ad) n c := by rw [← ha]; kernel_rfl
      refine fl_know hn rfl h1 ?_
      clear h1
      have h5 : (fr a0 [(1, true, .slice (some ad) n c)]).eval (.tmp 5) = .int .i64 (k : Int) := by rw [← ha]; kernel_rfl
      refine fl_know hn rfl h5 ?_
      clear h5
      refine g_mv hn ?_
      refine g_mv hn ?_
      refine g_ix hn ?_
      refine g_fd hn ?_
      refine g_ld hn ?_
      refine al_row hn (alI wr) ?_
      intro g w2 hg hY hB2
      refine g_str hY ?_ (h1 := id_oneC _ _)
      intro w3 ho hY3
      refine fl_end ?_
      clear hn
      subst ha
      dsimp only [fr, cnd, Act.put, cond_true]
      simp only [List.setIfInBounds_toArray, List.set_cons_zero, List.set_cons_succ]
      have hbg : b + 1 < g := by have := hX1.lt; omega
      have hX03 := (hX0.keep hB2).only ho (by omega)
      have hX13 := (hX1.keep hB2).only ho (by omega)
      have hB3 : Below b w w3 := (hB.trans (hB2.mono (by omega))).trans (ho.below (by omega))
      clear ix l0 f0 c0 c1 hc hY hX0 hX1 hB hB2 ho
      generalize hL : ofL l (ws.take k) = L at hX03 HX hL12
      have f0 : ∀ W, Kp w3 W → (Instr.fieldAt 32 (.pointer (some ⟨g, 0, none⟩)) 0).run Try.prog W = .ok (.pointer (some ⟨g, 0, none⟩)) W := fun W _ => ifd0 W ⟨g, 0, none⟩
      have f1 : ∀ W, Kp w3 W → (Instr.fieldAt 32 (.pointer (some ⟨g, 0, none⟩)) 1).run Try.prog W = .ok (.pointer (some ⟨g, 1, none⟩)) W := fun W _ => by have := ifd1 W ⟨g, 0, none⟩; rwa [Nat.zero_add] at this
      have l0 : ∀ W, Kp w3 W → (Instr.loadAt 3 (.pointer (some ⟨g, 0, none⟩))).run Try.prog W = .ok (.int .i64 (dn : Int)) W := fun W e => load_int ((e.blk hY3).cell 0)
      have l1 : ∀ W, Kp w3 W → (Instr.loadAt 3 (.pointer (some ⟨g, 1, none⟩))).run Try.prog W = .ok (.int .i64 x.seq) W := fun W e => load_int ((e.blk hY3).cell 1)
      have x1 : ∀ W, Kp w3 W → (Instr.indexAt 28 (.pointer (some ⟨b, 0, none⟩)) (.int .i64 (dn : Int))).run Try.prog W = .ok (.pointer (some ⟨b, dn, none⟩)) W := fun W _ => ix_liA W b dn hdn
      have l2 : ∀ W, Kp w3 W → (Instr.loadAt 3 (.pointer (some ⟨b, dn, none⟩))).run Try.prog W = .ok (.int .i64 (gI L dn)) W := fun W e => load_int (li_cell (e.blk hX03) (by omega))
      go_upto_region 5 with fail
      refine fc_start (S := Kp w3) (by kernel_rfl) (Kp.drew _) ?_
      generalize ha : Act.mk _ _ = a0
      have hn : a0.tmps.size = 31 := by rw [← ha]; kernel_rfl
      have h2 : (fr a0 []).eval (.tmp 2) = .pointer (some ⟨b, 0, none⟩) := by rw [← ha]; kernel_rfl
      refine fc_know hn rfl h2 ?_
      clear h2
      have h6 : (fr a0 [(2, true, .pointer (some ⟨b, 0, none⟩))]).eval (.tmp 6) = .pointer (some ⟨g, 0, none⟩) := by rw [← ha]; kernel_rfl
      refine fc_know hn rfl h6 ?_
      clear h6
      refine c_fd 0 hn ?_
      refine c_ld 1 hn ?_
      refine c_fd 2 hn ?_
      refine c_ld 3 hn ?_
      refine c_ix 4 hn ?_
      refine c_ld 5 hn ?_
      refine c_gtr2 6 hn ?_
      refine fc_end (fun w4 hS => ?_)
      clear hn
      subst ha
      dsimp only [fr, cnd, Act.put, cond_true]
      simp only [List.setIfInBounds_toArray, List.set_cons_zero, List.set_cons_succ]
      have hX04 := hS.blk hX03
      have hX14 := hS.blk hX13
      have hB4 : Below b w w4 := hB3.trans (hS.below.mono (by have := hX13.lt; omega))
      by_cases hcm : gI L dn < x.seq
      · have HX2 : Hid (ofL l (ws.take (k + 1)) = L.set dn x.seq) := by show _ = _; rw [HX.out, ofS_yes hdn ed, show max (gI L dn) x.seq = x.seq by omega]
        have g0 := f0 w4 hS
        have g1 := f1 w4 hS
        have m0 := l0 w4 hS
        have m1 := l1 w4 hS
        have y1 := x1 w4 hS
        clear f0 f1 l0 l1 x1 l2 HX
        go_upto_region 6 with fail
        refine wp_region_lit ?_
        refine fl_start ?_
        generalize ha : Act.mk _ _ = a0
        have hn : a0.tmps.size = 31 := by rw [← ha]; kernel_rfl
        have h2 : (fr a0 []).eval (.tmp 2) = .pointer (some ⟨b, 0, none⟩) := by rw [← ha]; kernel_rfl
        refine fl_know hn rfl h2 ?_
        clear h2
        have h6 : (fr a0 [(2, true, .pointer (some ⟨b, 0, none⟩))]).eval (.tmp 6) = .pointer (some ⟨g, 0, none⟩) := by rw [← ha]; kernel_rfl
        refine fl_know hn rfl h6 ?_
        clear h6
        refine g_fd hn ?_
        refine g_ld hn ?_
        refine g_fd hn ?_
        refine g_ld hn ?_
        refine g_ix hn ?_
        refine g_stt hX04 (li_st (j := dn) hX04 (by omega) x.seq) ?_
        intro w5 ho5 hX05
        refine fl_end ?_
        clear hn
        subst ha
        dsimp only [fr, cnd, Act.put, cond_true]
        simp only [List.setIfInBounds_toArray, List.set_cons_zero, List.set_cons_succ]
        rw [li_set, ← HX2.out] at hX05
        have hX15 := hX14.only ho5 (by omega)
        have hB5 := hB4.trans (ho5.below (B := b) (Nat.le_refl _))
        clear g0 g1 m0 m1 y1 ho5 hX04 hX14 hB4 hS hX03 hX13 hY3
        go_wp2_with fail
        go_roundw
        case rel => exact ⟨k + 1, by omega, by go_num, hX05, hX15, hB5⟩
        case measure => simp [intOf]; omega
      · have HX2 : Hid (ofL l (ws.take (k + 1)) = L) := by show _ = L; rw [HX.out, ofS_same hdn hL12 ed hcm]
        clear f0 f1 l0 l1 x1 l2 HX hX03 hX13 hY3 hS
        go_wp2_with fail
        go_roundw
        case rel => exact ⟨k + 1, by omega, by go_num, by rw [HX2.out]; exact hX04, hX14, hB4⟩
        case measure => simp [intOf]; omega
    · have e : k = n := by omega
      subst e
      rw [List.take_of_length_le (by have := HN.out; omega)] at hX0
      have h12 := ofL_len hl ws
      have l2 := ld_liA hX0 h12
      go_upto_region 8 with fail
      refine wp_region_lit ?_
      refine fl_start ?_
      generalize ha : Act.mk _ _ = a0
      have hn : a0.tmps.size = 31 := by rw [← ha]; kernel_rfl
      have h2 : (fr a0 []).eval (.tmp 2) = .pointer (some ⟨b, 0, none⟩) := by rw [← ha]; kernel_rfl
      refine fl_know hn rfl h2 ?_
      clear h2
      have h4 : (fr a0 [(2, true, .pointer (some ⟨b, 0, none⟩))]).eval (.tmp 4) = .pointer (some ⟨b + 1, 0, none⟩) := by rw [← ha]; kernel_rfl
      refine fl_know hn rfl h4 ?_
      clear h4
      refine g_ld hn ?_
      refine g_str hX1 ?_ (hs := by rw [li_size, h12]; rfl) (hi := by rw [li_size, h12]; kernel_rfl) (h1 := li_one _)
      intro w4 ho hX4
      refine fl_end ?_
      clear hn
      subst ha
      dsimp only [fr, cnd, Act.put, cond_true]
      simp only [List.setIfInBounds_toArray, List.set_cons_zero, List.set_cons_succ]
      have hB4 := hB.trans (ho.below (B := b) (by omega))
      clear l2 hX0 hX1 ho hB
      obtain ⟨r0, r1, r2, r3, r4, r5, r6, r7, r8, r9, r10, r11, hr⟩ := li_cases h12
      rw [hr] at hX4
      have HR2 := Lib.hid hr
      clear hr
      go_wp2_with fail
      refine bodyPost_ret (results_cell_row Try.results17 _ _ (b + 1) 28 (laI r0 r1 r2 r3 r4 r5 r6 r7 r8 r9 r10 r11) (0, 0) _ (by rfl) hX4 Try.underlying28 (by rfl) (by kernel_rfl)) rfl ?_
      exact ⟨ret_li (l := laL r0 r1 r2 r3 r4 r5 r6 r7 r8 r9 r10 r11) HR2.out.symm, by first | exact hB4 | (rw [hb]; exact hB4)⟩
end Go.Proofs.Ytkfhkfddhijkcaa

namespace Go.Proofs.Ytkfhkfddhijkcaa
open Go.RowKit

/-- The cells of elements; are they of z cells each? -/
abbrev celV (l : List (Array Value)) : List Value := l.flatMap (·.toList)
def Szd (z : Nat) (l : List (Array Value)) : Prop := ∀ cs, cs ∈ l → cs.size = z
theorem celV_len {z : Nat} : ∀ (l : List (Array Value)), Szd z l → (celV l).length = l.length * z
  | [], _ => by simp
  | a :: t, h => by
    have h1 := h a (List.mem_cons_self ..)
    have h2 := celV_len t fun cs hc => h cs (List.mem_cons_of_mem _ hc)
    show (a.toList ++ celV t).length = _
    rw [List.length_append, h2, Array.length_toList, h1, List.length_cons, Nat.succ_mul]
    omega
theorem celV_get {z : Nat} : ∀ (l : List (Array Value)), Szd z l → ∀ (k j : Nat) (cs : Array Value) (v : Value), l[k]? = some cs → cs[j]? = some v → (celV l)[k * z + j]? = some v
  | [], _, k, j, cs, v, h, _ => by simp at h
  | a :: t, _, 0, j, cs, v, h, hv => by
    have e : a = cs := by simpa using h
    subst e
    have hj := (Array.getElem?_eq_some_iff.1 hv).1
    show (a.toList ++ celV t)[0 * z + j]? = _
    rw [Nat.zero_mul, Nat.zero_add, List.getElem?_append_left (by rw [Array.length_toList]; exact hj), Array.getElem?_toList]
    exact hv
  | a :: t, hs, k + 1, j, cs, v, h, hv => by
    have h1 := hs a (List.mem_cons_self ..)
    have h2 : t[k]? = some cs := by simpa using h
    have ih := celV_get t (fun cs hc => hs cs (List.mem_cons_of_mem _ hc)) k j cs v h2 hv
    show (a.toList ++ celV t)[(k + 1) * z + j]? = _
    rw [Nat.succ_mul, List.getElem?_append_right (by rw [Array.length_toList, h1]; omega), Array.length_toList, h1, show k * z + z + j - z = k * z + j by omega]
    exact ih
/-- The slice at A reads as the elements l, z cells each, in blocks below B. -/
def RdX (z B : Nat) (W : World) (A : Option Addr) (l : List (Array Value)) : Prop :=
  ∀ k cs, l[k]? = some cs → ∃ ad, A = some ad ∧ ad.block < B ∧ ∀ j v, cs[j]? = some v → W.cell? (ad.add (k * z + j)) = some v
theorem RdX.nil (z B : Nat) (W : World) (A : Option Addr) : RdX z B W A [] := fun k x h => by simp at h
theorem RdX.keep {z B C : Nat} {W W' : World} {A : Option Addr} {l : List (Array Value)} (h : RdX z B W A l) (hb : Below C W W') (hBC : B ≤ C) : RdX z B W' A l := by
  intro k x hx
  obtain ⟨ad, hA, hl, hc⟩ := h k x hx
  exact ⟨ad, hA, hl, fun j v hv => (hb.cell (by rw [add_block]; omega)).trans (hc j v hv)⟩
theorem RdX.more {z B C : Nat} {W : World} {A : Option Addr} {l : List (Array Value)} (h : RdX z B W A l) (hBC : B ≤ C) : RdX z C W A l := by
  intro k x hx
  obtain ⟨ad, hA, hl, hc⟩ := h k x hx
  exact ⟨ad, hA, by omega, hc⟩
theorem RdX.drews {z B : Nat} {W : World} {A : Option Addr} {l : List (Array Value)} (h : RdX z B W A l) (n : Nat) : RdX z B (W.drewN n) A l := h
theorem RdX.grown {z B : Nat} {W W' : World} {A : Option Addr} {l : List (Array Value)} {row : Option Nat} (h : RdX z B W A l) (hg : W.grownBy W' row) (hB : B ≤ W.heap.size) (hne : ∀ a, A = some a → some a.block ≠ row) : RdX z B W' A l := by
  intro k x hx
  obtain ⟨ad, hA, hl, hc⟩ := h k x hx
  exact ⟨ad, hA, hl, fun j v hv => (hg.cell_far _ (by rw [add_block]; omega) (by rw [add_block]; exact hne ad hA)).trans (hc j v hv)⟩
theorem addX_at (a : Addr) (i j : Nat) : a.add (i + (j + 1)) = ⟨(a.add i).block, (a.add i).off + (j + 1), none⟩ := by
  rw [← add_add', Addr.add, if_neg (by omega)]
/-- An element's cells, as a load asks for them. -/
theorem celX {W : World} {ad : Addr} {k z : Nat} {cs : Array Value} (hc : ∀ j v, cs[j]? = some v → W.cell? (ad.add (k * z + j)) = some v) :
    (∀ v, cs[0]? = some v → W.cell? (ad.add (k * z)) = some v) ∧ ∀ j v, cs[j + 1]? = some v → W.cell? ⟨(ad.add (k * z)).block, (ad.add (k * z)).off + (j + 1), none⟩ = some v :=
  ⟨fun v hv => hc 0 v hv, fun j v hv => by rw [← addX_at]; exact hc (j + 1) v hv⟩
/-- A row of elements that the call owns, in blocks from base on. -/
def OwnX (t : TypeId) (z base : Nat) (W : World) (A : Option Addr) (n c : Nat) (l : List (Array Value)) : Prop := W.ownsRow base t z (.slice A n c) n (celV l) ∧ Szd z l ∧ l.length = n
theorem OwnX.nil (t : TypeId) (z base : Nat) (W : World) : OwnX t z base W none 0 0 [] := ⟨World.ownsRow_nil W base t z, fun _ h => by simp at h, rfl⟩
theorem OwnX.len {t : TypeId} {z base : Nat} {W : World} {A : Option Addr} {n c : Nat} {l : List (Array Value)} (h : OwnX t z base W A n c l) : l.length = n := h.2.2
theorem OwnX.rd {t : TypeId} {z base : Nat} {W : World} {A : Option Addr} {n c : Nat} {l : List (Array Value)} (h : OwnX t z base W A n c l) : RdX z W.heap.size W A l := by
  intro k x hx
  have hk := (List.getElem?_eq_some_iff.1 hx).1
  have hl := h.len
  obtain ⟨g, cap, hv, _, hlt⟩ := World.ownsRow.form h.1 (by omega)
  injection hv with hv
  subst hv
  exact ⟨_, rfl, hlt, fun j v hj => h.1.cells (g := g) rfl _ _ (celV_get l h.2.1 k j x v hx hj)⟩
theorem OwnX.cap {t : TypeId} {z base : Nat} {W : World} {A : Option Addr} {n c : Nat} {l : List (Array Value)} (h : OwnX t z base W A n c l) : n ≤ c ∧ c ≤ maxLen := by
  rcases h.1.2 with ⟨hv, _⟩ | ⟨g, cap, cur, hv, _, _, h1, h2, _⟩
  · injection hv with _ h1 h2
    subst h2
    rw [h1]
    exact ⟨Nat.le_refl _, Nat.zero_le _⟩
  · injection hv with _ _ h3
    subst h3
    exact ⟨h1, h2⟩
theorem OwnX.blk {t : TypeId} {z base : Nat} {W : World} {A : Option Addr} {n c : Nat} {l : List (Array Value)} (h : OwnX t z base W A n c l) {a : Addr} (ha : A = some a) : base ≤ a.block ∧ a.block < W.heap.size := by
  subst ha
  exact World.ownsRow.lt h.1 a.block rfl
theorem OwnX.keep {t : TypeId} {z base : Nat} {W W' : World} {A : Option Addr} {n c : Nat} {l : List (Array Value)} (h : OwnX t z base W A n c l) (hb : Below W.heap.size W W') : OwnX t z base W' A n c l :=
  ⟨World.ownsRow.kept h.1 (row := none) ⟨hb.os, hb.tape, hb.output, hb.size, fun k hk _ => hb.block k hk⟩ (by cases A <;> simp [Value.ownBlock]), h.2⟩
theorem OwnX.keepG {t : TypeId} {z base : Nat} {W W' : World} {A : Option Addr} {n c : Nat} {l : List (Array Value)} {g : Nat} (h : OwnX t z base W A n c l) (hg : W.grownBy W' (some g)) (hlt : g < base) : OwnX t z base W' A n c l := by
  refine ⟨World.ownsRow.kept h.1 hg ?_, h.2⟩
  cases A with
  | none => simp [Value.ownBlock]
  | some a =>
    have := World.ownsRow.lt h.1 a.block rfl
    right
    intro e
    simp only [Value.ownBlock, Option.some.injEq] at e
    omega
theorem OwnX.less {t : TypeId} {z base b2 : Nat} {W : World} {A : Option Addr} {n c : Nat} {l : List (Array Value)} (h : OwnX t z base W A n c l) (hb : b2 ≤ base) : OwnX t z b2 W A n c l := by
  refine ⟨⟨h.1.1, ?_⟩, h.2⟩
  rcases h.1.2 with h | ⟨g, cap, cur, h1, h2, h3⟩
  · exact .inl h
  · exact .inr ⟨g, cap, cur, h1, by omega, h3⟩
/-- Append of one element onto a row of the call's own. -/
theorem run_apX {P : Program} (w : World) {t t' e' ty el : TypeId} {i : TypeInfo} {z y : Nat} {zv : Value} (ht : P.underlying t = some (.slice el)) (ht' : P.underlying t' = some (.slice e')) (hi : P.info? el = some i) (hz : i.zero = some zv) (hs : i.size = z) (hy : i.bytes = y) (hzs : zv.cells.size = z) (hz0 : 0 < z) (hy0 : y ≤ 1000)
    {base : Nat} {A : Option Addr} {ad : Addr} {n c d : Nat} {l : List (Array Value)} {x : Array Value} (hown : OwnX el z base w A n c l) (hx : x.size = z) (h1 : ∀ u ∈ x.toList, u.oneCell' = true) (hr : ∀ j v, x[j]? = some v → w.cell? (ad.add j) = some v) (hsz : n ≤ 1000000000) (hbase : base ≤ w.heap.size) :
    ∃ A' c' w', (Builtin.append_ #[t, t'] ty #[.slice A n c, .slice (some ad) 1 d]).run P w = .ok (.slice A' (n + 1) c') w' ∧ OwnX el z base w' A' (n + 1) c' (l ++ [x]) ∧ Below base w w' := by
  obtain ⟨v', w', hrun, h2, h3, _, _⟩ := run_append_own_at (P := P) w base t ty el i zv z y ht hi hz hs hy hzs hz0 (.slice A n c) n (celV l) hown.1 ad 1 d x.toList (by rw [Array.length_toList, hx, Nat.one_mul]) (fun j u hu => hr j u (by rw [← Array.getElem?_toList]; exact hu)) h1
    (by unfold maxLen; omega) (Nat.le_trans (Nat.mul_le_mul (show n + 1 ≤ 1000000001 by omega) hy0) (by omega)) hbase
  have hb : Below base w w' := (Below.refl base w).grown h3 hbase (fun k hk => (World.ownsRow.lt hown.1 k hk).1)
  have hv : ∃ A' c', v' = .slice A' (n + 1) c' := by
    rcases h2.2 with ⟨_, e2⟩ | ⟨g, cap, cur, e1, _⟩
    · omega
    · exact ⟨_, _, e1⟩
  obtain ⟨A', c', rfl⟩ := hv
  refine ⟨A', c', w', by rw [run_append_tt w ht ht']; exact hrun, ⟨?_, ?_, ?_⟩, hb⟩
  · rw [show celV (l ++ [x]) = celV l ++ x.toList by simp [celV]]
    exact h2
  · intro cs hc
    rcases List.mem_append.1 hc with h | h
    · exact hown.2.1 cs h
    · rw [List.mem_singleton.1 h]
      exact hx
  · rw [List.length_append, hown.2.2]
    rfl
section
variable {P : Program} {w : World} {t t' e' el : TypeId} {i : TypeInfo} {z y : Nat} {zv : Value} {base : Nat} {A : Option Addr} {ad : Addr} {n c d : Nat} {l : List (Array Value)} {xx : Array Value} {o : Oper} {a : Act} {Q : Exit → Act → World → Prop} {ops : Array Oper}
theorem wp_apX {K : Act → World → Prop} (s x : Operand) (ho : o.op = .call { callee := .builtin .append, args := #[s, x], argTypes := #[t, t'] })
    (ht : P.underlying t = some (.slice el)) (ht' : P.underlying t' = some (.slice e')) (hi : P.info? el = some i) (hz : i.zero = some zv) (hs : i.size = z) (hy : i.bytes = y) (hzs : zv.cells.size = z) (hz0 : 0 < z) (hy0 : y ≤ 1000)
    (h1 : a.eval s = .slice A n c) (h2 : a.eval x = .slice (some ad) 1 d) (hown : OwnX el z base w A n c l) (hx : xx.size = z) (hone : ∀ u ∈ xx.toList, u.oneCell' = true) (hr : ∀ j v, xx[j]? = some v → w.cell? (ad.add j) = some v) (hsz : n ≤ 1000000000) (hbase : base ≤ w.heap.size)
    (h : ∀ A' c' w', OwnX el z base w' A' (n + 1) c' (l ++ [xx]) → Below base w w' → K (a.put o.dst (.slice A' (n + 1) c')) w') : o.wp P a w K Q := by
  obtain ⟨A', c', w', hrun, k1, k2⟩ := run_apX (P := P) (ty := o.type) (d := d) w ht ht' hi hz hs hy hzs hz0 hy0 hown hx hone hr hsz hbase
  unfold Oper.wp execOp
  simp only [ho, resolve, invoke, builtin, Sem.run_bind, Sem.run_pure, Result.andThen_ok, List.map_toArray, List.map_cons, List.map_nil, h1, h2, hrun]
  exact h A' c' w' k1 k2
/-- .. in a plain region. -/
theorem wpList_apX {rest : List Oper} (hgd : o.guard = none) (s x : Operand) (ho : o.op = .call { callee := .builtin .append, args := #[s, x], argTypes := #[t, t'] })
    (ht : P.underlying t = some (.slice el)) (ht' : P.underlying t' = some (.slice e')) (hi : P.info? el = some i) (hz : i.zero = some zv) (hs : i.size = z) (hy : i.bytes = y) (hzs : zv.cells.size = z) (hz0 : 0 < z) (hy0 : y ≤ 1000)
    (h1 : a.eval s = .slice A n c) (h2 : a.eval x = .slice (some ad) 1 d) (hown : OwnX el z base w A n c l) (hx : xx.size = z) (hone : ∀ u ∈ xx.toList, u.oneCell' = true) (hr : ∀ j v, xx[j]? = some v → w.cell? (ad.add j) = some v) (hsz : n ≤ 1000000000) (hbase : base ≤ w.heap.size)
    (h : ∀ A' c' w', OwnX el z base w' A' (n + 1) c' (l ++ [xx]) → Below base w w' → wpList P ops Q rest (a.put o.dst (.slice A' (n + 1) c')) w') : wpList P ops Q (o :: rest) a w :=
  wpList_plain hgd fun _ hK => wp_apX s x ho ht ht' hi hz hs hy hzs hz0 hy0 h1 h2 hown hx hone hr hsz hbase fun A' c' w' k1 k2 => hK _ _ (h A' c' w' k1 k2)
/-- .. at a step of a region that draws its order. -/
theorem step_apX {K : Act → World → Prop} {E : Prop} (hgd : o.guard = none) (s x : Operand) (ho : o.op = .call { callee := .builtin .append, args := #[s, x], argTypes := #[t, t'] })
    (ht : P.underlying t = some (.slice el)) (ht' : P.underlying t' = some (.slice e')) (hi : P.info? el = some i) (hz : i.zero = some zv) (hs : i.size = z) (hy : i.bytes = y) (hzs : zv.cells.size = z) (hz0 : 0 < z) (hy0 : y ≤ 1000)
    (h1 : a.eval s = .slice A n c) (h2 : a.eval x = .slice (some ad) 1 d) (hown : OwnX el z base w A n c l) (hx : xx.size = z) (hone : ∀ u ∈ xx.toList, u.oneCell' = true) (hr : ∀ j v, xx[j]? = some v → w.cell? (ad.add j) = some v) (hsz : n ≤ 1000000000) (hbase : base ≤ w.heap.size)
    (h : ∀ A' c' w', OwnX el z base w' A' (n + 1) c' (l ++ [xx]) → Below base w w' → K (a.put o.dst (.slice A' (n + 1) c')) w') :
    if Region.wanted o (yielded ops a.tmps) = true then Oper.wp P o a w K Q else E := by
  have hw : Region.wanted o (yielded ops a.tmps) = true := by simp [Region.wanted, hgd]
  rw [if_pos hw]
  exact wp_apX s x ho ht ht' hi hz hs hy hzs hz0 hy0 h1 h2 hown hx hone hr hsz hbase h
end
/-- A block's cells, as an append asks for them. -/
theorem zeroX_at (g j : Nat) : (Addr.mk g 0 none).add j = Addr.mk g j none := by
  unfold Addr.add
  by_cases h : j = 0
  · rw [if_pos h, h]
  · rw [if_neg h]
    simp
theorem newX (W : World) (x : Array Value) (t : TypeId) : ∀ j v, x[j]? = some v → (W.alloc (.cells x t)).cell? ((⟨W.heap.size, 0, none⟩ : Addr).add j) = some v := by
  intro j v hv
  rw [zeroX_at, (blk_new W x t).cell j]
  exact hv
end Go.Proofs.Ytkfhkfddhijkcaa

namespace Go.Proofs.Ytkfhkfddhijkcaa
open Go.RowKit

theorem celV_src {z : Nat} (hz : 0 < z) {W : World} {ad : Addr} : ∀ (xs : List (Array Value)), Szd z xs → (∀ k cs, xs[k]? = some cs → ∀ j v, cs[j]? = some v → W.cell? (ad.add (k * z + j)) = some v) → ∀ i u, (celV xs)[i]? = some u → W.cell? (ad.add i) = some u := by
  intro xs hs hc i u hi
  have hlt := (List.getElem?_eq_some_iff.1 hi).1
  rw [celV_len xs hs] at hlt
  have hk : i / z < xs.length := Nat.div_lt_of_lt_mul (by rw [Nat.mul_comm]; exact hlt)
  have hx : xs[i / z]? = some xs[i / z] := List.getElem?_eq_getElem hk
  have hsz := hs _ (List.getElem_mem hk)
  have hj : i % z < xs[i / z].size := by rw [hsz]; exact Nat.mod_lt _ hz
  have hv : xs[i / z][i % z]? = some xs[i / z][i % z] := Array.getElem?_eq_getElem hj
  have h2 := celV_get xs hs (i / z) (i % z) _ _ hx hv
  rw [Nat.div_add_mod' i z] at h2
  rw [hi] at h2
  injection h2 with h2
  have h3 := hc _ _ hx _ _ hv
  rw [Nat.div_add_mod' i z, ← h2] at h3
  exact h3
/-- Append of m elements onto a row of the call's own. -/
theorem run_apM {P : Program} (w : World) {t t' e' ty el : TypeId} {i : TypeInfo} {z y : Nat} {zv : Value} (ht : P.underlying t = some (.slice el)) (ht' : P.underlying t' = some (.slice e')) (hi : P.info? el = some i) (hz : i.zero = some zv) (hs : i.size = z) (hy : i.bytes = y) (hzs : zv.cells.size = z) (hz0 : 0 < z) (hy0 : y ≤ 1000)
    {base : Nat} {A : Option Addr} {ad : Addr} {n c m d : Nat} {l xs : List (Array Value)} (hown : OwnX el z base w A n c l) (hx : Szd z xs) (hm : xs.length = m) (h1 : ∀ x, x ∈ xs → ∀ u ∈ x.toList, u.oneCell' = true) (hr : ∀ k cs, xs[k]? = some cs → ∀ j v, cs[j]? = some v → w.cell? (ad.add (k * z + j)) = some v) (hsz : n + m ≤ 1000000000) (hbase : base ≤ w.heap.size) (hA : A ≠ none ∨ m ≠ 0) :
    ∃ A' c' w', (Builtin.append_ #[t, t'] ty #[.slice A n c, .slice (some ad) m d]).run P w = .ok (.slice A' (n + m) c') w' ∧ OwnX el z base w' A' (n + m) c' (l ++ xs) ∧ Below base w w' ∧ A' ≠ none ∧ (∀ x, x < w.heap.size → (∀ a, A = some a → a.block ≠ x) → w'.heap[x]? = w.heap[x]?) ∧ (A'.map (·.block) = A.map (·.block) ∨ A'.map (·.block) = some w.heap.size) := by
  obtain ⟨v', w', hrun, h2, h3, h4, h5⟩ := run_append_own_at (P := P) w base t ty el i zv z y ht hi hz hs hy hzs hz0 (.slice A n c) n (celV l) hown.1 ad m d (celV xs) (by rw [celV_len xs hx, hm]) (celV_src hz0 xs hx hr)
    (fun u hu => by
      obtain ⟨x, hx1, hx2⟩ := List.mem_flatMap.1 hu
      exact h1 x hx1 u hx2)
    (by unfold maxLen; omega) (Nat.le_trans (Nat.mul_le_mul (show n + m ≤ 1000000001 by omega) hy0) (by omega)) hbase
  have hb : Below base w w' := (Below.refl base w).grown h3 hbase (fun k hk => (World.ownsRow.lt hown.1 k hk).1)
  have hv : ∃ A' c', v' = .slice A' (n + m) c' ∧ A' ≠ none := by
    rcases h2.2 with ⟨e1, e2⟩ | ⟨g, cap, cur, e1, _⟩
    · exfalso
      have e3 := h4.1 e1
      injection e3.1 with e5
      rcases hA with h | h
      · exact h e5
      · exact h e3.2
    · exact ⟨_, _, e1, by simp⟩
  obtain ⟨A', c', rfl, hA'⟩ := hv
  refine ⟨A', c', w', by rw [run_append_tt w ht ht']; exact hrun, ⟨?_, ?_, ?_⟩, hb, hA', fun x hx hne => h3.block x hx fun e => by
    cases A with
    | none => cases e
    | some a => injection e with e; exact hne a rfl e.symm, ?_⟩
  · rw [show celV (l ++ xs) = celV l ++ celV xs by simp [celV]]
    exact h2
  · intro cs hc
    rcases List.mem_append.1 hc with h | h
    · exact hown.2.1 cs h
    · exact hx cs h
  · rw [List.length_append, hown.2.2, hm]
  · have e1 : ∀ (A : Option Addr) n c, (Value.slice A n c).ownBlock = A.map (·.block) := fun A n c => by cases A <;> rfl
    rw [e1, e1] at h5
    exact h5
theorem wp_apM {P : Program} {w : World} {t t' e' el : TypeId} {i : TypeInfo} {z y : Nat} {zv : Value} {base : Nat} {A : Option Addr} {ad : Addr} {n c m d : Nat} {l xs : List (Array Value)} {o : Oper} {a : Act} {Q : Exit → Act → World → Prop} {K : Act → World → Prop} (s x : Operand) (ho : o.op = .call { callee := .builtin .append, args := #[s, x], argTypes := #[t, t'] })
    (ht : P.underlying t = some (.slice el)) (ht' : P.underlying t' = some (.slice e')) (hi : P.info? el = some i) (hz : i.zero = some zv) (hs : i.size = z) (hy : i.bytes = y) (hzs : zv.cells.size = z) (hz0 : 0 < z) (hy0 : y ≤ 1000)
    (e1 : a.eval s = .slice A n c) (e2 : a.eval x = .slice (some ad) m d) (hown : OwnX el z base w A n c l) (hx : Szd z xs) (hm : xs.length = m) (h1 : ∀ x, x ∈ xs → ∀ u ∈ x.toList, u.oneCell' = true) (hr : ∀ k cs, xs[k]? = some cs → ∀ j v, cs[j]? = some v → w.cell? (ad.add (k * z + j)) = some v) (hsz : n + m ≤ 1000000000) (hbase : base ≤ w.heap.size) (hA : A ≠ none ∨ m ≠ 0)
    (h : ∀ A' c' w', OwnX el z base w' A' (n + m) c' (l ++ xs) → Below base w w' → A' ≠ none → (∀ x, x < w.heap.size → (∀ a, A = some a → a.block ≠ x) → w'.heap[x]? = w.heap[x]?) → (A'.map (·.block) = A.map (·.block) ∨ A'.map (·.block) = some w.heap.size) → K (a.put o.dst (.slice A' (n + m) c')) w') : o.wp P a w K Q := by
  obtain ⟨A', c', w', hrun, k1, k2, k3, k4, k5⟩ := run_apM (P := P) (ty := o.type) (d := d) w ht ht' hi hz hs hy hzs hz0 hy0 hown hx hm h1 hr hsz hbase hA
  unfold Oper.wp execOp
  simp only [ho, resolve, invoke, builtin, Sem.run_bind, Sem.run_pure, Result.andThen_ok, List.map_toArray, List.map_cons, List.map_nil, e1, e2, hrun]
  exact h A' c' w' k1 k2 k3 k4 k5
theorem wr_infoM : (Try.prog.info? 39).map (fun i => (i.zero, i.size, i.bytes)) = some (some (.agg (wrI 0 0 0 ⟨#[]⟩ 0 0 ⟨#[]⟩ 0 0 ⟨#[]⟩)), 10, 104) := by kernel_rfl
theorem wr_szd (ws : List Wr) : Szd 10 (ws.map Wr.cells) := fun cs hc => by
  obtain ⟨x, _, rfl⟩ := List.mem_map.1 hc
  rfl
theorem wr_ones (ws : List Wr) : ∀ x, x ∈ ws.map Wr.cells → ∀ u ∈ x.toList, u.oneCell' = true := fun cs hc u hu => by
  obtain ⟨x, _, rfl⟩ := List.mem_map.1 hc
  have h := wr_oneC x
  rw [Array.all_eq_true'] at h
  exact h u (Array.mem_toList_iff.1 hu)
theorem RdW.cells {B : Nat} {W : World} {ad : Addr} {ws : List Wr} (h : RdW B W (some ad) ws) : ∀ k cs, (ws.map Wr.cells)[k]? = some cs → ∀ j v, cs[j]? = some v → W.cell? (ad.add (k * 10 + j)) = some v := fun k cs hk j v hv => by
  rw [List.getElem?_map] at hk
  cases hx : ws[k]? with
  | none => rw [hx] at hk; cases hk
  | some x =>
    rw [hx] at hk
    injection hk with hk
    subst hk
    obtain ⟨ad2, e, _, hc⟩ := h k x hx
    injection e with e
    subst e
    exact hc j v hv
theorem OwnX.rdw {base n c : Nat} {W : World} {A : Option Addr} {ws : List Wr} (h : OwnX tWr 10 base W A n c (ws.map Wr.cells)) : RdW W.heap.size W A ws := fun k x hx => h.rd k x.cells (by rw [List.getElem?_map, hx]; rfl)
/-- Slices of writes, cut. -/
theorem run_wlo (W : World) (ad : Addr) (n c k : Nat) (h : k ≤ n) (hc : k < c) : (Instr.sliceAt 30 (.slice (some ad) n c) (some (.int .i64 (k : Int))) none none).run Try.prog W = .ok (.slice (some (ad.add (k * 10))) (n - k) (c - k)) W := by
  have h1 : (k : Int) ≤ (n : Int) := by omega
  have h2 : ¬ c = k := by omega
  go_simp
theorem run_whi (W : World) (A : Option Addr) (n c k : Nat) (h : k ≤ n) (hc : n ≤ c) : (Instr.sliceAt 30 (.slice A n c) none (some (.int .i64 (k : Int))) none).run Try.prog W = .ok (.slice A k c) W := by
  have h1 : (k : Int) ≤ (c : Int) := by omega
  go_simp
theorem RdW.lo {B : Nat} {W : World} {ad : Addr} {ws : List Wr} (h : RdW B W (some ad) ws) (k : Nat) : RdW B W (some (ad.add (k * 10))) (ws.drop k) := fun j x hx => by
  rw [List.getElem?_drop] at hx
  obtain ⟨ad2, e, hb, hc⟩ := h (k + j) x hx
  injection e with e
  subst e
  refine ⟨_, rfl, by rw [add_block]; exact hb, fun i v hv => ?_⟩
  rw [add_add', show k * 10 + (j * 10 + i) = (k + j) * 10 + i by omega]
  exact hc i v hv
theorem RdW.hi {B : Nat} {W : World} {A : Option Addr} {ws : List Wr} (h : RdW B W A ws) (k : Nat) : RdW B W A (ws.take k) := fun j x hx => h j x (by
  rw [List.getElem?_take] at hx
  split at hx
  · exact hx
  · cases hx)
section
variable {P : Program} {l : List Oper} {Q : Exit → Act → World → Prop} {S : World → Prop} {fuel : Nat} {listed : Array Bool} {rest : List Oper} {a0 : Act} {L : List (Nat × Bool × Value)} {w : World}
/-- An operation of a plain region, by what it does. -/
theorem fl_wp {o : Oper} {d n : Nat} {R : Value → World → Prop} (hn : a0.tmps.size = n) (hX : ∀ K : Act → World → Prop, (∀ v w2, R v w2 → K ((fr a0 L).put (some d) v) w2) → (∀ p, p ∈ L → p.1 < a0.tmps.size) → o.wp P (fr a0 L) w K Q)
    (h : ∀ v w2, R v w2 → FL P l Q rest a0 ((d, true, v) :: L) w2) (hd : Nat.blt d n = true) (hw : wtG l L o.guard = some true) : FL P l Q (o :: rest) a0 L w := by
  refine ⟨fun hk => ?_⟩
  refine wpList_step fun K hK => ?_
  rw [wt_is hk hw, if_pos rfl]
  exact hX K (fun v w2 hR => hK _ _ ((h v w2 hR).go (bd_more hn hd hk))) hk
end
def ApR (base : Nat) (A : Option Addr) (w : World) (n m : Nat) (l xs : List Wr) (v : Value) (w2 : World) : Prop := ∃ A' c', v = .slice A' (n + m) c' ∧ OwnX tWr 10 base w2 A' (n + m) c' ((l ++ xs).map Wr.cells) ∧ Below base w w2 ∧ A' ≠ none ∧ ∀ x, x < w.heap.size → (∀ a, A = some a → a.block ≠ x) → w2.heap[x]? = w.heap[x]?
section
variable {l : List Oper} {Q : Exit → Act → World → Prop} {S : World → Prop} {fuel : Nat} {listed : Array Bool} {rest : List Oper} {a0 : Act} {L : List (Nat × Bool × Value)} {w : World}
theorem wp_apW {a : Act} {o : Oper} {K : Act → World → Prop} {d : Nat} {base : Nat} {A : Option Addr} {ad : Addr} {n c m dd B : Nat} {ks xs : List Wr} (hd : o.dst = some d) (s x : Operand) (ho : o.op = .call { callee := .builtin .append, args := #[s, x], argTypes := #[30, 30] }) (e1 : a.eval s = .slice A n c) (e2 : a.eval x = .slice (some ad) m dd)
    (hown : OwnX tWr 10 base w A n c (ks.map Wr.cells)) (hsrc : RdW B w (some ad) xs) (hm : xs.length = m) (hsz : n + m ≤ 1000000000) (hbase : base ≤ w.heap.size) (hA : A ≠ none ∨ m ≠ 0) (hK : ∀ v w2, ApR base A w n m ks xs v w2 → K (a.put (some d) v) w2) : o.wp Try.prog a w K Q := by
  obtain ⟨i0, hi0, hz0, hs0, hb0⟩ := info_parts wr_infoM
  refine wp_apM s x ho Try.underlying30 Try.underlying30 hi0 hz0 hs0 hb0 (by rfl) (by omega) (by omega) e1 e2 hown (wr_szd xs) (by rw [List.length_map]; exact hm) (wr_ones xs) hsrc.cells hsz hbase hA fun A' c' w' k1 k2 k3 k4 _ => ?_
  rw [hd]
  exact hK _ _ ⟨A', c', rfl, by rw [List.map_append]; exact k1, k2, k3, k4⟩
theorem h_apW (k : Nat) {i j d nn : Nat} {base : Nat} {A : Option Addr} {ad : Addr} {n c m dd B : Nat} {ks xs : List Wr} {ty : TypeId} {p : String} {af : Array Edge} (hn : a0.tmps.size = nn)
    (hown : OwnX tWr 10 base w A n c (ks.map Wr.cells)) (hsrc : RdW B w (some ad) xs) (hm : xs.length = m) (hsz : n + m ≤ 1000000000) (hbase : base ≤ w.heap.size) (hA : A ≠ none ∨ m ≠ 0)
    (h : ∀ v w2, ApR base A w n m ks xs v w2 → S w2 ∧ FH Try.prog l Q S fuel (listed.setIfInBounds k true) a0 ((d, true, v) :: L) w2)
    (hi : l.toArray[k]? = some ⟨some d, .call { callee := .builtin .append, args := #[.tmp i, .tmp j], argTypes := #[30, 30] }, ty, p, af, none⟩ := by rfl) (h1 : lk L i = some (true, .slice A n c) := by rfl) (h2 : lk L j = some (true, .slice (some ad) m dd) := by rfl) (hd : Nat.blt d nn = true := by rfl) (hr : Region.ready .any l.toArray listed = [k] := by kernel_rfl) : FH Try.prog l Q S (fuel + 1) listed a0 L w :=
  fh_val k hn (R := ApR base A w n m ks xs) (fun K hK hk => wp_apW rfl (.tmp i) (.tmp j) rfl (lk_at hk h1 (fun _ => rfl) rfl) (lk_at hk h2 (fun _ => rfl) rfl) hown hsrc hm hsz hbase hA hK) h hi hd hr rfl
theorem g_apW {i j d nn : Nat} {base : Nat} {A : Option Addr} {ad : Addr} {n c m dd B : Nat} {ks xs : List Wr} {ty : TypeId} {p : String} {af : Array Edge} (hn : a0.tmps.size = nn)
    (hown : OwnX tWr 10 base w A n c (ks.map Wr.cells)) (hsrc : RdW B w (some ad) xs) (hm : xs.length = m) (hsz : n + m ≤ 1000000000) (hbase : base ≤ w.heap.size) (hA : A ≠ none ∨ m ≠ 0)
    (h : ∀ v w2, ApR base A w n m ks xs v w2 → FL Try.prog l Q rest a0 ((d, true, v) :: L) w2)
    (h1 : lk L i = some (true, .slice A n c) := by rfl) (h2 : lk L j = some (true, .slice (some ad) m dd) := by rfl) (hd : Nat.blt d nn = true := by rfl) : FL Try.prog l Q (⟨some d, .call { callee := .builtin .append, args := #[.tmp i, .tmp j], argTypes := #[30, 30] }, ty, p, af, none⟩ :: rest) a0 L w :=
  fl_wp hn (R := ApR base A w n m ks xs) (fun K hK hk => wp_apW rfl (.tmp i) (.tmp j) rfl (lk_at hk h1 (fun _ => rfl) rfl) (lk_at hk h2 (fun _ => rfl) rfl) hown hsrc hm hsz hbase hA hK) h hd rfl
end
theorem bs0W (w : World) : (Instr.buildSlice 30 0 #[]).run Try.prog w = .ok (.slice (some ⟨w.heap.size, 0, none⟩) 0 0) (w.alloc (.cells #[] tWr)) := by kernel_rfl
theorem x_bs0 {ρ : Operand → Value} {d : Option Tmp} {ty : TypeId} {p : String} {af : Array Edge} {gd : Option (Nat × Bool)} (w : World) : (execOp ρ ⟨d, .buildSlice 30 0 #[], ty, p, af, gd⟩).run Try.prog w = .ok (.value (.slice (some ⟨w.heap.size, 0, none⟩) 0 0)) (w.alloc (.cells #[] tWr)) := by
  unfold execOp
  dsimp only
  have e : (#[] : Array (Nat × Operand)).map (fun x => (x.fst, ρ x.snd)) = #[] := by simp
  have h := bs0W w
  rw [← e] at h
  rw [Sem.run_bind]
  refine (congrArg (fun r => Result.andThen r _) h).trans ?_
  rfl
theorem OwnX.onlyG {t : TypeId} {z base : Nat} {W W' : World} {A : Option Addr} {n c : Nat} {l : List (Array Value)} {g : Nat} (h : OwnX t z base W A n c l) (ho : Only1 g W W') (hg : g < base) : OwnX t z base W' A n c l := by
  refine ⟨⟨h.1.1, ?_⟩, h.2⟩
  rcases h.1.2 with h | ⟨g2, cap, cur, h1, h2, h3, h4⟩
  · exact .inl h
  · exact .inr ⟨g2, cap, cur, h1, h2, (ho.block g2 (by omega)).trans h3, h4⟩
theorem OwnX.blkLt {t : TypeId} {z base : Nat} {W : World} {A : Option Addr} {n c : Nat} {l : List (Array Value)} (h : OwnX t z base W A n c l) : ∀ a, A = some a → a.block < W.heap.size := fun a ha => (h.blk ha).2
theorem Blk.keep' {W W1 : World} {b B : Nat} {cs : Array Value} {t : TypeId} (h : Blk W b cs t) (hb : Below B W W1) (hB : b < B) : Blk W1 b cs t := (hb.block b hB).trans h
theorem own0W (w : World) (base : Nat) (h : base ≤ w.heap.size) : OwnX tWr 10 base (w.alloc (.cells #[] tWr)) (some ⟨w.heap.size, 0, none⟩) 0 0 (([] : List Wr).map Wr.cells) :=
  ⟨⟨rfl, .inr ⟨w.heap.size, 0, #[], rfl, h, blk_new w #[] tWr, Nat.le_refl _, Nat.zero_le _, rfl, rfl⟩⟩, fun _ h => by simp at h, rfl⟩
end Go.Proofs.Ytkfhkfddhijkcaa

namespace Go.Proofs.Ytkfhkfddhijkcaa
open Go.RowKit

theorem sclone_any (s : ByteArray) (w : World) (hs : s.size ≤ 1000000) :
    Calls Try.prog 108 #[.string s] w fun e w' => e = .returned (.string s) ∧ Below w.heap.size w w' := by
  go_enter Try.func108, Try.ntmps108
  go_wp2_with fail
  refine (Try.stringslite_Clone s w (by omega)).mono ?_
  rintro e w2 ⟨rfl, hb2⟩
  go_wp2_with fail
  go_ret
  exact ⟨rfl, hb2⟩

end Go.Proofs.Ytkfhkfddhijkcaa

namespace Go.Proofs.Ytkfhkfddhijkcaa
open Go.RowKit

theorem en_strings_Clone : ∀ args w, (callFunc 108 args).run Try.prog w = .ok (.enter 108 args) w := enters_of Try.func108 (by kernel_rfl) rfl
theorem en_spinney_fresh_Value : ∀ args w, (callFunc 109 args).run Try.prog w = .ok (.enter 109 args) w := enters_of Try.func109 (by kernel_rfl) rfl

theorem all_oneC {l : List Value} (h : ∀ v, v ∈ l → v.oneCell' = true) : (l.toArray).all (·.oneCell') = true := by
  rw [List.all_toArray]
  exact List.all_eq_true.2 h
theorem va_oneC (k n : Int) (t : ByteArray) : (#[.int .i64 k, .int .i64 n, .string t] : Array Value).all (·.oneCell') = true := all_oneC (l := [.int .i64 k, .int .i64 n, .string t]) (by simp [Value.oneCell'])
theorem vfd (W : World) (b : Nat) : (Instr.fieldAt 35 (.pointer (some ⟨b, 0, none⟩)) 2).run Try.prog W = .ok (.pointer (some ⟨b, 2, none⟩)) W := by go_simp
theorem ld_str {W : World} {a : Addr} {t : ByteArray} (h : W.cell? a = some (.string t)) : (Instr.loadAt 9 (.pointer (some a))).run Try.prog W = .ok (.string t) W := by go_simp
theorem st_str {W : World} {b j : Nat} {cs : Array Value} {T : TypeId} (hX : Blk W b cs T) (hj : j < cs.size) (t : ByteArray) : (Instr.storeAt 9 (.pointer (some ⟨b, j, none⟩)) (.string t)).run Try.prog W = .ok () (W.setCell ⟨b, j, none⟩ (.string t)) := by
  obtain ⟨u, hu⟩ := blk_some hX hj
  have hf := hX.free j
  clear hX
  go_simp
theorem vld {W : World} {b o : Nat} {k n : Int} {t : ByteArray} (h0 : W.cell? ⟨b, o, none⟩ = some (.int .i64 k)) (h1 : W.cell? ⟨b, o + 1, none⟩ = some (.int .i64 n)) (h2 : W.cell? ⟨b, o + 2, none⟩ = some (.string t)) : (Instr.loadAt 35 (.pointer (some ⟨b, o, none⟩))).run Try.prog W = .ok (.agg #[.int .i64 k, .int .i64 n, .string t]) W := by go_simp
set_option maxRecDepth 100000 in
set_option maxHeartbeats 4000000 in
theorem freshValue_any (k n : Int) (t : ByteArray) (w : World) (ht : t.size ≤ 1000000) : Calls Try.prog 109 #[.agg #[.int .i64 k, .int .i64 n, .string t]] w fun e w' => e = .returned (.agg #[.int .i64 k, .int .i64 n, .string t]) ∧ Below w.heap.size w w' := by
  have hX0 := blk_new w #[.int .i64 k, .int .i64 n, .string t] 35
  replace hX0 := hX0.alloc (.cells #[.int .i64 0, .int .i64 0, .string ⟨#[]⟩] 35)
  have hz1 : (w.alloc (.cells #[.int .i64 k, .int .i64 n, .string t] 35)).heap.size = w.heap.size + 1 := by simp
  have hX1 := blk_new (w.alloc (.cells #[.int .i64 k, .int .i64 n, .string t] 35)) #[.int .i64 0, .int .i64 0, .string ⟨#[]⟩] 35
  rw [hz1] at hX1
  have hB := ba (b0 w (.cells #[.int .i64 k, .int .i64 n, .string t] 35)) (.cells #[.int .i64 0, .int .i64 0, .string ⟨#[]⟩] 35)
  have hzz : ((w.alloc (.cells #[.int .i64 k, .int .i64 n, .string t] 35)).alloc (.cells #[.int .i64 0, .int .i64 0, .string ⟨#[]⟩] 35)).heap.size = w.heap.size + 2 := by simp
  go_enter Try.func109, Try.ntmps109
  go_upto_region 1 with fail
  generalize ((w.alloc (.cells #[.int .i64 k, .int .i64 n, .string t] 35)).alloc (.cells #[.int .i64 0, .int .i64 0, .string ⟨#[]⟩] 35)) = W0 at hX0 hX1 hB hzz ⊢
  (try simp only [hz1])
  clear hz1
  generalize hb : w.heap.size = b at hX0 hX1 hB hzz ⊢
  have f1 : ∀ W, Kp W0 W → (Instr.fieldAt 35 (.pointer (some ⟨b, 0, none⟩)) 2).run Try.prog W = .ok (.pointer (some ⟨b, 2, none⟩)) W := fun W _ => vfd W b
  have l1 : ∀ W, Kp W0 W → (Instr.loadAt 9 (.pointer (some ⟨b, 2, none⟩))).run Try.prog W = .ok (.string t) W := fun W h => ld_str ((h.blk hX0).cell 2)
  have c1 : ∀ W, Kp W0 W → _ := kp_c fun W _ => sclone_any t W ht
  refine wp_region_lit ?_
  refine fs_start (Kp W0) (Kp.refl _) ?_
  generalize ha : Act.mk _ _ = a0
  have hn : a0.tmps.size = 8 := by rw [← ha]; kernel_rfl
  have h1 : (fr a0 []).eval (.tmp 1) = .pointer (some ⟨b, 0, none⟩) := by rw [← ha]; kernel_rfl
  refine fs_know hn rfl h1 ?_
  clear h1
  refine s_fd hn ?_
  refine s_ld hn ?_
  refine s_callt hn ?_ (he := en_strings_Clone)
  refine s_fd hn ?_
  refine fs_fl fun w3 hS => ?_
  have hX03 := hS.blk hX0
  have hX13 := hS.blk hX1
  have hB3 : Below b w w3 := hB.trans (hS.below.mono (by omega))
  refine g_stt hX03 (st_str (j := 2) hX03 (by simp) t) ?_
  intro w4 ho hX4
  refine fl_end ?_
  clear hn
  subst ha
  dsimp only [fr, cnd, Act.put, cond_true]
  simp only [List.setIfInBounds_toArray, List.set_cons_zero, List.set_cons_succ]
  have hX4 : Blk w4 b #[.int .i64 k, .int .i64 n, .string t] 35 := hX4
  have hX14 := hX13.only ho (by omega)
  have hB4 := hB3.trans (ho.below (B := b) (Nat.le_refl _))
  clear f1 l1 c1 hX0 hX1 hB hS hX03 hX13 hB3 ho
  have l2 := vld (W := w4) (b := b) (o := 0) (hX4.cell 0) (hX4.cell 1) (hX4.cell 2)
  go_upto_region 2 with fail
  refine wp_region_lit ?_
  refine fl_start ?_
  generalize ha : Act.mk _ _ = a0
  have hn : a0.tmps.size = 8 := by rw [← ha]; kernel_rfl
  have h1 : (fr a0 []).eval (.tmp 1) = .pointer (some ⟨b, 0, none⟩) := by rw [← ha]; kernel_rfl
  refine fl_know hn rfl h1 ?_
  clear h1
  have h2 : (fr a0 [(1, true, .pointer (some ⟨b, 0, none⟩))]).eval (.tmp 2) = .pointer (some ⟨b + 1, 0, none⟩) := by rw [← ha]; kernel_rfl
  refine fl_know hn rfl h2 ?_
  clear h2
  refine g_ld hn ?_
  refine g_str hX14 ?_ (h1 := va_oneC k n t)
  intro w5 ho5 hX5
  refine fl_end ?_
  clear hn
  subst ha
  dsimp only [fr, cnd, Act.put, cond_true]
  simp only [List.setIfInBounds_toArray, List.set_cons_zero, List.set_cons_succ]
  have hB5 := hB4.trans (ho5.below (B := b) (by omega))
  clear l2 hX4 hX14 ho5 hB4
  go_wp2_with fail
  refine bodyPost_ret (results_cell_row Try.results109 _ _ (b + 1) 35 #[.int .i64 k, .int .i64 n, .string t] (0, 0) _ (by rfl) hX5 Try.underlying35 (by rfl) (by kernel_rfl)) rfl ?_
  exact ⟨rfl, by first | exact hB5 | (rw [hb]; exact hB5)⟩
theorem wfdO (W : World) (b : Nat) : (Instr.fieldAt 39 (.pointer (some ⟨b, 0, none⟩)) 1).run Try.prog W = .ok (.pointer (some ⟨b, 2, none⟩)) W := by go_simp
theorem ofd1 (W : World) (b : Nat) : (Instr.fieldAt 37 (.pointer (some ⟨b, 2, none⟩)) 1).run Try.prog W = .ok (.pointer (some ⟨b, 3, none⟩)) W := by go_simp
theorem ofd2 (W : World) (b : Nat) : (Instr.fieldAt 37 (.pointer (some ⟨b, 2, none⟩)) 2).run Try.prog W = .ok (.pointer (some ⟨b, 4, none⟩)) W := by go_simp
theorem ofd3 (W : World) (b : Nat) : (Instr.fieldAt 37 (.pointer (some ⟨b, 2, none⟩)) 3).run Try.prog W = .ok (.pointer (some ⟨b, 7, none⟩)) W := by go_simp
theorem st_va {W : World} {b j : Nat} {cs : Array Value} {T : TypeId} (hX : Blk W b cs T) (hj : j + 3 ≤ cs.size) (k n : Int) (t : ByteArray) : (Instr.storeAt 35 (.pointer (some ⟨b, j, none⟩)) (.agg #[.int .i64 k, .int .i64 n, .string t])).run Try.prog W = .ok () (W.setCells b j [.int .i64 k, .int .i64 n, .string t]) := by
  simp only [Instr.storeAt, Instr.sureAddr, Sem.run_bind, Sem.run_pure, Result.andThen_ok]
  exact run_storeVar_mid W b j 35 #[.int .i64 k, .int .i64 n, .string t] (fun i hi => ⟨by rw [hX.cell, Array.getElem?_eq_getElem (by simp at hi; omega)]; rfl, hX.free _⟩) (by kernel_rfl) (va_oneC k n t)
set_option maxRecDepth 100000 in
set_option maxHeartbeats 4000000 in
theorem freshWr_any (x : Wr) (w : World) (h1 : x.ky.size ≤ 1000000) (h2 : x.sa.size ≤ 1000000) (h3 : x.sb.size ≤ 1000000) : Calls Try.prog 74 #[.agg x.cells] w fun e w' => e = .returned (.agg x.cells) ∧ Below w.heap.size w w' := by
  have hX0 := blk_new w x.cells 39
  replace hX0 := hX0.alloc (.cells (wrI 0 0 0 ⟨#[]⟩ 0 0 ⟨#[]⟩ 0 0 ⟨#[]⟩) 39)
  have hz1 : (w.alloc (.cells x.cells 39)).heap.size = w.heap.size + 1 := by simp
  have hX1 := blk_new (w.alloc (.cells x.cells 39)) (wrI 0 0 0 ⟨#[]⟩ 0 0 ⟨#[]⟩ 0 0 ⟨#[]⟩) 39
  rw [hz1] at hX1
  have hB := ba (b0 w (.cells x.cells 39)) (.cells (wrI 0 0 0 ⟨#[]⟩ 0 0 ⟨#[]⟩ 0 0 ⟨#[]⟩) 39)
  have hzz : ((w.alloc (.cells x.cells 39)).alloc (.cells (wrI 0 0 0 ⟨#[]⟩ 0 0 ⟨#[]⟩ 0 0 ⟨#[]⟩) 39)).heap.size = w.heap.size + 2 := by simp
  go_enter Try.func74, Try.ntmps74
  go_upto_region 1 with fail
  generalize ((w.alloc (.cells x.cells 39)).alloc (.cells (wrI 0 0 0 ⟨#[]⟩ 0 0 ⟨#[]⟩ 0 0 ⟨#[]⟩) 39)) = W0 at hX0 hX1 hB hzz ⊢
  (try simp only [hz1])
  clear hz1
  generalize hb : w.heap.size = b at hX0 hX1 hB hzz ⊢
  have f1 : ∀ W, Kp W0 W → (Instr.fieldAt 39 (.pointer (some ⟨b, 0, none⟩)) 1).run Try.prog W = .ok (.pointer (some ⟨b, 2, none⟩)) W := fun W _ => wfdO W b
  have f2 : ∀ W, Kp W0 W → (Instr.fieldAt 37 (.pointer (some ⟨b, 2, none⟩)) 1).run Try.prog W = .ok (.pointer (some ⟨b, 3, none⟩)) W := fun W _ => ofd1 W b
  have l1 : ∀ W, Kp W0 W → (Instr.loadAt 9 (.pointer (some ⟨b, 3, none⟩))).run Try.prog W = .ok (.string x.ky) W := fun W h => ld_str ((h.blk hX0).cell 3)
  have c1 : ∀ W, Kp W0 W → _ := kp_c fun W _ => sclone_any x.ky W h1
  refine wp_region_lit ?_
  refine fs_start (Kp W0) (Kp.refl _) ?_
  generalize ha : Act.mk _ _ = a0
  have hn : a0.tmps.size = 22 := by rw [← ha]; kernel_rfl
  have h1 : (fr a0 []).eval (.tmp 1) = .pointer (some ⟨b, 0, none⟩) := by rw [← ha]; kernel_rfl
  refine fs_know hn rfl h1 ?_
  clear h1
  refine s_fd hn ?_
  refine s_fd hn ?_
  refine s_ld hn ?_
  refine s_callt hn ?_ (he := en_strings_Clone)
  refine s_fd hn ?_
  refine s_fd hn ?_
  refine fs_fl fun w3 hS => ?_
  have hX03 := hS.blk hX0
  have hX13 := hS.blk hX1
  have hB3 : Below b w w3 := hB.trans (hS.below.mono (by omega))
  refine g_stt hX03 (st_str (j := 3) hX03 (by show 3 < 10; omega) x.ky) ?_
  intro w4 ho hX4
  refine fl_end ?_
  clear hn
  subst ha
  dsimp only [fr, cnd, Act.put, cond_true]
  simp only [List.setIfInBounds_toArray, List.set_cons_zero, List.set_cons_succ]
  have hX4 : Blk w4 b x.cells 39 := hX4
  have hX14 := hX13.only ho (by omega)
  have hB4 := hB3.trans (ho.below (B := b) (Nat.le_refl _))
  clear f1 f2 l1 c1 hX0 hX1 hB hS hX03 hX13 hB3 ho
  have hsz4 : b + 1 < w4.heap.size := hX14.lt
  have f1 : ∀ W, (fun W => Blk W b x.cells 39 ∧ Blk W (b + 1) (wrI 0 0 0 ⟨#[]⟩ 0 0 ⟨#[]⟩ 0 0 ⟨#[]⟩) 39 ∧ Below b w W) W → (Instr.fieldAt 39 (.pointer (some ⟨b, 0, none⟩)) 1).run Try.prog W = .ok (.pointer (some ⟨b, 2, none⟩)) W := fun W _ => wfdO W b
  have f2 : ∀ W, (fun W => Blk W b x.cells 39 ∧ Blk W (b + 1) (wrI 0 0 0 ⟨#[]⟩ 0 0 ⟨#[]⟩ 0 0 ⟨#[]⟩) 39 ∧ Below b w W) W → (Instr.fieldAt 37 (.pointer (some ⟨b, 2, none⟩)) 2).run Try.prog W = .ok (.pointer (some ⟨b, 4, none⟩)) W := fun W _ => ofd2 W b
  have f3 : ∀ W, (fun W => Blk W b x.cells 39 ∧ Blk W (b + 1) (wrI 0 0 0 ⟨#[]⟩ 0 0 ⟨#[]⟩ 0 0 ⟨#[]⟩) 39 ∧ Below b w W) W → (Instr.fieldAt 37 (.pointer (some ⟨b, 2, none⟩)) 3).run Try.prog W = .ok (.pointer (some ⟨b, 7, none⟩)) W := fun W _ => ofd3 W b
  have l1 : ∀ W, (fun W => Blk W b x.cells 39 ∧ Blk W (b + 1) (wrI 0 0 0 ⟨#[]⟩ 0 0 ⟨#[]⟩ 0 0 ⟨#[]⟩) 39 ∧ Below b w W) W → (Instr.loadAt 35 (.pointer (some ⟨b, 4, none⟩))).run Try.prog W = .ok (.agg #[.int .i64 x.ka, .int .i64 x.na, .string x.sa]) W := fun W h => vld (h.1.cell 4) (h.1.cell 5) (h.1.cell 6)
  have l2 : ∀ W, (fun W => Blk W b x.cells 39 ∧ Blk W (b + 1) (wrI 0 0 0 ⟨#[]⟩ 0 0 ⟨#[]⟩ 0 0 ⟨#[]⟩) 39 ∧ Below b w W) W → (Instr.loadAt 35 (.pointer (some ⟨b, 7, none⟩))).run Try.prog W = .ok (.agg #[.int .i64 x.kb, .int .i64 x.nb, .string x.sb]) W := fun W h => vld (h.1.cell 7) (h.1.cell 8) (h.1.cell 9)
  have hcc : ∀ (v : Array Value), (∀ W, Calls Try.prog 109 #[.agg v] W fun e w' => e = .returned (.agg v) ∧ Below W.heap.size W w') → ∀ W, (fun W => Blk W b x.cells 39 ∧ Blk W (b + 1) (wrI 0 0 0 ⟨#[]⟩ 0 0 ⟨#[]⟩ 0 0 ⟨#[]⟩) 39 ∧ Below b w W) W → Calls Try.prog 109 #[.agg v] W fun e w' => e = .returned (.agg v) ∧ (fun W => Blk W b x.cells 39 ∧ Blk W (b + 1) (wrI 0 0 0 ⟨#[]⟩ 0 0 ⟨#[]⟩ 0 0 ⟨#[]⟩) 39 ∧ Below b w W) w' := fun v hc W h => (hc W).mono fun _ _ ⟨he, hb2⟩ => ⟨he, h.1.keep hb2, h.2.1.keep hb2, h.2.2.trans (hb2.mono (by have := h.1.lt; omega))⟩
  have c1 := hcc _ (fun W => freshValue_any x.ka x.na x.sa W h2)
  have c2 := hcc _ (fun W => freshValue_any x.kb x.nb x.sb W h3)
  go_upto_region 2 with fail
  refine fh_start (S := fun W => Blk W b x.cells 39 ∧ Blk W (b + 1) (wrI 0 0 0 ⟨#[]⟩ 0 0 ⟨#[]⟩ 0 0 ⟨#[]⟩) 39 ∧ Below b w W) (by kernel_rfl) (⟨hX4, hX14, hB4.drew⟩) (fun hS => ?_)
  generalize ha : Act.mk _ _ = a0
  have hn : a0.tmps.size = 22 := by rw [← ha]; kernel_rfl
  have h1 : (fr a0 []).eval (.tmp 1) = .pointer (some ⟨b, 0, none⟩) := by rw [← ha]; kernel_rfl
  refine fh_know hn rfl h1 ?_
  clear h1
  refine h_fd 0 hn hS ?_
  refine h_fd 1 hn hS ?_
  refine h_ld 2 hn hS ?_
  refine h_fd 4 hn hS ?_
  refine h_fd 5 hn hS ?_
  refine h_ld 6 hn hS ?_
  refine h_yv 3 hn hS (fun hk => yv_call (fun w => call1_is en_spinney_fresh_Value _ _ _ _ _ _ _ _ _ (lk_at hk (i := 11) rfl (fun _ => rfl) rfl) rfl) c1) ?_
  intro w5 hS5
  clear hS
  have hS := hS5
  refine h_fd 8 hn hS ?_
  refine h_fd 9 hn hS ?_
  refine h_yv 7 hn hS5 (fun hk => yv_call (fun w => call1_is en_spinney_fresh_Value _ _ _ _ _ _ _ _ _ (lk_at hk (i := 15) rfl (fun _ => rfl) rfl) rfl) c2) ?_
  intro w6 hS6
  have hz3 : 4 + 3 ≤ x.cells.size := by show 7 ≤ 10; omega
  have hz7 : 7 + 3 ≤ x.cells.size := by show 10 ≤ 10; omega
  have hZ : ∀ W, (fun W => Blk W b x.cells 39 ∧ Blk W (b + 1) (wrI 0 0 0 ⟨#[]⟩ 0 0 ⟨#[]⟩ 0 0 ⟨#[]⟩) 39 ∧ Below b w W) W → ∀ j vs, setL x.cells j vs = x.cells → (fun W => Blk W b x.cells 39 ∧ Blk W (b + 1) (wrI 0 0 0 ⟨#[]⟩ 0 0 ⟨#[]⟩ 0 0 ⟨#[]⟩) 39 ∧ Below b w W) (W.setCells b j vs) := fun W h j vs e => by
    have ho := only_cells b vs j W
    have hc := Blk.cells vs j W _ h.1
    rw [e] at hc
    exact ⟨hc, h.2.1.only ho (by omega), h.2.2.trans (ho.below (Nat.le_refl _))⟩
  refine h_st 10 (st_va hS6.1 hz3 x.ka x.na x.sa) (hZ _ hS6 4 _ rfl) ?_
  have hS7 := hZ _ hS6 4 [.int .i64 x.ka, .int .i64 x.na, .string x.sa] rfl
  generalize w6.setCells b 4 [.int .i64 x.ka, .int .i64 x.na, .string x.sa] = w7 at hS7 ⊢
  clear hS
  have hS := hS7
  refine h_fd 11 hn hS ?_
  refine h_fd 12 hn hS ?_
  refine h_st 13 (st_va hS7.1 hz7 x.kb x.nb x.sb) (hZ _ hS7 7 _ rfl) ?_
  have hS8 := hZ _ hS7 7 [.int .i64 x.kb, .int .i64 x.nb, .string x.sb] rfl
  generalize w7.setCells b 7 [.int .i64 x.kb, .int .i64 x.nb, .string x.sb] = w8 at hS8 ⊢
  refine fh_end (by kernel_rfl) ?_
  clear hn
  subst ha
  dsimp only [fr, cnd, Act.put, cond_true]
  simp only [List.setIfInBounds_toArray, List.set_cons_zero, List.set_cons_succ]
  clear hZ f1 f2 f3 l1 l2 c1 c2 hcc hS7 hS6 hS5 hS hX4 hX14 hB4
  obtain ⟨hX5, hX15, hB5⟩ := hS8
  have l2 := wld_blk hX5
  go_upto_region 3 with fail
  refine wp_region_lit ?_
  refine fl_start ?_
  generalize ha : Act.mk _ _ = a0
  have hn : a0.tmps.size = 22 := by rw [← ha]; kernel_rfl
  have h1 : (fr a0 []).eval (.tmp 1) = .pointer (some ⟨b, 0, none⟩) := by rw [← ha]; kernel_rfl
  refine fl_know hn rfl h1 ?_
  clear h1
  have h2 : (fr a0 [(1, true, .pointer (some ⟨b, 0, none⟩))]).eval (.tmp 2) = .pointer (some ⟨b + 1, 0, none⟩) := by rw [← ha]; kernel_rfl
  refine fl_know hn rfl h2 ?_
  clear h2
  refine g_ld hn ?_
  refine g_str hX15 ?_ (hs := by rfl) (h1 := wr_oneC x)
  intro w9 ho9 hX9
  refine fl_end ?_
  clear hn
  subst ha
  dsimp only [fr, cnd, Act.put, cond_true]
  simp only [List.setIfInBounds_toArray, List.set_cons_zero, List.set_cons_succ]
  have hB9 := hB5.trans (ho9.below (B := b) (by omega))
  clear l2 hX5 hX15 ho9 hB5
  go_wp2_with fail
  refine bodyPost_ret (results_cell_row Try.results74 _ _ (b + 1) 39 x.cells (0, 0) _ (by rfl) hX9 Try.underlying39 (by rfl) (by kernel_rfl)) rfl ?_
  exact ⟨rfl, by first | exact hB9 | (rw [hb]; exact hB9)⟩
end Go.Proofs.Ytkfhkfddhijkcaa

namespace Go.Proofs.Ytkfhkfddhijkcaa
open Go.RowKit

theorem en_spinney_fresh_Write : ∀ args w, (callFunc 74 args).run Try.prog w = .ok (.enter 74 args) w := enters_of Try.func74 (by kernel_rfl) rfl

/-- The writes that aren't old. -/
def notOld (l : List Int) (x : Wr) : Bool := askI l x.dev x.seq != 6
def leftL (l : List Int) (ws : List Wr) : List Wr := ws.filter (notOld l)
theorem leftL_next (l : List Int) {ws : List Wr} {k : Nat} {x : Wr} (hx : ws[k]? = some x) : leftL l (ws.take (k + 1)) = bif notOld l x then leftL l (ws.take k) ++ [x] else leftL l (ws.take k) := by
  unfold leftL
  rw [List.take_add_one, hx, List.filter_append]
  cases h : notOld l x with
  | true => simp [h]
  | false => simp [h]
theorem leftL_len (l : List Int) (ws : List Wr) : (leftL l ws).length ≤ ws.length := List.length_filter_le ..
/-- A row of the call's own, answered. -/
def OwnR (ks : List Wr) (w : World) (e : Ending) (w' : World) : Prop := ∃ A n c, e = .returned (.slice A n c) ∧ OwnX tWr 10 w.heap.size w' A n c (ks.map Wr.cells) ∧ Below w.heap.size w w'
theorem bs1W (x : Wr) (w : World) : (Instr.buildSlice 30 1 #[(0, .agg x.cells)]).run Try.prog w = .ok (.slice (some ⟨w.heap.size, 0, none⟩) 1 1) (w.alloc (.cells x.cells tWr)) := by
  obtain ⟨i0, hi0, hz0, hs0, hb0⟩ := info_parts wr_infoM
  obtain ⟨dev, seq, K, ky, ka, na, sa, kb, nb, sb⟩ := x
  refine run_buildSlice w 30 tWr 1 _ _ i0 _ Try.underlying30 hi0 hz0 (by rw [hs0]; decide) (by rw [hs0]; decide) ?_
  rw [hs0]
  kernel_rfl
theorem g_bs1 {l : List Oper} {Q : Exit → Act → World → Prop} {rest : List Oper} {a0 : Act} {L : List (Nat × Bool × Value)} {w : World} {i d n : Nat} {x : Wr} {ty : TypeId} {p : String} {af : Array Edge} (hn : a0.tmps.size = n)
    (h : ∀ g w2, g = w.heap.size → Blk w2 g x.cells tWr → Below w.heap.size w w2 → FL Try.prog l Q rest a0 ((d, true, .slice (some ⟨g, 0, none⟩) 1 1) :: L) w2) (hi : lk L i = some (true, .agg x.cells) := by rfl) (hd : Nat.blt d n = true := by rfl) : FL Try.prog l Q (⟨some d, .buildSlice 30 1 #[(0, .tmp i)], ty, p, af, none⟩ :: rest) a0 L w :=
  g_w hn (w2 := w.alloc (.cells x.cells tWr)) (v := .slice (some ⟨w.heap.size, 0, none⟩) 1 1) (fun hk => by
    have e : (#[(0, Operand.tmp i)] : Array (Nat × Operand)).map (fun y => (y.fst, (fr a0 L).eval y.snd)) = #[(0, .agg x.cells)] := by simp only [List.map_toArray, List.map_cons, List.map_nil, lk_at hk hi (fun _ => rfl) rfl]
    have h2 := bs1W x w
    rw [← e] at h2
    unfold execOp
    dsimp only
    rw [Sem.run_bind]
    refine (congrArg (fun r => Result.andThen r _) h2).trans ?_
    rfl) (h _ _ rfl (blk_new w x.cells tWr) (b0 w _)) rfl hd rfl
theorem blk_rdw {W : World} {g : Nat} {x : Wr} {t : TypeId} (h : Blk W g x.cells t) : RdW (g + 1) W (some ⟨g, 0, none⟩) [x] := fun k y hy => by
  match k, hy with
  | 0, hy =>
    have e : x = y := by simpa using hy
    subst e
    refine ⟨_, rfl, Nat.lt_succ_self _, fun j v hv => ?_⟩
    rw [Nat.zero_mul, Nat.zero_add, zeroX_at, h.cell j]
    exact hv
set_option maxRecDepth 100000 in
set_option maxHeartbeats 4000000 in
theorem left_any {C : Nat} (l : List Int) (A : Option Addr) (n c : Nat) (ws : List Wr) (w : World) (hl : Sml l) (hn0 : ws.length = n) (hr : RdW C w A ws) (hC : C ≤ w.heap.size) (hm : n ≤ 1000000) (hf : ∀ x, x ∈ ws → x.ky.size ≤ 1000000 ∧ x.sa.size ≤ 1000000 ∧ x.sb.size ≤ 1000000) : Calls Try.prog 70 #[.agg (liA l), .slice A n c] w (OwnR (leftL l ws) w) := by
  have HN := Lib.hid hn0
  have HR := Lib.hid (fun W hb => hr.keep (W' := W) hb hC)
  have HF := Lib.hid hf
  clear hn0 hr hf
  have hX0 := blk_new w (liA l) 29
  have hB := b0 w (.cells (liA l) 29)
  have hzz : (w.alloc (.cells (liA l) 29)).heap.size = w.heap.size + 1 := by simp
  go_enter Try.func70, Try.ntmps70
  go_upto_region 1 with fail
  generalize (w.alloc (.cells (liA l) 29)) = W0 at hX0 hB hzz ⊢
  generalize hb : w.heap.size = b at hX0 hB hzz ⊢
  have hO0 := OwnX.nil tWr 10 (b + 1) W0
  go_wp2_with fail
  go_loopw [5, 7, 10] (fun u5 _ i wr => ∃ (k : Nat) (A5 : Option Addr) (n5 c5 : Nat), k ≤ n ∧ i = .int .i64 k ∧ u5 = .slice A5 n5 c5 ∧ OwnX tWr 10 (b + 1) wr A5 n5 c5 ((leftL l (ws.take k)).map Wr.cells) ∧ Blk wr b (liA l) 29 ∧ Below b w wr) (fun _ _ i _ => n - (intOf i).toNat)
  case atStart => exact ⟨0, none, 0, 0, Nat.zero_le _, rfl, rfl, by rw [List.take_zero]; exact hO0, hX0, hB⟩
  case round =>
    clear hX0 hB hO0
    obtain ⟨k, A5, n5, c5, hk, rfl, rfl, hO, hX0, hB⟩ := hrel
    by_cases hlt : k < n
    · obtain ⟨x, hx⟩ : ∃ x, ws[k]? = some x := ⟨_, List.getElem?_eq_getElem (show k < ws.length by have := HN.out; omega)⟩
      obtain ⟨ad, rfl, hadb, hc⟩ := HR.out wr (by rw [hb]; exact hB) k x hx
      have HX := Lib.hid (leftL_next l hx)
      have hxf := HF.out x (List.mem_of_getElem? hx)
      clear hx
      have i2 : (k : Int) < (n : Int) := by omega
      have ix := wix wr ad n c k hlt
      have ld := wld hc
      go_upto_region 4 with fail
      refine wp_region_lit ?_
      refine fl_start ?_
      generalize ha : Act.mk _ _ = a0
      have hn : a0.tmps.size = 26 := by rw [← ha]; kernel_rfl
      have h8 : (fr a0 []).eval (.tmp 8) = .slice (some ad) n c := by rw [← ha]; kernel_rfl
      refine fl_know hn rfl h8 ?_
      clear h8
      have h10 : (fr a0 [(8, true, .slice (some ad) n c)]).eval (.tmp 10) = .int .i64 (k : Int) := by rw [← ha]; kernel_rfl
      refine fl_know hn rfl h10 ?_
      clear h10
      refine g_ix hn ?_
      refine g_ld hn ?_
      refine al_row hn (alW wr) ?_
      intro g w2 hg hY hB2
      refine g_str hY ?_ (h1 := wr_oneC x)
      intro w3 ho hY3
      refine fl_end ?_
      clear hn
      subst ha
      dsimp only [fr, cnd, Act.put, cond_true]
      simp only [List.setIfInBounds_toArray, List.set_cons_zero, List.set_cons_succ]
      have hW3 : Below wr.heap.size wr w3 := hB2.trans (ho.below (by omega))
      have hX03 := hX0.keep hW3
      have hO3 := hO.keep hW3
      have hB3 : Below b w w3 := hB.trans (hW3.mono (by have := hX0.lt; omega))
      have hb3 : b + 1 ≤ w3.heap.size := hX03.lt
      clear ix ld hc hY hX0 hB hB2 ho hO hW3
      have l1 : ∀ W, Kp w3 W → (Instr.loadAt 29 (.pointer (some ⟨b, 0, none⟩))).run Try.prog W = .ok (.agg (liA l)) W := fun W h => ld_liL (h.blk hX03) hl.1
      have f0 : ∀ W, Kp w3 W → (Instr.fieldAt 39 (.pointer (some ⟨g, 0, none⟩)) 0).run Try.prog W = .ok (.pointer (some ⟨g, 0, none⟩)) W := fun W _ => wfd0 W ⟨g, 0, none⟩
      have l0 : ∀ W, Kp w3 W → (Instr.loadAt 32 (.pointer (some ⟨g, 0, none⟩))).run Try.prog W = .ok (.agg #[.int .i64 x.dev, .int .i64 x.seq]) W := fun W h => ild ((h.blk hY3).cell 0) ((h.blk hY3).cell 1)
      have c1 : ∀ W, Kp w3 W → _ := kp_c fun W _ => ask_any l x.dev x.seq W hl
      go_upto_region 5 with fail
      refine wp_region_lit ?_
      refine fs_start (Kp w3) (Kp.refl _) ?_
      generalize ha : Act.mk _ _ = a0
      have hn : a0.tmps.size = 26 := by rw [← ha]; kernel_rfl
      have h2 : (fr a0 []).eval (.tmp 2) = .pointer (some ⟨b, 0, none⟩) := by rw [← ha]; kernel_rfl
      refine fs_know hn rfl h2 ?_
      clear h2
      have h7 : (fr a0 [(2, true, .pointer (some ⟨b, 0, none⟩))]).eval (.tmp 7) = .pointer (some ⟨g, 0, none⟩) := by rw [← ha]; kernel_rfl
      refine fs_know hn rfl h7 ?_
      clear h7
      refine s_ld hn ?_
      refine s_fd hn ?_
      refine s_ld hn ?_
      refine s_calltt hn ?_ (he := en_spinney_roster_Ask)
      refine s_bc hn ?_ (hx := fun W _ => er_neq _ _ _ W)
      refine fs_end (fun w4 hS => ?_)
      clear hn
      subst ha
      dsimp only [fr, cnd, Act.put, cond_true]
      simp only [List.setIfInBounds_toArray, List.set_cons_zero, List.set_cons_succ]
      have hX04 := hS.blk hX03
      have hY4 := hS.blk hY3
      have hO4 := hO3.keep hS
      have hB4 : Below b w w4 := hB3.trans (hS.below.mono (by omega))
      have hb4 : b + 1 ≤ w4.heap.size := hX04.lt
      clear l1 f0 l0 c1 hX03 hY3 hO3 hB3 hS
      have HX2 : Hid (leftL l (ws.take (k + 1)) = bif askI l x.dev x.seq != 6 then leftL l (ws.take k) ++ [x] else leftL l (ws.take k)) := HX.out
      clear HX
      cases hd : askI l x.dev x.seq != 6 with
      | false =>
        rw [hd] at HX2
        have HX3 : Hid (leftL l (ws.take (k + 1)) = leftL l (ws.take k)) := HX2.out
        clear hd HX2 hY4
        go_wp2_with fail
        go_roundw
        case rel => exact ⟨k + 1, A5, n5, c5, by omega, by go_num, by first | rfl | trivial, by rw [HX3.out]; exact hO4, hX04, hB4⟩
        case measure => simp [intOf]; omega
      | true =>
        rw [hd] at HX2
        have HX3 : Hid (leftL l (ws.take (k + 1)) = leftL l (ws.take k) ++ [x]) := HX2.out
        clear hd HX2
        have hn5 : n5 ≤ k := by
          have h := hO4.len
          rw [List.length_map] at h
          have := leftL_len l (ws.take k)
          rw [List.length_take] at this
          omega
        have lY := wld_blk hY4
        have cF := freshWr_any x w4 hxf.1 hxf.2.1 hxf.2.2
        go_upto_region 6 with fail
        refine wp_region_lit ?_
        refine fl_start ?_
        generalize ha : Act.mk _ _ = a0
        have hn : a0.tmps.size = 26 := by rw [← ha]; kernel_rfl
        have h5 : (fr a0 []).eval (.tmp 5) = .slice A5 n5 c5 := by rw [← ha]; kernel_rfl
        refine fl_know hn rfl h5 ?_
        clear h5
        have h7 : (fr a0 [(5, true, .slice A5 n5 c5)]).eval (.tmp 7) = .pointer (some ⟨g, 0, none⟩) := by rw [← ha]; kernel_rfl
        refine fl_know hn rfl h7 ?_
        clear h7
        refine g_mv hn ?_
        refine g_ld hn ?_
        refine g_c1x en_spinney_fresh_Write hn (R := fun v w2 => v = .agg x.cells ∧ Below w4.heap.size w4 w2) (cF.mono fun _ _ ⟨he, hw⟩ => ⟨_, he, rfl, hw⟩) ?_
        rintro v w5 ⟨rfl, hB5⟩
        refine g_bs1 hn ?_
        intro g6 w6 hg6 hY6 hB6
        have hW6 : Below w4.heap.size w4 w6 := hB5.trans (hB6.mono hB5.size)
        have hO6 := hO4.keep hW6
        refine g_apW (m := 1) (n := n5) (base := b + 1) hn hO6 (blk_rdw hY6) rfl (by omega) (by have := hW6.size; omega) (.inr (by omega)) ?_
        rintro v7 w7 ⟨A7, c7, rfl, hO7, hB7, _⟩
        refine g_as hn ?_
        refine fl_end ?_
        clear hn
        subst ha
        dsimp only [fr, cnd, Act.put, cond_true]
        simp only [List.setIfInBounds_toArray, List.set_cons_zero, List.set_cons_succ]
        have hX07 := (hX04.keep hW6).keep' hB7 (by omega)
        have hB7' : Below b w w7 := (hB4.trans (hW6.mono (by omega))).trans (hB7.mono (by omega))
        rw [← HX3.out] at hO7
        clear lY cF hX04 hY4 hO4 hB4 hB5 hY6 hB6 hW6 hO6 hB7
        go_wp2_with fail
        go_roundw
        case rel => exact ⟨k + 1, A7, n5 + 1, c7, by omega, by go_num, by first | rfl | trivial, hO7, hX07, hB7'⟩
        case measure => simp [intOf]; omega
    · have e : k = n := by omega
      subst e
      rw [List.take_of_length_le (by have := HN.out; omega)] at hO
      have hO2 := hO.less (show b ≤ b + 1 by omega)
      clear hO
      go_wp2_with fail
      go_ret
      exact ⟨A5, n5, c5, rfl, by first | exact hO2 | (rw [hb]; exact hO2), by first | exact hB | (rw [hb]; exact hB)⟩
/-! The document's. -/
set_option maxRecDepth 100000 in
set_option maxHeartbeats 4000000 in
theorem refLeft_any {C : Nat} (l : List Int) (A : Option Addr) (n c : Nat) (ws : List Wr) (w : World) (hl : Sml l) (hn0 : ws.length = n) (hr : RdW C w A ws) (hC : C ≤ w.heap.size) (hm : n ≤ 1000000) (hf : ∀ x, x ∈ ws → nodeB x.dev = true ∧ -1000 ≤ x.seq ∧ x.seq ≤ 1000) : Calls Try.prog 23 #[.agg (liA l), .slice A n c] w (OwnR (leftL l ws) w) := by
  have HN := Lib.hid hn0
  have HR := Lib.hid (fun W hb => hr.keep (W' := W) hb hC)
  have HF := Lib.hid hf
  clear hn0 hr hf
  have hX0 := blk_new w (liA l) 28
  have hB := b0 w (.cells (liA l) 28)
  have hzz : (w.alloc (.cells (liA l) 28)).heap.size = w.heap.size + 1 := by simp
  go_enter Try.func23, Try.ntmps23
  go_upto_region 1 with fail
  generalize (w.alloc (.cells (liA l) 28)) = W0 at hX0 hB hzz ⊢
  generalize hb : w.heap.size = b at hX0 hB hzz ⊢
  have hO0 := OwnX.nil tWr 10 (b + 1) W0
  go_wp2_with fail
  go_loopw [5, 6, 9] (fun u5 _ i wr => ∃ (k : Nat) (A5 : Option Addr) (n5 c5 : Nat), k ≤ n ∧ i = .int .i64 k ∧ u5 = .slice A5 n5 c5 ∧ OwnX tWr 10 (b + 1) wr A5 n5 c5 ((leftL l (ws.take k)).map Wr.cells) ∧ Blk wr b (liA l) 28 ∧ Below b w wr) (fun _ _ i _ => n - (intOf i).toNat)
  case atStart => exact ⟨0, none, 0, 0, Nat.zero_le _, rfl, rfl, by rw [List.take_zero]; exact hO0, hX0, hB⟩
  case round =>
    clear hX0 hB hO0
    obtain ⟨k, A5, n5, c5, hk, rfl, rfl, hO, hX0, hB⟩ := hrel
    by_cases hlt : k < n
    · obtain ⟨x, hx⟩ : ∃ x, ws[k]? = some x := ⟨_, List.getElem?_eq_getElem (show k < ws.length by have := HN.out; omega)⟩
      obtain ⟨ad, rfl, hadb, hc⟩ := HR.out wr (by rw [hb]; exact hB) k x hx
      have HX := Lib.hid (leftL_next l hx)
      obtain ⟨hnd, hq1, hq2⟩ := HF.out x (List.mem_of_getElem? hx)
      obtain ⟨dn, hdn, ed⟩ := nodeB_nat hnd
      clear hx hnd
      have i2 : (k : Int) < (n : Int) := by omega
      have hb3 : b + 1 ≤ wr.heap.size := hX0.lt
      have hadl : (ad.add (k * 10)).block < wr.heap.size := World.block_lt_of_cell? wr _ (hc 0 _ rfl)
      rw [add_block] at hadl
      have hcW : ∀ W, Kp wr W → ∀ j v, x.cells[j]? = some v → W.cell? (ad.add (k * 10 + j)) = some v := fun W h j v hv => (h.below.cell (by rw [add_block]; exact hadl)).trans (hc j v hv)
      have ix : ∀ W, Kp wr W → _ := fun W _ => wix W ad n c k hlt
      have l1 : ∀ W, Kp wr W → (Instr.loadAt 28 (.pointer (some ⟨b, 0, none⟩))).run Try.prog W = .ok (.agg (liA l)) W := fun W h => ld_liA (h.blk hX0) hl.1
      have f0 : ∀ W, Kp wr W → _ := fun W _ => wfd0 W (ad.add (k * 10))
      have l0 : ∀ W, Kp wr W → (Instr.loadAt 32 (.pointer (some (ad.add (k * 10))))).run Try.prog W = .ok (.agg #[.int .i64 (dn : Int), .int .i64 x.seq]) W := fun W h => by
        obtain ⟨c0, c1, _⟩ := wr_cells (hcW W h)
        rw [ed] at c0
        exact ild c0 c1
      have c1 : ∀ W, Kp wr W → _ := kp_c fun W _ => refAsk_any l dn x.seq W hl hdn ⟨hq1, hq2⟩
      go_upto_region 5 with fail
      refine fc_start (S := Kp wr) (by kernel_rfl) (Kp.drew _) ?_
      generalize ha : Act.mk _ _ = a0
      have hn : a0.tmps.size = 29 := by rw [← ha]; kernel_rfl
      have h1 : (fr a0 []).eval (.tmp 1) = .slice (some ad) n c := by rw [← ha]; kernel_rfl
      refine fc_know hn rfl h1 ?_
      clear h1
      have h2 : (fr a0 [(1, true, .slice (some ad) n c)]).eval (.tmp 2) = .pointer (some ⟨b, 0, none⟩) := by rw [← ha]; kernel_rfl
      refine fc_know hn rfl h2 ?_
      clear h2
      have h6 : (fr a0 [(2, true, .pointer (some ⟨b, 0, none⟩)), (1, true, .slice (some ad) n c)]).eval (.tmp 6) = .int .i64 (k : Int) := by rw [← ha]; kernel_rfl
      refine fc_know hn rfl h6 ?_
      clear h6
      refine c_ld 0 hn ?_
      refine c_mv 1 hn ?_
      refine c_mv 2 hn ?_
      refine c_ix 3 hn ?_
      refine c_fd 4 hn ?_
      refine c_ld 5 hn ?_
      refine c_calltt 6 hn ?_ (he := en_spinney_spinneyref13_Ask)
      refine c_neq 7 hn ?_
      refine fc_end (fun w4 hS => ?_)
      clear hn
      subst ha
      dsimp only [fr, cnd, Act.put, cond_true]
      simp only [List.setIfInBounds_toArray, List.set_cons_zero, List.set_cons_succ]
      have hX04 := hS.blk hX0
      have hO4 := hO.keep hS
      have hB4 : Below b w w4 := hB.trans (hS.below.mono (by omega))
      have hb4 : b + 1 ≤ w4.heap.size := hX04.lt
      have ix4 := ix w4 hS
      have ld4 := wld (hcW w4 hS)
      clear ix l1 f0 l0 c1 hX0 hO hB hS hcW hc
      have HX2 : Hid (leftL l (ws.take (k + 1)) = bif askI l (dn : Int) x.seq != 6 then leftL l (ws.take k) ++ [x] else leftL l (ws.take k)) := by rw [← ed]; exact HX.out
      clear HX
      cases hd : askI l (dn : Int) x.seq != 6 with
      | false =>
        rw [hd] at HX2
        have HX3 : Hid (leftL l (ws.take (k + 1)) = leftL l (ws.take k)) := HX2.out
        clear hd HX2 ix4 ld4
        go_wp2_with fail
        go_roundw
        case rel => exact ⟨k + 1, A5, n5, c5, by omega, by go_num, by first | rfl | trivial, by rw [HX3.out]; exact hO4, hX04, hB4⟩
        case measure => simp [intOf]; omega
      | true =>
        rw [hd] at HX2
        have HX3 : Hid (leftL l (ws.take (k + 1)) = leftL l (ws.take k) ++ [x]) := HX2.out
        clear hd HX2
        have hn5 : n5 ≤ k := by
          have h := hO4.len
          rw [List.length_map] at h
          have := leftL_len l (ws.take k)
          rw [List.length_take] at this
          omega
        go_upto_region 6 with fail
        refine wp_region_lit ?_
        refine fl_start ?_
        generalize ha : Act.mk _ _ = a0
        have hn : a0.tmps.size = 29 := by rw [← ha]; kernel_rfl
        have h1 : (fr a0 []).eval (.tmp 1) = .slice (some ad) n c := by rw [← ha]; kernel_rfl
        refine fl_know hn rfl h1 ?_
        clear h1
        have h5 : (fr a0 [(1, true, .slice (some ad) n c)]).eval (.tmp 5) = .slice A5 n5 c5 := by rw [← ha]; kernel_rfl
        refine fl_know hn rfl h5 ?_
        clear h5
        have h6 : (fr a0 [(5, true, .slice A5 n5 c5), (1, true, .slice (some ad) n c)]).eval (.tmp 6) = .int .i64 (k : Int) := by rw [← ha]; kernel_rfl
        refine fl_know hn rfl h6 ?_
        clear h6
        refine g_mv hn ?_
        refine g_mv hn ?_
        refine g_mv hn ?_
        refine g_ix hn ?_
        refine g_ld hn ?_
        refine g_bs1 hn ?_
        intro g6 w6 hg6 hY6 hB6
        have hO6 := hO4.keep hB6
        refine g_apW (m := 1) (n := n5) (base := b + 1) hn hO6 (blk_rdw hY6) rfl (by omega) (by have := hB6.size; omega) (.inr (by omega)) ?_
        rintro v7 w7 ⟨A7, c7, rfl, hO7, hB7, _⟩
        refine g_as hn ?_
        refine fl_end ?_
        clear hn
        subst ha
        dsimp only [fr, cnd, Act.put, cond_true]
        simp only [List.setIfInBounds_toArray, List.set_cons_zero, List.set_cons_succ]
        have hX07 := (hX04.keep hB6).keep' hB7 (by omega)
        have hB7' : Below b w w7 := (hB4.trans (hB6.mono (by omega))).trans (hB7.mono (by omega))
        rw [← HX3.out] at hO7
        clear ix4 ld4 hX04 hO4 hB4 hY6 hB6 hO6 hB7
        go_wp2_with fail
        go_roundw
        case rel => exact ⟨k + 1, A7, n5 + 1, c7, by omega, by go_num, by first | rfl | trivial, hO7, hX07, hB7'⟩
        case measure => simp [intOf]; omega
    · have e : k = n := by omega
      subst e
      rw [List.take_of_length_le (by have := HN.out; omega)] at hO
      have hO2 := hO.less (show b ≤ b + 1 by omega)
      clear hO
      go_wp2_with fail
      go_ret
      exact ⟨A5, n5, c5, rfl, by first | exact hO2 | (rw [hb]; exact hO2), by first | exact hB | (rw [hb]; exact hB)⟩
end Go.Proofs.Ytkfhkfddhijkcaa

namespace Go.Proofs.Ytkfhkfddhijkcaa

theorem xor_lt {a b : Nat} (h : a < 4294967296) (k : b < 4294967296) : a ^^^ b < 4294967296 := Nat.xor_lt_two_pow (n := 32) h k
/-- One bit. -/
def crcStep (c : Nat) : Nat := if c % 2 = 1 then (c / 2) ^^^ 2197175160 else c / 2
theorem crcStep_lt {c : Nat} (h : c < 4294967296) : crcStep c < 4294967296 := by
  unfold crcStep
  split
  · exact xor_lt (by omega) (by omega)
  · omega
theorem top_set {d : Nat} (h : d < 2147483648) : 2147483648 ≤ d ^^^ 2197175160 := by
  have h1 : (d ^^^ 2197175160).testBit 31 = true := by
    rw [Nat.testBit_xor, Nat.testBit_lt_two_pow (show d < 2 ^ 31 from h)]
    decide
  refine Nat.le_of_not_lt fun h2 => ?_
  have h3 := Nat.testBit_lt_two_pow (i := 31) (show d ^^^ 2197175160 < 2 ^ 31 from h2)
  rw [h1] at h3
  cases h3
theorem xor_cancel_right {a b c : Nat} (h : a ^^^ c = b ^^^ c) : a = b := by
  have := congrArg (· ^^^ c) h
  simpa [Nat.xor_assoc] using this
theorem xor_cancel_left {a b c : Nat} (h : c ^^^ a = c ^^^ b) : a = b := by
  rw [Nat.xor_comm c a, Nat.xor_comm c b] at h
  exact xor_cancel_right h
theorem crcStep_inj {c d : Nat} (hc : c < 4294967296) (hd : d < 4294967296) (h : crcStep c = crcStep d) : c = d := by
  unfold crcStep at h
  by_cases h1 : c % 2 = 1
  · rw [if_pos h1] at h
    by_cases h2 : d % 2 = 1
    · rw [if_pos h2] at h
      have := xor_cancel_right h
      omega
    · rw [if_neg h2] at h
      have := top_set (d := c / 2) (by omega)
      omega
  · rw [if_neg h1] at h
    by_cases h2 : d % 2 = 1
    · rw [if_pos h2] at h
      have := top_set (d := d / 2) (by omega)
      omega
    · rw [if_neg h2] at h
      omega
/-- So many bits. -/
def crcSteps : Nat → Nat → Nat
  | 0, c => c
  | k + 1, c => crcSteps k (crcStep c)
theorem crcSteps_succ : ∀ (k c : Nat), crcSteps (k + 1) c = crcStep (crcSteps k c)
  | 0, _ => rfl
  | k + 1, c => by
    show crcSteps (k + 1) (crcStep c) = _
    rw [crcSteps_succ k (crcStep c)]
    rfl
theorem crcSteps_lt : ∀ (k : Nat) {c : Nat}, c < 4294967296 → crcSteps k c < 4294967296
  | 0, _, h => h
  | k + 1, _, h => crcSteps_lt k (crcStep_lt h)
theorem crcSteps_inj : ∀ (k : Nat) {c d : Nat}, c < 4294967296 → d < 4294967296 → crcSteps k c = crcSteps k d → c = d
  | 0, _, _, _, _, h => h
  | k + 1, _, _, hc, hd, h => crcStep_inj hc hd (crcSteps_inj k (crcStep_lt hc) (crcStep_lt hd) h)
/-- One byte. -/
def crcByte (c : Nat) (b : UInt8) : Nat := crcSteps 8 (c ^^^ b.toNat)
theorem byte_lt (b : UInt8) : b.toNat < 4294967296 := Nat.lt_trans b.toNat_lt (by decide)
theorem crcByte_lt {c : Nat} (h : c < 4294967296) (b : UInt8) : crcByte c b < 4294967296 := crcSteps_lt 8 (xor_lt h (byte_lt b))
theorem crcByte_inj {c d : Nat} {b : UInt8} (hc : c < 4294967296) (hd : d < 4294967296) (h : crcByte c b = crcByte d b) : c = d :=
  xor_cancel_right (crcSteps_inj 8 (xor_lt hc (byte_lt b)) (xor_lt hd (byte_lt b)) h)
theorem crcByte_inj2 {c : Nat} {b b' : UInt8} (hc : c < 4294967296) (h : crcByte c b = crcByte c b') : b = b' :=
  UInt8.toNat_inj.1 (xor_cancel_left (crcSteps_inj 8 (xor_lt hc (byte_lt b)) (xor_lt hc (byte_lt b')) h))
/-- Where the bytes lead. -/
def crcTo (c : Nat) (l : List UInt8) : Nat := l.foldl crcByte c
theorem crcTo_snoc (c : Nat) (l : List UInt8) (b : UInt8) : crcTo c (l ++ [b]) = crcByte (crcTo c l) b := by simp [crcTo]
theorem crcTo_lt : ∀ (l : List UInt8) {c : Nat}, c < 4294967296 → crcTo c l < 4294967296
  | [], _, h => h
  | b :: t, _, h => crcTo_lt t (crcByte_lt h b)
theorem crcTo_inj : ∀ (l : List UInt8) {c d : Nat}, c < 4294967296 → d < 4294967296 → crcTo c l = crcTo d l → c = d
  | [], _, _, _, _, h => h
  | b :: t, _, _, hc, hd, h => crcByte_inj hc hd (crcTo_inj t (crcByte_lt hc b) (crcByte_lt hd b) h)
/-- The sum. -/
def crcL (l : List UInt8) : Nat := 4294967295 - crcTo 4294967295 l
theorem crcL_lt (l : List UInt8) : crcL l < 4294967296 := by unfold crcL; omega
/-- Two rows that differ in one byte have different sums. -/
theorem crcL_one {l r : List UInt8} {b b' : UInt8} (h : crcL (l ++ b :: r) = crcL (l ++ b' :: r)) : b = b' := by
  unfold crcL at h
  have h1 := crcTo_lt (l ++ b :: r) (c := 4294967295) (by decide)
  have h2 := crcTo_lt (l ++ b' :: r) (c := 4294967295) (by decide)
  have h3 : crcTo 4294967295 (l ++ b :: r) = crcTo 4294967295 (l ++ b' :: r) := by omega
  have e : ∀ x : UInt8, crcTo 4294967295 (l ++ x :: r) = crcTo (crcByte (crcTo 4294967295 l) x) r := fun x => by simp [crcTo]
  have hl := crcTo_lt l (c := 4294967295) (by decide)
  rw [e, e] at h3
  exact crcByte_inj2 hl (crcTo_inj r (crcByte_lt hl b) (crcByte_lt hl b') h3)
/-- Exclusive or, bit by bit from below. -/
theorem xor_bits (a b i : Nat) : (a ^^^ b) % 2 ^ (i + 1) = (a ^^^ b) % 2 ^ i + (if (a / 2 ^ i % 2 == 1) != (b / 2 ^ i % 2 == 1) then 2 ^ i else 0) := by
  have h1 : (a ^^^ b) % 2 ^ (i + 1) = (a ^^^ b) % 2 ^ i + 2 ^ i * ((a ^^^ b) / 2 ^ i % 2) := by
    rw [Nat.pow_succ, Nat.mod_mul]
  rw [h1]
  congr 1
  have ht : ((a ^^^ b).testBit i) = ((a.testBit i) != (b.testBit i)) := Nat.testBit_xor a b i
  rw [Nat.testBit_eq_decide_div_mod_eq, Nat.testBit_eq_decide_div_mod_eq, Nat.testBit_eq_decide_div_mod_eq] at ht
  have e : ∀ n : Nat, decide (n % 2 = 1) = (n % 2 == 1) := fun n => by rw [Bool.eq_iff_iff]; simp
  rw [e, e, e] at ht
  rw [← ht]
  have h2 : (a ^^^ b) / 2 ^ i % 2 = 0 ∨ (a ^^^ b) / 2 ^ i % 2 = 1 := by omega
  rcases h2 with h | h <;> simp [h]
end Go.Proofs.Ytkfhkfddhijkcaa

namespace Go.Proofs.Ytkfhkfddhijkcaa

def w64 : Nat := 18446744073709551616
def nxS (s : Nat) : Nat := (s + 11400714819323198485) % 18446744073709551616
def mixW (p m z : Nat) : Nat := (z ^^^ (z / p)) * m % 18446744073709551616
def lastW (z : Nat) : Nat := z ^^^ (z / 2147483648)
/-- The next number, of a state. -/
def nxV (s : Nat) : Nat := lastW (mixW 134217728 10723151780598845931 (mixW 1073741824 13787848793156543929 (nxS s)))
theorem nxS_lt (s : Nat) : nxS s < 18446744073709551616 := Nat.mod_lt _ (by decide)
theorem mixW_lt (p m z : Nat) : mixW p m z < 18446744073709551616 := Nat.mod_lt _ (by decide)
theorem xor64_lt {a b : Nat} (h : a < 18446744073709551616) (k : b < 18446744073709551616) : a ^^^ b < 18446744073709551616 := Nat.xor_lt_two_pow (n := 64) h k
theorem lastW_lt {z : Nat} (h : z < 18446744073709551616) : lastW z < 18446744073709551616 := xor64_lt h (Nat.lt_of_le_of_lt (Nat.div_le_self _ _) h)
theorem nxV_lt (s : Nat) : nxV s < 18446744073709551616 := lastW_lt (mixW_lt _ _ _)
/-- The state behind one below n; it. -/
def blS (s : Nat) (n : Int) : Nat := if n < 1 then s else nxS s
def blV (s : Nat) (n : Int) : Int := if n < 1 then 0 else ((nxV s % n.toNat : Nat) : Int)
theorem blS_lt {s : Nat} (h : s < 18446744073709551616) (n : Int) : blS s n < 18446744073709551616 := by
  unfold blS
  split
  · exact h
  · exact nxS_lt s
theorem blV_0 (s : Nat) {n : Int} (h : n < 1) : blV s n = 0 := by unfold blV; rw [if_pos h]
theorem blV_in (s : Nat) {n : Int} (h : 1 ≤ n) : 0 ≤ blV s n ∧ blV s n < n := by
  unfold blV
  rw [if_neg (by omega)]
  have := Nat.mod_lt (nxV s) (show 0 < n.toNat by omega)
  omega
def sumW (l : List Int) : Int := l.foldl (· + ·) 0
/-- The first index behind whose weight k is below the sum. -/
def findW (k : Int) (i : Nat) : List Int → Int
  | [] => -1
  | w :: r => if k - w < 0 then (i : Int) else findW (k - w) (i + 1) r
def WOk (l : List Int) : Prop := ∀ x, x ∈ l → 0 ≤ x ∧ x ≤ 1000
theorem sumW_foldl (l : List Int) : ∀ a : Int, l.foldl (· + ·) a = a + sumW l := by
  induction l with
  | nil => intro a; simp [sumW]
  | cons x r ih => intro a; unfold sumW; simp only [List.foldl_cons]; rw [ih, ih (0 + x)]; omega
theorem sumW_cons (x : Int) (l : List Int) : sumW (x :: l) = x + sumW l := by
  show (x :: l).foldl (· + ·) 0 = _
  rw [List.foldl_cons, sumW_foldl]; omega
theorem sumW_snoc (x : Int) (l : List Int) : sumW (l ++ [x]) = sumW l + x := by
  show (l ++ [x]).foldl (· + ·) 0 = _
  rw [List.foldl_append]; rfl
theorem sumW_le {l : List Int} (h : WOk l) : 0 ≤ sumW l ∧ sumW l ≤ 1000 * l.length := by
  induction l with
  | nil => exact ⟨Int.le_refl _, by simp [sumW]⟩
  | cons x r ih =>
    have h1 := ih fun y hy => h y (List.mem_cons_of_mem _ hy)
    have h2 := h x (List.mem_cons_self ..)
    rw [sumW_cons, List.length_cons]
    omega
theorem WOk.take {l : List Int} (h : WOk l) (k : Nat) : WOk (l.take k) := fun x hx => h x (List.mem_of_mem_take hx)
theorem findW_in {l : List Int} (h : WOk l) : ∀ (k : Int) (i : Nat), 0 ≤ k → k < sumW l → ∃ (j : Nat) (x : Int), findW k i l = ((i + j : Nat) : Int) ∧ l[j]? = some x ∧ 0 < x := by
  induction l with
  | nil => intro k i h0 h1; simp [sumW] at h1; omega
  | cons x r ih =>
    intro k i h0 h1
    rw [sumW_cons] at h1
    unfold findW
    by_cases hk : k - x < 0
    · rw [if_pos hk]
      exact ⟨0, x, rfl, rfl, by omega⟩
    · rw [if_neg hk]
      obtain ⟨j, y, h2, h3, h4⟩ := ih (fun y hy => h y (List.mem_cons_of_mem _ hy)) (k - x) (i + 1) (by omega) (by omega)
      exact ⟨j + 1, y, by rw [h2]; omega, h3, h4⟩
/-- By's: the state behind it, the index. -/
def byS (s : Nat) (l : List Int) : Nat := if sumW l < 1 then s else blS s (sumW l)
def byV (s : Nat) (l : List Int) : Int := if sumW l < 1 then -1 else findW (blV s (sumW l)) 0 l
theorem byS_lt {s : Nat} (h : s < 18446744073709551616) (l : List Int) : byS s l < 18446744073709551616 := by
  unfold byS
  split
  · exact h
  · exact blS_lt h _
theorem byV_no (s : Nat) {l : List Int} (h : sumW l < 1) : byV s l = -1 := by unfold byV; rw [if_pos h]
theorem byV_in (s : Nat) {l : List Int} (h : WOk l) (hs : 1 ≤ sumW l) : ∃ (j : Nat) (x : Int), byV s l = ((j : Nat) : Int) ∧ l[j]? = some x ∧ 0 < x := by
  unfold byV
  rw [if_neg (by omega)]
  have h1 := blV_in s hs
  obtain ⟨j, x, h2, h3⟩ := findW_in h (blV s (sumW l)) 0 h1.1 h1.2
  exact ⟨j, x, by rw [h2]; omega, h3⟩
/-- The document's search tells the same: the first behind which the sum is above k. -/
theorem findW_drop (l : List Int) (k : Int) : ∀ (r : List Int) (i : Nat) (a : Int), findW (k - a) i r = findW (k - a) i r := fun _ _ _ => rfl
end Go.Proofs.Ytkfhkfddhijkcaa

namespace Go.Proofs.Ytkfhkfddhijkcaa
open Go.RowKit

/-- All that lay there stays, but one block. -/
structure Exc (g : Nat) (W W' : World) : Prop where
  os : W'.os = W.os
  tape : W'.tape = W.tape
  output : W'.output = W.output
  size : W.heap.size ≤ W'.heap.size
  block : ∀ k, k < W.heap.size → k ≠ g → W'.heap[k]? = W.heap[k]?
theorem Exc.refl (g : Nat) (W : World) : Exc g W W := ⟨rfl, rfl, rfl, Nat.le_refl _, fun _ _ _ => rfl⟩
theorem Exc.trans {g : Nat} {a b c : World} (h : Exc g a b) (k : Exc g b c) : Exc g a c :=
  ⟨k.os.trans h.os, k.tape.trans h.tape, k.output.trans h.output, Nat.le_trans h.size k.size, fun i hi hg => (k.block i (Nat.lt_of_lt_of_le hi h.size) hg).trans (h.block i hi hg)⟩
theorem exc_of {a b : World} (h : Below a.heap.size a b) (g : Nat) : Exc g a b := ⟨h.os, h.tape, h.output, h.size, fun k hk _ => h.block k hk⟩
theorem Only1.exc {g : Nat} {a b : World} (h : Only1 g a b) : Exc g a b := ⟨h.os, h.tape, h.output, Nat.le_of_eq h.size.symm, fun k _ hk => h.block k hk⟩
theorem Exc.below {g B : Nat} {a b : World} (h : Exc g a b) (hB : B ≤ g) (hs : B ≤ a.heap.size) : Below B a b := ⟨h.os, h.tape, h.output, h.size, fun k hk => h.block k (by omega) (by omega)⟩
theorem Exc.blk {g p : Nat} {a b : World} (h : Exc g a b) {cs : Array Value} {t : TypeId} (hX : Blk a p cs t) (hg : p ≠ g) : Blk b p cs t := (h.block p hX.lt hg).trans hX
theorem Exc.up {g : Nat} {a b c : World} (h : Below a.heap.size a b) (k : Exc g b c) (hg : a.heap.size ≤ g) : Below a.heap.size a c :=
  ⟨k.os.trans h.os, k.tape.trans h.tape, k.output.trans h.output, Nat.le_trans h.size k.size, fun i hi => (k.block i (Nat.lt_of_lt_of_le hi h.size) (by omega)).trans (h.block i hi)⟩
theorem en_spinney_weather_New : ∀ args w, (callFunc 26 args).run Try.prog w = .ok (.enter 26 args) w := enters_of Try.func26 (by kernel_rfl) rfl
theorem en_spinney_weather_Sky_Next : ∀ args w, (callFunc 29 args).run Try.prog w = .ok (.enter 29 args) w := enters_of Try.func29 (by kernel_rfl) rfl
theorem en_spinney_weather_Sky_Below : ∀ args w, (callFunc 31 args).run Try.prog w = .ok (.enter 31 args) w := enters_of Try.func31 (by kernel_rfl) rfl
theorem en_spinney_spinneyref29_half : ∀ args w, (callFunc 78 args).run Try.prog w = .ok (.enter 78 args) w := enters_of Try.func78 (by kernel_rfl) rfl
theorem en_spinney_spinneyref29_Next : ∀ args w, (callFunc 28 args).run Try.prog w = .ok (.enter 28 args) w := enters_of Try.func28 (by kernel_rfl) rfl
theorem en_spinney_spinneyref29_Below : ∀ args w, (callFunc 30 args).run Try.prog w = .ok (.enter 30 args) w := enters_of Try.func30 (by kernel_rfl) rfl

theorem xor_u64 (a b : Nat) (ha : a < 18446744073709551616) (hb : b < 18446744073709551616) : bits .xor .u64 (a : Int) (b : Int) = ((a ^^^ b : Nat) : Int) := by
  have hx : a ^^^ b < 2 ^ 64 := Nat.xor_lt_two_pow (by omega) (by omega)
  have h1 : (BitVec.ofInt 64 (a : Int)).toNat = a := by
    rw [BitVec.ofInt_natCast, BitVec.toNat_ofNat]
    exact Nat.mod_eq_of_lt (by omega)
  have h2 : (BitVec.ofInt 64 (b : Int)).toNat = b := by
    rw [BitVec.ofInt_natCast, BitVec.toNat_ofNat]
    exact Nat.mod_eq_of_lt (by omega)
  show IntKind.u64.wrap ((BitVec.ofInt 64 (a : Int) ^^^ BitVec.ofInt 64 (b : Int)).toNat : Int) = _
  rw [BitVec.toNat_xor, h1, h2, IntKind.wrap_u64]
  omega
theorem wrapN (a : Nat) : IntKind.u64.wrap (a : Int) = ((a % 18446744073709551616 : Nat) : Int) := by
  rw [IntKind.wrap_u64]
  omega
/-- A sky's block. -/
def SkyB (W : World) (p s : Nat) : Prop := Blk W p #[.int .u64 (s : Int)] 143
theorem skyNew_any (s : Nat) (w : World) : Calls Try.prog 26 #[.int .u64 (s : Int)] w fun e w' => ∃ p, e = .returned (.pointer (some ⟨p, 0, none⟩)) ∧ w.heap.size ≤ p ∧ SkyB w' p s ∧ Below w.heap.size w w' := by
  have hX := blk_new w #[.int .u64 (s : Int)] 143
  have hB := b0 w (.cells #[.int .u64 (s : Int)] 143)
  go_enter Try.func26, Try.ntmps26
  go_wp2_with fail
  go_ret
  exact ⟨_, rfl, Nat.le_refl _, hX, hB⟩
set_option maxHeartbeats 4000000 in
theorem skyNext_any (s p : Nat) (w : World) (hs : s < 18446744073709551616) (hX : SkyB w p s) : Calls Try.prog 29 #[.pointer (some ⟨p, 0, none⟩)] w fun e w' => e = .returned (.int .u64 (nxV s : Nat)) ∧ SkyB w' p (nxS s) ∧ Only1 p w w' := by
  have h1 : IntKind.u64.wrap ((s : Int) + 11400714819323198485) = (nxS s : Nat) := by
    unfold nxS
    rw [← wrapN]
    rfl
  have HS := Lib.hid (nxS_lt s)
  have HR : Hid (nxV s = lastW (mixW 134217728 10723151780598845931 (mixW 1073741824 13787848793156543929 (nxS s)))) := by show _ = _; rfl
  have hY := hX.set 0 (.int .u64 (nxS s : Nat))
  have ho := only_cell w p 0 (.int .u64 (nxS s : Nat))
  have c0 := hX.cell 0
  have f0 := hX.free 0
  have d0 := hY.cell 0
  generalize nxS s = z at *
  have a1 := xor_u64 z (z / 1073741824) HS.out (Nat.lt_of_le_of_lt (Nat.div_le_self _ _) HS.out)
  have a2 : IntKind.u64.wrap (((z ^^^ (z / 1073741824) : Nat) : Int) * 13787848793156543929) = (mixW 1073741824 13787848793156543929 z : Nat) := by
    unfold mixW
    rw [← wrapN]
    congr 1
  have l2 := mixW_lt 1073741824 13787848793156543929 z
  generalize mixW 1073741824 13787848793156543929 z = y at a2 l2 HR
  have a3 := xor_u64 y (y / 134217728) l2 (Nat.lt_of_le_of_lt (Nat.div_le_self _ _) l2)
  have a4 : IntKind.u64.wrap (((y ^^^ (y / 134217728) : Nat) : Int) * 10723151780598845931) = (mixW 134217728 10723151780598845931 y : Nat) := by
    unfold mixW
    rw [← wrapN]
    congr 1
  have l3 := mixW_lt 134217728 10723151780598845931 y
  generalize mixW 134217728 10723151780598845931 y = x at a4 l3 HR
  have a5 := xor_u64 x (x / 2147483648) l3 (Nat.lt_of_le_of_lt (Nat.div_le_self _ _) l3)
  have e1 : ((z : Int) / 1073741824) = ((z / 1073741824 : Nat) : Int) := by omega
  have e2 : ((y : Int) / 134217728) = ((y / 134217728 : Nat) : Int) := by omega
  have e3 : ((x : Int) / 2147483648) = ((x / 2147483648 : Nat) : Int) := by omega
  rw [← e1] at a1
  rw [← e2] at a3
  rw [← e3] at a5
  have HX := Lib.hid hX
  clear e1 e2 e3 l2 l3 hX
  generalize z ^^^ (z / 1073741824) = q1 at *
  generalize y ^^^ (y / 134217728) = q2 at *
  unfold lastW at HR
  generalize x ^^^ (x / 2147483648) = q3 at *
  go_enter Try.func29, Try.ntmps29
  go_wp2_with fail
  go_ret
  rw [HR.out]
  exact ⟨rfl, hY, ho⟩
end Go.Proofs.Ytkfhkfddhijkcaa

namespace Go.Proofs.Ytkfhkfddhijkcaa
open Go.RowKit

set_option maxRecDepth 100000 in
set_option maxHeartbeats 4000000 in
theorem half_any (a b : Nat) (ha : a < 18446744073709551616) (hb : b < 18446744073709551616) (w : World) :
    Calls Try.prog 78 #[.int .u64 a, .int .u64 b] w fun e w' => e = .returned (.int .u64 ((a ^^^ b : Nat) : Int)) ∧ w = w' := by
  have HA := Lib.hid ha
  have HB := Lib.hid hb
  clear ha hb
  go_enter Try.func78, Try.ntmps78
  go_wp2_with fail
  go_loopw [0, 1, 5, 6, 7] (fun x y o p i wr => ∃ (k x' y' o' p' : Nat), k ≤ 64 ∧ x = .int .u64 x' ∧ y = .int .u64 y' ∧ o = .int .u64 o' ∧ p = .int .u64 p' ∧ i = .int .i64 k ∧ Hid (x' = a / 2 ^ k ∧ y' = b / 2 ^ k ∧ o' = (a ^^^ b) % 2 ^ k ∧ p' = 2 ^ k % 18446744073709551616) ∧ o' < 18446744073709551616 ∧ p' < 18446744073709551616 ∧ w = wr) (fun _ _ _ _ i _ => 64 - (intOf i).toNat)
  case atStart => exact ⟨0, a, b, 0, 1, by omega, rfl, rfl, rfl, rfl, rfl, ⟨by simp, by simp, by simp [Nat.mod_one], rfl⟩, by omega, by omega, rfl⟩
  case round =>
    obtain ⟨k, x', y', o', p', hk, rfl, rfl, rfl, rfl, rfl, hE, ho, hp, rfl⟩ := hrel
    by_cases hlt : k < 64
    · have i1 : (k : Int) < 64 := by omega
      have hx : x' < 18446744073709551616 := by rw [hE.out.1]; exact Nat.lt_of_le_of_lt (Nat.div_le_self _ _) HA.out
      have hy : y' < 18446744073709551616 := by rw [hE.out.2.1]; exact Nat.lt_of_le_of_lt (Nat.div_le_self _ _) HB.out
      have hpk : p' = 2 ^ k := by
        rw [hE.out.2.2.2]
        exact Nat.mod_eq_of_lt (Nat.lt_of_le_of_lt (Nat.pow_le_pow_right (n := 2) (by omega) (show k ≤ 63 by omega)) (by decide))
      have hxb := xor_bits a b k
      rw [← hE.out.1, ← hE.out.2.1, ← hE.out.2.2.1, ← hpk] at hxb
      have hlo : (a ^^^ b) % 2 ^ (k + 1) < 18446744073709551616 := Nat.lt_of_lt_of_le (Nat.mod_lt _ (Nat.pow_pos (by decide))) (Nat.pow_le_pow_right (n := 2) (by omega) (show k + 1 ≤ 64 by omega))
      have hE2 : ∀ o2, o2 = (a ^^^ b) % 2 ^ (k + 1) → Hid (x' / 2 = a / 2 ^ (k + 1) ∧ y' / 2 = b / 2 ^ (k + 1) ∧ o2 = (a ^^^ b) % 2 ^ (k + 1) ∧ p' * 2 % 18446744073709551616 = 2 ^ (k + 1) % 18446744073709551616) := fun o2 h => by
        refine ⟨?_, ?_, h, ?_⟩
        · rw [hE.out.1, Nat.div_div_eq_div_mul, Nat.pow_succ]
        · rw [hE.out.2.1, Nat.div_div_eq_div_mul, Nat.pow_succ]
        · rw [hpk, Nat.pow_succ]
      have HE2 := Lib.hid hE2
      have E1 : Hid (((x' : Int) / 2) = ((x' / 2 : Nat) : Int)) := by show _ = _; omega
      have E2 : Hid (((y' : Int) / 2) = ((y' / 2 : Nat) : Int)) := by show _ = _; omega
      have E3 : IntKind.u64.wrap ((p' : Int) * 2) = ((p' * 2 % 18446744073709551616 : Nat) : Int) := by rw [← wrapN]; rfl
      have E4 : Hid (((o' : Int) + (p' : Int)) = ((o' + p' : Nat) : Int)) := by show _ = _; omega
      have hp2 : p' * 2 % 18446744073709551616 < 18446744073709551616 := Nat.mod_lt _ (by decide)
      clear hE hE2 hpk
      generalize p' * 2 % 18446744073709551616 = p2 at E3 hp2 HE2
      by_cases hq : x' % 2 = y' % 2
      · have hqi : ((x' : Int) % 2) = ((y' : Int) % 2) := by omega
        have e : ((x' % 2 == 1) != (y' % 2 == 1)) = false := by rw [hq]; simp
        rw [e, if_neg (by decide), Nat.add_zero] at hxb
        have HE3 := HE2.out _ hxb.symm
        clear HE2 hxb e hlo
        go_wp2_with fail
        go_roundw
        case rel => exact ⟨k + 1, x' / 2, y' / 2, o', p2, by omega, by rw [E1.out], by rw [E2.out], by first | rfl | rw [E4.out], by first | rfl | rw [E3], by go_num, HE3, by omega, by omega, by first | rfl | trivial⟩
        case measure => simp [intOf]; omega
      · have hqi : ¬ ((x' : Int) % 2) = ((y' : Int) % 2) := by omega
        have e : ((x' % 2 == 1) != (y' % 2 == 1)) = true := by
          rcases Nat.mod_two_eq_zero_or_one x' with h | h <;> rcases Nat.mod_two_eq_zero_or_one y' with h2 | h2 <;> simp_all
        rw [e, if_pos rfl] at hxb
        have HE3 := HE2.out _ hxb.symm
        have hop : o' + p' < 18446744073709551616 := by rw [← hxb]; exact hlo
        clear HE2 hxb e hlo
        go_wp2_with fail
        go_roundw
        case rel => exact ⟨k + 1, x' / 2, y' / 2, o' + p', p2, by omega, by rw [E1.out], by rw [E2.out], by first | rfl | rw [E4.out], by first | rfl | rw [E3], by go_num, HE3, by omega, by omega, by first | rfl | trivial⟩
        case measure => simp [intOf]; omega
    · have hq : ¬ (k : Int) < 64 := by omega
      have e : k = 64 := by omega
      subst e
      have R : Hid ((o' : Int) = ((a ^^^ b : Nat) : Int)) := by
        show _ = _
        rw [hE.out.2.2.1, Nat.mod_eq_of_lt (xor64_lt HA.out HB.out)]
      clear hE
      go_wp2_with fail
      go_ret
      exact ⟨by rw [R.out]; rfl, by first | rfl | trivial⟩
theorem half_is (a q r : Nat) (hr : a ^^^ q = r) (ha : a < 18446744073709551616) (hb : q < 18446744073709551616) (w : World) :
    Calls Try.prog 78 #[.int .u64 a, .int .u64 q] w fun e w' => e = .returned (.int .u64 (r : Nat)) ∧ w = w' := by
  subst hr
  exact half_any a q ha hb w
theorem wrapD {x : Int} {k n : Nat} (h : x = (k : Int)) (hn : n < 18446744073709551616) (hk : k ≤ n) : IntKind.u64.wrap x = (k : Int) := by
  rw [h, wrapN, Nat.mod_eq_of_lt (by omega)]
set_option maxRecDepth 100000 in
set_option maxHeartbeats 4000000 in
theorem refNext_any (s : Nat) (w : World) (hs : s < 18446744073709551616) : Calls Try.prog 28 #[.int .u64 (s : Int)] w fun e w' => e = .returned (.tuple #[.int .u64 (nxS s : Nat), .int .u64 (nxV s : Nat)]) ∧ w = w' := by
  have h1 : IntKind.u64.wrap ((s : Int) + 11400714819323198485) = (nxS s : Nat) := by
    unfold nxS
    rw [← wrapN]
    rfl
  have HS := Lib.hid (nxS_lt s)
  have HR : Hid (nxV s = lastW (mixW 134217728 10723151780598845931 (mixW 1073741824 13787848793156543929 (nxS s)))) := by show _ = _; rfl
  generalize nxS s = z at *
  have a2 : IntKind.u64.wrap (((z ^^^ (z / 1073741824) : Nat) : Int) * 13787848793156543929) = (mixW 1073741824 13787848793156543929 z : Nat) := by
    unfold mixW
    rw [← wrapN]
    congr 1
  have l2 := mixW_lt 1073741824 13787848793156543929 z
  have F1 := Lib.hid (fun w => half_is z (z / 1073741824) _ rfl HS.out (Nat.lt_of_le_of_lt (Nat.div_le_self _ _) HS.out) w)
  generalize mixW 1073741824 13787848793156543929 z = y at a2 l2 HR
  have a4 : IntKind.u64.wrap (((y ^^^ (y / 134217728) : Nat) : Int) * 10723151780598845931) = (mixW 134217728 10723151780598845931 y : Nat) := by
    unfold mixW
    rw [← wrapN]
    congr 1
  have l3 := mixW_lt 134217728 10723151780598845931 y
  have F2 := Lib.hid (fun w => half_is y (y / 134217728) _ rfl l2 (Nat.lt_of_le_of_lt (Nat.div_le_self _ _) l2) w)
  generalize mixW 134217728 10723151780598845931 y = x at a4 l3 HR
  have F3 := Lib.hid (fun w => half_is x (x / 2147483648) _ rfl l3 (Nat.lt_of_le_of_lt (Nat.div_le_self _ _) l3) w)
  have d1 : IntKind.u64.wrap ((z : Int) / 1073741824) = ((z / 1073741824 : Nat) : Int) := wrapD (by omega) HS.out (by omega)
  have d2 : IntKind.u64.wrap ((y : Int) / 134217728) = ((y / 134217728 : Nat) : Int) := wrapD (by omega) l2 (by omega)
  have d3 : IntKind.u64.wrap ((x : Int) / 2147483648) = ((x / 2147483648 : Nat) : Int) := wrapD (by omega) l3 (by omega)
  clear l2 l3
  generalize z ^^^ (z / 1073741824) = q1 at *
  generalize y ^^^ (y / 134217728) = q2 at *
  unfold lastW at HR
  generalize x ^^^ (x / 2147483648) = q3 at *
  go_enter Try.func28, Try.ntmps28
  go_wp2_with fail
  refine (F1.out _).mono ?_
  rintro e w2 ⟨rfl, rfl⟩
  go_wp2_with fail
  refine (F2.out _).mono ?_
  rintro e w3 ⟨rfl, rfl⟩
  go_wp2_with fail
  refine (F3.out _).mono ?_
  rintro e w4 ⟨rfl, rfl⟩
  go_wp2_with fail
  refine bodyPost_ret (results_tmp2 (by rfl) _ _ _) rfl ?_
  rw [HR.out]
  exact ⟨rfl, by first | rfl | trivial⟩
theorem wrapI {y : Nat} (h : y ≤ 9223372036854775807) : IntKind.i64.wrap (y : Int) = (y : Int) := by
  unfold IntKind.wrap
  simp [IntKind.bits, IntKind.signed]
  omega
set_option maxRecDepth 100000 in
theorem cv_ui (W : World) {y : Nat} (h : y ≤ 9223372036854775807) : (convert 54 3 (.int .u64 (y : Int))).run Try.prog W = .ok (.int .i64 (y : Int)) W := by
  have h2 : (convert 54 3 (.int .u64 (y : Int))).run Try.prog W = .ok (.int .i64 (IntKind.i64.wrap (y : Int))) W := run_convert_int (P := Try.prog) (w := W) 54 3 .u64 (y : Int) (by kernel_rfl) (by kernel_rfl)
  rw [wrapI h] at h2
  exact h2
theorem rem_uu (i j : Nat) (W : World) (z m : Nat) (hm : 0 < m) (hz : z < 18446744073709551616) : ((do eqGuard .rem 54 (.tmp i) (.tmp j) (.int .u64 (z : Int)) (.int .u64 (m : Int)); binOp .rem 54 (.int .u64 (z : Int)) (.int .u64 (m : Int))) : Sem Value).run Try.prog W = .ok (.int .u64 ((z % m : Nat) : Int)) W := by
  have m0 : ¬ m = 0 := by omega
  have m1 : Int.tmod (z : Int) (m : Int) = ((z % m : Nat) : Int) := rfl
  rw [← m1]
  clear m1 hz hm
  unfold binOp
  simp only [eqGuard, go_sem]
  simp [m0]
/-- A sky that was asked. -/
def SkyR (p s : Nat) (v : Value) (w : World) (e : Ending) (w' : World) : Prop := e = .returned v ∧ SkyB w' p s ∧ Exc p w w'
theorem conv_iu (n : Int) (h : 1 ≤ n) (h2 : n ≤ 9223372036854775807) : IntKind.u64.wrap n = n := by
  unfold IntKind.wrap
  simp [IntKind.bits, IntKind.signed]
  omega
set_option maxRecDepth 100000 in
set_option maxHeartbeats 4000000 in
theorem skyBelow_any (s p : Nat) (n : Int) (w : World) (hs : s < 18446744073709551616) (hn : n ≤ 9223372036854775807) (hX : SkyB w p s) : Calls Try.prog 31 #[.pointer (some ⟨p, 0, none⟩), .int .i64 n] w fun e w' => e = .returned (.int .i64 (blV s n)) ∧ SkyB w' p (blS s n) ∧ Only1 p w w' := by
  by_cases h1 : n < 1
  · rw [blV_0 s h1]
    have e : blS s n = s := by unfold blS; rw [if_pos h1]
    rw [e]
    go_enter Try.func31, Try.ntmps31
    go_wp2_with fail
    go_ret
    exact ⟨rfl, hX, Only1.refl _ _⟩
  · have e : blS s n = nxS s := by unfold blS; rw [if_neg h1]
    obtain ⟨m, rfl⟩ : ∃ m : Nat, n = (m : Int) := ⟨n.toNat, by omega⟩
    have e2 : blV s (m : Int) = ((nxV s % m : Nat) : Int) := by unfold blV; rw [if_neg h1, Int.toNat_natCast]
    rw [e, e2]
    have F := Lib.hid (skyNext_any s p w hs hX)
    have hm : 0 < m := by omega
    have cv := conv_iu (m : Int) (by omega) hn
    have hlt := nxV_lt s
    have hml := Nat.mod_lt (nxV s) hm
    generalize nxV s = z at *
    have m1 : ((z : Int) % (m : Int)) = ((z % m : Nat) : Int) := by omega
    have m0 : ¬ (m : Int) = 0 := by omega
    have cvA : ∀ W, (convert 3 54 (.int .i64 (m : Int))).run Try.prog W = .ok (.int .u64 (m : Int)) W := fun W => by go_simp
    have cvB : ∀ W, ((do eqGuard .rem 54 (.tmp 8) (.tmp 10) (.int .u64 (z : Int)) (.int .u64 (m : Int)); binOp .rem 54 (.int .u64 (z : Int)) (.int .u64 (m : Int))) : Sem Value).run Try.prog W = .ok (.int .u64 ((z % m : Nat) : Int)) W := fun W => rem_uu 8 10 W z m hm hlt
    have cvC : ∀ W, (convert 54 3 (.int .u64 ((z % m : Nat) : Int))).run Try.prog W = .ok (.int .i64 ((z % m : Nat) : Int)) W := fun W => cv_ui W (by omega)
    clear e e2 hs hX m1 cv
    go_enter Try.func31, Try.ntmps31
    have m2 : ¬ (m : Int) < 1 := h1
    go_upto_region 3 with fail
    refine wp_region_lit ?_
    refine fl_start ?_
    generalize ha : Act.mk _ _ = a0
    have hn : a0.tmps.size = 13 := by rw [← ha]; kernel_rfl
    have h0 : (fr a0 []).eval (.tmp 0) = .pointer (some ⟨p, 0, none⟩) := by rw [← ha]; kernel_rfl
    refine fl_know hn rfl h0 ?_
    clear h0
    have h1 : (fr a0 [(0, true, .pointer (some ⟨p, 0, none⟩))]).eval (.tmp 1) = .int .i64 (m : Int) := by rw [← ha]; kernel_rfl
    refine fl_know hn rfl h1 ?_
    clear h1
    refine g_mv hn ?_
    refine g_c1x en_spinney_weather_Sky_Next hn (R := fun v w2 => v = .int .u64 (z : Int) ∧ SkyB w2 p (nxS s) ∧ Only1 p w w2) (F.out.mono fun _ _ ⟨he, hb2⟩ => ⟨_, he, rfl, hb2⟩) ?_
    rintro v w2 ⟨rfl, hX2, ho⟩
    have cvA := cvA w2
    have cvB := cvB w2
    have cvC := cvC w2
    refine g_mv hn ?_
    refine g_cv hn ?_
    refine g_bn hn ?_
    refine g_cv hn ?_
    refine g_as hn ?_
    refine fl_end ?_
    clear hn
    subst ha
    dsimp only [fr, cnd, Act.put, cond_true]
    simp only [List.setIfInBounds_toArray, List.set_cons_zero, List.set_cons_succ]
    go_wp2_with fail
    go_ret
    exact ⟨rfl, hX2, ho⟩
end Go.Proofs.Ytkfhkfddhijkcaa
