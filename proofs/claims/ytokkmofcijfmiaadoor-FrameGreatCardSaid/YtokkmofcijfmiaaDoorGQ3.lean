/-
  WHAT IS PROVED: the document's opening of a frame (spinneyref06.Open) is openF; as definitions, what the walks of layer 6's statements take of package frame's calls (they are proved elsewhere, of the code itself); the chapter's examples hold, if the calls answer so. · closed facts on the entries by which errors.As of Go's own text is walked, where package frame calls it: with a target of its type 'number', of an error of that type, or of its type 'wrongLength' (which wraps such a one). Conditions: those typed in each theorem. · errors.As of Go's own text, walked, with a target of package frame's type 'number', of an error of that type, and of one of its type 'wrongLength', which wraps such a one: true, and the target holds the number. Conditions: those typed in each theorem. · package frame's Sum is crcL, for every slice of bytes; sumAt is what four bytes say. Conditions: those typed in each theorem. · more words for a row of bytes that the call owns: where it lies, that it may be written, a store into it. Over any program.
-/
import Derived.Test.YtokkmofcijfmiaaDoorGQ2
import Derived.Stop.LaidErr
import Derived.Lib.SmallJoins
import Derived.WalkKit
import Derived.LaidEql
import Derived.Stop.Asserts
import Derived.RowKitTokens
import Derived.Lib.ReflectliteSlice
import Derived.Laws.BitsLemmas
import Derived.Lib.EndianBits
import Derived.Test.YtokkmofcijfmiaaDoorGQ0
namespace Go.Proofs.YtokkmofcijfmiaaDoor
open Go.RowKit

/-- The kind, the inside, the error. -/
def openF (b : List UInt8) : UInt8 × List UInt8 × Nat :=
  if (takeF b).2.2.1 ≠ b.length ∨ (takeF b).2.2.1 = 0 then (0, [], 2) else ((takeF b).1, (takeF b).2.1, (takeF b).2.2.2)
theorem takeF_code (b : List UInt8) : (takeF b).2.2.2 ≤ 4 ∧ (takeF b).2.2.1 ≤ b.length + 100009 ∧ (takeF b).2.1.length ≤ b.length := by
  unfold takeF
  split
  · exact ⟨by decide, by simp, by simp⟩
  · split
    · exact ⟨by decide, by simp, by simp⟩
    · rename_i h
      split
      · exact ⟨by simp, by simp only; omega, by simp⟩
      · exact ⟨by simp, by simp only; omega, by simp only [List.length_take, List.length_drop]; omega⟩
set_option maxRecDepth 100000 in
set_option maxHeartbeats 2000000 in
theorem refOpenF_any {B : Nat} (A : Option Addr) (n c : Nat) (b : List UInt8) (w : World) (hn : b.length = n) (hr : RdB B w A b) (hB : B ≤ w.heap.size) (hc : n ≤ c) (hm : n ≤ 1000000000) :
    Calls Tryd.prog 21 #[.slice A n c] w fun e w' => (∃ (A' : Option Addr) (c' : Nat), e = .returned (.tuple #[.int .u8 ((openF b).1.toNat : Int), .slice A' (openF b).2.1.length c', .int .i64 ((openF b).2.2 : Nat)]) ∧ RdB B w' A' (openF b).2.1) ∧ Below w.heap.size w w' := by
  have HF := Lib.hid (refTakeF_any A n c b w hn hr hB hc hm)
  have hl := takeF_code b
  have HO : Hid (openF b = if (takeF b).2.2.1 ≠ n ∨ (takeF b).2.2.1 = 0 then (0, [], 2) else ((takeF b).1, (takeF b).2.1, (takeF b).2.2.2)) := by show _ = _; unfold openF; rw [hn]
  unfold TakeFP at HF
  generalize takeF b = r at HF hl HO
  obtain ⟨k, ins, sz, code⟩ := r
  simp only at HF hl HO
  go_enter Tryd.func21, Tryd.ntmps21
  go_wp2_with fail
  refine HF.out.mono ?_
  rintro e w1 ⟨⟨A1, c1, rfl, hr1⟩, hb1⟩
  clear HF
  by_cases h1 : sz = n
  · by_cases h0 : sz = 0
    · have R : Hid (openF b = (0, [], 2)) := by show _ = _; rw [HO.out, if_pos (Or.inr h0)]
      have e1 : ((sz : Int) != (n : Int)) = false := by rw [h1]; simp
      have e2 : ((sz : Int) == 0) = true := by rw [h0]; rfl
      have e5 : (0 : Int) = (n : Int) := by omega
      subst h0
      clear h1
      go_wp2_with fail
      go_ret3
      rw [R.out]
      exact ⟨⟨none, 0, rfl, RdB.nil _ _ _⟩, hb1⟩
    · have R : Hid (openF b = (k, ins, code)) := by show _ = _; rw [HO.out, if_neg (by rintro (h | h); exact h h1; exact h0 h)]
      have e1 : ((sz : Int) == (n : Int)) = true := by rw [h1]; simp
      have e2 : ((sz : Int) == 0) = false := by rw [beq_eq_false_iff_ne]; omega
      have e3 : ¬ (sz : Int) = 0 := by omega
      have e4 : (sz : Int) = (n : Int) := by omega
      clear h1
      go_wp2_with fail
      go_ret3
      rw [R.out]
      exact ⟨⟨A1, c1, rfl, hr1⟩, hb1⟩
  · have R : Hid (openF b = (0, [], 2)) := by show _ = _; rw [HO.out, if_pos (Or.inl h1)]
    have e1 : ((sz : Int) == (n : Int)) = false := by rw [beq_eq_false_iff_ne]; omega
    have e4 : ¬ (sz : Int) = (n : Int) := by omega
    go_wp2_with fail
    go_ret3
    rw [R.out]
    exact ⟨⟨none, 0, rfl, RdB.nil _ _ _⟩, hb1⟩

/-- What the code reads of the package variables: its table of sixteen numbers, and errors.errorType. -/
def LaidF (W : World) : Prop :=
  (∀ i : Nat, i < 16 → W.cell? ⟨0, i, none⟩ = some (.int .u32 (crcSteps 4 i : Nat))) ∧ W.cell? ⟨1, 0, none⟩ = some (.iface 124 (.agg #[.pointer (some ⟨5, 65, none⟩)]))
theorem LaidF.keep {W W' : World} (h : LaidF W) (hb : Below W.heap.size W W') : LaidF W' :=
  ⟨fun i hi => (hb.cell (World.block_lt_of_cell? W _ (h.1 i hi))).trans (h.1 i hi), (hb.cell (World.block_lt_of_cell? W _ h.2)).trans h.2⟩
/-- What the calls answer. -/
structure FrameC : Prop where
  sumC : ∀ (A : Option Addr) (n c : Nat) (b : List UInt8) (w : World), LaidF w → b.length = n → n ≤ 200000 → RdB w.heap.size w A b →
    Calls Tryd.prog 35 #[.slice A n c] w fun e w' => e = .returned (.int .u32 (crcL b : Nat)) ∧ Below w.heap.size w w'
  sealC : ∀ (k : UInt8) (A : Option Addr) (n c : Nat) (b : List UInt8) (w : World), LaidF w → b.length = n → n ≤ 100000 → RdB w.heap.size w A b →
    Calls Tryd.prog 18 #[.agg #[.int .u8 (k.toNat : Int), .slice A n c]] w fun e w' => (∃ (A' : Option Addr) (c' : Nat), e = .returned (.tuple #[.slice A' (n + 9) c', .int .i64 0]) ∧ OwnB w.heap.size w' A' (n + 9) c' (sealL k b)) ∧ Below w.heap.size w w'
  fullC : ∀ (k : UInt8) (A : Option Addr) (n c : Nat) (b : List UInt8) (w : World), LaidF w → b.length = n → 100000 < n → n ≤ 200000 → RdB w.heap.size w A b →
    Calls Tryd.prog 18 #[.agg #[.int .u8 (k.toNat : Int), .slice A n c]] w fun e w' => e = .returned (.tuple #[.slice none 0 0, .int .i64 3]) ∧ Below w.heap.size w w'
  openC : ∀ (A : Option Addr) (n c : Nat) (b : List UInt8) (w : World), LaidF w → b.length = n → n ≤ c → n ≤ 200000 → RdB w.heap.size w A b →
    Calls Tryd.prog 20 #[.slice A n c] w fun e w' => (∃ (A' : Option Addr) (c' : Nat), e = .returned (.tuple #[.agg #[.int .u8 ((openF b).1.toNat : Int), .slice A' (openF b).2.1.length c'], .int .i64 ((openF b).2.2 : Nat)]) ∧ OwnB w.heap.size w' A' (openF b).2.1.length c' (openF b).2.1) ∧ Below w.heap.size w w'
  scanC : ∀ (A : Option Addr) (n c : Nat) (b : List UInt8) (w : World), LaidF w → b.length = n → n ≤ c → n ≤ 200000 → RdB w.heap.size w A b →
    Calls Tryd.prog 22 #[.slice A n c] w fun e w' => (∃ (l : List Pc) (m code : Nat) (A' : Option Addr) (c' : Nat), ScanR b l m code ∧ e = .returned (.tuple #[.slice A' l.length c', .int .i64 (m : Nat), .int .i64 (code : Nat)]) ∧ RdPc w'.heap.size w' A' l) ∧ Below w.heap.size w w'

/-- The bytes of a constant, as they lie. -/
theorem rd_const (w : World) (l : List UInt8) (fr : Nat × Nat) : RdB (w.alloc (.cells (bytV l).toArray 5 fr)).heap.size (w.alloc (.cells (bytV l).toArray 5 fr)) (some ⟨w.heap.size, 0, none⟩) l := by
  intro k x hx
  refine ⟨_, rfl, by simp, ?_⟩
  have e : (⟨w.heap.size, 0, none⟩ : Addr).add k = ⟨w.heap.size, k, none⟩ := by unfold Addr.add; split <;> simp_all
  rw [e, Joins.cell_alloc_mark_at w _ _ fr _ k rfl, List.getElem?_toArray, List.getElem?_map, hx]
  rfl
set_option maxRecDepth 100000 in
set_option maxHeartbeats 2000000 in
theorem frameAwake (hC : FrameC) (w : World) (hL : LaidF w) :
    Calls Tryd.prog 17 #[] w fun e w' => e = .returned (.bool true) ∧ Below w.heap.size w w' := by
  have HS : Hid (crcL [49, 50, 51, 52, 53, 54, 55, 56, 57] = 3808858755) := by show _ = _; kernel_rfl
  go_enter Tryd.func17, Tryd.ntmps17
  go_wp2_with fail
  refine (hC.sealC 7 none 0 0 [] w hL rfl (by omega) (RdB.nil _ _ _)).mono ?_
  rintro e w1 ⟨⟨A1, c1, rfl, hO1⟩, hb1⟩
  have cv := Joins.run_convert_bytes_const_at (P := Tryd.prog) w1 34 5 #[.int .u8 49, .int .u8 50, .int .u8 51, .int .u8 52, .int .u8 53, .int .u8 54, .int .u8 55, .int .u8 56, .int .u8 57] 9 9 w1.heap.size rfl Tryd.underlying34 Tryd.underlying5
  have hr9 := rd_const w1 [49, 50, 51, 52, 53, 54, 55, 56, 57] (9, 10)
  have hO2 := hO1.keep (b0 w1 (.cells #[.int .u8 49, .int .u8 50, .int .u8 51, .int .u8 52, .int .u8 53, .int .u8 54, .int .u8 55, .int .u8 56, .int .u8 57] 5 (9, 10)))
  have hB2 := ba hb1 (.cells #[.int .u8 49, .int .u8 50, .int .u8 51, .int .u8 52, .int .u8 53, .int .u8 54, .int .u8 55, .int .u8 56, .int .u8 57] 5 (9, 10))
  clear hO1
  go_wp2_with fail
  refine (hC.sumC _ 9 9 [49, 50, 51, 52, 53, 54, 55, 56, 57] _ (hL.keep hB2) rfl (by omega) hr9).mono ?_
  rintro e w3 ⟨rfl, hb3⟩
  have hB3 := bt hB2 hb3
  have hO3 := hO2.keep hb3
  rw [HS.out]
  have hlen : (sealL 7 []).length = 9 := rfl
  obtain ⟨ad, rfl, _, d0, d1, d2, d3, d4⟩ := five hO3.rd (by rw [hlen]; omega)
  rw [show byteAt (sealL 7 []) 0 = 229 from rfl] at d0
  rw [show byteAt (sealL 7 []) 1 = 7 from rfl] at d1
  rw [show byteAt (sealL 7 []) 4 = 0 from rfl] at d4
  clear hO2 hO3 hr9 cv d2 d3 hlen
  go_wp2_with fail
  go_ret
  exact ⟨rfl, hB3⟩
end Go.Proofs.YtokkmofcijfmiaaDoor

namespace Go.Proofs.YtokkmofcijfmiaaDoor
open Go.RowKit Go.Extern.Stop Go.Stop Go.Extern

theorem faValueOfP (t : Addr) (w : World) : (ReflectliteValue.unpack (.iface 94 (.pointer (some t)))).run Tryd.prog w
    = .ok (.agg #[.pointer (some ⟨5, 94, none⟩), .pointer (some ⟨w.heap.size, 0, none⟩), .int .u64 150]) (w.alloc (.cells #[.pointer (some t)] 94)) := by kernel_rfl
theorem faTypeP (a : Addr) (w : World) : (ReflectliteValue.methodAny (ReflectliteValue.valueError "reflectlite.Value.Type" 0) (fun t _ _ _ => ReflectliteType.toType t) #[.agg #[.pointer (some ⟨5, 94, none⟩), .pointer (some a), .int .u64 150]]).run Tryd.prog w
    = .ok (.iface 124 (.agg #[.pointer (some ⟨5, 94, none⟩)])) w := by kernel_rfl
theorem faMKind (h : Value) (w : World) : (Go.method 294 124 (.agg #[h]) "Kind").run Tryd.prog w = .ok (129, h) w := by kernel_rfl
theorem faMElem (h : Value) (w : World) : (Go.method 294 124 (.agg #[h]) "Elem").run Tryd.prog w = .ok (142, .agg #[h]) w := by kernel_rfl
theorem faMImplements (h : Value) (w : World) : (Go.method 294 124 (.agg #[h]) "Implements").run Tryd.prog w = .ok (143, .agg #[h]) w := by kernel_rfl
theorem faMAssignableTo (h : Value) (w : World) : (Go.method 294 124 (.agg #[h]) "AssignableTo").run Tryd.prog w = .ok (140, .agg #[h]) w := by kernel_rfl
/-- The model's entry of (*abi.Type).Kind, as it is found. -/
noncomputable def feKind : Array Value → Sem Value := (Go.Extern.find Tryd.f129).getD fun _ => pure .nilIface
theorem faKindP (w : World) : (feKind #[.pointer (some ⟨5, 94, none⟩)]).run Tryd.prog w = .ok (.int .u8 22) w := by kernel_rfl
theorem faKindW (w : World) : (feKind #[.pointer (some ⟨5, 92, none⟩)]).run Tryd.prog w = .ok (.int .u8 2) w := by kernel_rfl
theorem faElemP (w : World) : (ReflectliteType.method ReflectliteType.elem #[.agg #[.pointer (some ⟨5, 94, none⟩)]]).run Tryd.prog w = .ok (.iface 124 (.agg #[.pointer (some ⟨5, 92, none⟩)])) w := by kernel_rfl
theorem faImplementsW (w : World) : (ReflectliteType.relation "Implements" ReflectliteType.implements_ #[.agg #[.pointer (some ⟨5, 92, none⟩)], .iface 124 (.agg #[.pointer (some ⟨5, 65, none⟩)])]).run Tryd.prog w = .ok (.bool true) w := by kernel_rfl
theorem faTypeOfW (v : Value) (w : World) : (ReflectliteType.typeOf #[.iface 92 v]).run Tryd.prog w = .ok (.iface 124 (.agg #[.pointer (some ⟨5, 92, none⟩)])) w := by kernel_rfl
theorem faAssignableW (w : World) : (ReflectliteType.relation "AssignableTo" ReflectliteType.assignableTo #[.agg #[.pointer (some ⟨5, 92, none⟩)], .iface 124 (.agg #[.pointer (some ⟨5, 92, none⟩)])]).run Tryd.prog w = .ok (.bool true) w := by kernel_rfl
theorem faValueOfW (n : Int) (w : World) : (ReflectliteValue.unpack (.iface 92 (.int .i64 n))).run Tryd.prog w
    = .ok (.agg #[.pointer (some ⟨5, 92, none⟩), .pointer (some ⟨w.heap.size, 0, none⟩), .int .u64 130]) (w.alloc (.cells #[.int .i64 n] 92)) := by kernel_rfl

theorem faPartsP (a : Addr) (w : World) : (ReflectliteValue.parts (.agg #[.pointer (some ⟨5, 94, none⟩), .pointer (some a), .int .u64 150])).run Tryd.prog w = .ok (some (94, a, 150)) w := by kernel_rfl
/-- (Value).IsNil of the target. -/
theorem faIsNilP (a p : Addr) (W : World) (ha : W.cell? a = some (.pointer (some p))) :
    (ReflectliteValue.method (ReflectliteValue.valueError "reflectlite.Value.IsNil" 0) ReflectliteValue.isNil #[.agg #[.pointer (some ⟨5, 94, none⟩), .pointer (some a), .int .u64 150]]).run Tryd.prog W = .ok (.bool false) W := by
  rw [Go.Lib.rl_method]
  simp only [Sem.run_bind, faPartsP, Result.andThen]
  simp [ReflectliteValue.isNil, loadVar, isAgg, underlying, Tryd.underlying94, ha, Result.andThen]
theorem faElemOfP (w : World) : (Rtype.elem? 94).run Tryd.prog w = .ok (some 92) w := by kernel_rfl
theorem faMkW (p : Addr) (w : World) : (ReflectliteValue.mk 92 p ReflectliteValue.flagAddr).run Tryd.prog w = .ok (.agg #[.pointer (some ⟨5, 92, none⟩), .pointer (some p), .int .u64 386]) w := by kernel_rfl
/-- (Value).Elem of the target: what it points to, addressable. -/
theorem faElemVP (a p : Addr) (W : World) (ha : W.cell? a = some (.pointer (some p))) :
    (ReflectliteValue.method (ReflectliteValue.valueError "reflectlite.Value.Elem" 0) ReflectliteValue.elem #[.agg #[.pointer (some ⟨5, 94, none⟩), .pointer (some a), .int .u64 150]]).run Tryd.prog W
      = .ok (.agg #[.pointer (some ⟨5, 92, none⟩), .pointer (some p), .int .u64 386]) W := by
  rw [Go.Lib.rl_method]
  simp only [Sem.run_bind, faPartsP, Result.andThen]
  simp [ReflectliteValue.elem, loadVar, isAgg, underlying, Tryd.underlying94, ha, Result.andThen, faElemOfP, faMkW]
theorem faPartsA (a : Addr) (w : World) : (ReflectliteValue.parts (.agg #[.pointer (some ⟨5, 92, none⟩), .pointer (some a), .int .u64 386])).run Tryd.prog w = .ok (some (92, a, 386)) w := by kernel_rfl
theorem faPartsW (a : Addr) (w : World) : (ReflectliteValue.parts (.agg #[.pointer (some ⟨5, 92, none⟩), .pointer (some a), .int .u64 130])).run Tryd.prog w = .ok (some (92, a, 130)) w := by kernel_rfl
theorem faDirectW (w : World) : (Rtype.directlyAssignable 92 92).run Tryd.prog w = .ok true w := by kernel_rfl
theorem faSizeW (w : World) : (sizeOf 92).run Tryd.prog w = .ok 1 w := by kernel_rfl
theorem faAggW (w : World) : (isAgg 92).run Tryd.prog w = .ok false w := by kernel_rfl
theorem faLoadW (b : Nat) (v : Value) (W : World) (hb : Blk W b #[v] 92) : (loadVar 92 ⟨b, 0, none⟩).run Tryd.prog W = .ok v W := by
  have h0 := hb.cell 0
  simp [loadVar, Result.andThen, h0, isAgg, underlying, Tryd.underlying92]
theorem faStoreW (b : Nat) (n : Int) (u : Value) (W : World) (hb : Blk W b #[u] 92) :
    (storeVar 92 ⟨b, 0, none⟩ (.int .i64 n)).run Tryd.prog W = .ok () (W.setCell ⟨b, 0, none⟩ (.int .i64 n)) := by
  have h0 := hb.cell 0
  have f0 := hb.free 0
  simp [storeVar, Value.cells, storeCells, Addr.add, Result.andThen]
  rw [run_store Tryd.prog W ⟨b, 0, none⟩ _ _ rfl]
  simp [h0, f0]
/-- (Value).Set. -/
theorem faSetW (b c : Nat) (n : Int) (u : Value) (W : World) (hc : Blk W c #[.int .i64 n] 92) (hb : Blk W b #[u] 92) :
    (ReflectliteValue.set #[.agg #[.pointer (some ⟨5, 92, none⟩), .pointer (some ⟨b, 0, none⟩), .int .u64 386], .agg #[.pointer (some ⟨5, 92, none⟩), .pointer (some ⟨c, 0, none⟩), .int .u64 130]]).run Tryd.prog W
      = .ok (.tuple #[]) (W.setCell ⟨b, 0, none⟩ (.int .i64 n)) := by
  show Sem.run Tryd.prog (ReflectliteValue.parts (.agg #[.pointer (some ⟨5, 92, none⟩), .pointer (some ⟨b, 0, none⟩), .int .u64 386]) >>= fun _ => ReflectliteValue.parts (.agg #[.pointer (some ⟨5, 92, none⟩), .pointer (some ⟨c, 0, none⟩), .int .u64 130]) >>= _) W = _
  simp only [Sem.run_bind, faPartsA, faPartsW, Result.andThen]
  simp [ReflectliteValue.flagAddr, Result.andThen, faLoadW c _ W hc, faDirectW, faStoreW b n u W hb]

/-! The other error type. -/
theorem aTypeOfL (v : Value) (w : World) : (ReflectliteType.typeOf #[.iface 76 v]).run Tryd.prog w = .ok (.iface 124 (.agg #[.pointer (some ⟨5, 76, none⟩)])) w := by kernel_rfl
theorem aAssignableL (w : World) : (ReflectliteType.relation "AssignableTo" ReflectliteType.assignableTo #[.agg #[.pointer (some ⟨5, 76, none⟩)], .iface 124 (.agg #[.pointer (some ⟨5, 92, none⟩)])]).run Tryd.prog w = .ok (.bool false) w := by kernel_rfl
theorem aNoAs (v : Value) (xT : TypeId) (w : World) : (Instr.typeAssert (.iface 76 v) xT 129 true).run Tryd.prog w = .ok (.tuple #[.nilIface, .bool false]) w := run_typeAssert_lacksB Tryd.underlying129 (by kernel_rfl) (by kernel_rfl) v xT w
theorem aUnwraps (v : Value) (xT : TypeId) (w : World) : (Instr.typeAssert (.iface 76 v) xT 132 true).run Tryd.prog w = .ok (.tuple #[.iface 76 v, .bool true]) w := run_typeAssert_hasB Tryd.underlying132 (by kernel_rfl) v xT w
theorem aMUnwrap (v : Value) (w : World) : (Go.method 294 76 v "Unwrap").run Tryd.prog w = .ok (134, v) w := by kernel_rfl
/-- errors.As(nil, ..). -/
theorem fas_nil (t : Value) (w : World) :
    Calls Tryd.prog 54 #[.nilIface, t] w fun e w' => e = .returned (.bool false) ∧ w' = w := by
  go_enter Tryd.func54, Tryd.ntmps54
  go_wp2
  go_ret
  exact ⟨rfl, rfl⟩
/-- What an error that tells a length wraps. -/
theorem unwrap_any (l n : Int) (w : World) :
    Calls Tryd.prog 134 #[.agg #[.int .i64 l, .int .i64 n]] w fun e w' => e = .returned (.iface 92 (.int .i64 n)) ∧ w' = w.alloc (.cells #[.int .i64 l, .int .i64 n] 76) := by
  go_enter Tryd.func134, Tryd.ntmps134
  go_wp2
  go_ret
  exact ⟨rfl, rfl⟩
end Go.Proofs.YtokkmofcijfmiaaDoor

namespace Go.Proofs.YtokkmofcijfmiaaDoor
open Go.RowKit Go.Extern.Stop Go.Stop Go.Extern

set_option maxRecDepth 100000 in
set_option maxHeartbeats 4000000 in
theorem fas_hit (b : Nat) (n : Int) (u : Value) (w : World) (hg : w.cell? ⟨1, 0, none⟩ = some (.iface 124 (.agg #[.pointer (some ⟨5, 65, none⟩)]))) (hb : Blk w b #[u] 92) :
    Calls Tryd.prog 54 #[.iface 92 (.int .i64 n), .iface 94 (.pointer (some ⟨b, 0, none⟩))] w fun ev w' => ev = .returned (.bool true) ∧ Blk w' b #[.int .i64 n] 92 ∧ Below b w w' := by
  have x1 := @run_callFunc_extern Tryd.prog 70 _ (fun args => ReflectliteValue.unpack (args.getD 0 (.tuple #[]))) Tryd.func70 (by kernel_rfl) (by kernel_rfl) (by kernel_rfl) (by kernel_rfl)
  have x2 := @run_callFunc_extern Tryd.prog 71 _ (ReflectliteValue.methodAny (ReflectliteValue.valueError "reflectlite.Value.Type" 0) (fun t _ _ _ => ReflectliteType.toType t)) Tryd.func71 (by kernel_rfl) (by kernel_rfl) (by kernel_rfl) (by kernel_rfl)
  have x3 := @run_callFunc_extern Tryd.prog 72 _ (ReflectliteValue.method (ReflectliteValue.valueError "reflectlite.Value.IsNil" 0) ReflectliteValue.isNil) Tryd.func72 (by kernel_rfl) (by kernel_rfl) (by kernel_rfl) (by kernel_rfl)
  have x4 := @run_callFunc_extern Tryd.prog 129 _ feKind Tryd.func129 (by kernel_rfl) (by kernel_rfl) (by kernel_rfl) (by kernel_rfl)
  have x5 := @run_callFunc_extern Tryd.prog 142 _ (ReflectliteType.method ReflectliteType.elem) Tryd.func142 (by kernel_rfl) (by kernel_rfl) (by kernel_rfl) (by kernel_rfl)
  have x6 := @run_callFunc_extern Tryd.prog 143 _ (ReflectliteType.relation "Implements" ReflectliteType.implements_) Tryd.func143 (by kernel_rfl) (by kernel_rfl) (by kernel_rfl) (by kernel_rfl)
  have x7 := @run_callFunc_extern Tryd.prog 83 _ ReflectliteType.typeOf Tryd.func83 (by kernel_rfl) (by kernel_rfl) (by kernel_rfl) (by kernel_rfl)
  have x8 := @run_callFunc_extern Tryd.prog 140 _ (ReflectliteType.relation "AssignableTo" ReflectliteType.assignableTo) Tryd.func140 (by kernel_rfl) (by kernel_rfl) (by kernel_rfl) (by kernel_rfl)
  have x9 := @run_callFunc_extern Tryd.prog 84 _ (ReflectliteValue.method (ReflectliteValue.valueError "reflectlite.Value.Elem" 0) ReflectliteValue.elem) Tryd.func84 (by kernel_rfl) (by kernel_rfl) (by kernel_rfl) (by kernel_rfl)
  have x10 := @run_callFunc_extern Tryd.prog 85 _ ReflectliteValue.set Tryd.func85 (by kernel_rfl) (by kernel_rfl) (by kernel_rfl) (by kernel_rfl)
  have v1 := faValueOfP
  have v2 := faTypeP
  have m1 := faMKind
  have m2 := faMElem
  have m3 := faMImplements
  have m4 := faMAssignableTo
  have k1 := faKindP
  have k2 := faKindW
  have e1 := faElemP
  have i1 := faImplementsW
  have t1 := faTypeOfW
  have a1 := faAssignableW
  have v3 := faValueOfW
  have hlg : 1 < w.heap.size := World.block_lt_of_cell? w _ hg
  have hlb := hb.lt
  let W1 := w.alloc (.cells #[.pointer (some ⟨b, 0, none⟩)] 94)
  let C : Array Value := #[.pointer (some ⟨5, 94, none⟩), .pointer (some ⟨w.heap.size, 0, none⟩), .int .u64 150]
  let W2 := W1.alloc (.cells C 108)
  let W3 := W2.alloc (.cells C 108)
  let W4 := W3.alloc (.cells #[.int .i64 n] 92)
  have c1 : W2.cell? ⟨w.heap.size, 0, none⟩ = some (.pointer (some ⟨b, 0, none⟩)) := ((blk_new w #[.pointer (some ⟨b, 0, none⟩)] 94).alloc _).cell 0
  have c2 : W3.cell? ⟨w.heap.size, 0, none⟩ = some (.pointer (some ⟨b, 0, none⟩)) := (((blk_new w #[.pointer (some ⟨b, 0, none⟩)] 94).alloc _).alloc _).cell 0
  have n8 := faIsNilP ⟨w.heap.size, 0, none⟩ ⟨b, 0, none⟩ W2 c1
  have hg2 : W2.cell? ⟨1, 0, none⟩ = some (.iface 124 (.agg #[.pointer (some ⟨5, 65, none⟩)])) := by
    have hB : Below w.heap.size w W2 := ((Below.refl _ w).alloc (Nat.le_refl _) _).alloc (by simp) _
    exact (hB.cell hlg).trans hg
  have el := faElemVP ⟨w.heap.size, 0, none⟩ ⟨b, 0, none⟩ W3 c2
  have hz3 : W3.heap.size = w.heap.size + 1 + 1 + 1 := by simp [W3, W2, W1]
  have st := faSetW b (w.heap.size + 1 + 1 + 1) n u W4 (blk_at (w := W3) hz3.symm _ _) ((((hb.alloc _).alloc _).alloc _).alloc _)
  have hfin : Blk (W4.setCell ⟨b, 0, none⟩ (.int .i64 n)) b #[.int .i64 n] 92 := ((((hb.alloc _).alloc _).alloc _).alloc _).set 0 (.int .i64 n)
  have hbel : Below b w (W4.setCell ⟨b, 0, none⟩ (.int .i64 n)) := by
    have h4 : Below w.heap.size w W4 := ba (ba (ba (b0 w _) _) _) _
    exact (h4.mono (Nat.le_of_lt hlb)).setCell (p := ⟨b, 0, none⟩) (Nat.le_refl _) _
  have HF := Lib.hid (And.intro hfin hbel)
  clear hfin hbel c1 c2 hz3
  simp only [W1, W2, W3, W4, C] at *
  go_enter Tryd.func54, Tryd.ntmps54
  go_wp2
  refine wp_loop_rounds 1 ?_
  rw [rounds_succ]
  go_wp2
  go_ret
  exact ⟨rfl, HF.out.1, HF.out.2⟩
set_option maxRecDepth 100000 in
set_option maxHeartbeats 4000000 in
theorem as_wrap (b : Nat) (l n : Int) (u : Value) (w : World) (hg : w.cell? ⟨1, 0, none⟩ = some (.iface 124 (.agg #[.pointer (some ⟨5, 65, none⟩)]))) (hb : Blk w b #[u] 92) :
    Calls Tryd.prog 54 #[.iface 76 (.agg #[.int .i64 l, .int .i64 n]), .iface 94 (.pointer (some ⟨b, 0, none⟩))] w fun ev w' => ev = .returned (.bool true) ∧ Blk w' b #[.int .i64 n] 92 ∧ Below b w w' := by
  have x1 := @run_callFunc_extern Tryd.prog 70 _ (fun args => ReflectliteValue.unpack (args.getD 0 (.tuple #[]))) Tryd.func70 (by kernel_rfl) (by kernel_rfl) (by kernel_rfl) (by kernel_rfl)
  have x2 := @run_callFunc_extern Tryd.prog 71 _ (ReflectliteValue.methodAny (ReflectliteValue.valueError "reflectlite.Value.Type" 0) (fun t _ _ _ => ReflectliteType.toType t)) Tryd.func71 (by kernel_rfl) (by kernel_rfl) (by kernel_rfl) (by kernel_rfl)
  have x3 := @run_callFunc_extern Tryd.prog 72 _ (ReflectliteValue.method (ReflectliteValue.valueError "reflectlite.Value.IsNil" 0) ReflectliteValue.isNil) Tryd.func72 (by kernel_rfl) (by kernel_rfl) (by kernel_rfl) (by kernel_rfl)
  have x4 := @run_callFunc_extern Tryd.prog 129 _ feKind Tryd.func129 (by kernel_rfl) (by kernel_rfl) (by kernel_rfl) (by kernel_rfl)
  have x5 := @run_callFunc_extern Tryd.prog 142 _ (ReflectliteType.method ReflectliteType.elem) Tryd.func142 (by kernel_rfl) (by kernel_rfl) (by kernel_rfl) (by kernel_rfl)
  have x6 := @run_callFunc_extern Tryd.prog 143 _ (ReflectliteType.relation "Implements" ReflectliteType.implements_) Tryd.func143 (by kernel_rfl) (by kernel_rfl) (by kernel_rfl) (by kernel_rfl)
  have x7 := @run_callFunc_extern Tryd.prog 83 _ ReflectliteType.typeOf Tryd.func83 (by kernel_rfl) (by kernel_rfl) (by kernel_rfl) (by kernel_rfl)
  have x8 := @run_callFunc_extern Tryd.prog 140 _ (ReflectliteType.relation "AssignableTo" ReflectliteType.assignableTo) Tryd.func140 (by kernel_rfl) (by kernel_rfl) (by kernel_rfl) (by kernel_rfl)
  have x9 := @run_callFunc_extern Tryd.prog 84 _ (ReflectliteValue.method (ReflectliteValue.valueError "reflectlite.Value.Elem" 0) ReflectliteValue.elem) Tryd.func84 (by kernel_rfl) (by kernel_rfl) (by kernel_rfl) (by kernel_rfl)
  have x10 := @run_callFunc_extern Tryd.prog 85 _ ReflectliteValue.set Tryd.func85 (by kernel_rfl) (by kernel_rfl) (by kernel_rfl) (by kernel_rfl)
  have v1 := faValueOfP
  have v2 := faTypeP
  have m1 := faMKind
  have m2 := faMElem
  have m3 := faMImplements
  have m4 := faMAssignableTo
  have k1 := faKindP
  have k2 := faKindW
  have e1 := faElemP
  have i1 := faImplementsW
  have t1 := faTypeOfW
  have a1 := faAssignableW
  have v3 := faValueOfW
  have t2 := aTypeOfL
  have a2 := aAssignableL
  have nA := aNoAs
  have uW := aUnwraps
  have mU := aMUnwrap
  have hlg : 1 < w.heap.size := World.block_lt_of_cell? w _ hg
  have hlb := hb.lt
  let W1 := w.alloc (.cells #[.pointer (some ⟨b, 0, none⟩)] 94)
  let C : Array Value := #[.pointer (some ⟨5, 94, none⟩), .pointer (some ⟨w.heap.size, 0, none⟩), .int .u64 150]
  let W2 := W1.alloc (.cells C 108)
  let W3 := W2.alloc (.cells C 108)
  let W4 := W3.alloc (.cells #[.int .i64 l, .int .i64 n] 76)
  let W5 := W4.alloc (.cells #[.int .i64 n] 92)
  have c1 : W2.cell? ⟨w.heap.size, 0, none⟩ = some (.pointer (some ⟨b, 0, none⟩)) := ((blk_new w #[.pointer (some ⟨b, 0, none⟩)] 94).alloc _).cell 0
  have c2 : W4.cell? ⟨w.heap.size, 0, none⟩ = some (.pointer (some ⟨b, 0, none⟩)) := ((((blk_new w #[.pointer (some ⟨b, 0, none⟩)] 94).alloc _).alloc _).alloc _).cell 0
  have n8 := faIsNilP ⟨w.heap.size, 0, none⟩ ⟨b, 0, none⟩ W2 c1
  have hg2 : W2.cell? ⟨1, 0, none⟩ = some (.iface 124 (.agg #[.pointer (some ⟨5, 65, none⟩)])) := by
    have hB : Below w.heap.size w W2 := ((Below.refl _ w).alloc (Nat.le_refl _) _).alloc (by simp) _
    exact (hB.cell hlg).trans hg
  have el := faElemVP ⟨w.heap.size, 0, none⟩ ⟨b, 0, none⟩ W4 c2
  have hz3 : W4.heap.size = w.heap.size + 1 + 1 + 1 + 1 := by simp [W4, W3, W2, W1]
  have st := faSetW b (w.heap.size + 1 + 1 + 1 + 1) n u W5 (blk_at (w := W4) hz3.symm _ _) (((((hb.alloc _).alloc _).alloc _).alloc _).alloc _)
  have hfin : Blk (W5.setCell ⟨b, 0, none⟩ (.int .i64 n)) b #[.int .i64 n] 92 := (((((hb.alloc _).alloc _).alloc _).alloc _).alloc _).set 0 (.int .i64 n)
  have hbel : Below b w (W5.setCell ⟨b, 0, none⟩ (.int .i64 n)) := by
    have h4 : Below w.heap.size w W5 := ba (ba (ba (ba (b0 w _) _) _) _) _
    exact (h4.mono (Nat.le_of_lt hlb)).setCell (p := ⟨b, 0, none⟩) (Nat.le_refl _) _
  have HF := Lib.hid (And.intro hfin hbel)
  clear hfin hbel c1 c2 hz3
  simp only [W1, W2, W3, W4, W5, C] at *
  go_enter Tryd.func54, Tryd.ntmps54
  go_wp2
  refine wp_loop_rounds 2 ?_
  rw [rounds_succ]
  go_wp2
  rw [rounds_succ]
  go_wp2
  go_ret
  exact ⟨rfl, HF.out.1, HF.out.2⟩

/-- An error of package frame, with its number; 0: none. -/
def ErrF (v : Value) (n : Nat) : Prop :=
  (v = .nilIface ∧ n = 0) ∨ v = .iface 92 (.int .i64 (n : Nat)) ∨ ∃ l : Int, v = .iface 76 (.agg #[.int .i64 l, .int .i64 (n : Nat)])
theorem fanswer_any (v : Value) (n : Nat) (w : World) (hL : LaidF w) (hv : ErrF v n) :
    Calls Tryd.prog 36 #[v] w fun e w' => e = .returned (.int .i64 (n : Nat)) ∧ Below w.heap.size w w' := by
  have hg := (hL.keep (b0 w (.cells #[.int .i64 0] 92))).2
  have hb := blk_new w #[.int .i64 0] 92
  have hB := b0 w (.cells #[.int .i64 0] 92)
  rcases hv with ⟨rfl, rfl⟩ | rfl | ⟨l, rfl⟩
  · go_enter Tryd.func36, Tryd.ntmps36
    go_wp2_with fail
    refine (fas_nil _ _).mono ?_
    rintro e w1 ⟨rfl, rfl⟩
    go_wp2_with fail
    go_ret
    exact ⟨rfl, hB⟩
  · have hc := fas_hit w.heap.size (n : Nat) (.int .i64 0) _ hg hb
    clear hg hb
    go_enter Tryd.func36, Tryd.ntmps36
    go_wp2_with fail
    refine hc.mono ?_
    rintro e w1 ⟨rfl, hb1, hB1⟩
    have c0 := hb1.cell 0
    have hB2 := hB.trans hB1
    clear hc
    go_wp2_with fail
    go_ret
    exact ⟨rfl, hB2⟩
  · have hc := as_wrap w.heap.size l (n : Nat) (.int .i64 0) _ hg hb
    clear hg hb
    go_enter Tryd.func36, Tryd.ntmps36
    go_wp2_with fail
    refine hc.mono ?_
    rintro e w1 ⟨rfl, hb1, hB1⟩
    have c0 := hb1.cell 0
    have hB2 := hB.trans hB1
    clear hc
    go_wp2_with fail
    go_ret
    exact ⟨rfl, hB2⟩
end Go.Proofs.YtokkmofcijfmiaaDoor

namespace Go.Proofs.YtokkmofcijfmiaaDoor
open Go.RowKit

theorem xor_u32 (a b : Nat) (ha : a < 4294967296) (hb : b < 4294967296) : bits .xor .u32 (a : Int) (b : Int) = ((a ^^^ b : Nat) : Int) := by
  have hx : a ^^^ b < 2 ^ 32 := Nat.xor_lt_two_pow (by omega) (by omega)
  have h1 : (BitVec.ofInt 32 (a : Int)).toNat = a := by
    rw [BitVec.ofInt_natCast, BitVec.toNat_ofNat]
    exact Nat.mod_eq_of_lt (by omega)
  have h2 : (BitVec.ofInt 32 (b : Int)).toNat = b := by
    rw [BitVec.ofInt_natCast, BitVec.toNat_ofNat]
    exact Nat.mod_eq_of_lt (by omega)
  show IntKind.u32.wrap ((BitVec.ofInt 32 (a : Int) ^^^ BitVec.ofInt 32 (b : Int)).toNat : Int) = _
  rw [BitVec.toNat_xor, h1, h2, IntKind.wrap_u32]
  omega
theorem and15_u32 (a : Nat) (ha : a < 4294967296) : bits .and .u32 (a : Int) 15 = ((a % 16 : Nat) : Int) := by
  have h := bits_mask .u32 32 (by decide) wraps_u32 4 (by decide) (a : Int) (by omega) (by omega)
  rw [show ((2 : Int) ^ 4 - 1) = 15 by decide, show ((2 : Int) ^ 4) = 16 by decide] at h
  rw [h]
  omega
theorem not_u32 (a : Nat) (ha : a < 4294967296) : bits .xor .u32 IntKind.u32.max (a : Int) = ((4294967295 - a : Nat) : Int) := by
  have h2 : (BitVec.ofInt 32 (a : Int)).toNat = a := by
    rw [BitVec.ofInt_natCast, BitVec.toNat_ofNat]
    exact Nat.mod_eq_of_lt (by omega)
  have h1 : BitVec.ofInt 32 IntKind.u32.max = BitVec.allOnes 32 := by decide
  show IntKind.u32.wrap ((BitVec.ofInt 32 IntKind.u32.max ^^^ BitVec.ofInt 32 (a : Int)).toNat : Int) = _
  rw [h1, BitVec.allOnes_xor, BitVec.toNat_not, h2, IntKind.wrap_u32]
  omega

set_option maxRecDepth 100000 in
set_option maxHeartbeats 4000000 in
theorem sum_any {B : Nat} (A : Option Addr) (n c : Nat) (l : List UInt8) (w : World) (hL : LaidF w) (hn : l.length = n) (hr : RdB B w A l) (hm : n ≤ 1000000000) :
    Calls Tryd.prog 35 #[.slice A n c] w fun e w' => e = .returned (.int .u32 (crcL l : Nat)) ∧ w = w' := by
  have HN := Lib.hid hn
  have HL := Lib.hid hL.1
  clear hn hL
  go_enter Tryd.func35, Tryd.ntmps35
  go_wp2_with fail
  go_loopw [3, 8] (fun x i wr => ∃ (k s : Nat), k ≤ n ∧ x = .int .u32 s ∧ i = .int .i64 k ∧ Hid (s = crcTo 4294967295 (l.take k)) ∧ s < 4294967296 ∧ w = wr) (fun _ i _ => n - (intOf i).toNat)
  case atStart => exact ⟨0, 4294967295, Nat.zero_le _, rfl, rfl, rfl, by omega, rfl⟩
  case round =>
    obtain ⟨k, s, hk, rfl, rfl, hS, hs, rfl⟩ := hrel
    by_cases hlt : k < n
    · obtain ⟨ad, rfl, _, hc⟩ := hr.at_ (show k < l.length by have := HN.out; omega)
      have i1 : (0 : Int) ≤ (k : Int) := by omega
      have i2 : (k : Int) < (n : Int) := by omega
      have hlk : k < l.length := by have := HN.out; omega
      have HX : Hid (l.take (k + 1) = l.take k ++ [l[k]]) := List.take_succ_eq_append_getElem hlk
      generalize l[k] = x at hc HX
      have hx := byte_lt x
      have hx2 := xor_lt hs hx
      have HS2 : Hid (crcSteps 4 (crcSteps 4 (s ^^^ x.toNat)) = crcTo 4294967295 (l.take (k + 1))) := by
        show _ = _
        rw [HX.out, crcTo_snoc, ← hS.out, crcByte_nib]
      have E0 := xor_u32 s x.toNat hs hx
      generalize s ^^^ x.toNat = s0 at hx2 HS2 E0
      have E1 := and15_u32 s0 hx2
      have m1 : s0 % 16 < 16 := Nat.mod_lt _ (by omega)
      have c1 := HL.out (s0 % 16) m1
      have l1 : crcSteps 4 s0 < 4294967296 := crcSteps_lt 4 hx2
      have t1 : crcSteps 4 (s0 % 16) < 4294967296 := crcSteps_lt 4 (by omega)
      have D1 : ((s0 : Int) / 16) = ((s0 / 16 : Nat) : Int) := by omega
      have F1 : bits .xor .u32 ((s0 / 16 : Nat) : Int) (crcSteps 4 (s0 % 16) : Nat) = (crcSteps 4 s0 : Nat) := by
        rw [xor_u32 _ _ (by omega) t1, ← nib]
      generalize crcSteps 4 s0 = s1 at l1 F1 HS2
      have E2 := and15_u32 s1 l1
      have m2 : s1 % 16 < 16 := Nat.mod_lt _ (by omega)
      have c2 := HL.out (s1 % 16) m2
      have l2 : crcSteps 4 s1 < 4294967296 := crcSteps_lt 4 l1
      have t2 : crcSteps 4 (s1 % 16) < 4294967296 := crcSteps_lt 4 (by omega)
      have D2 : ((s1 : Int) / 16) = ((s1 / 16 : Nat) : Int) := by omega
      have F2 : bits .xor .u32 ((s1 / 16 : Nat) : Int) (crcSteps 4 (s1 % 16) : Nat) = (crcSteps 4 s1 : Nat) := by
        rw [xor_u32 _ _ (by omega) t2, ← nib]
      rw [← D1] at F1
      rw [← D2] at F2
      generalize crcSteps 4 s1 = s2 at l2 F2 HS2
      generalize crcSteps 4 (s0 % 16) = y1 at c1 F1
      generalize crcSteps 4 (s1 % 16) = y2 at c2 F2
      generalize s0 % 16 = q1 at E1 m1 c1
      generalize s1 % 16 = q2 at E2 m2 c2
      clear D1 D2 t1 t2 HX
      go_wp2_with fail
      go_roundw
      case rel => exact ⟨k + 1, s2, by omega, rfl, by go_num, HS2, l2, by first | rfl | trivial⟩
      case measure => simp [intOf]; omega
    · have i2 : ¬ (k : Int) < (n : Int) := by omega
      have e : k = n := by omega
      subst e
      have R : Hid (crcL l = 4294967295 - s) := by
        show _ = _
        unfold crcL
        rw [hS.out, List.take_of_length_le (by rw [HN.out]; exact Nat.le_refl _)]
      go_wp2_with fail
      go_ret
      rw [R.out]
      refine ⟨?_, rfl⟩
      rw [not_u32 s hs]
      rfl
end Go.Proofs.YtokkmofcijfmiaaDoor

namespace Go.Proofs.YtokkmofcijfmiaaDoor
open Go.RowKit

theorem OwnB.form {base : Nat} {W : World} {A : Option Addr} {n c : Nat} {l : List UInt8} (h : OwnB base W A n c l) (hn : 0 < n) : ∃ g, A = some ⟨g, 0, none⟩ ∧ base ≤ g ∧ g < W.heap.size := by
  obtain ⟨g, cap, hv, hb, hlt⟩ := World.ownsRow.form h hn
  injection hv with hv
  exact ⟨g, hv, hb, hlt⟩
theorem OwnB.free {base : Nat} {W : World} {g n c : Nat} {l : List UInt8} (h : OwnB base W (some ⟨g, 0, none⟩) n c l) (i : Nat) : W.frozen? ⟨g, i, none⟩ = false := by
  rcases h.2 with ⟨hv, _⟩ | ⟨g', cap, cur, hv, hb, hg, h1, h2, h3, h4⟩
  · cases hv
  · injection hv with hv1 hv2 hv3
    injection hv1 with hv1
    injection hv1 with hv1
    subst hv1
    simp [World.frozen?, hg]
theorem OwnB.cellAt {base : Nat} {W : World} {g n c : Nat} {l : List UInt8} (h : OwnB base W (some ⟨g, 0, none⟩) n c l) {k : Nat} {x : UInt8} (hx : l[k]? = some x) : W.cell? ⟨g, k, none⟩ = some (.int .u8 (x.toNat : Int)) := by
  obtain ⟨ad, he, _, hc⟩ := h.rd k x hx
  injection he with he
  subst he
  have e : (Addr.mk g 0 none).add k = Addr.mk g k none := by unfold Addr.add; split <;> simp_all
  rwa [e] at hc
/-- A store into a row of the call's own. -/
theorem OwnB.set {base : Nat} {W : World} {g n c : Nat} {l : List UInt8} (h : OwnB base W (some ⟨g, 0, none⟩) n c l) (i : Nat) (x : UInt8) : OwnB base (W.setCell ⟨g, i, none⟩ (.int .u8 (x.toNat : Int))) (some ⟨g, 0, none⟩) n c (l.set i x) := by
  rcases h.2 with ⟨hv, _⟩ | ⟨g', cap, cur, hv, hb, hg, h1, h2, h3, h4⟩
  · cases hv
  · injection hv with hv1 hv2 hv3
    injection hv1 with hv1
    injection hv1 with hv1
    subst hv1
    subst hv3
    refine ⟨by simpa using h.1, .inr ⟨g, c, cur.setIfInBounds i (.int .u8 (x.toNat : Int)), rfl, hb, ?_, h1, h2, by simpa using h3, ?_⟩⟩
    · simp [World.setCell, Array.getElem?_modify, hg]
    · rw [Array.toList_setIfInBounds, List.take_set, h4]
      simp [bytV, List.map_set]
end Go.Proofs.YtokkmofcijfmiaaDoor
