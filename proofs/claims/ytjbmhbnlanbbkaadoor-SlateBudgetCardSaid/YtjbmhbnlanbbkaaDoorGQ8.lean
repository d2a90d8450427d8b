/-
  WHAT IS PROVED: 'what lay in w0 lies in W' as a word for XFastC's laws. Conditions: those typed in each theorem. · the document's Good of values, named goodB here, for every value. No condition. · plain facts on how a text is quoted. No program. No condition. · plain facts on keys: which texts of bytes are keys. No program. No condition. · deed.Key and the document's Key answer the same bool, named keyB, for every text. Condition: the text is no longer than the form's reach. · the document's Good of operations, named opB, for every operation. Condition: the texts are no longer than the form's reach. · plain facts on numbers, ints, texts as bytes, put and taken. No program. No condition. · plain facts on a number's bytes: how many they are, out of its bits; each of them, out of a shift. No program is spoken of. · a row of one byte; a byte of a number, out of a shift. Over any program that bears the types named. · the document's bytes of numbers, ints, texts and flags (spinneyref05), for all. Conditions: those typed in each theorem. · the document's bytes of good values (spinneyref05.Value). Conditions: those typed in the theorem. · the document's bytes of good writes (spinneyref05.Write). Conditions: those typed in the theorem. · words for slices of writes (own work): a slice that reads as a list of writes, nil let in; the document's Good of ids, of writes, of lists of writes. Conditions: those typed in each theorem. · words for slices of writes (own work): a slice that reads as a list of writes, nil let in; the document's Good of lists of writes. Conditions: those typed in each theorem. · a write's cells, reached by an index into a slice of writes, or in a block of its own. Conditions: those typed in each theorem. · append of a slice's elements, however many, onto a row of the call's own; slices of writes cut. Conditions: those typed in each theorem. · string(..) of bytes that are read (own work); over any program that bears the types named.
-/
import Derived.Test.YtjbmhbnlanbbkaaDoorFastC
import Derived.Test.YtjbmhbnlanbbkaaDoorGQ0
import Derived.Lib.Bytealg
import Derived.Lib.Hide
import Derived.Lib.OthersKept
import Derived.Laws.RangeAny
import Derived.Lib.BitFns
import Derived.IntWalk
import Derived.Lib.AppendStr
import Derived.Deep.RegionHeld3
import Derived.Deep.DrawnRows
namespace Go.Proofs.YtjbmhbnlanbbkaaDoor
open Go.RowKit

/-- What lay in w0 lies in W. -/
def Kp (w0 W : World) : Prop := Below w0.heap.size w0 W
theorem Kp.refl (w : World) : Kp w w := Below.refl _ _
theorem Kp.drew (w : World) : Kp w w.drew := (Below.refl w.heap.size w).drew
theorem Kp.drews {a b : World} (h : Kp a b) : Kp a b.drew := Below.drew h
theorem Kp.blk {w0 W : World} (h : Kp w0 W) {b : Nat} {cs : Array Value} {t : TypeId} (hX : Blk w0 b cs t) : Blk W b cs t := hX.keep h
theorem Kp.trans {a b c : World} (h : Kp a b) (k : Below b.heap.size b c) : Kp a c := Below.trans h (k.mono h.size)
theorem Kp.below {a b : World} (h : Kp a b) : Below a.heap.size a b := h
/-- A call's contract under Kp. -/
theorem kp_c {w0 : World} {f : FuncId} {args : Array Value} {v : Value} (h : ∀ W, Kp w0 W → Calls Tryd.prog f args W fun e w' => e = .returned v ∧ Below W.heap.size W w') :
    ∀ W, Kp w0 W → Calls Tryd.prog f args W fun e w' => e = .returned v ∧ Kp w0 w' := fun W hW => (h W hW).mono fun _ _ ⟨he, hb⟩ => ⟨he, hW.trans hb⟩
theorem same_c {f : FuncId} {args : Array Value} {v : Value} {w : World} (h : Calls Tryd.prog f args w fun e w' => e = .returned v ∧ w' = w) : Calls Tryd.prog f args w fun e w' => e = .returned v ∧ Below w.heap.size w w' :=
  h.mono fun _ _ ⟨he, hw⟩ => ⟨he, by rw [hw]; exact Below.refl _ _⟩
theorem er_eql (i : Nat) (m k : Int) (W : World) : ((do eqGuard .eql 26 (.tmp i) (.const (.int .i64 k)) (.int .i64 m) (.int .i64 k); binOp .eql 26 (.int .i64 m) (.int .i64 k)) : Sem Value).run Tryd.prog W = .ok (.bool (m == k)) W := by go_simp
theorem er_eql2 (i j : Nat) (m k : Int) (W : World) : ((do eqGuard .eql 26 (.tmp i) (.tmp j) (.int .i64 m) (.int .i64 k); binOp .eql 26 (.int .i64 m) (.int .i64 k)) : Sem Value).run Tryd.prog W = .ok (.bool (m == k)) W := by go_simp
theorem bo_eql2 (i j : Nat) (m k : Bool) (W : World) : ((do eqGuard .eql 4 (.tmp i) (.tmp j) (.bool m) (.bool k); binOp .eql 4 (.bool m) (.bool k)) : Sem Value).run Tryd.prog W = .ok (.bool (m == k)) W := by cases m <;> cases k <;> go_simp
theorem er_neq (i : Nat) (m k : Int) (W : World) : ((do eqGuard .neq 26 (.tmp i) (.const (.int .i64 k)) (.int .i64 m) (.int .i64 k); binOp .neq 26 (.int .i64 m) (.int .i64 k)) : Sem Value).run Tryd.prog W = .ok (.bool (m != k)) W := by go_simp
theorem er_neq2 (i j : Nat) (m k : Int) (W : World) : ((do eqGuard .neq 26 (.tmp i) (.tmp j) (.int .i64 m) (.int .i64 k); binOp .neq 26 (.int .i64 m) (.int .i64 k)) : Sem Value).run Tryd.prog W = .ok (.bool (m != k)) W := by go_simp
theorem bo_neq2 (i j : Nat) (m k : Bool) (W : World) : ((do eqGuard .neq 4 (.tmp i) (.tmp j) (.bool m) (.bool k); binOp .neq 4 (.bool m) (.bool k)) : Sem Value).run Tryd.prog W = .ok (.bool (m != k)) W := by cases m <;> cases k <;> go_simp
section
variable {P : Program} {l : List Oper} {Q : Exit → Act → World → Prop} {S : World → Prop} {fuel : Nat} {listed : Array Bool} {a0 : Act} {L : List (Nat × Bool × Value)} {w : World}
/-- Any operation that reads, in a region that draws and writes. -/
theorem h_op (k : Nat) {oi : Oper} {d n : Nat} {v : Value} (hn : a0.tmps.size = n) (hS : S w) (hr : ∀ W, S W → (∀ p, p ∈ L → p.1 < a0.tmps.size) → (execOp (fr a0 L).eval oi).run P W = .ok (.value v) W) (h : FH P l Q S fuel (listed.setIfInBounds k true) a0 ((d, true, v) :: L) w) (hi : l.toArray[k]? = some oi := by rfl) (ho : oi.dst = some d := by rfl) (hd : Nat.blt d n = true := by rfl) (hw : wtG l L oi.guard = some true := by rfl) (hs : Region.noSelect l.toArray = true := by kernel_rfl) (hf : Region.free .any l.toArray listed k = true := by kernel_rfl) (hr2 : (Region.ready .any l.toArray listed).contains k = true := by kernel_rfl) (hQ : ∀ c a w, Q (.panic c) (a.put oi.dst (cnd true v)) w → Q (.panic c) a w := by exact fun _ _ _ h => h) : FH P l Q S (fuel + 1) listed a0 L w :=
  fh_op k hn hS h ho hi hd hs hf hr2 hQ hw (fun hk _ w hw => hr w hw hk)
/-- The one operation that may come up reads. -/
theorem h_one (k : Nat) {oi : Oper} {d n : Nat} {v : Value} (hn : a0.tmps.size = n) (hS : S w) (hx : (∀ p, p ∈ L → p.1 < a0.tmps.size) → (execOp (fr a0 L).eval oi).run P w = .ok (.value v) w) (h : FH P l Q S fuel (listed.setIfInBounds k true) a0 ((d, true, v) :: L) w) (hi : l.toArray[k]? = some oi := by rfl) (ho : oi.dst = some d := by rfl) (hd : Nat.blt d n = true := by rfl) (hw : wtG l L oi.guard = some true := by rfl) (hr : Region.ready .any l.toArray listed = [k] := by kernel_rfl) : FH P l Q S (fuel + 1) listed a0 L w :=
  fh_valx k hn ho hx hS h hi hd hr hw
/-- The last operation stores. -/
theorem h_st (k : Nat) {w2 : World} {i j : Nat} {t ty : TypeId} {p : String} {af : Array Edge} {gd : Option (Nat × Bool)} {ad : Addr} {v : Value} (hs : (Instr.storeAt t (.pointer (some ad)) v).run P w = .ok () w2) (hS : S w2) (h : FH P l Q S fuel (listed.setIfInBounds k true) a0 L w2) (hi : l.toArray[k]? = some ⟨none, .store t (.tmp i) (.tmp j), ty, p, af, gd⟩ := by rfl) (h1 : lk L i = some (true, .pointer (some ad)) := by rfl) (h2 : lk L j = some (true, v) := by rfl) (hr : Region.ready .any l.toArray listed = [k] := by kernel_rfl) (hw : wtG l L gd = some true := by rfl) : FH P l Q S (fuel + 1) listed a0 L w :=
  fh_skip k rfl (fun hk => run_st (lk_at hk h1 (fun _ => rfl) rfl) (lk_at hk h2 (fun _ => rfl) rfl) hs) hS h hi hr hw
end
section
variable {P : Program} {l : List Oper} {Q : Exit → Act → World → Prop} {S : World → Prop} {fuel : Nat} {listed : Array Bool} {a0 : Act} {L : List (Nat × Bool × Value)} {w : World}
/-- The one operation that may come up yields one value and keeps S. -/
theorem h_yv (k : Nat) {oi : Oper} {d n : Nat} {v : Value} (hn : a0.tmps.size = n) (hS : S w) (hy : (∀ p, p ∈ L → p.1 < a0.tmps.size) → YV P S (fr a0 L).eval oi v) (h : ∀ w2, S w2 → FH P l Q S fuel (listed.setIfInBounds k true) a0 ((d, true, v) :: L) w2)
    (hi : l.toArray[k]? = some oi := by rfl) (ho : oi.dst = some d := by rfl) (hd : Nat.blt d n = true := by rfl) (hr : Region.ready .any l.toArray listed = [k] := by kernel_rfl) (hw : wtG l L oi.guard = some true := by rfl) : FH P l Q S (fuel + 1) listed a0 L w :=
  fh_val k hn (R := fun u w2 => u = v ∧ S w2) (fun K hK hk => (hy hk).wp hS fun w2 hs => by rw [ho]; exact hK v w2 ⟨rfl, hs⟩) (fun u w2 e => by obtain ⟨rfl, hs⟩ := e; exact ⟨hs, h w2 hs⟩) hi hd hr hw
end
/-- A struct or an array of a call's own: its block, laid and stored. -/
theorem al_row {d n : Nat} {l : List Oper} {Q : Exit → Act → World → Prop} {rest : List Oper} {a0 : Act} {L : List (Nat × Bool × Value)} {w : World} {t ty : TypeId} {p : String} {af : Array Edge} {z : Array Value} (hn : a0.tmps.size = n)
    (hr : (Instr.alloc t true (.tuple #[])).run Tryd.prog w = .ok (.pointer (some ⟨w.heap.size, 0, none⟩)) (w.alloc (.cells z t)))
    (h : ∀ g w2, g = w.heap.size → Blk w2 g z t → Below w.heap.size w w2 → FL Tryd.prog l Q rest a0 ((d, true, .pointer (some ⟨g, 0, none⟩)) :: L) w2) (hd : Nat.blt d n = true := by rfl) : FL Tryd.prog l Q (⟨some d, .alloc t, ty, p, af, none⟩ :: rest) a0 L w :=
  g_w hn (w2 := w.alloc (.cells z t)) (v := .pointer (some ⟨w.heap.size, 0, none⟩)) (fun _ => by unfold execOp; dsimp only; rw [Sem.run_bind, hr]; rfl) (h _ _ rfl (blk_new w z t) (b0 w _)) rfl hd rfl
end Go.Proofs.YtjbmhbnlanbbkaaDoor

namespace Go.Proofs.YtjbmhbnlanbbkaaDoor
open Go.RowKit

def goodB (k n : Int) (s : ByteArray) : Bool :=
  decide ((k = 0 ∧ n = 0 ∧ s.size = 0) ∨ (k = 1 ∧ s.size = 0) ∨ (k = 2 ∧ n = 0 ∧ s.size ≤ 40))

theorem isEmpty_iff (s : ByteArray) : s.toList.isEmpty = true ↔ s.size = 0 := by
  have : s.data.toList.length = s.size := Array.length_toList
  rw [ByteArray.toList_eq, List.isEmpty_iff, ← List.length_eq_zero_iff, this]

end Go.Proofs.YtjbmhbnlanbbkaaDoor

namespace Go.Proofs.YtjbmhbnlanbbkaaDoor
open Go

/-- Does a byte stand for itself? -/
def plainB (c : Int) : Bool := decide (33 ≤ c ∧ c ≤ 126 ∧ c ≠ 34 ∧ c ≠ 37)

def plainC (c : UInt8) : Bool := plainB c.toNat
/-- A digit of 0 .. 15. -/
def hexd (n : Nat) : UInt8 := if n < 10 then UInt8.ofNat (48 + n) else UInt8.ofNat (87 + n)
def quoB (c : UInt8) : List UInt8 := if plainC c then [c] else [37, hexd (c.toNat / 16), hexd (c.toNat % 16)]
def quoL (l : List UInt8) : List UInt8 := l.flatMap quoB

theorem quoL_snoc (l : List UInt8) (c : UInt8) : quoL (l ++ [c]) = quoL l ++ quoB c := by simp [quoL]
theorem quoB_len (c : UInt8) : (quoB c).length ≤ 3 := by unfold quoB; split <;> simp
theorem quoL_len (l : List UInt8) : (quoL l).length ≤ 3 * l.length := by
  induction l with
  | nil => simp [quoL]
  | cons c l ih =>
    have := quoB_len c
    simp only [quoL, List.flatMap_cons, List.length_append, List.length_cons] at ih ⊢
    omega
theorem hexd_at (n : Nat) (h : n < 16) (h' : n < (⟨#[48, 49, 50, 51, 52, 53, 54, 55, 56, 57, 97, 98, 99, 100, 101, 102]⟩ : ByteArray).size) :
    (⟨#[48, 49, 50, 51, 52, 53, 54, 55, 56, 57, 97, 98, 99, 100, 101, 102]⟩ : ByteArray)[n] = hexd n := by
  have : ∀ m : Fin 16, (⟨#[48, 49, 50, 51, 52, 53, 54, 55, 56, 57, 97, 98, 99, 100, 101, 102]⟩ : ByteArray)[m.val]'(m.isLt) = hexd m.val := by decide
  exact this ⟨n, h⟩

end Go.Proofs.YtjbmhbnlanbbkaaDoor

namespace Go.Proofs.YtjbmhbnlanbbkaaDoor
open Go

/-- May a key have it? -/
def keyC (c : UInt8) : Bool := decide ((97 ≤ c.toNat ∧ c.toNat ≤ 122) ∨ (48 ≤ c.toNat ∧ c.toNat ≤ 57) ∨ c.toNat = 46 ∨ c.toNat = 45)
/-- .. and as a number. -/
def keyR (n : Int) : Bool := decide ((97 ≤ n ∧ n ≤ 122) ∨ (48 ≤ n ∧ n ≤ 57) ∨ n = 46 ∨ n = 45)
/-- Is it a key? -/
def keyB (l : List UInt8) : Bool := l.all keyC && decide (1 ≤ l.length ∧ l.length ≤ 20)
theorem keyR_nat (c : UInt8) : keyR (c.toNat : Int) = keyC c := by
  unfold keyR keyC
  rw [Bool.eq_iff_iff]
  simp only [decide_eq_true_eq]
  omega
theorem keyB_long {l : List UInt8} (h : l.length < 1 ∨ 20 < l.length) : keyB l = false := by
  unfold keyB
  have : decide (1 ≤ l.length ∧ l.length ≤ 20) = false := by simp only [decide_eq_false_iff_not]; omega
  rw [this, Bool.and_false]
theorem keyB_bad {l : List UInt8} {k : Nat} {c : UInt8} (h : l[k]? = some c) (hc : keyC c = false) : keyB l = false := by
  unfold keyB
  have : l.all keyC = false := by
    rw [List.all_eq_false]
    exact ⟨c, List.mem_of_getElem? h, by simp [hc]⟩
  rw [this, Bool.false_and]
theorem keyB_yes {l : List UInt8} (h : l.all keyC = true) (h1 : 1 ≤ l.length) (h2 : l.length ≤ 20) : keyB l = true := by
  unfold keyB
  rw [h]
  simp only [Bool.true_and, decide_eq_true_eq]
  exact ⟨h1, h2⟩
theorem keyB_all {l : List UInt8} (h : keyB l = true) : l.all keyC = true ∧ 1 ≤ l.length ∧ l.length ≤ 20 := by
  unfold keyB at h
  simp only [Bool.and_eq_true, decide_eq_true_eq] at h
  exact ⟨h.1, h.2.1, h.2.2⟩
theorem keyB_is {l : List UInt8} (h : l.all keyC = true) : keyB l = decide (1 ≤ l.length ∧ l.length ≤ 20) := by
  unfold keyB
  rw [h, Bool.true_and]
theorem keyC_low {c : UInt8} (h : keyC c = true) : c.toNat < 128 ∧ c ≠ 32 := by
  simp only [keyC, decide_eq_true_eq] at h
  refine ⟨by omega, ?_⟩
  rintro rfl
  revert h
  decide
end Go.Proofs.YtjbmhbnlanbbkaaDoor

namespace Go.Proofs.YtjbmhbnlanbbkaaDoor
open Go.RowKit

theorem key_snoc (s : ByteArray) (k : Nat) (h : k < s.size) : s.data.toList.take (k + 1) = s.data.toList.take k ++ [s[k]] := by
  rw [List.take_succ_eq_append_getElem (by simpa using h)]; rfl
theorem key_get (s : ByteArray) (k : Nat) (h : k < s.size) : s.data.toList[k]? = some s[k] := by
  rw [List.getElem?_eq_getElem (by simpa using h)]; rfl

end Go.Proofs.YtjbmhbnlanbbkaaDoor

namespace Go.Proofs.YtjbmhbnlanbbkaaDoor
open Go.RowKit

/-- An operation as a value. -/
abbrev opV (K : Int) (ky : ByteArray) (ka na : Int) (sa : ByteArray) (kb nb : Int) (sb : ByteArray) : Value :=
  .agg #[.int .i64 K, .string ky, .int .i64 ka, .int .i64 na, .string sa, .int .i64 kb, .int .i64 nb, .string sb]
/-- .. and as cells. -/
abbrev opC (K : Int) (ky : ByteArray) (ka na : Int) (sa : ByteArray) (kb nb : Int) (sb : ByteArray) : Array Value :=
  #[.int .i64 K, .string ky, .int .i64 ka, .int .i64 na, .string sa, .int .i64 kb, .int .i64 nb, .string sb]
/-- Is an operation good? -/
def opB (K : Int) (ky : ByteArray) (ka na : Int) (sa : ByteArray) (kb nb : Int) (sb : ByteArray) : Bool :=
  keyB ky.data.toList && goodB ka na sa && goodB kb nb sb && decide ((K = 1 ∧ ka ≠ 0 ∧ kb = 0) ∨ (K = 2 ∧ ka = 0 ∧ kb = 0) ∨ (K = 3 ∧ ka = 1 ∧ kb = 0) ∨ K = 4)

end Go.Proofs.YtjbmhbnlanbbkaaDoor

namespace Go.Proofs.YtjbmhbnlanbbkaaDoor
open Go

/-- A number's bytes, the highest first, none of them ahead 0. -/
def beB (n : Nat) : List UInt8 := if _h : n = 0 then [] else beB (n / 256) ++ [UInt8.ofNat (n % 256)]
termination_by n
decreasing_by omega
theorem beB_zero : beB 0 = [] := by rw [beB]; simp
theorem beB_pos {n : Nat} (h : n ≠ 0) : beB n = beB (n / 256) ++ [UInt8.ofNat (n % 256)] := by rw [beB]; simp [h]
/-- .. and back. -/
def beV (l : List UInt8) : Nat := l.foldl (fun a c => a * 256 + c.toNat) 0
theorem beV_snoc (l : List UInt8) (c : UInt8) : beV (l ++ [c]) = beV l * 256 + c.toNat := by simp [beV]
theorem beV_nil : beV [] = 0 := rfl
theorem toNat_mod (n : Nat) : (UInt8.ofNat (n % 256)).toNat = n % 256 := by
  rw [UInt8.toNat_ofNat']
  omega
theorem beV_beB (n : Nat) : beV (beB n) = n := by
  induction n using Nat.strongRecOn with
  | _ n ih =>
    by_cases h : n = 0
    · subst h; rw [beB_zero]; rfl
    · rw [beB_pos h, beV_snoc, ih (n / 256) (by omega), toNat_mod]
      omega
theorem beB_ne {n : Nat} (h : n ≠ 0) : beB n ≠ [] := by rw [beB_pos h]; simp
theorem beB_head (n : Nat) : ∀ c t, beB n = c :: t → c ≠ 0 := by
  induction n using Nat.strongRecOn with
  | _ n ih =>
    intro c t e
    by_cases h : n = 0
    · rw [h, beB_zero] at e; cases e
    · rw [beB_pos h] at e
      by_cases h2 : n / 256 = 0
      · rw [h2, beB_zero] at e
        injection e with e _
        intro hc
        have h3 := congrArg UInt8.toNat e
        rw [toNat_mod, hc] at h3
        have : (0 : UInt8).toNat = 0 := rfl
        omega
      · cases hb : beB (n / 256) with
        | nil => exact absurd hb (beB_ne h2)
        | cons d u =>
          rw [hb] at e
          injection e with e _
          rw [← e]
          exact ih (n / 256) (by omega) d u hb
theorem snoc_ind {α : Type} {P : List α → Prop} (h0 : P []) (h1 : ∀ l c, P l → P (l ++ [c])) : ∀ l, P l := by
  have key : ∀ n, ∀ l : List α, l.length = n → P l := by
    intro n
    induction n with
    | zero => intro l hl; rw [List.length_eq_zero_iff.1 hl]; exact h0
    | succ n ih =>
      intro l hl
      have hne : l ≠ [] := by rintro rfl; cases hl
      have e := List.dropLast_concat_getLast hne
      rw [← e]
      exact h1 _ _ (ih _ (by rw [List.length_dropLast]; omega))
  exact fun l => key l.length l rfl
theorem beV_lt : ∀ l : List UInt8, beV l < 256 ^ l.length := by
  refine snoc_ind (by simp [beV]) fun l c ih => ?_
  rw [beV_snoc, List.length_append, List.length_singleton, Nat.pow_succ]
  have := c.toNat_lt
  omega
theorem beV_cons_pos : ∀ (t : List UInt8) (c : UInt8), c ≠ 0 → 1 ≤ beV (c :: t) := by
  refine snoc_ind (fun c hc => ?_) fun l d ih c hc => ?_
  · have : c.toNat ≠ 0 := fun e => hc (UInt8.toNat_inj.1 e)
    simp only [beV, List.foldl_cons, List.foldl_nil]
    omega
  · have := ih c hc
    rw [← List.cons_append, beV_snoc]
    omega
theorem ofNat_mod (c : UInt8) (n : Nat) : UInt8.ofNat ((n * 256 + c.toNat) % 256) = c := by
  apply UInt8.toNat_inj.1
  rw [toNat_mod]
  have := c.toNat_lt
  omega
theorem beB_beV : ∀ l : List UInt8, (∀ c t, l = c :: t → c ≠ 0) → beB (beV l) = l := by
  refine snoc_ind (fun _ => by rw [beV_nil, beB_zero]) fun l c ih hl => ?_
  have hc := c.toNat_lt
  rw [beV_snoc]
  cases l with
  | nil =>
    have h0 : c ≠ 0 := hl c [] rfl
    have : c.toNat ≠ 0 := fun e => h0 (UInt8.toNat_inj.1 e)
    rw [beV_nil, beB_pos (by omega), ofNat_mod, show (0 * 256 + c.toNat) / 256 = 0 by omega, beB_zero]
  | cons d t =>
    have h1 := beV_cons_pos t d (hl d (t ++ [c]) rfl)
    rw [beB_pos (by omega), ofNat_mod, show (beV (d :: t) * 256 + c.toNat) / 256 = beV (d :: t) by omega, ih fun c' t' e => by
      injection e with e1 e2
      rw [← e1]
      exact hl d (t ++ [c]) rfl]
theorem beB_len : ∀ (k n : Nat), n < 256 ^ k → (beB n).length ≤ k
  | 0, n, h => by
    have : n = 0 := by simpa using h
    rw [this, beB_zero]
    simp
  | k + 1, n, h => by
    by_cases h0 : n = 0
    · rw [h0, beB_zero]; simp
    · rw [beB_pos h0, List.length_append, List.length_singleton]
      have := beB_len k (n / 256) (by rw [Nat.pow_succ] at h; omega)
      omega
theorem pow_eight : 256 ^ 8 = 18446744073709551616 := by decide
theorem beB_eight {n : Nat} (h : n < 18446744073709551616) : (beB n).length ≤ 8 := beB_len 8 n (by rw [pow_eight]; exact h)

/-- A number, put. -/
def numB (n : Nat) : List UInt8 := UInt8.ofNat (beB n).length :: beB n
/-- The number at the front, how many bytes; 0: none of at most so much stands there. -/
def takeNum : List UInt8 → Nat → Nat × Nat
  | [], _ => (0, 0)
  | c :: t, most => if 8 < c.toNat ∨ t.length < c.toNat ∨ (0 < c.toNat ∧ t.head? = some 0) then (0, 0) else if most < beV (t.take c.toNat) then (0, 0) else (beV (t.take c.toNat), 1 + c.toNat)
theorem takeNum_cons (c : UInt8) (t : List UInt8) (most : Nat) : takeNum (c :: t) most = if 8 < c.toNat ∨ t.length < c.toNat ∨ (0 < c.toNat ∧ t.head? = some 0) then (0, 0) else if most < beV (t.take c.toNat) then (0, 0) else (beV (t.take c.toNat), 1 + c.toNat) := rfl
theorem numB_len (n : Nat) : (numB n).length = 1 + (beB n).length := by simp [numB, Nat.add_comm]
theorem ofNat_len {n : Nat} (h : n < 18446744073709551616) : (UInt8.ofNat (beB n).length).toNat = (beB n).length := by
  have := beB_eight h
  rw [UInt8.toNat_ofNat']
  omega
/-- What is put is taken. -/
theorem take_num {n most : Nat} (r : List UInt8) (h : n < 18446744073709551616) (hm : n ≤ most) : takeNum (numB n ++ r) most = (n, (numB n).length) := by
  have h8 := beB_eight h
  have hl := ofNat_len h
  show takeNum (UInt8.ofNat (beB n).length :: (beB n ++ r)) most = _
  rw [takeNum_cons, hl, List.take_left, beV_beB]
  rw [if_neg, if_neg (by omega), numB_len]
  rintro (h1 | h1 | ⟨h1, h2⟩)
  · omega
  · rw [List.length_append] at h1; omega
  · cases hb : beB n with
    | nil => rw [hb] at h1; simp at h1
    | cons d u =>
      rw [hb] at h2
      exact beB_head n d u hb (by simpa using h2)
/-- What is taken was put. -/
theorem num_take {b : List UInt8} {most n k : Nat} (h : takeNum b most = (n, k)) (hk : k ≠ 0) : n ≤ most ∧ n < 18446744073709551616 ∧ k = (numB n).length ∧ b = numB n ++ b.drop k ∧ 1 ≤ k ∧ k ≤ 9 := by
  cases b with
  | nil => unfold takeNum at h; injection h with _ h; omega
  | cons c t =>
    rw [takeNum_cons] at h
    by_cases h1 : 8 < c.toNat ∨ t.length < c.toNat ∨ (0 < c.toNat ∧ t.head? = some 0)
    · rw [if_pos h1] at h; injection h with _ h; omega
    · rw [if_neg h1] at h
      by_cases h2 : most < beV (t.take c.toNat)
      · rw [if_pos h2] at h; injection h with _ h; omega
      · rw [if_neg h2] at h
        injection h with e1 e2
        have c8 : ¬ 8 < c.toNat := fun h => h1 (Or.inl h)
        have cl : ¬ t.length < c.toNat := fun h => h1 (Or.inr (Or.inl h))
        have c0 : ¬ (0 < c.toNat ∧ t.head? = some 0) := fun h => h1 (Or.inr (Or.inr h))
        have hlen : (t.take c.toNat).length = c.toNat := by rw [List.length_take]; omega
        have hb : beB n = t.take c.toNat := by
          rw [← e1]
          refine beB_beV _ fun d u e hd => ?_
          cases t with
          | nil => simp at e
          | cons x y =>
            have hx : x = d := by
              cases hcc : c.toNat with
              | zero => rw [hcc] at e; simp at e
              | succ m =>
                rw [hcc, List.take_succ_cons] at e
                injection e
            refine c0 ⟨?_, by rw [hx, hd]; rfl⟩
            cases hcc : c.toNat with
            | zero => rw [hcc] at e; simp at e
            | succ m => omega
        have hlt := beV_lt (t.take c.toNat)
        rw [hlen, e1] at hlt
        have hp : 256 ^ c.toNat ≤ 256 ^ 8 := Nat.pow_le_pow_right (by omega) (by omega)
        rw [pow_eight] at hp
        have hnum : numB n = c :: t.take c.toNat := by
          unfold numB
          rw [hb, hlen]
          congr 1
          apply UInt8.toNat_inj.1
          rw [UInt8.toNat_ofNat']
          have := c.toNat_lt
          omega
        refine ⟨by omega, by omega, ?_, ?_, by omega, by omega⟩
        · rw [hnum, List.length_cons, hlen]; omega
        · rw [hnum, ← e2, show 1 + c.toNat = c.toNat + 1 by omega, List.drop_succ_cons, List.cons_append, List.take_append_drop]
/-- No number's bytes begin another one's. -/
theorem num_apart {a b : Nat} (ha : a < 18446744073709551616) (hb : b < 18446744073709551616) {r s : List UInt8} (h : numB a ++ r = numB b ++ s) : a = b := by
  have h1 := take_num (most := a + b) r ha (by omega)
  have h2 := take_num (most := a + b) s hb (by omega)
  rw [h, h2] at h1
  injection h1 with h1 _
  exact h1.symm

/-- An int as a number. -/
def zig (n : Int) : Nat := if n < 0 then (2 * (-n) - 1).toNat else (2 * n).toNat
def unzig (n : Nat) : Int := if n % 2 = 1 then -1 - ((n / 2 : Nat) : Int) else ((n / 2 : Nat) : Int)
theorem unzig_zig (n : Int) : unzig (zig n) = n := by
  unfold unzig zig
  by_cases h : n < 0
  · rw [if_pos h]
    have e : (2 * (-n) - 1).toNat % 2 = 1 := by omega
    rw [if_pos e]
    omega
  · rw [if_neg h]
    have e : ¬ (2 * n).toNat % 2 = 1 := by omega
    rw [if_neg e]
    omega
theorem zig_unzig (n : Nat) : zig (unzig n) = n := by
  unfold unzig zig
  by_cases h : n % 2 = 1
  · rw [if_pos h, if_pos (by omega)]
    omega
  · rw [if_neg h, if_neg (by omega)]
    omega
theorem zig_lt {n : Int} (h0 : -9223372036854775808 ≤ n) (h1 : n ≤ 9223372036854775807) : zig n < 18446744073709551616 := by
  unfold zig
  split <;> omega
theorem unzig_in {n : Nat} (h : n < 18446744073709551616) : -9223372036854775808 ≤ unzig n ∧ unzig n ≤ 9223372036854775807 := by
  unfold unzig
  split <;> omega
theorem zig_inj {a b : Int} (h : zig a = zig b) : a = b := by rw [← unzig_zig a, h, unzig_zig]
/-- An int, taken. -/
def takeIntB (b : List UInt8) : Int × Nat := (unzig (takeNum b 18446744073709551615).1, (takeNum b 18446744073709551615).2)
theorem take_int {n : Int} (r : List UInt8) (h0 : -9223372036854775808 ≤ n) (h1 : n ≤ 9223372036854775807) : takeIntB (numB (zig n) ++ r) = (n, (numB (zig n)).length) := by
  unfold takeIntB
  have hz := zig_lt h0 h1
  rw [take_num r hz (by omega)]
  show (unzig (zig n), _) = _
  rw [unzig_zig]
/-- A text, put; taken. -/
def textB (s : List UInt8) : List UInt8 := numB s.length ++ s
def takeTextB (b : List UInt8) (most : Nat) : List UInt8 × Nat :=
  if (takeNum b most).2 = 0 ∨ b.length - (takeNum b most).2 < (takeNum b most).1 then ([], 0) else ((b.drop (takeNum b most).2).take (takeNum b most).1, (takeNum b most).2 + (takeNum b most).1)
theorem take_text {s : List UInt8} {most : Nat} (r : List UInt8) (h : s.length < 18446744073709551616) (hm : s.length ≤ most) : takeTextB (textB s ++ r) most = (s, (textB s).length) := by
  unfold takeTextB textB
  rw [List.append_assoc, take_num _ h hm]
  have hl := numB_len s.length
  rw [if_neg]
  · simp
  · rintro (e | e)
    · omega
    · simp at e
      omega
theorem text_take {b : List UInt8} {most k : Nat} {s : List UInt8} (h : takeTextB b most = (s, k)) (hk : k ≠ 0) : s.length ≤ most ∧ s.length < 18446744073709551616 ∧ k = (textB s).length ∧ b = textB s ++ b.drop k := by
  unfold takeTextB at h
  generalize hn : takeNum b most = p at h
  obtain ⟨n, j⟩ := p
  simp only at h
  by_cases h1 : j = 0 ∨ b.length - j < n
  · rw [if_pos h1] at h; injection h with _ h; omega
  · rw [if_neg h1] at h
    injection h with e1 e2
    obtain ⟨a1, a2, a3, a4, _, _⟩ := num_take hn (fun e => h1 (Or.inl e))
    have hl : s.length = n := by
      rw [← e1, List.length_take, List.length_drop]
      have : ¬ b.length - j < n := fun e => h1 (Or.inr e)
      omega
    refine ⟨by omega, by omega, ?_, ?_⟩
    · unfold textB
      rw [List.length_append, hl]
      omega
    · unfold textB
      rw [hl, List.append_assoc]
      conv => lhs; rw [a4]
      congr 1
      rw [← e2, ← e1, ← List.drop_drop, List.take_append_drop]
theorem text_apart {a b : List UInt8} (ha : a.length < 18446744073709551616) (hb : b.length < 18446744073709551616) {r s : List UInt8} (h : textB a ++ r = textB b ++ s) : a = b := by
  have h1 := take_text (most := a.length + b.length) r ha (by omega)
  have h2 := take_text (most := a.length + b.length) s hb (by omega)
  rw [h, h2] at h1
  injection h1 with h1 _
  exact h1.symm
/-- A flag, put; taken. -/
def flagB (f : Bool) : List UInt8 := if f then [1] else [0]
def takeFlagB : List UInt8 → Bool × Nat
  | [] => (false, 0)
  | c :: _ => if 1 < c.toNat then (false, 0) else (c == 1, 1)
theorem take_flag (f : Bool) (r : List UInt8) : takeFlagB (flagB f ++ r) = (f, 1) := by cases f <;> rfl
end Go.Proofs.YtjbmhbnlanbbkaaDoor

namespace Go.Proofs.YtjbmhbnlanbbkaaDoor

theorem beB_byte {n : Nat} (h0 : n ≠ 0) (h : n < 256) : beB n = [UInt8.ofNat n] := by
  rw [beB_pos h0, show n / 256 = 0 by omega, beB_zero, Nat.mod_eq_of_lt h]
  rfl
/-- How many bytes a number has, out of how many bits. -/
theorem bits_bytes : ∀ (n : Nat), n < 18446744073709551616 → (Lib.bitLen n + 7) / 8 = (beB n).length := by
  intro n
  induction n using Nat.strongRecOn with
  | _ n ih =>
    intro h
    by_cases h0 : n = 0
    · subst h0
      rw [beB_zero]
      rfl
    · by_cases h1 : n < 256
      · rw [beB_byte h0 h1]
        have h8 : Lib.bitLen n ≤ 8 := Lib.bitLen_le8 ⟨n, h1⟩
        have hp : Lib.bitLen n = 1 + Lib.bitLen (n / 2) := Lib.bitLen_half n h0 h
        show _ = 1
        omega
      · rw [beB_pos h0, List.length_append, ← ih (n / 256) (by omega) (by omega), Lib.bitLen_shift8 n (by omega) h]
        show _ = _ + 1
        omega
/-- Each byte. -/
theorem beB_get : ∀ (n j : Nat), j < (beB n).length → (beB n)[j]? = some (UInt8.ofNat (n / 256 ^ ((beB n).length - 1 - j) % 256)) := by
  intro n
  induction n using Nat.strongRecOn with
  | _ n ih =>
    intro j hj
    by_cases h0 : n = 0
    · subst h0
      rw [beB_zero] at hj
      simp at hj
    · have hp := beB_pos h0
      have hl : (beB n).length = (beB (n / 256)).length + 1 := by rw [hp, List.length_append]; rfl
      rw [hl]
      rw [hl] at hj
      rw [hp]
      by_cases h1 : j < (beB (n / 256)).length
      · rw [List.getElem?_append_left h1, ih (n / 256) (by omega) j h1]
        have e : (beB (n / 256)).length + 1 - 1 - j = ((beB (n / 256)).length - 1 - j) + 1 := by omega
        rw [e, Nat.pow_succ, Nat.mul_comm, ← Nat.div_div_eq_div_mul]
      · have e : j = (beB (n / 256)).length := by omega
        subst e
        rw [List.getElem?_append_right (Nat.le_refl _), Nat.sub_self]
        have e2 : (beB (n / 256)).length + 1 - 1 - (beB (n / 256)).length = 0 := by omega
        rw [e2, Nat.pow_zero, Nat.div_one]
        rfl
theorem pow_shift (k : Nat) : 2 ^ (8 * k) = 256 ^ k := by rw [Nat.pow_mul]
end Go.Proofs.YtjbmhbnlanbbkaaDoor

namespace Go.Proofs.YtjbmhbnlanbbkaaDoor
open Go.RowKit

/-- One byte in a row of its own. -/
theorem litB (w : World) {base : Nat} (z : Int) (c : UInt8) (h : z = (c.toNat : Int)) (hb : base ≤ w.heap.size) : OwnB base (w.alloc (.cells #[.int .u8 z] 5)) (some ⟨w.heap.size, 0, none⟩) 1 1 [c] := by
  subst h
  exact OwnB.lit w #[.int .u8 (c.toNat : Int)] [c] rfl rfl hb (by unfold maxLen; omega)
theorem shift_byte (x i : Nat) : (x : Int) / 2 ^ (8 * i) % 256 = ((UInt8.ofNat (x / 256 ^ i % 256)).toNat : Int) := by
  rw [toNat_mod, ← pow_shift, Int.natCast_emod, Int.natCast_ediv, Int.natCast_pow]
  rfl

end Go.Proofs.YtjbmhbnlanbbkaaDoor

namespace Go.Proofs.YtjbmhbnlanbbkaaDoor
open Go.RowKit

/-- A row of bytes that a call answered. -/
def PutP (w : World) (l : List UInt8) (e : Ending) (w' : World) : Prop :=
  (∃ (A : Option Addr) (n c : Nat), e = .returned (.slice A n c) ∧ OwnB w.heap.size w' A n c l) ∧ Below w.heap.size w w'

theorem mod_byte (v : Nat) : (v : Int) % 256 = ((UInt8.ofNat (v % 256)).toNat : Int) := by
  rw [toNat_mod]
  omega

theorem wrap_quo {v n : Nat} (hv : v ≤ n) (hn : n < 18446744073709551616) : IntKind.u64.wrap ((v : Int) / 256) = ((v / 256 : Nat) : Int) := by
  rw [IntKind.wrap_u64]
  omega

theorem zig_neg {n : Int} (h : n < 0) (h0 : -9223372036854775808 ≤ n) : IntKind.u64.wrap (IntKind.u64.wrap (2 * IntKind.u64.wrap (-IntKind.u64.wrap n)) - 1) = ((zig n : Nat) : Int) := by
  unfold zig
  rw [if_pos h]
  simp only [IntKind.wrap_u64]
  omega
theorem zig_pos {n : Int} (h : ¬ n < 0) (h1 : n ≤ 9223372036854775807) : IntKind.u64.wrap (2 * IntKind.u64.wrap n) = ((zig n : Nat) : Int) := by
  unfold zig
  rw [if_neg h]
  simp only [IntKind.wrap_u64]
  omega

theorem strCells_is (s : ByteArray) : Lib.strCells s = bytV s.data.toList := rfl
section
variable {P : Program} {w : World} {t u : TypeId} {i : TypeInfo} {base : Nat} {A : Option Addr} {n c : Nat} {l : List UInt8} {o : Oper} {a : Act} {Q : Exit → Act → World → Prop} {ops : Array Oper}
theorem run_apT {ty : TypeId} (ht : P.underlying t = some (.slice 5)) (hu : P.underlying u = some .string) (hi : P.info? 5 = some i) (hz : i.zero = some (.int .u8 0)) (hs : i.size = 1) (hy : i.bytes = 1)
    (hown : OwnB base w A n c l) (s : ByteArray) (hsz : n + s.size ≤ 1099511627776) (hbase : base ≤ w.heap.size) :
    ∃ A' c' w', (Builtin.append_ #[t, u] ty #[.slice A n c, .string s]).run P w = .ok (.slice A' (n + s.size) c') w' ∧ OwnB base w' A' (n + s.size) c' (l ++ s.data.toList) ∧ Below base w w' ∧ w.grownBy w' (A.map (·.block)) := by
  obtain ⟨v', w', hrun, h2, h3, _⟩ := Lib.run_append_own_string (P := P) w base t u ty 5 i ht hu hi hz hs hy (.slice A n c) n (bytV l) hown s (by unfold maxLen; omega) (by omega) hbase
  have hb : Below base w w' := (Below.refl base w).grown h3 hbase (fun k hk => (World.ownsRow.lt hown k hk).1)
  have hv : ∃ A' c', v' = .slice A' (n + s.size) c' := by
    rcases h2.2 with ⟨e1, e2⟩ | ⟨g, cap, cur, e1, _⟩
    · exact ⟨none, 0, by rw [e1, e2]⟩
    · exact ⟨_, _, e1⟩
  obtain ⟨A', c', rfl⟩ := hv
  refine ⟨A', c', w', hrun, ?_, hb, by cases A <;> exact h3⟩
  unfold OwnB
  rw [show bytV (l ++ s.data.toList) = bytV l ++ bytV s.data.toList from List.map_append]
  exact h2
theorem wp_apT {K : Act → World → Prop} (sl x : Operand) (ho : o.op = .call { callee := .builtin .append, args := #[sl, x], argTypes := #[t, u] })
    (ht : P.underlying t = some (.slice 5)) (hu : P.underlying u = some .string) (hi : P.info? 5 = some i) (hz : i.zero = some (.int .u8 0)) (hs : i.size = 1) (hy : i.bytes = 1) (s : ByteArray)
    (h1 : a.eval sl = .slice A n c) (h2 : a.eval x = .string s) (hown : OwnB base w A n c l) (N : Nat) (hN : n + s.size = N) (hsz : n + s.size ≤ 1099511627776) (hbase : base ≤ w.heap.size)
    (h : ∀ A' c' w', OwnB base w' A' N c' (l ++ s.data.toList) → Below base w w' → w.grownBy w' (A.map (·.block)) → K (a.put o.dst (.slice A' N c')) w') : o.wp P a w K Q := by
  subst hN
  obtain ⟨A', c', w', hrun, k1, k2, k3⟩ := run_apT (P := P) (ty := o.type) (w := w) ht hu hi hz hs hy hown s hsz hbase
  unfold Oper.wp execOp
  simp only [ho, resolve, invoke, builtin, Sem.run_bind, Sem.run_pure, Result.andThen_ok, List.map_toArray, List.map_cons, List.map_nil, h1, h2, hrun]
  exact h A' c' w' k1 k2 k3
theorem wpList_apT {rest : List Oper} (hgd : o.guard = none) (sl x : Operand) (ho : o.op = .call { callee := .builtin .append, args := #[sl, x], argTypes := #[t, u] })
    (ht : P.underlying t = some (.slice 5)) (hu : P.underlying u = some .string) (hi : P.info? 5 = some i) (hz : i.zero = some (.int .u8 0)) (hs : i.size = 1) (hy : i.bytes = 1) (s : ByteArray)
    (h1 : a.eval sl = .slice A n c) (h2 : a.eval x = .string s) (hown : OwnB base w A n c l) (N : Nat) (hN : n + s.size = N) (hsz : n + s.size ≤ 1099511627776) (hbase : base ≤ w.heap.size)
    (h : ∀ A' c' w', OwnB base w' A' N c' (l ++ s.data.toList) → Below base w w' → w.grownBy w' (A.map (·.block)) → wpList P ops Q rest (a.put o.dst (.slice A' N c')) w') : wpList P ops Q (o :: rest) a w :=
  wpList_plain hgd fun _ hK => wp_apT sl x ho ht hu hi hz hs hy s h1 h2 hown N hN hsz hbase fun A' c' w' k1 k2 k3 => hK _ _ (h A' c' w' k1 k2 k3)
end

theorem numB_small {n : Nat} (h : n < 18446744073709551616) : (numB n).length ≤ 9 := by
  have := beB_eight h
  rw [numB_len]
  omega
theorem wrap_size {n : Nat} (h : n ≤ 1099511627776) : IntKind.u64.wrap (n : Int) = (n : Int) := by
  rw [IntKind.wrap_u64]
  omega

end Go.Proofs.YtjbmhbnlanbbkaaDoor

namespace Go.Proofs.YtjbmhbnlanbbkaaDoor
open Go.RowKit

/-- A value's bytes. -/
def valB (k n : Int) (s : List UInt8) : List UInt8 := numB k.toNat ++ (if k = 1 then numB (zig n) else if k = 2 then textB s else [])

theorem textB_small {s : ByteArray} (h : s.size ≤ 1000000) : (textB s.data.toList).length ≤ 1000009 := by
  have hl : s.data.toList.length = s.size := Array.length_toList
  have := numB_small (n := s.size) (by omega)
  unfold textB
  rw [List.length_append, hl]
  omega
theorem valB_0 (n : Int) (s : List UInt8) : valB 0 n s = numB 0 := by simp [valB]
theorem valB_1 (n : Int) (s : List UInt8) : valB 1 n s = numB 1 ++ numB (zig n) := by simp [valB]
theorem valB_2 (n : Int) (s : List UInt8) : valB 2 n s = numB 2 ++ textB s := by simp [valB]

end Go.Proofs.YtjbmhbnlanbbkaaDoor

namespace Go.Proofs.YtjbmhbnlanbbkaaDoor
open Go.RowKit
attribute [local go_sem ↓] Go.wp_at_zero Go.wp_at_succ

/-- A write as a value, and as cells. -/
abbrev wrC (dev seq : Nat) (K : Nat) (ky : ByteArray) (ka na : Int) (sa : ByteArray) (kb nb : Int) (sb : ByteArray) : Array Value :=
  #[.int .i64 dev, .int .i64 seq, .int .i64 K, .string ky, .int .i64 ka, .int .i64 na, .string sa, .int .i64 kb, .int .i64 nb, .string sb]
/-- Its bytes. -/
def wrB (dev seq K : Nat) (ky : List UInt8) (ka na : Int) (sa : List UInt8) (kb nb : Int) (sb : List UInt8) : List UInt8 :=
  numB dev ++ numB seq ++ numB K ++ textB ky ++ valB ka na sa ++ valB kb nb sb
/-- The ten cells of a block. -/
def Ten (W : World) (b : Nat) (dev seq : Nat) (K : Nat) (ky : ByteArray) (ka na : Int) (sa : ByteArray) (kb nb : Int) (sb : ByteArray) : Prop :=
  W.cell? ⟨b, 0, none⟩ = some (.int .i64 dev) ∧ W.cell? ⟨b, 1, none⟩ = some (.int .i64 seq) ∧ W.cell? ⟨b, 2, none⟩ = some (.int .i64 K) ∧ W.cell? ⟨b, 3, none⟩ = some (.string ky) ∧ W.cell? ⟨b, 4, none⟩ = some (.int .i64 ka) ∧
    W.cell? ⟨b, 5, none⟩ = some (.int .i64 na) ∧ W.cell? ⟨b, 6, none⟩ = some (.string sa) ∧ W.cell? ⟨b, 7, none⟩ = some (.int .i64 kb) ∧ W.cell? ⟨b, 8, none⟩ = some (.int .i64 nb) ∧ W.cell? ⟨b, 9, none⟩ = some (.string sb)
theorem Ten.keep {W W' : World} {b dev seq K : Nat} {ky : ByteArray} {ka na : Int} {sa : ByteArray} {kb nb : Int} {sb : ByteArray} (h : Ten W b dev seq K ky ka na sa kb nb sb) {B : Nat} (hb : Below B W W') (hB : b < B) : Ten W' b dev seq K ky ka na sa kb nb sb := by
  have hc : ∀ i, W'.cell? ⟨b, i, none⟩ = W.cell? ⟨b, i, none⟩ := fun i => hb.cell (p := ⟨b, i, none⟩) hB
  unfold Ten at h ⊢
  simp only [hc]
  exact h
theorem ten_new (w : World) (dev seq K : Nat) (ky : ByteArray) (ka na : Int) (sa : ByteArray) (kb nb : Int) (sb : ByteArray) (t : TypeId) : Ten (w.alloc (.cells (wrC dev seq K ky ka na sa kb nb sb) t)) w.heap.size dev seq K ky ka na sa kb nb sb := by
  have h := blk_new w (wrC dev seq K ky ka na sa kb nb sb) t
  exact ⟨h.cell 0, h.cell 1, h.cell 2, h.cell 3, h.cell 4, h.cell 5, h.cell 6, h.cell 7, h.cell 8, h.cell 9⟩
theorem OwnB.keepG {base : Nat} {W W' : World} {A A3 : Option Addr} {n c : Nat} {l : List UInt8} (h : OwnB base W A n c l) (hg : W.grownBy W' (A3.map (·.block))) (hlt : ∀ a, A3 = some a → a.block < base) : OwnB base W' A n c l := by
  refine World.ownsRow.kept h hg ?_
  cases A with
  | none => exact Or.inl rfl
  | some a =>
    right
    cases A3 with
    | none => simp [Value.ownBlock]
    | some a3 =>
      have h1 := (h.blk rfl).1
      have h2 := hlt a3 rfl
      simp only [Value.ownBlock, Option.map_some, ne_eq, Option.some.injEq]
      omega
theorem below_h {H : Nat} {w w' : World} (h : Below w.heap.size w w') (hH : H ≤ w.heap.size) : Below H w w' := h.mono hH

section
variable {W w' w1 : World} {p q : Addr} {u v : Value} {H : Nat}
theorem sP0 (h : W.cell? p = some u) (k : W.cell? q = some v) : W.drew.cell? p = some u ∧ W.drew.cell? q = some v ∧ Below W.heap.size W W.drew := ⟨h, k, (Below.refl _ _).drew⟩
theorem sP1 (h : w'.cell? p = some u ∧ w'.cell? q = some v ∧ Below H W w') (hp : p.block < H) (hq : q.block < H) (hH : H ≤ W.heap.size) (hb : Below w'.heap.size w' w1) : w1.cell? p = some u ∧ w1.cell? q = some v ∧ Below H W w1 := by
  have hz := h.2.2.size
  exact ⟨(hb.cell (by omega)).trans h.1, (hb.cell (by omega)).trans h.2.1, h.2.2.trans (hb.mono (by omega))⟩
theorem sP2 (h : w'.cell? p = some u ∧ w'.cell? q = some v ∧ Below H W w') (hp : p.block < H) (hq : q.block < H) (hb : Below H w' w1) : w1.cell? p = some u ∧ w1.cell? q = some v ∧ Below H W w1 :=
  ⟨(hb.cell hp).trans h.1, (hb.cell hq).trans h.2.1, h.2.2.trans hb⟩
theorem lessP {A : Option Addr} {n c : Nat} {l : List UInt8} (h : OwnB w'.heap.size w1 A n c l) (hS : w'.cell? p = some u ∧ w'.cell? q = some v ∧ Below H W w') (hH : H ≤ W.heap.size) : OwnB H w1 A n c l := h.less (Nat.le_trans hH hS.2.2.size)
theorem szP (hS : w'.cell? p = some u ∧ w'.cell? q = some v ∧ Below H W w') (hH : H ≤ W.heap.size) : H ≤ w'.heap.size := Nat.le_trans hH hS.2.2.size
end
section
variable {W W0 w' w1 : World} {p q : Addr} {u v : Value} {H b : Nat} {v4 v5 v6 v7 v8 v9 : Value}
theorem sQ0 (h : W.cell? p = some u) (k : W.cell? q = some v) (hB : Below H W0 W) : W.drew.cell? p = some u ∧ W.drew.cell? q = some v ∧ Below H W0 W.drew := ⟨h, k, hB.drew⟩
/-- Six cells, from the fifth on. -/
theorem s60 (h : W.cell? ⟨b, 4, none⟩ = some v4 ∧ W.cell? ⟨b, 5, none⟩ = some v5 ∧ W.cell? ⟨b, 6, none⟩ = some v6 ∧ W.cell? ⟨b, 7, none⟩ = some v7 ∧ W.cell? ⟨b, 8, none⟩ = some v8 ∧ W.cell? ⟨b, 9, none⟩ = some v9) (hB : Below H W0 W) :
    W.drew.cell? ⟨b, 4, none⟩ = some v4 ∧ W.drew.cell? ⟨b, 5, none⟩ = some v5 ∧ W.drew.cell? ⟨b, 6, none⟩ = some v6 ∧ W.drew.cell? ⟨b, 7, none⟩ = some v7 ∧ W.drew.cell? ⟨b, 8, none⟩ = some v8 ∧ W.drew.cell? ⟨b, 9, none⟩ = some v9 ∧ Below H W0 W.drew := ⟨h.1, h.2.1, h.2.2.1, h.2.2.2.1, h.2.2.2.2.1, h.2.2.2.2.2, hB.drew⟩
theorem s62 (h : w'.cell? ⟨b, 4, none⟩ = some v4 ∧ w'.cell? ⟨b, 5, none⟩ = some v5 ∧ w'.cell? ⟨b, 6, none⟩ = some v6 ∧ w'.cell? ⟨b, 7, none⟩ = some v7 ∧ w'.cell? ⟨b, 8, none⟩ = some v8 ∧ w'.cell? ⟨b, 9, none⟩ = some v9 ∧ Below H W0 w') (hp : b < H) (hb : Below H w' w1) :
    w1.cell? ⟨b, 4, none⟩ = some v4 ∧ w1.cell? ⟨b, 5, none⟩ = some v5 ∧ w1.cell? ⟨b, 6, none⟩ = some v6 ∧ w1.cell? ⟨b, 7, none⟩ = some v7 ∧ w1.cell? ⟨b, 8, none⟩ = some v8 ∧ w1.cell? ⟨b, 9, none⟩ = some v9 ∧ Below H W0 w1 := by
  have hc : ∀ i, w1.cell? ⟨b, i, none⟩ = w'.cell? ⟨b, i, none⟩ := fun i => hb.cell (p := ⟨b, i, none⟩) hp
  simp only [hc]
  exact ⟨h.1, h.2.1, h.2.2.1, h.2.2.2.1, h.2.2.2.2.1, h.2.2.2.2.2.1, h.2.2.2.2.2.2.trans hb⟩
theorem s61 (h : w'.cell? ⟨b, 4, none⟩ = some v4 ∧ w'.cell? ⟨b, 5, none⟩ = some v5 ∧ w'.cell? ⟨b, 6, none⟩ = some v6 ∧ w'.cell? ⟨b, 7, none⟩ = some v7 ∧ w'.cell? ⟨b, 8, none⟩ = some v8 ∧ w'.cell? ⟨b, 9, none⟩ = some v9 ∧ Below H W0 w') (hp : b < H) (hH : H ≤ W0.heap.size) (hb : Below w'.heap.size w' w1) :
    w1.cell? ⟨b, 4, none⟩ = some v4 ∧ w1.cell? ⟨b, 5, none⟩ = some v5 ∧ w1.cell? ⟨b, 6, none⟩ = some v6 ∧ w1.cell? ⟨b, 7, none⟩ = some v7 ∧ w1.cell? ⟨b, 8, none⟩ = some v8 ∧ w1.cell? ⟨b, 9, none⟩ = some v9 ∧ Below H W0 w1 :=
  s62 h hp (hb.mono (Nat.le_trans hH h.2.2.2.2.2.2.size))
theorem b6 (h : w'.cell? ⟨b, 4, none⟩ = some v4 ∧ w'.cell? ⟨b, 5, none⟩ = some v5 ∧ w'.cell? ⟨b, 6, none⟩ = some v6 ∧ w'.cell? ⟨b, 7, none⟩ = some v7 ∧ w'.cell? ⟨b, 8, none⟩ = some v8 ∧ w'.cell? ⟨b, 9, none⟩ = some v9 ∧ Below H W0 w') : Below H W0 w' := h.2.2.2.2.2.2
end
theorem ten_tail {W w' : World} {b K : Nat} {ky : ByteArray} {ka na : Int} {sa : ByteArray} {kb nb : Int} {sb : ByteArray}
    (h : W.cell? ⟨b, 2, none⟩ = some (.int .i64 K) ∧ W.cell? ⟨b, 3, none⟩ = some (.string ky) ∧ W.cell? ⟨b, 4, none⟩ = some (.int .i64 ka) ∧ W.cell? ⟨b, 5, none⟩ = some (.int .i64 na) ∧ W.cell? ⟨b, 6, none⟩ = some (.string sa) ∧ W.cell? ⟨b, 7, none⟩ = some (.int .i64 kb) ∧ W.cell? ⟨b, 8, none⟩ = some (.int .i64 nb) ∧ W.cell? ⟨b, 9, none⟩ = some (.string sb))
    {H : Nat} (hb : Below H W w') (hB : b < H) : w'.cell? ⟨b, 2, none⟩ = some (.int .i64 K) ∧ w'.cell? ⟨b, 3, none⟩ = some (.string ky) ∧ w'.cell? ⟨b, 4, none⟩ = some (.int .i64 ka) ∧ w'.cell? ⟨b, 5, none⟩ = some (.int .i64 na) ∧ w'.cell? ⟨b, 6, none⟩ = some (.string sa) ∧ w'.cell? ⟨b, 7, none⟩ = some (.int .i64 kb) ∧ w'.cell? ⟨b, 8, none⟩ = some (.int .i64 nb) ∧ w'.cell? ⟨b, 9, none⟩ = some (.string sb) := by
  have hc : ∀ i, w'.cell? ⟨b, i, none⟩ = W.cell? ⟨b, i, none⟩ := fun i => hb.cell (p := ⟨b, i, none⟩) hB
  simp only [hc]
  exact h
theorem six_keep {W w1 w2 : World} {b H : Nat} {v4 v5 v6 v7 v8 v9 : Value} (h : w1.cell? ⟨b, 4, none⟩ = some v4 ∧ w1.cell? ⟨b, 5, none⟩ = some v5 ∧ w1.cell? ⟨b, 6, none⟩ = some v6 ∧ w1.cell? ⟨b, 7, none⟩ = some v7 ∧ w1.cell? ⟨b, 8, none⟩ = some v8 ∧ w1.cell? ⟨b, 9, none⟩ = some v9)
    (h1 : Below H W w1) (h2 : Below H W w2) (hB : b < H) : w2.cell? ⟨b, 4, none⟩ = some v4 ∧ w2.cell? ⟨b, 5, none⟩ = some v5 ∧ w2.cell? ⟨b, 6, none⟩ = some v6 ∧ w2.cell? ⟨b, 7, none⟩ = some v7 ∧ w2.cell? ⟨b, 8, none⟩ = some v8 ∧ w2.cell? ⟨b, 9, none⟩ = some v9 := by
  have hc : ∀ i, w2.cell? ⟨b, i, none⟩ = w1.cell? ⟨b, i, none⟩ := fun i => (h2.cell (p := ⟨b, i, none⟩) hB).trans (h1.cell (p := ⟨b, i, none⟩) hB).symm
  simp only [hc]
  exact h
theorem valB_small {k n : Int} {s : ByteArray} (hk : k = 0 ∨ k = 1 ∨ k = 2) (h0 : -9223372036854775808 ≤ n) (h1 : n ≤ 9223372036854775807) (hs : s.size ≤ 1000000) : (valB k n s.data.toList).length ≤ 1000018 := by
  rcases hk with rfl | rfl | rfl
  · rw [valB_0]
    have := numB_small (n := 0) (by omega)
    omega
  · rw [valB_1, List.length_append]
    have := numB_small (n := 1) (by omega)
    have := numB_small (zig_lt h0 h1)
    omega
  · rw [valB_2, List.length_append]
    have := numB_small (n := 2) (by omega)
    have := textB_small hs
    omega
end Go.Proofs.YtjbmhbnlanbbkaaDoor

namespace Go.Proofs.YtjbmhbnlanbbkaaDoor
open Go.RowKit

/-- A write's ten cells, as a value. -/
abbrev wrI (dev seq K : Int) (ky : ByteArray) (ka na : Int) (sa : ByteArray) (kb nb : Int) (sb : ByteArray) : Array Value :=
  #[.int .i64 dev, .int .i64 seq, .int .i64 K, .string ky, .int .i64 ka, .int .i64 na, .string sa, .int .i64 kb, .int .i64 nb, .string sb]
/-- Is it good? -/
def idB (dev seq : Int) : Bool := decide (1 ≤ dev ∧ dev ≤ 11 ∧ 1 ≤ seq ∧ seq ≤ 40)
def wrGoodB (dev seq K : Int) (ky : ByteArray) (ka na : Int) (sa : ByteArray) (kb nb : Int) (sb : ByteArray) : Bool := idB dev seq && opB K ky ka na sa kb nb sb

theorem blk_c10 {W : World} {b : Nat} {v0 v1 v2 v3 v4 v5 v6 v7 v8 v9 : Value} {t : TypeId} (h : Blk W b #[v0, v1, v2, v3, v4, v5, v6, v7, v8, v9] t) :
    W.cell? ⟨b, 0, none⟩ = some v0 ∧ W.cell? ⟨b, 1, none⟩ = some v1 ∧ W.cell? ⟨b, 2, none⟩ = some v2 ∧ W.cell? ⟨b, 3, none⟩ = some v3 ∧ W.cell? ⟨b, 4, none⟩ = some v4 ∧ W.cell? ⟨b, 5, none⟩ = some v5 ∧ W.cell? ⟨b, 6, none⟩ = some v6 ∧ W.cell? ⟨b, 7, none⟩ = some v7 ∧ W.cell? ⟨b, 8, none⟩ = some v8 ∧ W.cell? ⟨b, 9, none⟩ = some v9 ∧ b < W.heap.size :=
  ⟨h.cell 0, h.cell 1, h.cell 2, h.cell 3, h.cell 4, h.cell 5, h.cell 6, h.cell 7, h.cell 8, h.cell 9, h.lt⟩

end Go.Proofs.YtjbmhbnlanbbkaaDoor

namespace Go.Proofs.YtjbmhbnlanbbkaaDoor
open Go.RowKit
attribute [local go_sem ↓] Go.wp_at_zero Go.wp_at_succ

/-- A write. -/
structure Wr where
  dev : Int
  seq : Int
  K : Int
  ky : ByteArray
  ka : Int
  na : Int
  sa : ByteArray
  kb : Int
  nb : Int
  sb : ByteArray
abbrev Wr.cells (x : Wr) : Array Value := wrI x.dev x.seq x.K x.ky x.ka x.na x.sa x.kb x.nb x.sb
def Wr.good (x : Wr) : Bool := wrGoodB x.dev x.seq x.K x.ky x.ka x.na x.sa x.kb x.nb x.sb
/-- Its texts are no longer than the form's reach, its numbers are of 64 bits. -/
def Wr.fits (x : Wr) : Prop := x.ky.size ≤ maxLen ∧ x.sa.size ≤ maxLen ∧ x.sb.size ≤ maxLen ∧ (-9223372036854775808 ≤ x.na ∧ x.na ≤ 9223372036854775807) ∧ (-9223372036854775808 ≤ x.nb ∧ x.nb ≤ 9223372036854775807)
/-- The slice at A reads as the writes l, in blocks below B. -/
def RdW (B : Nat) (W : World) (A : Option Addr) (l : List Wr) : Prop :=
  ∀ k x, l[k]? = some x → ∃ ad, A = some ad ∧ ad.block < B ∧ ∀ j v, x.cells[j]? = some v → W.cell? (ad.add (k * 10 + j)) = some v
theorem RdW.nil (B : Nat) (W : World) (A : Option Addr) : RdW B W A [] := fun k x h => by simp at h
theorem RdW.keep {B C : Nat} {W W' : World} {A : Option Addr} {l : List Wr} (h : RdW B W A l) (hb : Below C W W') (hBC : B ≤ C) : RdW B W' A l := by
  intro k x hx
  obtain ⟨ad, hA, hl, hc⟩ := h k x hx
  exact ⟨ad, hA, hl, fun j v hv => (hb.cell (by rw [add_block]; omega)).trans (hc j v hv)⟩
theorem RdW.more {B C : Nat} {W : World} {A : Option Addr} {l : List Wr} (h : RdW B W A l) (hBC : B ≤ C) : RdW C W A l := by
  intro k x hx
  obtain ⟨ad, hA, hl, hc⟩ := h k x hx
  exact ⟨ad, hA, by omega, hc⟩
theorem RdW.drew_ {B : Nat} {W : World} {A : Option Addr} {l : List Wr} (h : RdW B W A l) : RdW B W.drew A l := h
theorem RdW.at_ {B : Nat} {W : World} {A : Option Addr} {l : List Wr} (h : RdW B W A l) {k : Nat} (hk : k < l.length) : ∃ ad, A = some ad ∧ ad.block < B ∧ ∀ j v, (l[k]).cells[j]? = some v → W.cell? (ad.add (k * 10 + j)) = some v :=
  h k _ (List.getElem?_eq_getElem hk)

theorem add_at (a : Addr) (i j : Nat) : a.add (i + (j + 1)) = ⟨(a.add i).block, (a.add i).off + (j + 1), none⟩ := by
  rw [← add_add', Addr.add, if_neg (by omega)]
/-- A write's ten cells, as a load asks for them. -/
theorem wr_cells {W : World} {ad : Addr} {k : Nat} {x : Wr} (hc : ∀ j v, x.cells[j]? = some v → W.cell? (ad.add (k * 10 + j)) = some v) :
    W.cell? (ad.add (k * 10)) = some (.int .i64 x.dev) ∧ W.cell? ⟨(ad.add (k * 10)).block, (ad.add (k * 10)).off + 1, none⟩ = some (.int .i64 x.seq) ∧ W.cell? ⟨(ad.add (k * 10)).block, (ad.add (k * 10)).off + 2, none⟩ = some (.int .i64 x.K) ∧ W.cell? ⟨(ad.add (k * 10)).block, (ad.add (k * 10)).off + 3, none⟩ = some (.string x.ky) ∧
    W.cell? ⟨(ad.add (k * 10)).block, (ad.add (k * 10)).off + 4, none⟩ = some (.int .i64 x.ka) ∧ W.cell? ⟨(ad.add (k * 10)).block, (ad.add (k * 10)).off + 5, none⟩ = some (.int .i64 x.na) ∧ W.cell? ⟨(ad.add (k * 10)).block, (ad.add (k * 10)).off + 6, none⟩ = some (.string x.sa) ∧
    W.cell? ⟨(ad.add (k * 10)).block, (ad.add (k * 10)).off + 7, none⟩ = some (.int .i64 x.kb) ∧ W.cell? ⟨(ad.add (k * 10)).block, (ad.add (k * 10)).off + 8, none⟩ = some (.int .i64 x.nb) ∧ W.cell? ⟨(ad.add (k * 10)).block, (ad.add (k * 10)).off + 9, none⟩ = some (.string x.sb) := by
  have h : ∀ j v, x.cells[j + 1]? = some v → W.cell? ⟨(ad.add (k * 10)).block, (ad.add (k * 10)).off + (j + 1), none⟩ = some v := fun j v hv => by
    rw [← add_at]
    exact hc (j + 1) v hv
  exact ⟨hc 0 _ rfl, h 0 _ rfl, h 1 _ rfl, h 2 _ rfl, h 3 _ rfl, h 4 _ rfl, h 5 _ rfl, h 6 _ rfl, h 7 _ rfl, h 8 _ rfl⟩

def goodAll (l : List Wr) : Bool := l.all Wr.good

end Go.Proofs.YtjbmhbnlanbbkaaDoor

namespace Go.Proofs.YtjbmhbnlanbbkaaDoor
open Go.RowKit

theorem id_oneC (a b : Int) : (#[.int .i64 a, .int .i64 b] : Array Value).all (·.oneCell') = true := by
  rw [show (#[.int .i64 a, .int .i64 b] : Array Value) = [.int .i64 a, .int .i64 b].toArray from rfl, List.all_toArray]
  simp [Value.oneCell']
theorem wr_oneC (x : Wr) : x.cells.all (·.oneCell') = true := by
  obtain ⟨dev, seq, K, ky, ka, na, sa, kb, nb, sb⟩ := x
  show (wrI dev seq K ky ka na sa kb nb sb).all _ = true
  rw [show wrI dev seq K ky ka na sa kb nb sb = [.int .i64 dev, .int .i64 seq, .int .i64 K, .string ky, .int .i64 ka, .int .i64 na, .string sa, .int .i64 kb, .int .i64 nb, .string sb].toArray from rfl, List.all_toArray]
  simp [Value.oneCell']
end Go.Proofs.YtjbmhbnlanbbkaaDoor

namespace Go.Proofs.YtjbmhbnlanbbkaaDoor
open Go.RowKit

theorem celV_src {z : Nat} (hz : 0 < z) {W : World} {ad : Addr} : ∀ (xs : List (Array Value)), Szd z xs → (∀ k cs, xs[k]? = some cs → ∀ j v, cs[j]? = some v → W.cell? (ad.add (k * z + j)) = some v) → ∀ i u, (celV xs)[i]? = some u → W.cell? (ad.add i) = some u := by
  intro xs hs hc i u hi
  have hlt := (List.getElem?_eq_some_iff.1 hi).1
  rw [celV_len xs hs] at hlt
  have hk : i / z < xs.length := Nat.div_lt_of_lt_mul (by rw [Nat.mul_comm]; exact hlt)
  have hx : xs[i / z]? = some xs[i / z] := List.getElem?_eq_getElem hk
  have hsz := hs _ (List.getElem_mem hk)
  have hj : i % z < xs[i / z].size := by rw [hsz]; exact Nat.mod_lt _ hz
  have hv : xs[i / z][i % z]? = some xs[i / z][i % z] := Array.getElem?_eq_getElem hj
  have h2 := celV_get xs hs (i / z) (i % z) _ _ hx hv
  rw [Nat.div_add_mod' i z] at h2
  rw [hi] at h2
  injection h2 with h2
  have h3 := hc _ _ hx _ _ hv
  rw [Nat.div_add_mod' i z, ← h2] at h3
  exact h3
/-- Append of m elements onto a row of the call's own. -/
theorem run_apM {P : Program} (w : World) {t t' e' ty el : TypeId} {i : TypeInfo} {z y : Nat} {zv : Value} (ht : P.underlying t = some (.slice el)) (ht' : P.underlying t' = some (.slice e')) (hi : P.info? el = some i) (hz : i.zero = some zv) (hs : i.size = z) (hy : i.bytes = y) (hzs : zv.cells.size = z) (hz0 : 0 < z) (hy0 : y ≤ 1000)
    {base : Nat} {A : Option Addr} {ad : Addr} {n c m d : Nat} {l xs : List (Array Value)} (hown : OwnX el z base w A n c l) (hx : Szd z xs) (hm : xs.length = m) (h1 : ∀ x, x ∈ xs → ∀ u ∈ x.toList, u.oneCell' = true) (hr : ∀ k cs, xs[k]? = some cs → ∀ j v, cs[j]? = some v → w.cell? (ad.add (k * z + j)) = some v) (hsz : n + m ≤ 1000000000) (hbase : base ≤ w.heap.size) (hA : A ≠ none ∨ m ≠ 0) :
    ∃ A' c' w', (Builtin.append_ #[t, t'] ty #[.slice A n c, .slice (some ad) m d]).run P w = .ok (.slice A' (n + m) c') w' ∧ OwnX el z base w' A' (n + m) c' (l ++ xs) ∧ Below base w w' ∧ A' ≠ none ∧ (∀ x, x < w.heap.size → (∀ a, A = some a → a.block ≠ x) → w'.heap[x]? = w.heap[x]?) ∧ (A'.map (·.block) = A.map (·.block) ∨ A'.map (·.block) = some w.heap.size) := by
  obtain ⟨v', w', hrun, h2, h3, h4, h5⟩ := run_append_own_at (P := P) w base t ty el i zv z y ht hi hz hs hy hzs hz0 (.slice A n c) n (celV l) hown.1 ad m d (celV xs) (by rw [celV_len xs hx, hm]) (celV_src hz0 xs hx hr)
    (fun u hu => by
      obtain ⟨x, hx1, hx2⟩ := List.mem_flatMap.1 hu
      exact h1 x hx1 u hx2)
    (by unfold maxLen; omega) (Nat.le_trans (Nat.mul_le_mul (show n + m ≤ 1000000001 by omega) hy0) (by omega)) hbase
  have hb : Below base w w' := (Below.refl base w).grown h3 hbase (fun k hk => (World.ownsRow.lt hown.1 k hk).1)
  have hv : ∃ A' c', v' = .slice A' (n + m) c' ∧ A' ≠ none := by
    rcases h2.2 with ⟨e1, e2⟩ | ⟨g, cap, cur, e1, _⟩
    · exfalso
      have e3 := h4.1 e1
      injection e3.1 with e5
      rcases hA with h | h
      · exact h e5
      · exact h e3.2
    · exact ⟨_, _, e1, by simp⟩
  obtain ⟨A', c', rfl, hA'⟩ := hv
  refine ⟨A', c', w', by rw [run_append_tt w ht ht']; exact hrun, ⟨?_, ?_, ?_⟩, hb, hA', fun x hx hne => h3.block x hx fun e => by
    cases A with
    | none => cases e
    | some a => injection e with e; exact hne a rfl e.symm, ?_⟩
  · rw [show celV (l ++ xs) = celV l ++ celV xs by simp [celV]]
    exact h2
  · intro cs hc
    rcases List.mem_append.1 hc with h | h
    · exact hown.2.1 cs h
    · exact hx cs h
  · rw [List.length_append, hown.2.2, hm]
  · have e1 : ∀ (A : Option Addr) n c, (Value.slice A n c).ownBlock = A.map (·.block) := fun A n c => by cases A <;> rfl
    rw [e1, e1] at h5
    exact h5
theorem wp_apM {P : Program} {w : World} {t t' e' el : TypeId} {i : TypeInfo} {z y : Nat} {zv : Value} {base : Nat} {A : Option Addr} {ad : Addr} {n c m d : Nat} {l xs : List (Array Value)} {o : Oper} {a : Act} {Q : Exit → Act → World → Prop} {K : Act → World → Prop} (s x : Operand) (ho : o.op = .call { callee := .builtin .append, args := #[s, x], argTypes := #[t, t'] })
    (ht : P.underlying t = some (.slice el)) (ht' : P.underlying t' = some (.slice e')) (hi : P.info? el = some i) (hz : i.zero = some zv) (hs : i.size = z) (hy : i.bytes = y) (hzs : zv.cells.size = z) (hz0 : 0 < z) (hy0 : y ≤ 1000)
    (e1 : a.eval s = .slice A n c) (e2 : a.eval x = .slice (some ad) m d) (hown : OwnX el z base w A n c l) (hx : Szd z xs) (hm : xs.length = m) (h1 : ∀ x, x ∈ xs → ∀ u ∈ x.toList, u.oneCell' = true) (hr : ∀ k cs, xs[k]? = some cs → ∀ j v, cs[j]? = some v → w.cell? (ad.add (k * z + j)) = some v) (hsz : n + m ≤ 1000000000) (hbase : base ≤ w.heap.size) (hA : A ≠ none ∨ m ≠ 0)
    (h : ∀ A' c' w', OwnX el z base w' A' (n + m) c' (l ++ xs) → Below base w w' → A' ≠ none → (∀ x, x < w.heap.size → (∀ a, A = some a → a.block ≠ x) → w'.heap[x]? = w.heap[x]?) → (A'.map (·.block) = A.map (·.block) ∨ A'.map (·.block) = some w.heap.size) → K (a.put o.dst (.slice A' (n + m) c')) w') : o.wp P a w K Q := by
  obtain ⟨A', c', w', hrun, k1, k2, k3, k4, k5⟩ := run_apM (P := P) (ty := o.type) (d := d) w ht ht' hi hz hs hy hzs hz0 hy0 hown hx hm h1 hr hsz hbase hA
  unfold Oper.wp execOp
  simp only [ho, resolve, invoke, builtin, Sem.run_bind, Sem.run_pure, Result.andThen_ok, List.map_toArray, List.map_cons, List.map_nil, e1, e2, hrun]
  exact h A' c' w' k1 k2 k3 k4 k5
theorem wr_szd (ws : List Wr) : Szd 10 (ws.map Wr.cells) := fun cs hc => by
  obtain ⟨x, _, rfl⟩ := List.mem_map.1 hc
  rfl
theorem wr_ones (ws : List Wr) : ∀ x, x ∈ ws.map Wr.cells → ∀ u ∈ x.toList, u.oneCell' = true := fun cs hc u hu => by
  obtain ⟨x, _, rfl⟩ := List.mem_map.1 hc
  have h := wr_oneC x
  rw [Array.all_eq_true'] at h
  exact h u (Array.mem_toList_iff.1 hu)
theorem RdW.cells {B : Nat} {W : World} {ad : Addr} {ws : List Wr} (h : RdW B W (some ad) ws) : ∀ k cs, (ws.map Wr.cells)[k]? = some cs → ∀ j v, cs[j]? = some v → W.cell? (ad.add (k * 10 + j)) = some v := fun k cs hk j v hv => by
  rw [List.getElem?_map] at hk
  cases hx : ws[k]? with
  | none => rw [hx] at hk; cases hk
  | some x =>
    rw [hx] at hk
    injection hk with hk
    subst hk
    obtain ⟨ad2, e, _, hc⟩ := h k x hx
    injection e with e
    subst e
    exact hc j v hv
theorem RdW.lo {B : Nat} {W : World} {ad : Addr} {ws : List Wr} (h : RdW B W (some ad) ws) (k : Nat) : RdW B W (some (ad.add (k * 10))) (ws.drop k) := fun j x hx => by
  rw [List.getElem?_drop] at hx
  obtain ⟨ad2, e, hb, hc⟩ := h (k + j) x hx
  injection e with e
  subst e
  refine ⟨_, rfl, by rw [add_block]; exact hb, fun i v hv => ?_⟩
  rw [add_add', show k * 10 + (j * 10 + i) = (k + j) * 10 + i by omega]
  exact hc i v hv
theorem RdW.hi {B : Nat} {W : World} {A : Option Addr} {ws : List Wr} (h : RdW B W A ws) (k : Nat) : RdW B W A (ws.take k) := fun j x hx => h j x (by
  rw [List.getElem?_take] at hx
  split at hx
  · exact hx
  · cases hx)
section
variable {P : Program} {l : List Oper} {Q : Exit → Act → World → Prop} {S : World → Prop} {fuel : Nat} {listed : Array Bool} {rest : List Oper} {a0 : Act} {L : List (Nat × Bool × Value)} {w : World}
/-- An operation of a plain region, by what it does. -/
theorem fl_wp {o : Oper} {d n : Nat} {R : Value → World → Prop} (hn : a0.tmps.size = n) (hX : ∀ K : Act → World → Prop, (∀ v w2, R v w2 → K ((fr a0 L).put (some d) v) w2) → (∀ p, p ∈ L → p.1 < a0.tmps.size) → o.wp P (fr a0 L) w K Q)
    (h : ∀ v w2, R v w2 → FL P l Q rest a0 ((d, true, v) :: L) w2) (hd : Nat.blt d n = true) (hw : wtG l L o.guard = some true) : FL P l Q (o :: rest) a0 L w := by
  refine ⟨fun hk => ?_⟩
  refine wpList_step fun K hK => ?_
  rw [wt_is hk hw, if_pos rfl]
  exact hX K (fun v w2 hR => hK _ _ ((h v w2 hR).go (bd_more hn hd hk))) hk
end
section
variable {l : List Oper} {Q : Exit → Act → World → Prop} {S : World → Prop} {fuel : Nat} {listed : Array Bool} {rest : List Oper} {a0 : Act} {L : List (Nat × Bool × Value)} {w : World}
end
theorem OwnX.onlyG {t : TypeId} {z base : Nat} {W W' : World} {A : Option Addr} {n c : Nat} {l : List (Array Value)} {g : Nat} (h : OwnX t z base W A n c l) (ho : Only1 g W W') (hg : g < base) : OwnX t z base W' A n c l := by
  refine ⟨⟨h.1.1, ?_⟩, h.2⟩
  rcases h.1.2 with h | ⟨g2, cap, cur, h1, h2, h3, h4⟩
  · exact .inl h
  · exact .inr ⟨g2, cap, cur, h1, h2, (ho.block g2 (by omega)).trans h3, h4⟩
theorem OwnX.blkLt {t : TypeId} {z base : Nat} {W : World} {A : Option Addr} {n c : Nat} {l : List (Array Value)} (h : OwnX t z base W A n c l) : ∀ a, A = some a → a.block < W.heap.size := fun a ha => (h.blk ha).2
theorem Blk.keep' {W W1 : World} {b B : Nat} {cs : Array Value} {t : TypeId} (h : Blk W b cs t) (hb : Below B W W1) (hB : b < B) : Blk W1 b cs t := (hb.block b hB).trans h
end Go.Proofs.YtjbmhbnlanbbkaaDoor

namespace Go.Proofs.YtjbmhbnlanbbkaaDoor
open Go.RowKit

/-- string(..) of bytes that are read. -/
theorem conv_rd {B : Nat} (W : World) (A : Option Addr) (n c : Nat) (l : List UInt8) (hn : l.length = n) (h : RdB B W A l) : (convert 28 9 (.slice A n c)).run Tryd.prog W = .ok (.string ⟨l.toArray⟩) W := by
  subst hn
  cases l with
  | nil =>
    cases A with
    | none => exact run_convert_bytes_nil W 28 5 Tryd.underlying28 Tryd.underlying5 0 c 9 Tryd.underlying9
    | some ad => exact run_convert_bytes_back W 28 9 5 ad c [] Tryd.underlying28 Tryd.underlying5 Tryd.underlying9 (fun j hj => absurd hj (by simp))
  | cons x t =>
    obtain ⟨ad, rfl, _, _⟩ := h 0 x rfl
    refine run_convert_bytes_back W 28 9 5 ad c (x :: t) Tryd.underlying28 Tryd.underlying5 Tryd.underlying9 ?_
    intro j hj
    obtain ⟨a2, e, _, hc⟩ := h j _ (List.getElem?_eq_getElem hj)
    injection e with e
    subst e
    exact hc
end Go.Proofs.YtjbmhbnlanbbkaaDoor
