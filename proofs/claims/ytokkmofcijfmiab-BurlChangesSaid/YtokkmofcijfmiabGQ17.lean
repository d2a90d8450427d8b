/-
  WHAT IS PROVED: skies: By; the document's Below, By. Conditions: those typed in each theorem. · rows of any kind of element, by XFast's laws: a slice of one element, append onto a row of the call's own. Conditions: those typed in each theorem.
-/
import Derived.Test.YtokkmofcijfmiabGQ15
import Derived.Test.YtokkmofcijfmiabStrs
import Derived.Test.YtokkmofcijfmiabGQ16
import Derived.Great.BuildSlice
namespace Go.Proofs.Ytokkmofcijfmiab
open Go.RowKit

theorem callf_isC {w : World} {f : FuncId} (he : ∀ args w, (callFunc f args).run Try.prog w = .ok (.enter f args) w) (d : Option Tmp) (x y : Operand) (ts : Array TypeId) (ty : TypeId) (p : String) (af : Array Edge) (gd : Option (Nat × Bool)) (ρ : Operand → Value) (v : Value) (lb : Array Value) (h0 : ρ x = .func (.func f) #[] lb) (h1 : ρ y = v) : (execOp ρ ⟨d, .call { callee := .value x, args := #[y], argTypes := ts }, ty, p, af, gd⟩).run Try.prog w = .ok (.enter f (#[v] ++ lb)) w := by
  unfold execOp
  dsimp only
  go_simp
theorem g_cfC {l : List Oper} {Q : Exit → Act → World → Prop} {rest : List Oper} {a0 : Act} {L : List (Nat × Bool × Value)} {w : World} {f : FuncId} {i j d n : Nat} {v : Value} {lb : Array Value} {R : Value → World → Prop} {ts : Array TypeId} {ty : TypeId} {p : String} {af : Array Edge} {gd : Option (Nat × Bool)} (he : ∀ args w, (callFunc f args).run Try.prog w = .ok (.enter f args) w) (hn : a0.tmps.size = n) (hc : Calls Try.prog f (#[v] ++ lb) w fun e w' => ∃ v, e = .returned v ∧ R v w') (h : ∀ v w2, R v w2 → FL Try.prog l Q rest a0 ((d, true, v) :: L) w2) (hd : Nat.blt d n = true := by rfl) (hw : wtG l L gd = some true := by rfl) (hl : lk L i = some (true, .func (.func f) #[] lb) := by rfl) (hl2 : lk L j = some (true, v) := by rfl) : FL Try.prog l Q (⟨some d, .call { callee := .value (.tmp i), args := #[.tmp j], argTypes := ts }, ty, p, af, gd⟩ :: rest) a0 L w :=
  fl_callx hn rfl hd hw (fun hk => callf_isC he _ _ _ _ _ _ _ _ _ v lb (lk_at hk hl (fun _ => rfl) rfl) (lk_at hk hl2 (fun _ => rfl) rfl)) hc h

/-- Reads as these whole numbers. -/
def RdI (B : Nat) (W : World) (A : Option Addr) (l : List Int) : Prop := ∀ k x, l[k]? = some x → ∃ ad, A = some ad ∧ ad.block < B ∧ W.cell? (ad.add k) = some (.int .i64 x)
theorem RdI.nil (B : Nat) (W : World) (A : Option Addr) : RdI B W A [] := fun k x h => by simp at h
theorem RdI.exc {B g : Nat} {W W' : World} {A : Option Addr} {l : List Int} (h : RdI B W A l) (hb : Exc g W W') (hB : B ≤ W.heap.size) (hg : B ≤ g) : RdI B W' A l := fun k x hx => by
  obtain ⟨ad, e, h1, h2⟩ := h k x hx
  refine ⟨ad, e, h1, ?_⟩
  have hbe : (hb.below (B := B) hg hB) = (hb.below (B := B) hg hB) := rfl
  rw [(hb.below (B := B) hg hB).cell (by rw [add_block]; exact h1)]
  exact h2
theorem RdI.keep {B C : Nat} {W W' : World} {A : Option Addr} {l : List Int} (h : RdI B W A l) (hb : Below C W W') (hBC : B ≤ C) : RdI B W' A l := fun k x hx => by
  obtain ⟨ad, e, h1, h2⟩ := h k x hx
  exact ⟨ad, e, h1, by rw [hb.cell (by rw [add_block]; omega)]; exact h2⟩
theorem iix (W : World) (ad : Addr) (n c k : Nat) (h : k < n) : (Instr.indexAt 43 (.slice (some ad) n c) (.int .i64 (k : Int))).run Try.prog W = .ok (.pointer (some (ad.add k))) W := by
  have h1 : (0 : Int) ≤ (k : Int) := by omega
  have h2 : (k : Int) < (n : Int) := by omega
  go_simp
theorem wrapS {y : Int} (h : -9223372036854775808 ≤ y ∧ y ≤ 9223372036854775807) : IntKind.i64.wrap y = y := by
  unfold IntKind.wrap
  simp [IntKind.bits, IntKind.signed]
  omega
/-- Behind how many. -/
def subW (k : Int) (l : List Int) : Int := k - sumW l
theorem findW_next {l : List Int} {k : Int} {j : Nat} {x : Int} (hx : l[j]? = some x) (h : findW k 0 l = findW (k - sumW (l.take j)) j (l.drop j)) :
    (k - sumW (l.take (j + 1)) < 0 → findW k 0 l = (j : Int)) ∧ (¬ k - sumW (l.take (j + 1)) < 0 → findW k 0 l = findW (k - sumW (l.take (j + 1))) (j + 1) (l.drop (j + 1))) ∧ sumW (l.take (j + 1)) = sumW (l.take j) + x := by
  have hs : sumW (l.take (j + 1)) = sumW (l.take j) + x := by
    rw [List.take_add_one, hx]
    exact sumW_snoc _ _
  have hj : j < l.length := (List.getElem?_eq_some_iff.1 hx).1
  have hd : l.drop j = x :: l.drop (j + 1) := by
    rw [List.drop_eq_getElem_cons hj]
    congr 1
    exact (List.getElem?_eq_some_iff.1 hx).2
  rw [hd] at h
  have e : findW (k - sumW (l.take j)) j (x :: l.drop (j + 1)) = if k - sumW (l.take j) - x < 0 then (j : Int) else findW (k - sumW (l.take j) - x) (j + 1) (l.drop (j + 1)) := rfl
  rw [e, show k - sumW (l.take j) - x = k - sumW (l.take (j + 1)) by omega] at h
  refine ⟨fun h1 => by rw [h, if_pos h1], fun h1 => by rw [h, if_neg h1], hs⟩
theorem findW_end {l : List Int} {k : Int} {j : Nat} (hj : l.length ≤ j) (h : findW k 0 l = findW (k - sumW (l.take j)) j (l.drop j)) : findW k 0 l = -1 := by
  rw [h, List.drop_eq_nil_of_le hj]
  rfl
end Go.Proofs.Ytokkmofcijfmiab

namespace Go.Proofs.Ytokkmofcijfmiab
open Go.RowKit

/-- What an element's type is, as the program tells: its zero, how many cells, how many bytes. -/
def ElI (el : TypeId) (zv : Value) (z y : Nat) : Prop := (Try.prog.info? el).map (fun i => (i.zero, i.size, i.bytes)) = some (some zv, z, y)
def ApX (el : TypeId) (z base : Nat) (A : Option Addr) (w : World) (n m : Nat) (l xs : List (Array Value)) (v : Value) (w2 : World) : Prop :=
  ∃ A' c', v = .slice A' (n + m) c' ∧ OwnX el z base w2 A' (n + m) c' (l ++ xs) ∧ Below base w w2 ∧ A' ≠ none ∧ (∀ x, x < w.heap.size → (∀ a, A = some a → a.block ≠ x) → w2.heap[x]? = w.heap[x]?) ∧ (A'.map (·.block) = A.map (·.block) ∨ A'.map (·.block) = some w.heap.size)
/-- What may lie at an address as a row. -/
def RdC (z : Nat) (w : World) (ad : Addr) (xs : List (Array Value)) : Prop := ∀ k cs, xs[k]? = some cs → ∀ j v, cs[j]? = some v → w.cell? (ad.add (k * z + j)) = some v
section
variable {l : List Oper} {Q : Exit → Act → World → Prop} {S : World → Prop} {fuel : Nat} {listed : Array Bool} {rest : List Oper} {a0 : Act} {L : List (Nat × Bool × Value)} {w : World}
theorem wp_apX2 {a : Act} {o : Oper} {K : Act → World → Prop} {d : Nat} {base : Nat} {A : Option Addr} {ad : Addr} {n c m dd : Nat} {ks xs : List (Array Value)} {el t : TypeId} {zv : Value} {z y : Nat} (hd : o.dst = some d) (s x : Operand) (ho : o.op = .call { callee := .builtin .append, args := #[s, x], argTypes := #[t, t] }) (e1 : a.eval s = .slice A n c) (e2 : a.eval x = .slice (some ad) m dd)
    (ht : Try.prog.underlying t = some (.slice el)) (hI : ElI el zv z y) (hzs : zv.cells.size = z) (hz0 : 0 < z) (hy0 : y ≤ 1000)
    (hown : OwnX el z base w A n c ks) (hsz0 : Szd z xs) (hm : xs.length = m) (hone : ∀ x, x ∈ xs → ∀ u ∈ x.toList, u.oneCell' = true) (hsrc : RdC z w ad xs) (hsz : n + m ≤ 1000000000) (hbase : base ≤ w.heap.size) (hA : A ≠ none ∨ m ≠ 0) (hK : ∀ v w2, ApX el z base A w n m ks xs v w2 → K (a.put (some d) v) w2) : o.wp Try.prog a w K Q := by
  obtain ⟨i0, hi0, hz1, hs0, hb0⟩ := info_parts hI
  refine wp_apM s x ho ht ht hi0 hz1 hs0 hb0 hzs hz0 hy0 e1 e2 hown hsz0 hm hone hsrc hsz hbase hA fun A' c' w' k1 k2 k3 k4 k5 => ?_
  rw [hd]
  exact hK _ _ ⟨A', c', rfl, k1, k2, k3, k4, k5⟩
theorem g_apX {i j d nn : Nat} {base : Nat} {A : Option Addr} {ad : Addr} {n c m dd : Nat} {ks xs : List (Array Value)} {el t : TypeId} {zv : Value} {z y : Nat} {ty : TypeId} {p : String} {af : Array Edge} (hn : a0.tmps.size = nn)
    (ht : Try.prog.underlying t = some (.slice el)) (hI : ElI el zv z y) (hzs : zv.cells.size = z) (hz0 : 0 < z) (hy0 : y ≤ 1000)
    (hown : OwnX el z base w A n c ks) (hsz0 : Szd z xs) (hm : xs.length = m) (hone : ∀ x, x ∈ xs → ∀ u ∈ x.toList, u.oneCell' = true) (hsrc : RdC z w ad xs) (hsz : n + m ≤ 1000000000) (hbase : base ≤ w.heap.size) (hA : A ≠ none ∨ m ≠ 0)
    (h : ∀ v w2, ApX el z base A w n m ks xs v w2 → FL Try.prog l Q rest a0 ((d, true, v) :: L) w2)
    (h1 : lk L i = some (true, .slice A n c) := by rfl) (h2 : lk L j = some (true, .slice (some ad) m dd) := by rfl) (hd : Nat.blt d nn = true := by rfl) : FL Try.prog l Q (⟨some d, .call { callee := .builtin .append, args := #[.tmp i, .tmp j], argTypes := #[t, t] }, ty, p, af, none⟩ :: rest) a0 L w :=
  fl_wp hn (R := ApX el z base A w n m ks xs) (fun K hK hk => wp_apX2 rfl (.tmp i) (.tmp j) rfl (lk_at hk h1 (fun _ => rfl) rfl) (lk_at hk h2 (fun _ => rfl) rfl) ht hI hzs hz0 hy0 hown hsz0 hm hone hsrc hsz hbase hA hK) h hd rfl
/-- A slice of one element. -/
theorem g_bsX {i d n : Nat} {v : Value} {t el : TypeId} {zv : Value} {z y : Nat} {ty : TypeId} {p : String} {af : Array Edge} (hn : a0.tmps.size = n) (ht : Try.prog.underlying t = some (.slice el)) (hI : ElI el zv z y) (hz0 : 0 < z) (hz1 : z ≤ 1000) (hsz : v.cells.size = z)
    (hrun : ∀ w : World, (Instr.buildSlice t 1 #[(0, v)]).run Try.prog w = .ok (.slice (some ⟨w.heap.size, 0, none⟩) 1 1) (w.alloc (.cells v.cells el)))
    (h : ∀ g w2, g = w.heap.size → Blk w2 g v.cells el → Below w.heap.size w w2 → FL Try.prog l Q rest a0 ((d, true, .slice (some ⟨g, 0, none⟩) 1 1) :: L) w2) (hi : lk L i = some (true, v) := by rfl) (hd : Nat.blt d n = true := by rfl) : FL Try.prog l Q (⟨some d, .buildSlice t 1 #[(0, .tmp i)], ty, p, af, none⟩ :: rest) a0 L w :=
  g_w hn (w2 := w.alloc (.cells v.cells el)) (v := .slice (some ⟨w.heap.size, 0, none⟩) 1 1) (fun hk => by
    have e : (#[(0, Operand.tmp i)] : Array (Nat × Operand)).map (fun y => (y.fst, (fr a0 L).eval y.snd)) = #[(0, v)] := by simp only [List.map_toArray, List.map_cons, List.map_nil, lk_at hk hi (fun _ => rfl) rfl]
    have h2 := hrun w
    rw [← e] at h2
    unfold execOp
    dsimp only
    rw [Sem.run_bind]
    refine (congrArg (fun r => Result.andThen r _) h2).trans ?_
    rfl) (h _ _ rfl (blk_new w _ el) (b0 w _)) rfl hd rfl
end
theorem blk_rdC {W : World} {g z : Nat} {cs : Array Value} {t : TypeId} (h : Blk W g cs t) : RdC z W ⟨g, 0, none⟩ [cs] := fun k y hy j v hv => by
  match k, hy with
  | 0, hy =>
    have e : cs = y := by simpa using hy
    subst e
    rw [Nat.zero_mul, Nat.zero_add, zeroX_at, h.cell j]
    exact hv
/-- Whole numbers as cells. -/
abbrev inC (x : Int) : Array Value := #[.int .i64 x]
abbrev tIn : TypeId := 3
theorem in_info : ElI tIn (.int .i64 0) 1 8 := by unfold ElI; kernel_rfl
theorem in_szd (l : List Int) : Szd 1 (l.map inC) := fun cs hc => by
  obtain ⟨x, _, rfl⟩ := List.mem_map.1 hc
  rfl
theorem bsIn (x : Int) (w : World) : (Instr.buildSlice 43 1 #[(0, .int .i64 x)]).run Try.prog w = .ok (.slice (some ⟨w.heap.size, 0, none⟩) 1 1) (w.alloc (.cells #[.int .i64 x] tIn)) := by kernel_rfl
theorem OwnX.rdi {base n c : Nat} {W : World} {A : Option Addr} {l : List Int} (h : OwnX tIn 1 base W A n c (l.map inC)) : RdI W.heap.size W A l := fun k x hx => by
  obtain ⟨ad, e, hb, hc⟩ := h.rd k (inC x) (by rw [List.getElem?_map, hx]; rfl)
  have h0 := hc 0 _ rfl
  rw [Nat.mul_one, Nat.add_zero] at h0
  exact ⟨ad, e, hb, h0⟩
end Go.Proofs.Ytokkmofcijfmiab
