/-
  WHAT IS PROVED: rows of any kind of element, by XFast's laws: a slice of one element, append onto a row of the call's own. Conditions: those typed in each theorem.
-/
import Derived.Test.YtkfhkfddhijkcaaApM
import Derived.Test.YtkfhkfddhijkcaaGQ7
import Derived.Great.BuildSlice
namespace Go.Proofs.Ytkfhkfddhijkcaa
open Go.RowKit

/-- What an element's type is, as the program tells: its zero, how many cells, how many bytes. -/
def ElI (el : TypeId) (zv : Value) (z y : Nat) : Prop := (Try.prog.info? el).map (fun i => (i.zero, i.size, i.bytes)) = some (some zv, z, y)
def ApX (el : TypeId) (z base : Nat) (A : Option Addr) (w : World) (n m : Nat) (l xs : List (Array Value)) (v : Value) (w2 : World) : Prop :=
  ∃ A' c', v = .slice A' (n + m) c' ∧ OwnX el z base w2 A' (n + m) c' (l ++ xs) ∧ Below base w w2 ∧ A' ≠ none ∧ (∀ x, x < w.heap.size → (∀ a, A = some a → a.block ≠ x) → w2.heap[x]? = w.heap[x]?) ∧ (A'.map (·.block) = A.map (·.block) ∨ A'.map (·.block) = some w.heap.size)
/-- What may lie at an address as a row. -/
def RdC (z : Nat) (w : World) (ad : Addr) (xs : List (Array Value)) : Prop := ∀ k cs, xs[k]? = some cs → ∀ j v, cs[j]? = some v → w.cell? (ad.add (k * z + j)) = some v
section
variable {l : List Oper} {Q : Exit → Act → World → Prop} {S : World → Prop} {fuel : Nat} {listed : Array Bool} {rest : List Oper} {a0 : Act} {L : List (Nat × Bool × Value)} {w : World}
theorem wp_apX2 {a : Act} {o : Oper} {K : Act → World → Prop} {d : Nat} {base : Nat} {A : Option Addr} {ad : Addr} {n c m dd : Nat} {ks xs : List (Array Value)} {el t : TypeId} {zv : Value} {z y : Nat} (hd : o.dst = some d) (s x : Operand) (ho : o.op = .call { callee := .builtin .append, args := #[s, x], argTypes := #[t, t] }) (e1 : a.eval s = .slice A n c) (e2 : a.eval x = .slice (some ad) m dd)
    (ht : Try.prog.underlying t = some (.slice el)) (hI : ElI el zv z y) (hzs : zv.cells.size = z) (hz0 : 0 < z) (hy0 : y ≤ 1000)
    (hown : OwnX el z base w A n c ks) (hsz0 : Szd z xs) (hm : xs.length = m) (hone : ∀ x, x ∈ xs → ∀ u ∈ x.toList, u.oneCell' = true) (hsrc : RdC z w ad xs) (hsz : n + m ≤ 1000000000) (hbase : base ≤ w.heap.size) (hA : A ≠ none ∨ m ≠ 0) (hK : ∀ v w2, ApX el z base A w n m ks xs v w2 → K (a.put (some d) v) w2) : o.wp Try.prog a w K Q := by
  obtain ⟨i0, hi0, hz1, hs0, hb0⟩ := info_parts hI
  refine wp_apM s x ho ht ht hi0 hz1 hs0 hb0 hzs hz0 hy0 e1 e2 hown hsz0 hm hone hsrc hsz hbase hA fun A' c' w' k1 k2 k3 k4 k5 => ?_
  rw [hd]
  exact hK _ _ ⟨A', c', rfl, k1, k2, k3, k4, k5⟩
theorem g_apX {i j d nn : Nat} {base : Nat} {A : Option Addr} {ad : Addr} {n c m dd : Nat} {ks xs : List (Array Value)} {el t : TypeId} {zv : Value} {z y : Nat} {ty : TypeId} {p : String} {af : Array Edge} (hn : a0.tmps.size = nn)
    (ht : Try.prog.underlying t = some (.slice el)) (hI : ElI el zv z y) (hzs : zv.cells.size = z) (hz0 : 0 < z) (hy0 : y ≤ 1000)
    (hown : OwnX el z base w A n c ks) (hsz0 : Szd z xs) (hm : xs.length = m) (hone : ∀ x, x ∈ xs → ∀ u ∈ x.toList, u.oneCell' = true) (hsrc : RdC z w ad xs) (hsz : n + m ≤ 1000000000) (hbase : base ≤ w.heap.size) (hA : A ≠ none ∨ m ≠ 0)
    (h : ∀ v w2, ApX el z base A w n m ks xs v w2 → FL Try.prog l Q rest a0 ((d, true, v) :: L) w2)
    (h1 : lk L i = some (true, .slice A n c) := by rfl) (h2 : lk L j = some (true, .slice (some ad) m dd) := by rfl) (hd : Nat.blt d nn = true := by rfl) : FL Try.prog l Q (⟨some d, .call { callee := .builtin .append, args := #[.tmp i, .tmp j], argTypes := #[t, t] }, ty, p, af, none⟩ :: rest) a0 L w :=
  fl_wp hn (R := ApX el z base A w n m ks xs) (fun K hK hk => wp_apX2 rfl (.tmp i) (.tmp j) rfl (lk_at hk h1 (fun _ => rfl) rfl) (lk_at hk h2 (fun _ => rfl) rfl) ht hI hzs hz0 hy0 hown hsz0 hm hone hsrc hsz hbase hA hK) h hd rfl
/-- A slice of one element. -/
theorem g_bsX {i d n : Nat} {v : Value} {t el : TypeId} {zv : Value} {z y : Nat} {ty : TypeId} {p : String} {af : Array Edge} (hn : a0.tmps.size = n) (ht : Try.prog.underlying t = some (.slice el)) (hI : ElI el zv z y) (hz0 : 0 < z) (hz1 : z ≤ 1000) (hsz : v.cells.size = z)
    (hrun : ∀ w : World, (Instr.buildSlice t 1 #[(0, v)]).run Try.prog w = .ok (.slice (some ⟨w.heap.size, 0, none⟩) 1 1) (w.alloc (.cells v.cells el)))
    (h : ∀ g w2, g = w.heap.size → Blk w2 g v.cells el → Below w.heap.size w w2 → FL Try.prog l Q rest a0 ((d, true, .slice (some ⟨g, 0, none⟩) 1 1) :: L) w2) (hi : lk L i = some (true, v) := by rfl) (hd : Nat.blt d n = true := by rfl) : FL Try.prog l Q (⟨some d, .buildSlice t 1 #[(0, .tmp i)], ty, p, af, none⟩ :: rest) a0 L w :=
  g_w hn (w2 := w.alloc (.cells v.cells el)) (v := .slice (some ⟨w.heap.size, 0, none⟩) 1 1) (fun hk => by
    have e : (#[(0, Operand.tmp i)] : Array (Nat × Operand)).map (fun y => (y.fst, (fr a0 L).eval y.snd)) = #[(0, v)] := by simp only [List.map_toArray, List.map_cons, List.map_nil, lk_at hk hi (fun _ => rfl) rfl]
    have h2 := hrun w
    rw [← e] at h2
    unfold execOp
    dsimp only
    rw [Sem.run_bind]
    refine (congrArg (fun r => Result.andThen r _) h2).trans ?_
    rfl) (h _ _ rfl (blk_new w _ el) (b0 w _)) rfl hd rfl
end
theorem blk_rdC {W : World} {g z : Nat} {cs : Array Value} {t : TypeId} (h : Blk W g cs t) : RdC z W ⟨g, 0, none⟩ [cs] := fun k y hy j v hv => by
  match k, hy with
  | 0, hy =>
    have e : cs = y := by simpa using hy
    subst e
    rw [Nat.zero_mul, Nat.zero_add, zeroX_at, h.cell j]
    exact hv
/-- Whole numbers as cells. -/
abbrev inC (x : Int) : Array Value := #[.int .i64 x]
abbrev tIn : TypeId := 3
theorem in_info : ElI tIn (.int .i64 0) 1 8 := by unfold ElI; kernel_rfl
theorem in_szd (l : List Int) : Szd 1 (l.map inC) := fun cs hc => by
  obtain ⟨x, _, rfl⟩ := List.mem_map.1 hc
  rfl
theorem bsIn (x : Int) (w : World) : (Instr.buildSlice 55 1 #[(0, .int .i64 x)]).run Try.prog w = .ok (.slice (some ⟨w.heap.size, 0, none⟩) 1 1) (w.alloc (.cells #[.int .i64 x] tIn)) := by kernel_rfl
theorem OwnX.rdi {base n c : Nat} {W : World} {A : Option Addr} {l : List Int} (h : OwnX tIn 1 base W A n c (l.map inC)) : RdI W.heap.size W A l := fun k x hx => by
  obtain ⟨ad, e, hb, hc⟩ := h.rd k (inC x) (by rw [List.getElem?_map, hx]; rfl)
  have h0 := hc 0 _ rfl
  rw [Nat.mul_one, Nat.add_zero] at h0
  exact ⟨ad, e, hb, h0⟩
end Go.Proofs.Ytkfhkfddhijkcaa
