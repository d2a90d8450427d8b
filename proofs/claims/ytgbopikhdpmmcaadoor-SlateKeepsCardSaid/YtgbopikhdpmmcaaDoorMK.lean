/-
  WHAT IS PROVED: notes and acts in memory; what a slate keeps, told by notes. Conditions: those typed in each theorem. · the law SlateKeeps returns true, first half: what holds on its way. Conditions: those typed in each theorem. · the law SlateKeeps: comparisons, new bytes, what is found of notes. Conditions: those typed in each theorem.
-/
import Derived.Test.YtgbopikhdpmmcaaDoorSlAwake
import Derived.Test.YtgbopikhdpmmcaaDoorApM
import Derived.Test.YtgbopikhdpmmcaaDoorConvRd
import Derived.Great.BuildSlice
namespace Go.Proofs.YtgbopikhdpmmcaaDoor
open Go.RowKit

/-! Notes. -/
abbrev tNo : TypeId := 59
def strL (l : List UInt8) : ByteArray := ⟨l.toArray⟩
def noC (x : Pw) : Array Value := #[.int .i64 x.f, .int .i64 x.b, .string (strL x.l)]
theorem no_oneC (x : Pw) : (noC x).all (·.oneCell') = true := by
  show (([.int .i64 x.f, .int .i64 x.b, .string (strL x.l)] : List Value).toArray).all _ = true
  rw [List.all_toArray]
  simp [Value.oneCell']
theorem no_info : (Tryd.prog.info? 59).map (fun i => (i.zero, i.size, i.bytes)) = some (some (.agg (noC ⟨0, 0, []⟩)), 3, 32) := by kernel_rfl
theorem no_szd (ws : List Pw) : Szd 3 (ws.map noC) := fun cs hc => by
  obtain ⟨x, _, rfl⟩ := List.mem_map.1 hc
  rfl
theorem no_ones (ws : List Pw) : ∀ x, x ∈ ws.map noC → ∀ u ∈ x.toList, u.oneCell' = true := fun cs hc u hu => by
  obtain ⟨x, _, rfl⟩ := List.mem_map.1 hc
  have h := no_oneC x
  rw [Array.all_eq_true'] at h
  exact h u (Array.mem_toList_iff.1 hu)
def NoR (base : Nat) (A : Option Addr) (w : World) (n : Nat) (l : List Pw) (v : Value) (w2 : World) : Prop := ∃ A' c', v = .slice A' (n + 1) c' ∧ OwnX tNo 3 base w2 A' (n + 1) c' (l.map noC) ∧ Below base w w2 ∧ (∀ x, x < w.heap.size → (∀ a, A = some a → a.block ≠ x) → w2.heap[x]? = w.heap[x]?) ∧ (A'.map (·.block) = A.map (·.block) ∨ A'.map (·.block) = some w.heap.size)
section
variable {l : List Oper} {Q : Exit → Act → World → Prop} {rest : List Oper} {a0 : Act} {L : List (Nat × Bool × Value)} {w : World}
theorem g_apN {i j d nn : Nat} {base : Nat} {A : Option Addr} {g n c dd : Nat} {ks : List Pw} {x : Pw} {t : TypeId} {ty : TypeId} {p : String} {af : Array Edge} (hn : a0.tmps.size = nn)
    (hown : OwnX tNo 3 base w A n c (ks.map noC)) (hsrc : Blk w g (noC x) t) (hsz : n ≤ 1000000) (hbase : base ≤ w.heap.size)
    (h : ∀ v w2, NoR base A w n (ks ++ [x]) v w2 → FL Tryd.prog l Q rest a0 ((d, true, v) :: L) w2)
    (h1 : lk L i = some (true, .slice A n c) := by rfl) (h2 : lk L j = some (true, .slice (some ⟨g, 0, none⟩) 1 dd) := by rfl) (hd : Nat.blt d nn = true := by rfl) : FL Tryd.prog l Q (⟨some d, .call { callee := .builtin .append, args := #[.tmp i, .tmp j], argTypes := #[53, 53] }, ty, p, af, none⟩ :: rest) a0 L w :=
  fl_wp hn (R := NoR base A w n (ks ++ [x])) (fun K hK hk => by
    obtain ⟨i0, hi0, hz0, hs0, hb0⟩ := info_parts no_info
    refine wp_apM (.tmp i) (.tmp j) rfl Tryd.underlying53 Tryd.underlying53 hi0 hz0 hs0 hb0 (by rfl) (by omega) (by omega) (lk_at hk h1 (fun _ => rfl) rfl) (lk_at hk h2 (fun _ => rfl) rfl) hown (no_szd [x]) rfl (no_ones [x]) ?_ (by omega) hbase (.inr (by omega)) fun A' c' w' k1 k2 _ k4 k5 => ?_
    · intro k cs hk2 j2 v hv
      match k, hk2 with
      | 0, hk2 =>
        have e : noC x = cs := by simpa using hk2
        subst e
        rw [Nat.zero_mul, Nat.zero_add, zeroX_at, hsrc.cell j2]
        exact hv
    · exact hK _ _ ⟨A', c', rfl, by rw [List.map_append]; exact k1, k2, k4, k5⟩) h hd rfl
theorem bs1N (x : Pw) (w : World) : (Instr.buildSlice 53 1 #[(0, .agg (noC x))]).run Tryd.prog w = .ok (.slice (some ⟨w.heap.size, 0, none⟩) 1 1) (w.alloc (.cells (noC x) tNo)) := by
  obtain ⟨i0, hi0, hz0, hs0, hb0⟩ := info_parts no_info
  refine run_buildSlice w 53 tNo 1 _ _ i0 _ Tryd.underlying53 hi0 hz0 (by rw [hs0]; decide) (by rw [hs0]; decide) ?_
  rw [hs0]
  generalize strL x.l = s
  kernel_rfl
theorem g_bs1N {i d n : Nat} {x : Pw} {ty : TypeId} {p : String} {af : Array Edge} (hn : a0.tmps.size = n)
    (h : ∀ g w2, g = w.heap.size → Blk w2 g (noC x) tNo → Below w.heap.size w w2 → FL Tryd.prog l Q rest a0 ((d, true, .slice (some ⟨g, 0, none⟩) 1 1) :: L) w2) (hi : lk L i = some (true, .agg (noC x)) := by rfl) (hd : Nat.blt d n = true := by rfl) : FL Tryd.prog l Q (⟨some d, .buildSlice 53 1 #[(0, .tmp i)], ty, p, af, none⟩ :: rest) a0 L w :=
  g_w hn (w2 := w.alloc (.cells (noC x) tNo)) (v := .slice (some ⟨w.heap.size, 0, none⟩) 1 1) (fun hk => by
    have e : (#[(0, Operand.tmp i)] : Array (Nat × Operand)).map (fun y => (y.fst, (fr a0 L).eval y.snd)) = #[(0, .agg (noC x))] := by simp only [List.map_toArray, List.map_cons, List.map_nil, lk_at hk hi (fun _ => rfl) rfl]
    have h2 := bs1N x w
    rw [← e] at h2
    unfold execOp
    dsimp only
    rw [Sem.run_bind]
    refine (congrArg (fun r => Result.andThen r _) h2).trans ?_
    rfl) (h _ _ rfl (blk_new w (noC x) tNo) (b0 w _)) rfl hd rfl
end
theorem alN (w : World) : (Instr.alloc tNo true (.tuple #[])).run Tryd.prog w = .ok (.pointer (some ⟨w.heap.size, 0, none⟩)) (w.alloc (.cells (noC ⟨0, 0, []⟩) tNo)) := by kernel_rfl
theorem nix (W : World) (ad : Addr) (n c k : Nat) (h : k < n) : (Instr.indexAt 53 (.slice (some ad) n c) (.int .i64 (k : Int))).run Tryd.prog W = .ok (.pointer (some (ad.add (k * 3)))) W := by
  have i1 : (0 : Int) ≤ (k : Int) := by omega
  have i2 : (k : Int) < (n : Int) := by omega
  go_simp
theorem nld0 {W : World} {a : Addr} {x : Pw} (c0 : W.cell? a = some (.int .i64 x.f)) (c1 : W.cell? ⟨a.block, a.off + 1, none⟩ = some (.int .i64 x.b)) (c2 : W.cell? ⟨a.block, a.off + 2, none⟩ = some (.string (strL x.l))) : (Instr.loadAt tNo (.pointer (some a))).run Tryd.prog W = .ok (.agg (noC x)) W := by
  unfold noC
  generalize strL x.l = s at c2 ⊢
  go_simp
theorem nld {W : World} {ad : Addr} {k : Nat} {x : Pw} (hc : ∀ j v, (noC x)[j]? = some v → W.cell? (ad.add (k * 3 + j)) = some v) : (Instr.loadAt tNo (.pointer (some (ad.add (k * 3))))).run Tryd.prog W = .ok (.agg (noC x)) W :=
  nld0 ((celX hc).1 _ rfl) ((celX hc).2 0 _ rfl) ((celX hc).2 1 _ rfl)
theorem nld_blk {W : World} {g : Nat} {x : Pw} {t : TypeId} (h : Blk W g (noC x) t) : (Instr.loadAt tNo (.pointer (some ⟨g, 0, none⟩))).run Tryd.prog W = .ok (.agg (noC x)) W := nld0 (a := ⟨g, 0, none⟩) (h.cell 0) ((congrArg _ (by simp)).trans (h.cell 1)) ((congrArg _ (by simp)).trans (h.cell 2))
theorem nfd0 (W : World) (g : Nat) : (Instr.fieldAt tNo (.pointer (some ⟨g, 0, none⟩)) 0).run Tryd.prog W = .ok (.pointer (some ⟨g, 0, none⟩)) W := by go_simp
theorem nfd1 (W : World) (g : Nat) : (Instr.fieldAt tNo (.pointer (some ⟨g, 0, none⟩)) 1).run Tryd.prog W = .ok (.pointer (some ⟨g, 1, none⟩)) W := by go_simp
theorem nfd2 (W : World) (g : Nat) : (Instr.fieldAt tNo (.pointer (some ⟨g, 0, none⟩)) 2).run Tryd.prog W = .ok (.pointer (some ⟨g, 2, none⟩)) W := by go_simp
theorem lstr {W : World} {a : Addr} {t : ByteArray} (h : W.cell? a = some (.string t)) : (Instr.loadAt 9 (.pointer (some a))).run Tryd.prog W = .ok (.string t) W := by go_simp
theorem lsl {W : World} {a : Addr} {n c : Nat} {t : TypeId} (ht : t = 22 ∨ t = 50) {A : Option Addr} (h : W.cell? a = some (.slice A n c)) : (Instr.loadAt t (.pointer (some a))).run Tryd.prog W = .ok (.slice A n c) W := by
  rcases ht with rfl | rfl
  · go_simp
  · go_simp
/-- A row of the call's own, where a slate turns. -/
theorem OwnX.stk {t : TypeId} {z base B : Nat} {W W' : World} {A : Option Addr} {n c : Nat} {l : List (Array Value)} (h : OwnX t z base W A n c l) (hk : StK B W W') (h1 : t ≠ 81) (h2 : t ≠ 87) : OwnX t z base W' A n c l := by
  refine ⟨⟨h.1.1, ?_⟩, h.2⟩
  rcases h.1.2 with h | ⟨g2, cap, cur, k1, k2, k3, k4⟩
  · exact .inl h
  · exact .inr ⟨g2, cap, cur, k1, k2, (hk.cel g2 cur t (0, 0) k3 h1 h2).trans k3, k4⟩
theorem Blk.stk {t : TypeId} {B b : Nat} {W W' : World} {cs : Array Value} (h : Blk W b cs t) (hk : StK B W W') (h1 : t ≠ 81) (h2 : t ≠ 87) : Blk W' b cs t := (hk.cel b cs t (0, 0) h h1 h2).trans h

/-- Rows in blocks of their own. -/
def Dj (A A2 : Option Addr) : Prop := ∀ a a2, A = some a → A2 = some a2 → a.block ≠ a2.block
theorem Dj.symm {A A2 : Option Addr} (h : Dj A A2) : Dj A2 A := fun a a2 h1 h2 => (h a2 a h2 h1).symm
theorem Dj.nil (A : Option Addr) : Dj A none := fun a a2 _ h => nomatch h
/-- Behind an append to the first one. -/
theorem Dj.ap {A A2 A' : Option Addr} {w : World} (h : Dj A A2) (hA : A'.map (·.block) = A.map (·.block) ∨ A'.map (·.block) = some w.heap.size) (h2 : ∀ a, A2 = some a → a.block < w.heap.size) : Dj A' A2 := fun a a2 e1 e2 => by
  subst e1 e2
  rcases hA with e | e
  · cases A with
    | none => cases e
    | some b => injection e with e; intro e3; exact h b a2 rfl rfl (e.symm.trans e3)
  · injection e with e
    have e4 : a.block = w.heap.size := e
    have := h2 a2 rfl
    omega
/-- A row beside one that was appended to. -/
theorem OwnX.aside {t : TypeId} {z base : Nat} {W W' : World} {A A2 : Option Addr} {n c : Nat} {l : List (Array Value)} (h : OwnX t z base W A2 n c l) (hk : ∀ x, x < W.heap.size → (∀ a, A = some a → a.block ≠ x) → W'.heap[x]? = W.heap[x]?) (hd : Dj A A2) : OwnX t z base W' A2 n c l := by
  refine ⟨⟨h.1.1, ?_⟩, h.2⟩
  rcases h.1.2 with h1 | ⟨g2, cap, cur, k1, k2, k3, k4⟩
  · exact .inl h1
  · have e : A2 = some ⟨g2, 0, none⟩ := by injection k1
    refine .inr ⟨g2, cap, cur, k1, k2, (hk g2 (Array.getElem?_eq_some_iff.1 k3).1 fun a ha => ?_).trans k3, k4⟩
    exact hd a ⟨g2, 0, none⟩ ha e
/-- A slate, where a row of notes was appended to. -/
theorem SlR.aside {base B s n c : Nat} {W W' : World} {M : Sl} {A : Option Addr} {l : List (Array Value)} (h : SlR B W s M) (hO : OwnX tNo 3 base W A n c l) (hb : Below B W W') (hk : ∀ x, x < W.heap.size → (∀ a, A = some a → a.block ≠ x) → W'.heap[x]? = W.heap[x]?) : SlR B W' s M := by
  obtain ⟨tg, d1, d2, f1, f2, A3, n3, c3, h1, h2, h3, h4, h5, h6, h7, h8, h9⟩ := h
  have hne : ∀ (x : Nat) (o : Obj), W.heap[x]? = some o → (∀ cs fr, o ≠ .cells cs tNo fr) → W'.heap[x]? = W.heap[x]? := fun x o ho hn => hk x (Array.getElem?_eq_some_iff.1 ho).1 fun a ha e => by
    rcases hO.1.2 with ⟨k1, _⟩ | ⟨g2, cap, cur, k1, k2, k3, k4⟩
    · injection k1 with k1
      rw [ha] at k1
      cases k1
    · injection k1 with k1
      rw [ha] at k1
      injection k1 with k1
      subst k1
      rw [show g2 = x from e, ho] at k3
      injection k3 with k3
      exact hn _ _ k3
  refine ⟨tg, d1, d2, f1, f2, A3, n3, c3, (hne s _ h1 fun cs fr e => by injection e with _ e; revert e; decide).trans h1, h2, h3.maps fun x es cl hx => hne x _ hx (fun cs fr e => by cases e), h4.maps fun x es cl hx => hne x _ hx (fun cs fr e => by cases e), ?_, h6, h7, h8, Nat.le_trans h9 hb.size⟩
  refine ⟨⟨h5.1.1, ?_⟩, h5.2⟩
  rcases h5.1.2 with k0 | ⟨g2, cap, cur, k1, k2, k3, k4⟩
  · exact .inl k0
  · exact .inr ⟨g2, cap, cur, k1, k2, (hne g2 _ k3 fun cs fr e => by injection e with _ e; revert e; decide).trans k3, k4⟩

/-! Acts. -/
structure Ac where
  (k f b n : Int)
  l : List UInt8
  ks : List Bool
  (A1 A2 : Option Addr)
  (n1 c1 n2 c2 : Nat)
abbrev tAc : TypeId := 55
abbrev acI (k f b n : Int) (A1 : Option Addr) (n1 c1 : Nat) (A2 : Option Addr) (n2 c2 : Nat) : Array Value := #[.int .i64 k, .int .i64 f, .int .i64 b, .int .i64 n, .slice A1 n1 c1, .slice A2 n2 c2]
abbrev Ac.cells (x : Ac) : Array Value := acI x.k x.f x.b x.n x.A1 x.n1 x.c1 x.A2 x.n2 x.c2
/-- What its slices read. -/
def Ac.rd (B : Nat) (W : World) (x : Ac) : Prop := RdB B W x.A1 x.l ∧ x.l.length = x.n1 ∧ RdK B W x.A2 x.ks ∧ x.ks.length = x.n2 ∧ x.n1 ≤ x.c1 ∧ x.c1 ≤ maxLen
theorem Ac.rd.keep {B C : Nat} {W W' : World} {x : Ac} (h : x.rd B W) (hb : Below C W W') (hBC : B ≤ C) : x.rd B W' := ⟨h.1.keep hb hBC, h.2.1, h.2.2.1.keep hb hBC, h.2.2.2⟩
theorem ac_oneC (x : Ac) : x.cells.all (·.oneCell') = true := by
  show (([.int .i64 x.k, .int .i64 x.f, .int .i64 x.b, .int .i64 x.n, .slice x.A1 x.n1 x.c1, .slice x.A2 x.n2 x.c2] : List Value).toArray).all _ = true
  rw [List.all_toArray]
  simp [Value.oneCell']
theorem alA6 (w : World) : (Instr.alloc tAc true (.tuple #[])).run Tryd.prog w = .ok (.pointer (some ⟨w.heap.size, 0, none⟩)) (w.alloc (.cells (acI 0 0 0 0 none 0 0 none 0 0) tAc)) := by kernel_rfl
theorem aix (W : World) (ad : Addr) (n c k : Nat) (h : k < n) : (Instr.indexAt 49 (.slice (some ad) n c) (.int .i64 (k : Int))).run Tryd.prog W = .ok (.pointer (some (ad.add (k * 6)))) W := by
  have i1 : (0 : Int) ≤ (k : Int) := by omega
  have i2 : (k : Int) < (n : Int) := by omega
  go_simp
theorem ald0 {W : World} {a : Addr} {x : Ac} (c0 : W.cell? a = some (.int .i64 x.k)) (c1 : W.cell? ⟨a.block, a.off + 1, none⟩ = some (.int .i64 x.f)) (c2 : W.cell? ⟨a.block, a.off + 2, none⟩ = some (.int .i64 x.b)) (c3 : W.cell? ⟨a.block, a.off + 3, none⟩ = some (.int .i64 x.n)) (c4 : W.cell? ⟨a.block, a.off + 4, none⟩ = some (.slice x.A1 x.n1 x.c1)) (c5 : W.cell? ⟨a.block, a.off + 5, none⟩ = some (.slice x.A2 x.n2 x.c2)) : (Instr.loadAt tAc (.pointer (some a))).run Tryd.prog W = .ok (.agg x.cells) W := by go_simp
theorem ald {W : World} {ad : Addr} {k : Nat} {x : Ac} (hc : ∀ j v, x.cells[j]? = some v → W.cell? (ad.add (k * 6 + j)) = some v) : (Instr.loadAt tAc (.pointer (some (ad.add (k * 6))))).run Tryd.prog W = .ok (.agg x.cells) W :=
  ald0 ((celX hc).1 _ rfl) ((celX hc).2 0 _ rfl) ((celX hc).2 1 _ rfl) ((celX hc).2 2 _ rfl) ((celX hc).2 3 _ rfl) ((celX hc).2 4 _ rfl)
theorem afd0 (W : World) (g : Nat) : (Instr.fieldAt tAc (.pointer (some ⟨g, 0, none⟩)) 0).run Tryd.prog W = .ok (.pointer (some ⟨g, 0, none⟩)) W := by go_simp
theorem afd1 (W : World) (g : Nat) : (Instr.fieldAt tAc (.pointer (some ⟨g, 0, none⟩)) 1).run Tryd.prog W = .ok (.pointer (some ⟨g, 1, none⟩)) W := by go_simp
theorem afd2 (W : World) (g : Nat) : (Instr.fieldAt tAc (.pointer (some ⟨g, 0, none⟩)) 2).run Tryd.prog W = .ok (.pointer (some ⟨g, 2, none⟩)) W := by go_simp
theorem afd3 (W : World) (g : Nat) : (Instr.fieldAt tAc (.pointer (some ⟨g, 0, none⟩)) 3).run Tryd.prog W = .ok (.pointer (some ⟨g, 3, none⟩)) W := by go_simp
theorem afd4 (W : World) (g : Nat) : (Instr.fieldAt tAc (.pointer (some ⟨g, 0, none⟩)) 4).run Tryd.prog W = .ok (.pointer (some ⟨g, 4, none⟩)) W := by go_simp
/-- A slice of acts. -/
def RdA (B : Nat) (W : World) (A : Option Addr) (l : List Ac) : Prop := RdX 6 B W A (l.map Ac.cells) ∧ ∀ x, x ∈ l → x.rd B W
theorem RdA.keep {B C : Nat} {W W' : World} {A : Option Addr} {l : List Ac} (h : RdA B W A l) (hb : Below C W W') (hBC : B ≤ C) : RdA B W' A l := ⟨h.1.keep hb hBC, fun x hx => (h.2 x hx).keep hb hBC⟩
theorem RdA.at_ {B : Nat} {W : World} {A : Option Addr} {l : List Ac} (h : RdA B W A l) {k : Nat} {x : Ac} (hx : l[k]? = some x) : ∃ ad, A = some ad ∧ ad.block < B ∧ (∀ j v, x.cells[j]? = some v → W.cell? (ad.add (k * 6 + j)) = some v) ∧ x.rd B W := by
  obtain ⟨ad, h1, h2, h3⟩ := h.1 k x.cells (by rw [List.getElem?_map, hx]; rfl)
  exact ⟨ad, h1, h2, h3, h.2 x (List.mem_of_getElem? hx)⟩

/-! What is kept, told by notes. -/
def stepN (f b : Int) (w : List UInt8) (x : Pw) : List UInt8 := bif x.f == f && x.b == b then x.l else w
def lastN (F : List Pw) (f b : Int) : List UInt8 := F.foldl (stepN f b) z64
theorem lastN_next (F : List Pw) (f b : Int) {k : Nat} {x : Pw} (hx : F[k]? = some x) : lastN (F.take (k + 1)) f b = stepN f b (lastN (F.take k) f b) x := by
  unfold lastN
  rw [List.take_add_one, hx, List.foldl_append]
  rfl
theorem blkD_put (D : Dk) (x : Pw) (f b : Int) : blkD (putD D x) f b = stepN f b (blkD D f b) x := by
  unfold blkD putD stepN
  by_cases h1 : x.f = f
  · subst h1
    by_cases h2 : x.b = b
    · subst h2
      simp [putF]
    · have h3 : ¬ b = x.b := fun e => h2 e.symm
      have hb : (x.b == b) = false := beq_eq_false_iff_ne.2 h2
      cases hD : D x.f <;> simp [putF, h3, noF, hb]
  · have h3 : ¬ f = x.f := fun e => h1 e.symm
    have hf : (x.f == f) = false := beq_eq_false_iff_ne.2 h1
    simp [h3, hf]
theorem blkD_keptF (f0 f b : Int) : ∀ (l : List Pw) (D : Dk), blkD (keptF D f0 l) f b = (l.filter (isF f0)).foldl (stepN f b) (blkD D f b)
  | [], _ => rfl
  | x :: r, D => by
    show blkD (keptF (if x.f == f0 then putD D x else D) f0 r) f b = _
    rw [blkD_keptF f0 f b r]
    cases h : x.f == f0 with
    | true =>
      rw [if_pos rfl, blkD_put, List.filter_cons_of_pos (by unfold isF; exact h)]
      rfl
    | false =>
      rw [if_neg (by simp), List.filter_cons_of_neg (by unfold isF; simp [h])]
def matchN (f b : Int) (x : Pw) : Bool := x.f == f && x.b == b
theorem stepN_or (f b : Int) (w : List UInt8) (x : Pw) : stepN f b w x = w ∨ (matchN f b x = true ∧ stepN f b w x = x.l) := by
  unfold stepN matchN
  cases x.f == f && x.b == b with
  | true => exact .inr ⟨rfl, rfl⟩
  | false => exact .inl rfl
theorem crash_foldl (keep : List Bool) (f b : Int) : ∀ (l : List (Pw × Nat)) (D : Dk), blkD (l.foldl (fun D p => if keepB keep p.2 then putD D p.1 else D) D) f b = blkD D f b ∨ ∃ p, p ∈ l ∧ matchN f b p.1 = true ∧ blkD (l.foldl (fun D p => if keepB keep p.2 then putD D p.1 else D) D) f b = p.1.l
  | [], D => .inl rfl
  | p :: r, D => by
    show blkD (r.foldl _ (if keepB keep p.2 then putD D p.1 else D)) f b = _ ∨ _
    rcases crash_foldl keep f b r (if keepB keep p.2 then putD D p.1 else D) with h | ⟨q, hq, h1, h2⟩
    · by_cases hk : keepB keep p.2 = true
      · rw [if_pos hk] at h
        rw [blkD_put] at h
        rcases stepN_or f b (blkD D f b) p.1 with e | ⟨e1, e2⟩
        · left
          rw [if_pos hk, h, e]
        · right
          refine ⟨p, List.mem_cons_self .., e1, ?_⟩
          show blkD (r.foldl _ (if keepB keep p.2 then putD D p.1 else D)) f b = _
          rw [if_pos hk, h, e2]
      · left
        rw [if_neg hk] at h ⊢
        exact h
    · right
      exact ⟨q, List.mem_cons_of_mem _ hq, h1, h2⟩
theorem crash_is (D : Dk) (keep : List Bool) (Q : List Pw) (f b : Int) : blkD (crashF D keep Q) f b = blkD D f b ∨ ∃ x, x ∈ Q ∧ matchN f b x = true ∧ blkD (crashF D keep Q) f b = x.l := by
  rcases crash_foldl keep f b Q.zipIdx D with h | ⟨p, hp, h1, h2⟩
  · exact .inl h
  · refine .inr ⟨p.1, ?_, h1, h2⟩
    have := List.mem_zipIdx hp
    rw [this.2.2]
    exact List.getElem_mem _
end Go.Proofs.YtgbopikhdpmmcaaDoor

namespace Go.Proofs.YtgbopikhdpmmcaaDoor
open Go.RowKit

theorem en_spinney_slate_Slate_Write : ∀ args w, (callFunc 22 args).run Tryd.prog w = .ok (.enter 22 args) w := enters_of Tryd.func22 (by kernel_rfl) rfl
theorem en_spinney_slate_Slate_Read : ∀ args w, (callFunc 23 args).run Tryd.prog w = .ok (.enter 23 args) w := enters_of Tryd.func23 (by kernel_rfl) rfl
theorem en_spinney_slate_Slate_Flush : ∀ args w, (callFunc 24 args).run Tryd.prog w = .ok (.enter 24 args) w := enters_of Tryd.func24 (by kernel_rfl) rfl
theorem en_spinney_slate_Slate_Crash : ∀ args w, (callFunc 25 args).run Tryd.prog w = .ok (.enter 25 args) w := enters_of Tryd.func25 (by kernel_rfl) rfl
theorem en_spinney_slate_Slate_Pending : ∀ args w, (callFunc 26 args).run Tryd.prog w = .ok (.enter 26 args) w := enters_of Tryd.func26 (by kernel_rfl) rfl
theorem en_spinney_slate_Slate_Dead : ∀ args w, (callFunc 27 args).run Tryd.prog w = .ok (.enter 27 args) w := enters_of Tryd.func27 (by kernel_rfl) rfl
theorem en_spinney_slate_New : ∀ args w, (callFunc 20 args).run Tryd.prog w = .ok (.enter 20 args) w := enters_of Tryd.func20 (by kernel_rfl) rfl
theorem en_spinney_spinneylaw09_awake : ∀ args w, (callFunc 21 args).run Tryd.prog w = .ok (.enter 21 args) w := enters_of Tryd.func21 (by kernel_rfl) rfl

section
variable {l : List Oper} {Q : Exit → Act → World → Prop} {rest : List Oper} {a0 : Act} {L : List (Nat × Bool × Value)} {w : World}
/-- An operation that isn't wanted. -/
theorem g_off {P : Program} {o : Oper} {d n : Nat} (hn : a0.tmps.size = n) (h : FL P l Q rest a0 ((d, false, undef) :: L) w) (ho : o.dst = some d := by rfl) (hd : Nat.blt d n = true := by rfl) (hw : wtG l L o.guard = some false := by rfl) : FL P l Q (o :: rest) a0 L w :=
  fl_op hn ho hd hw (fun _ hg => nomatch hg) h
end
theorem g_offv {l : List Oper} {Q : Exit → Act → World → Prop} {rest : List Oper} {a0 : Act} {L : List (Nat × Bool × Value)} {w : World} {P : Program} {o : Oper} {d n : Nat} (v : Value) (hn : a0.tmps.size = n) (h : FL P l Q rest a0 ((d, false, v) :: L) w) (ho : o.dst = some d := by rfl) (hd : Nat.blt d n = true := by rfl) (hw : wtG l L o.guard = some false := by rfl) : FL P l Q (o :: rest) a0 L w :=
  fl_op hn ho hd hw (fun _ hg => nomatch hg) h
theorem x_ek {w : World} {ρ : Operand → Value} {d : Option Tmp} {ty ty2 : TypeId} {p : String} {af : Array Edge} {gd : Option (Nat × Bool)} {i : Nat} {m k : Int} {v : Bool} (h : ρ (.tmp i) = .int .i64 m) (hc : ρ (.const (.int .i64 k)) = .int .i64 k) (hv : (m == k) = v) : (execOp ρ ⟨d, .binOp .eql 3 (.tmp i) (.const (.int .i64 k)) ty2, ty, p, af, gd⟩).run Tryd.prog w = .ok (.value (.bool v)) w := by
  subst hv
  exact bin_eql _ _ _ _ _ _ _ _ _ m k h hc
theorem x_ee {w : World} {ρ : Operand → Value} {d : Option Tmp} {ty ty2 : TypeId} {p : String} {af : Array Edge} {gd : Option (Nat × Bool)} {i : Nat} {m k : Int} {v : Bool} (h : ρ (.tmp i) = .int .i64 m) (hc : ρ (.const (.int .i64 k)) = .int .i64 k) (hv : (m == k) = v) : (execOp ρ ⟨d, .binOp .eql 27 (.tmp i) (.const (.int .i64 k)) ty2, ty, p, af, gd⟩).run Tryd.prog w = .ok (.value (.bool v)) w := by
  subst hv
  unfold execOp
  dsimp only
  rw [h, hc]
  go_simp
/-- What holds of a slate and the notes. -/
structure KI (M : Sl) (F Q : List Pw) : Prop where
  arm : M.armed = false
  pend : M.pend = Q
  kept : ∀ f b, blkD M.kept f b = lastN F f b
  l64 : ∀ x, x ∈ Q → x.l.length = 64
  f64 : ∀ x, x ∈ F → x.l.length = 64
theorem ki_0 : KI sl0 [] [] := ⟨rfl, rfl, fun _ _ => rfl, (fun _ h => nomatch h), (fun _ h => nomatch h)⟩
theorem KI.spent {M : Sl} {F Q : List Pw} (h : KI M F Q) : M.spent = false := by unfold Sl.spent spentB; rw [h.arm]; rfl
theorem okW_is {f b : Int} {l : List UInt8} (h : l.length ≤ 64) : okW f b l = placeB f b := by unfold okW; rw [decide_eq_true h, Bool.and_true]
theorem KI.write {M : Sl} {F Q : List Pw} (h : KI M F Q) {f b : Int} {l : List UInt8} (hl : l.length ≤ 64) (hp : placeB f b = true) : wrCode M f b l = 0 ∧ wrM M f b l = M.wrote ⟨f, b, padL l⟩ ∧ KI (M.wrote ⟨f, b, padL l⟩) F (Q ++ [⟨f, b, padL l⟩]) ∧ blkD (M.wrote ⟨f, b, padL l⟩).seen f b = padL l := by
  unfold wrCode wrM
  rw [okW_is hl, hp, h.spent]
  refine ⟨rfl, rfl, ⟨h.arm, by show M.pend ++ _ = _; rw [h.pend], h.kept, fun x hx => ?_, h.f64⟩, ?_⟩
  · rcases List.mem_append.1 hx with hx | hx
    · exact h.l64 x hx
    · rw [show x = ⟨f, b, padL l⟩ by simpa using hx]
      show (padL l).length = 64
      unfold padL
      rw [List.length_append, List.length_replicate]
      omega
  · show blkD (putD M.seen ⟨f, b, padL l⟩) f b = _
    rw [blkD_put]
    unfold stepN
    simp
theorem KI.noWrite {M : Sl} {f b : Int} {l : List UInt8} (hl : l.length ≤ 64) (hp : placeB f b = false) : wrCode M f b l = 1 ∧ wrM M f b l = M := by
  unfold wrCode wrM
  rw [okW_is hl, hp]
  exact ⟨rfl, rfl⟩
theorem KI.flush {M : Sl} {F Q : List Pw} (h : KI M F Q) {f : Int} (hp : fileB f = true) : rmCode M f = 0 ∧ KI (flM M f) (F ++ Q.filter (isF f)) (notP (isF f) Q) := by
  unfold rmCode flM
  rw [hp, h.spent]
  refine ⟨rfl, ?_⟩
  show KI (M.stepped.flushes f) _ _
  refine ⟨h.arm, ?_, fun f2 b2 => ?_, fun x hx => h.l64 x (List.mem_filter.1 hx).1, fun x hx => (List.mem_append.1 hx).elim (h.f64 x) fun hx => h.l64 x (List.mem_filter.1 hx).1⟩
  · show notP (isF f) M.pend = _
    rw [h.pend]
  · show blkD (keptF M.kept f M.pend) f2 b2 = _
    rw [blkD_keptF, h.kept, h.pend]
    unfold lastN
    rw [List.foldl_append]
theorem KI.noFlush {M : Sl} {f : Int} (hp : fileB f = false) : rmCode M f = 1 ∧ flM M f = M := by
  unfold rmCode flM
  rw [hp]
  exact ⟨rfl, rfl⟩
def blkOk (F Q : List Pw) (l : List UInt8) (f b : Int) : Bool := decide (l = lastN F f b) || Q.any fun x => matchN f b x && decide (x.l = l)
theorem KI.crash {M : Sl} {F Q : List Pw} (h : KI M F Q) (keep : List Bool) (f b : Int) : blkOk F Q (blkD (M.crash keep).seen f b) f b = true := by
  have e0 : blkD (M.crash keep).seen f b = blkD (crashF M.kept keep Q) f b := by rw [← h.pend]; rfl
  rw [e0]
  unfold blkOk
  rw [Bool.or_eq_true]
  rcases crash_is M.kept keep Q f b with e | ⟨x, hx, h1, h2⟩
  · left
    rw [decide_eq_true_iff, e, h.kept]
  · right
    rw [List.any_eq_true]
    exact ⟨x, hx, by rw [h1, decide_eq_true h2.symm]; rfl⟩
theorem filt_next {p : Pw → Bool} {Q : List Pw} {k : Nat} {x : Pw} (hx : Q[k]? = some x) : (Q.take (k + 1)).filter p = bif p x then (Q.take k).filter p ++ [x] else (Q.take k).filter p := by
  rw [List.take_add_one, hx, List.filter_append]
  cases h : p x with
  | true => simp [h]
  | false => simp [h]
/-- The slate and both rows of notes, in memory. -/
structure KR (B B2 s : Nat) (W : World) (M : Sl) (A6 : Option Addr) (n6 c6 : Nat) (F : List Pw) (A7 : Option Addr) (n7 c7 : Nat) (Q : List Pw) : Prop where
  sl : SlR B W s M
  o6 : OwnX tNo 3 B2 W A6 n6 c6 (F.map noC)
  o7 : OwnX tNo 3 B2 W A7 n7 c7 (Q.map noC)
  dj : Dj A6 A7
  ki : KI M F Q
theorem KR.below {B B2 s n6 c6 n7 c7 : Nat} {W W' : World} {M : Sl} {A6 A7 : Option Addr} {F Q : List Pw} (h : KR B B2 s W M A6 n6 c6 F A7 n7 c7 Q) (hb : Below W.heap.size W W') : KR B B2 s W' M A6 n6 c6 F A7 n7 c7 Q := ⟨h.sl.below hb, h.o6.keep hb, h.o7.keep hb, h.dj, h.ki⟩
theorem bdN (f b : Int) (l : List UInt8) (W : World) : (Instr.build 59 #[(0, .int .i64 f), (1, .int .i64 b), (2, .string (strL l))]).run Tryd.prog W = .ok (.agg (noC ⟨f, b, l⟩)) W := by
  unfold noC
  generalize strL l = t
  kernel_rfl
theorem x_np {w : World} {ρ : Operand → Value} {d : Option Tmp} {ty ty2 : TypeId} {p : String} {af : Array Edge} {gd : Option (Nat × Bool)} {i s : Nat} (h : ρ (.tmp i) = .pointer (some ⟨s, 0, none⟩)) (hc : ρ (.const (.pointer none)) = .pointer none) : (execOp ρ ⟨d, .binOp .eql 51 (.tmp i) (.const (.pointer none)) ty2, ty, p, af, gd⟩).run Tryd.prog w = .ok (.value (.bool false)) w := by
  unfold execOp
  dsimp only
  rw [h, hc]
  kernel_rfl
end Go.Proofs.YtgbopikhdpmmcaaDoor

namespace Go.Proofs.YtgbopikhdpmmcaaDoor
open Go.RowKit

theorem x_e2 {w : World} {ρ : Operand → Value} {d : Option Tmp} {ty ty2 : TypeId} {p : String} {af : Array Edge} {gd : Option (Nat × Bool)} {i j : Nat} {m k : Int} {v : Bool} (h : ρ (.tmp i) = .int .i64 m) (h2 : ρ (.tmp j) = .int .i64 k) (hv : (m == k) = v) : (execOp ρ ⟨d, .binOp .eql 3 (.tmp i) (.tmp j) ty2, ty, p, af, gd⟩).run Tryd.prog w = .ok (.value (.bool v)) w := by
  subst hv
  exact bin_eql _ _ _ _ _ _ _ _ _ m k h h2
theorem x_nk {w : World} {ρ : Operand → Value} {d : Option Tmp} {ty ty2 : TypeId} {p : String} {af : Array Edge} {gd : Option (Nat × Bool)} {i : Nat} {m k : Int} {v : Bool} (h : ρ (.tmp i) = .int .i64 m) (hc : ρ (.const (.int .i64 k)) = .int .i64 k) (hv : (m != k) = v) : (execOp ρ ⟨d, .binOp .neq 3 (.tmp i) (.const (.int .i64 k)) ty2, ty, p, af, gd⟩).run Tryd.prog w = .ok (.value (.bool v)) w := by
  subst hv
  unfold execOp
  dsimp only
  rw [h, hc]
  go_simp
theorem x_ne {w : World} {ρ : Operand → Value} {d : Option Tmp} {ty ty2 : TypeId} {p : String} {af : Array Edge} {gd : Option (Nat × Bool)} {i : Nat} {m k : Int} {v : Bool} (h : ρ (.tmp i) = .int .i64 m) (hc : ρ (.const (.int .i64 k)) = .int .i64 k) (hv : (m != k) = v) : (execOp ρ ⟨d, .binOp .neq 27 (.tmp i) (.const (.int .i64 k)) ty2, ty, p, af, gd⟩).run Tryd.prog w = .ok (.value (.bool v)) w := by
  subst hv
  unfold execOp
  dsimp only
  rw [h, hc]
  go_simp
theorem strL_eq (a b : List UInt8) : ((strL a).toList == (strL b).toList) = decide (a = b) := by
  rw [ByteArray.toList_eq, ByteArray.toList_eq]
  unfold strL
  by_cases h : a = b
  · subst h; simp
  · simp [h]
theorem x_es {w : World} {ρ : Operand → Value} {d : Option Tmp} {ty ty2 : TypeId} {p : String} {af : Array Edge} {gd : Option (Nat × Bool)} {i j : Nat} {a b : List UInt8} {v : Bool} (h : ρ (.tmp i) = .string (strL a)) (h2 : ρ (.tmp j) = .string (strL b)) (hv : decide (a = b) = v) : (execOp ρ ⟨d, .binOp .eql 9 (.tmp i) (.tmp j) ty2, ty, p, af, gd⟩).run Tryd.prog w = .ok (.value (.bool v)) w := by
  have e := strL_eq a b
  rw [hv] at e
  unfold execOp
  dsimp only
  rw [h, h2]
  generalize strL a = s at *
  generalize strL b = t at *
  cases v with
  | true => go_simp
  | false => go_simp
theorem mk64 (w : World) : (Instr.makeSlice 22 (.int .i64 64) (.int .i64 64)).run Tryd.prog w = .ok (.slice (some ⟨w.heap.size, 0, none⟩) 64 64) (w.alloc (.cells (bkA z64) 5)) := by kernel_rfl
section
variable {l : List Oper} {Q : Exit → Act → World → Prop} {rest : List Oper} {a0 : Act} {L : List (Nat × Bool × Value)} {w : World}
theorem g_mk64 {d n : Nat} {ty : TypeId} {p : String} {af : Array Edge} (hn : a0.tmps.size = n)
    (h : ∀ g w2, Blk w2 g (bkA z64) 5 → Below w.heap.size w w2 → FL Tryd.prog l Q rest a0 ((d, true, .slice (some ⟨g, 0, none⟩) 64 64) :: L) w2) (hd : Nat.blt d n = true := by rfl) : FL Tryd.prog l Q (⟨some d, .makeSlice 22 (.const (.int .i64 64)) (.const (.int .i64 64)), ty, p, af, none⟩ :: rest) a0 L w :=
  g_w hn (w2 := w.alloc (.cells (bkA z64) 5)) (v := .slice (some ⟨w.heap.size, 0, none⟩) 64 64) (fun _ => by
    have h2 := mk64 w
    unfold execOp
    dsimp only
    rw [Sem.run_bind]
    refine (congrArg (fun r => Result.andThen r _) h2).trans ?_
    rfl) (h _ _ (blk_new w _ _) (b0 w _)) rfl hd rfl
end
theorem okQ_next {F Q : List Pw} {l : List UInt8} {f b : Int} {k : Nat} {x : Pw} (hx : Q[k]? = some x) : blkOk F (Q.take (k + 1)) l f b = (blkOk F (Q.take k) l f b || (x.f == f && x.b == b && decide (x.l = l))) := by
  unfold blkOk matchN
  rw [List.take_add_one, hx, List.any_append, ← Bool.or_assoc]
  simp
theorem okQ_0 (F : List Pw) (l : List UInt8) (f b : Int) : blkOk F [] l f b = decide (l = lastN F f b) := by
  unfold blkOk
  simp
theorem RdK.less {B C : Nat} {W : World} {A : Option Addr} {l : List Bool} (h : RdK B W A l) (hb : B ≤ C) : RdK C W A l := fun k x hx => by
  obtain ⟨ad, h1, h2, h3⟩ := h k x hx
  exact ⟨ad, h1, by omega, h3⟩
/-- What a disk behind a crash answers, of a place that may be. -/
theorem len_blk {M : Sl} {F Q : List Pw} (h : KI M F Q) (keep : List Bool) (f b : Int) : (blkD (M.crash keep).seen f b).length = 64 := by
  have hL : ∀ (G : List Pw) (w : List UInt8), w.length = 64 → (∀ x, x ∈ G → x.l.length = 64) → (G.foldl (stepN f b) w).length = 64 := by
    intro G
    induction G with
    | nil => intro w hw _; exact hw
    | cons x r ih =>
      intro w hw hx
      refine ih _ ?_ fun y hy => hx y (List.mem_cons_of_mem _ hy)
      unfold stepN
      cases x.f == f && x.b == b with
      | true => exact hx x (List.mem_cons_self ..)
      | false => exact hw
  have e0 : blkD (M.crash keep).seen f b = blkD (crashF M.kept keep Q) f b := by rw [← h.pend]; rfl
  rw [e0]
  rcases crash_is M.kept keep Q f b with e | ⟨x, hx, h1, h2⟩
  · rw [e, h.kept]
    exact hL F z64 (by unfold z64; rw [List.length_replicate]) h.f64
  · rw [h2]
    exact h.l64 x hx
end Go.Proofs.YtgbopikhdpmmcaaDoor
