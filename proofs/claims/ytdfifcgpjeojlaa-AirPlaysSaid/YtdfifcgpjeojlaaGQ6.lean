/-
  WHAT IS PROVED: words for the law AirKeeps: a flight that was sent, but for one bit at most; the air where what isn't its own has turned. Conditions: those typed in each theorem. · Double, Turn, Send keep what holds of the air and what was sent. Conditions: those typed in each theorem. · words for the law AirKeeps: acts in memory; a row appended to what was sent. Conditions: those typed in each theorem. · an argument that is a slice of chapter 22's acts: opened (own work, over any program that bears the types named). · an argument that is a slice of bytes, or a uint64, opened (own work, over any program that bears the types named). · rows that are made whole and filled, an element at a time. Conditions: those typed in each theorem. · package air's Lose and Parcels: what they answer and leave. Conditions: those typed in each theorem.
-/
import Derived.Test.YtdfifcgpjeojlaaGQ5
import Derived.Test.YtdfifcgpjeojlaaGQ0
import Derived.Lib.SmallJoins
import Derived.Deep.Slices
import Derived.ChangeSlices
import Derived.Test.YtdfifcgpjeojlaaGQ3
import Derived.Test.YtdfifcgpjeojlaaGQ4
namespace Go.Proofs.Ytdfifcgpjeojlaa
open Go.RowKit

/-- What was sent, but for one bit at most. -/
def OkF (sent : List (List UInt8)) (x : Fl) : Prop := x.f = 1 ∧ x.t = 2 ∧ x.n = 4 ∧ x.b.length = 4 ∧ ∃ b, b ∈ sent ∧ b.length = 4 ∧ (x.u = false → x.b = b) ∧ popT b x.b 4 ≤ 1
theorem pw_zero : pw 0 = 0 := by decide
theorem popT_same (l : List UInt8) : ∀ k, popT l l k = 0
  | 0 => rfl
  | k + 1 => by
    show popT l l k + pw (l.getD k 0 ^^^ l.getD k 0).toNat = 0
    rw [popT_same l k, UInt8.xor_self]
    decide
theorem pw_bit : ∀ (k : Fin 8) (x : Fin 256), pw (UInt8.ofNat x.val ^^^ (UInt8.ofNat x.val ^^^ bitA k.val)).toNat = 1 := by decide +kernel
theorem pw_bit' (x : UInt8) {k : Nat} (h : k < 8) : pw (x ^^^ (x ^^^ bitA k)).toNat = 1 := by
  have h1 := pw_bit ⟨k, h⟩ ⟨x.toNat, x.toNat_lt⟩
  have e : UInt8.ofNat x.toNat = x := UInt8.ofNat_toNat
  dsimp only at h1
  rwa [e] at h1
theorem popT_set (l : List UInt8) (i j : Nat) (hj : j < 8) (hi : i < l.length) : ∀ k, popT l (l.set i (l.getD i 0 ^^^ bitA j)) k = if i < k then 1 else 0
  | 0 => rfl
  | k + 1 => by
    show popT l (l.set i (l.getD i 0 ^^^ bitA j)) k + pw (l.getD k 0 ^^^ (l.set i (l.getD i 0 ^^^ bitA j)).getD k 0).toNat = _
    rw [popT_set l i j hj hi k]
    by_cases e : i = k
    · subst e
      have e2 : (l.set i (l.getD i 0 ^^^ bitA j)).getD i 0 = l.getD i 0 ^^^ bitA j := by
        rw [List.getD_eq_getElem?_getD, List.getElem?_set_self hi]
        rfl
      rw [e2, pw_bit' _ hj, if_neg (by omega), if_pos (by omega)]
    · have e2 : (l.set i (l.getD i 0 ^^^ bitA j)).getD k 0 = l.getD k 0 := by
        rw [List.getD_eq_getElem?_getD, List.getElem?_set_ne e, ← List.getD_eq_getElem?_getD]
      rw [e2, UInt8.xor_self]
      have e3 : pw (0 : UInt8).toNat = 0 := by decide
      rw [e3]
      by_cases h1 : i < k
      · rw [if_pos h1, if_pos (by omega)]
      · rw [if_neg h1, if_neg (by omega)]
theorem OkF.more {sent : List (List UInt8)} {x : Fl} (h : OkF sent x) (b : List UInt8) : OkF (sent ++ [b]) x := by
  obtain ⟨h1, h2, h3, h4, c, hc, h5, h6, h7⟩ := h
  exact ⟨h1, h2, h3, h4, c, List.mem_append_left _ hc, h5, h6, h7⟩
theorem OkF.copy {sent : List (List UInt8)} {x : Fl} (h : OkF sent x) (A2 : Option Addr) (c2 : Nat) : OkF sent ⟨x.f, x.t, A2, x.n, c2, x.u, x.b⟩ := h
theorem OkF.sent (sent : List (List UInt8)) (b : List UInt8) (hb : b.length = 4) (A : Option Addr) (c : Nat) : OkF (sent ++ [b]) ⟨1, 2, A, 4, c, false, b⟩ :=
  ⟨rfl, rfl, rfl, hb, b, List.mem_append_right _ (List.mem_singleton_self _), hb, fun _ => rfl, by
    show popT b b 4 ≤ 1
    rw [popT_same]
    omega⟩
theorem OkF.turn {sent : List (List UInt8)} {x : Fl} (h : OkF sent x) (hu : x.u = false) (q : Nat) (hq : q < 8 * x.n) : OkF sent (x.turn q) := by
  obtain ⟨h1, h2, h3, h4, c, hc, h5, h6, h7⟩ := h
  refine ⟨h1, h2, h3, by show (x.b.set _ _).length = 4; rw [List.length_set]; exact h4, c, hc, h5, (fun e => nomatch (show true = false from e)), ?_⟩
  have e := h6 hu
  show popT c (x.b.set (q / 8) (x.b.getD (q / 8) 0 ^^^ bitA (q % 8))) 4 ≤ 1
  rw [e, popT_set c (q / 8) (q % 8) (by omega) (by omega)]
  split <;> omega
/-- What isn't the air's own turns. -/
theorem AirM.off {base p : Nat} {W W' : World} {A : Option Addr} {n c : Nat} {l : List Fl} {r : Option Nat} (h : AirM base p W A n c l) (hg : W.grownBy W' r) (hr : ∀ k, r = some k → ¬ AirO p A l k) : AirM base p W' A n c l := by
  refine ⟨(hg.block p h.blk.lt fun e => hr p e.symm (.inl rfl)).trans h.blk, ⟨World.ownsRow.kept h.row.1 hg ?_, h.row.2⟩, fun x hx => World.ownsRow.kept (h.byt x hx) hg ?_, h.dis⟩
  · cases hA : A with
    | none => simp [Value.ownBlock]
    | some a =>
      right
      intro e
      exact hr a.block e.symm (.inr (.inl ⟨a, hA, rfl⟩))
  · cases hA : x.A with
    | none => simp [Value.ownBlock]
    | some a =>
      right
      intro e
      exact hr a.block e.symm (.inr (.inr ⟨x, hx, a, hA, rfl⟩))
/-- A row of bytes that was sent, its place beside it. -/
structure Sn where
  g : Nat
  c : Nat
  b : List UInt8
abbrev Sn.cells (x : Sn) : Array Value := #[.slice (some ⟨x.g, 0, none⟩) 4 x.c]
abbrev tSn : TypeId := 27
/-- A row of bytes that was sent, in memory. -/
def SnB (W : World) (x : Sn) : Prop := x.b.length = 4 ∧ ∃ cs : Array Value, Blk W x.g cs 5 ∧ ∀ (k : Nat) (y : UInt8), x.b[k]? = some y → cs[k]? = some (Value.int .u8 (y.toNat : Int))
theorem SnB.rd {W : World} {x : Sn} (h : SnB W x) : RdB W.heap.size W (some ⟨x.g, 0, none⟩) x.b := by
  obtain ⟨_, cs, hb, hc⟩ := h
  intro k y hy
  refine ⟨_, rfl, hb.lt, ?_⟩
  rw [addA, hb.cell]
  exact hc k y hy
theorem SnB.same {W W' : World} {x : Sn} (h : SnB W x) (e : W'.heap[x.g]? = W.heap[x.g]?) : SnB W' x := by
  obtain ⟨h1, cs, hb, hc⟩ := h
  exact ⟨h1, cs, e.trans hb, hc⟩
theorem SnB.lt {W : World} {x : Sn} (h : SnB W x) : x.g < W.heap.size := by
  obtain ⟨_, cs, hb, _⟩ := h
  exact hb.lt
theorem AirM.own_lt {base p : Nat} {W : World} {A : Option Addr} {n c : Nat} {l : List Fl} (h : AirM base p W A n c l) {k : Nat} (hk : AirO p A l k) : k < W.heap.size := by
  rcases hk with rfl | ⟨a, ha, rfl⟩ | ⟨y, hy, a, ha, rfl⟩
  · exact h.blk.lt
  · exact (h.row.blk ha).2
  · exact ((h.byt y hy).blk ha).2
/-- What was sent, in memory (the row of rows; the rows), and none of it the air's own. -/
structure SnM (base p : Nat) (W : World) (A : Option Addr) (l : List Fl) (B : Option Addr) (m d : Nat) (z zz : List Sn) : Prop where
  row : OwnX tSn 1 base W B m d (z.map Sn.cells)
  off : ∀ a, B = some a → ¬ AirO p A l a.block
  rd : ∀ x, x ∈ zz → SnB W x ∧ ¬ AirO p A l x.g
theorem SnM.airS {base p : Nat} {W W' : World} {A A' : Option Addr} {l l' : List Fl} {n' c' : Nat} {B : Option Addr} {m d : Nat} {z zz : List Sn} (h : SnM base p W A l B m d z zz) (hS : AirS base p A l W A' n' c' l' W') : SnM base p W' A' l' B m d z zz := by
  refine ⟨?_, fun a ha ho => h.off a ha (hS.new _ (h.row.blk ha).2 ho), fun x hx => ?_⟩
  · cases hB : B with
    | none =>
      subst hB
      refine ⟨⟨h.row.1.1, ?_⟩, h.row.2⟩
      rcases h.row.1.2 with ⟨hv, h2⟩ | ⟨g, cap, cur, hv, _⟩
      · exact .inl ⟨hv, h2⟩
      · injection hv with hv
        cases hv
    | some a =>
      subst hB
      obtain ⟨g, rfl⟩ := h.row.atZero
      exact ⟨own_blkA h.row.1 (hS.stay g (h.row.blk rfl).2 (h.off _ rfl)), h.row.2⟩
  · obtain ⟨h1, h4⟩ := h.rd x hx
    exact ⟨h1.same (hS.stay x.g h1.lt h4), fun ho => h4 (hS.new _ h1.lt ho)⟩
/-- What holds of the air and what was sent. -/
def KS (base p : Nat) (w wr : World) (B : Option Addr) (m d : Nat) (z zz : List Sn) (s : List (List UInt8)) : Prop := ∃ (A : Option Addr) (n c : Nat) (l : List Fl), AirM base p wr A n c l ∧ n ≤ 400 ∧ SnM base p wr A l B m d z zz ∧ (∀ x, x ∈ l → OkF s x) ∧ Below base w wr ∧ base ≤ p ∧ base ≤ wr.heap.size
theorem KS.keep {base p : Nat} {w wr w2 : World} {B : Option Addr} {m d : Nat} {z zz : List Sn} {s : List (List UInt8)} (h : KS base p w wr B m d z zz s) (hb : Below wr.heap.size wr w2) : KS base p w w2 B m d z zz s := by
  obtain ⟨A, n, c, l, hM, h4, hZ, hO, hB, hp, hbs⟩ := h
  exact ⟨A, n, c, l, hM.keep hb, h4, hZ.airS (AirS.same hM hb), hO, hB.trans (hb.mono hbs), hp, Nat.le_trans hbs hb.size⟩
theorem KS.add {base p : Nat} {w wr w2 : World} {B : Option Addr} {m d : Nat} {z : List Sn} {s : List (List UInt8)} (h : KS base p w wr B m d z z s) (hb : Below wr.heap.size wr w2) {x : Sn} (hx : SnB w2 x) (hg : wr.heap.size ≤ x.g) : KS base p w w2 B m d z (z ++ [x]) s := by
  obtain ⟨A, n, c, l, hM, h4, hZ, hO, hB, hp, hbs⟩ := h
  have hZ2 := hZ.airS (AirS.same hM hb)
  refine ⟨A, n, c, l, hM.keep hb, h4, ⟨hZ2.row, hZ2.off, fun y hy => ?_⟩, hO, hB.trans (hb.mono hbs), hp, Nat.le_trans hbs hb.size⟩
  rcases List.mem_append.1 hy with hy | hy
  · exact hZ2.rd y hy
  · rw [List.mem_singleton] at hy
    subst hy
    exact ⟨hx, fun ho => by have := hM.own_lt ho; omega⟩
end Go.Proofs.Ytdfifcgpjeojlaa

namespace Go.Proofs.Ytdfifcgpjeojlaa
open Go.RowKit

theorem ks_double {base p : Nat} {w wr : World} {B : Option Addr} {m d : Nat} {z zz : List Sn} {s : List (List UInt8)} (h : KS base p w wr B m d z zz s) (i : Int) : Calls Try.prog 8 #[.pointer (some ⟨p, 0, none⟩), .int .i64 i] wr fun e w' => ∃ v, e = .returned v ∧ KS base p w w' B m d z zz s := by
  obtain ⟨A, n, c, l, hM, h4, hZ, hO, hB, hp, hbs⟩ := h
  by_cases h0 : n = 0
  · subst h0
    exact (airDouble_none base p A c l i wr hM).mono fun e w' ⟨he, hw⟩ => ⟨_, he, by
      rw [hw]
      exact ⟨A, 0, c, l, hM, h4, hZ, hO, hB, hp, hbs⟩⟩
  · refine (airDouble_any base p A n c l i wr hM (by omega) h4 (fun x hx => by have := (hO x hx).2.2.1; omega) hbs).mono ?_
    rintro e w' ⟨x, hx, h1, h2⟩
    rcases Nat.lt_or_ge n 400 with g | g
    · obtain ⟨A1, c1, A2, c2, he, hS⟩ := h2 g
      refine ⟨_, he, A1, n + 1, c1, _, hS.m, by omega, hZ.airS hS, fun y hy => ?_, hB.trans (hS.below hM hp hbs), hp, Nat.le_trans hbs hS.size⟩
      rcases List.mem_append.1 hy with hy | hy
      · exact hO y hy
      · rw [List.mem_singleton] at hy
        subst hy
        exact (hO x (List.mem_of_getElem? hx)).copy A2 c2
    · obtain ⟨he, hb⟩ := h1 (by omega)
      exact ⟨_, he, KS.keep ⟨A, n, c, l, hM, h4, hZ, hO, hB, hp, hbs⟩ hb⟩
theorem ks_turn {base p : Nat} {w wr : World} {B : Option Addr} {m d : Nat} {z zz : List Sn} {s : List (List UInt8)} (h : KS base p w wr B m d z zz s) (i bit : Int) : Calls Try.prog 9 #[.pointer (some ⟨p, 0, none⟩), .int .i64 i, .int .i64 bit] wr fun e w' => ∃ v, e = .returned v ∧ KS base p w w' B m d z zz s := by
  have hks := h
  obtain ⟨A, n, c, l, hM, h4, hZ, hO, hB, hp, hbs⟩ := h
  by_cases h0 : n = 0
  · subst h0
    exact (turn_none base p A c l i bit wr hM).mono fun e w' ⟨he, hw⟩ => ⟨_, he, by
      rw [hw]
      exact hks⟩
  · have hlt := modA_lt i (n := n) (by omega)
    obtain ⟨ad, x, rfl, hx, -⟩ := hM.at hlt
    obtain ⟨g, rfl⟩ := hM.row.atZero
    have hox := hO x (List.mem_of_getElem? hx)
    cases hu : x.u with
    | true => exact (turn_twice base p g n c l i bit x wr hM (by omega) h4 hx hu).mono fun e w' ⟨he, hw⟩ => ⟨_, he, by
        rw [hw]
        exact hks⟩
    | false =>
      have hn4 : x.n = 4 := hox.2.2.1
      refine (turn_good base p g n c l i bit x wr hM (by omega) h4 hx hu (by omega) (by omega)).mono ?_
      rintro e w' ⟨he, hS⟩
      refine ⟨_, he, _, n, c, _, hS.m, h4, hZ.airS hS, fun y hy => ?_, hB.trans (hS.below hM hp hbs), hp, Nat.le_trans hbs hS.size⟩
      rcases List.mem_or_eq_of_mem_set hy with hy | hy
      · exact hO y hy
      · subst hy
        exact hox.turn hu _ (modA_lt bit (by omega))
theorem ks_send {base p : Nat} {w wr : World} {B : Option Addr} {m d : Nat} {z zz : List Sn} {s : List (List UInt8)} (h : KS base p w wr B m d z zz s) (x : Fl) (hx : FlIn wr x) (hf : x.f = 1) (ht : x.t = 2) (hn : x.n = 4) : Calls Try.prog 7 #[.pointer (some ⟨p, 0, none⟩), .agg x.parcel] wr fun e w' => ∃ v : Int, e = .returned (.int .i64 v) ∧ ((v = 3 ∧ KS base p w w' B m d z zz s) ∨ (v = 0 ∧ KS base p w w' B m d z zz (s ++ [x.b]))) := by
  have hks := h
  obtain ⟨A, n, c, l, hM, h4, hZ, hO, hB, hp, hbs⟩ := h
  refine (sn_good base p A n c l x wr (by rw [hf]; decide) (by rw [ht]; decide) (by omega) hM h4 hx hbs).mono ?_
  rintro e w' ⟨h1, h2⟩
  rcases Nat.lt_or_ge n 400 with g | g
  · obtain ⟨A1, c1, A2, c2, he, hS⟩ := h2 g
    refine ⟨_, he, .inr ⟨rfl, A1, n + 1, c1, _, hS.m, by omega, hZ.airS hS, fun y hy => ?_, hB.trans (hS.below hM hp hbs), hp, Nat.le_trans hbs hS.size⟩⟩
    rcases List.mem_append.1 hy with hy | hy
    · exact (hO y hy).more _
    · rw [List.mem_singleton] at hy
      subst hy
      have hl : x.b.length = 4 := by rw [hx.len, hn]
      have hk := OkF.sent s x.b hl A2 c2
      rw [← hf, ← ht, ← hn] at hk
      exact hk
  · obtain ⟨he, hb⟩ := h1 (by omega)
    exact ⟨_, he, .inl ⟨rfl, hks.keep hb⟩⟩
end Go.Proofs.Ytdfifcgpjeojlaa

namespace Go.Proofs.Ytdfifcgpjeojlaa
open Go.RowKit

theorem KS.push {base p : Nat} {w wr w4 : World} {B A4 : Option Addr} {m d c4 : Nat} {z : List Sn} {y : Sn} {s : List (List UInt8)} (h : KS base p w wr B m d z (z ++ [y]) s) (hO : OwnX tSn 1 base w4 A4 (m + 1) c4 ((z ++ [y]).map Sn.cells)) (h1 : w4.os = wr.os) (h2 : w4.tape = wr.tape) (h3 : w4.output = wr.output) (hsz : wr.heap.size ≤ w4.heap.size) (hst : ∀ k, k < wr.heap.size → (∀ a, B = some a → a.block ≠ k) → w4.heap[k]? = wr.heap[k]?) (hwh : A4.map (·.block) = B.map (·.block) ∨ A4.map (·.block) = some wr.heap.size) : KS base p w w4 A4 (m + 1) c4 (z ++ [y]) (z ++ [y]) s := by
  obtain ⟨A, n, c, l, hM, h4, hZ, hOk, hB, hp, hbs⟩ := h
  have hg : wr.grownBy w4 (B.map (·.block)) := ⟨h1, h2, h3, hsz, fun k hk hne => hst k hk (fun a ha e => hne (by rw [ha, ← e]; rfl))⟩
  have hr : ∀ k, B.map (·.block) = some k → ¬ AirO p A l k := fun k hk => by
    cases hA : B with
    | none => rw [hA] at hk; cases hk
    | some a =>
      rw [hA] at hk
      injection hk with hk
      rw [← hk]
      exact hZ.off a hA
  refine ⟨A, n, c, l, hM.off hg hr, h4, ⟨hO, fun a ha ho => ?_, fun x hx => ?_⟩, hOk, ?_, hp, Nat.le_trans hbs hsz⟩
  · rcases hwh with e | e
    · rw [ha] at e
      exact hr a.block e.symm ho
    · rw [ha] at e
      have e2 : a.block = wr.heap.size := by injection e
      have := hM.own_lt ho
      omega
  · obtain ⟨hx1, hx2⟩ := hZ.rd x hx
    refine ⟨hx1.same (hst x.g hx1.lt fun a ha => ?_), hx2⟩
    obtain ⟨cs, hcs⟩ := hZ.row.blkT ha
    obtain ⟨_, ds, hds, _⟩ := hx1
    exact hcs.neT hds (by decide)
  · exact ⟨h1.trans hB.os, h2.trans hB.tape, h3.trans hB.output, Nat.le_trans hB.size hsz, fun k hk => by
      rw [hst k (by omega) (fun a ha e => by have := (hZ.row.blk ha).1; omega)]
      exact hB.block k hk⟩
theorem snEl_info : ElI tSn (.slice none 0 0) 1 24 := by unfold ElI; kernel_rfl
theorem snEl_szd (l : List Sn) : Szd 1 (l.map Sn.cells) := fun cs hc => by
  obtain ⟨x, _, rfl⟩ := List.mem_map.1 hc
  rfl
theorem sn_oneC (x : Sn) : x.cells.all (·.oneCell') = true := by simp [Value.oneCell']
theorem bsSn (W : World) (A : Option Addr) (n c : Nat) : (Instr.buildSlice 26 1 #[(0, .slice A n c)]).run Try.prog W = .ok (.slice (some ⟨W.heap.size, 0, none⟩) 1 1) (W.alloc (.cells #[.slice A n c] tSn)) := by kernel_rfl
theorem x_bsSn {w : World} {ρ : Operand → Value} {d : Option Tmp} {i : Nat} {A : Option Addr} {n c : Nat} {ty : TypeId} {p : String} {af : Array Edge} {gd : Option (Nat × Bool)} (h : ρ (.tmp i) = .slice A n c) : (execOp ρ ⟨d, .buildSlice 26 1 #[(0, .tmp i)], ty, p, af, gd⟩).run Try.prog w = .ok (.value (.slice (some ⟨w.heap.size, 0, none⟩) 1 1)) (w.alloc (.cells #[.slice A n c] tSn)) := by
  unfold execOp
  simp only [List.map_toArray, List.map_cons, List.map_nil, h, Sem.run_bind, bsSn, Sem.run_pure, Result.andThen_ok]
theorem bs4 (W : World) (a b c d : Int) : (Instr.buildSlice 27 4 #[(0, .int .u8 a), (1, .int .u8 b), (2, .int .u8 c), (3, .int .u8 d)]).run Try.prog W = .ok (.slice (some ⟨W.heap.size, 0, none⟩) 4 4) (W.alloc (.cells #[.int .u8 a, .int .u8 b, .int .u8 c, .int .u8 d] 5)) := by kernel_rfl
theorem x_bs4 {w : World} {ρ : Operand → Value} {dd : Option Tmp} {i j k m : Nat} {a b c d : Int} {ty : TypeId} {p : String} {af : Array Edge} {gd : Option (Nat × Bool)} (h1 : ρ (.tmp i) = .int .u8 a) (h2 : ρ (.tmp j) = .int .u8 b) (h3 : ρ (.tmp k) = .int .u8 c) (h4 : ρ (.tmp m) = .int .u8 d) : (execOp ρ ⟨dd, .buildSlice 27 4 #[(0, .tmp i), (1, .tmp j), (2, .tmp k), (3, .tmp m)], ty, p, af, gd⟩).run Try.prog w = .ok (.value (.slice (some ⟨w.heap.size, 0, none⟩) 4 4)) (w.alloc (.cells #[.int .u8 a, .int .u8 b, .int .u8 c, .int .u8 d] 5)) := by
  unfold execOp
  simp only [List.map_toArray, List.map_cons, List.map_nil, h1, h2, h3, h4, Sem.run_bind, bs4, Sem.run_pure, Result.andThen_ok]
theorem cvu8 (W : World) (n : Nat) : (convert 3 5 (.int .i64 (n : Int))).run Try.prog W = .ok (.int .u8 (((UInt8.ofNat n).toNat : Nat) : Int)) W := by
  have e0 : (UInt8.ofNat n).toNat = n % 256 := by simp
  have hw : IntKind.u8.wrap (n : Int) = (((UInt8.ofNat n).toNat : Nat) : Int) := by rw [e0]; unfold IntKind.wrap; simp [IntKind.bits, IntKind.signed]
  rw [← hw]
  clear hw e0
  go_simp
theorem bdPr (W : World) (A : Option Addr) (n c : Nat) : (Instr.build 29 #[(0, .int .i64 1), (1, .int .i64 2), (2, .slice A n c)]).run Try.prog W = .ok (.agg #[.int .i64 1, .int .i64 2, .slice A n c]) W := by
  first
    | kernel_rfl
    | go_simp
/-- An act. -/
structure Ac where
  k : Int
  i : Int
  b : Int
  f : Int
  t : Int
  A : Option Addr
  n : Nat
  c : Nat
abbrev Ac.cells (x : Ac) : Array Value := #[.int .i64 x.k, .int .i64 x.i, .int .i64 x.b, .int .i64 x.f, .int .i64 x.t, .slice x.A x.n x.c]
abbrev tAct : TypeId := 31
abbrev zAc : Array Value := #[.int .i64 0, .int .i64 0, .int .i64 0, .int .i64 0, .int .i64 0, .slice none 0 0]
theorem acix (W : World) (ad : Addr) (n c k : Nat) (h : k < n) : (Instr.indexAt 22 (.slice (some ad) n c) (.int .i64 (k : Int))).run Try.prog W = .ok (.pointer (some (ad.add (k * 6)))) W := by
  have i1 : (0 : Int) ≤ (k : Int) := by omega
  have i2 : (k : Int) < (n : Int) := by omega
  go_simp
theorem acld {W : World} {ad : Addr} {k : Nat} {x : Ac} (hc : ∀ j v, x.cells[j]? = some v → W.cell? (ad.add (k * 6 + j)) = some v) : (Instr.loadAt tAct (.pointer (some (ad.add (k * 6))))).run Try.prog W = .ok (.agg x.cells) W := by
  obtain ⟨kd, i, b, f, t, A, n, c⟩ := x
  obtain ⟨h0, h1⟩ := celX hc
  have c0 : W.cell? (ad.add (k * 6)) = some (.int .i64 kd) := h0 _ rfl
  have c1 : W.cell? ⟨(ad.add (k * 6)).block, (ad.add (k * 6)).off + 1, none⟩ = some (.int .i64 i) := h1 0 _ rfl
  have c2 : W.cell? ⟨(ad.add (k * 6)).block, (ad.add (k * 6)).off + 2, none⟩ = some (.int .i64 b) := h1 1 _ rfl
  have c3 : W.cell? ⟨(ad.add (k * 6)).block, (ad.add (k * 6)).off + 3, none⟩ = some (.int .i64 f) := h1 2 _ rfl
  have c4 : W.cell? ⟨(ad.add (k * 6)).block, (ad.add (k * 6)).off + 4, none⟩ = some (.int .i64 t) := h1 3 _ rfl
  have c5 : W.cell? ⟨(ad.add (k * 6)).block, (ad.add (k * 6)).off + 5, none⟩ = some (.slice A n c) := h1 4 _ rfl
  clear hc h0 h1
  go_simp
theorem alAc (w : World) : (Instr.alloc tAct true (.tuple #[])).run Try.prog w = .ok (.pointer (some ⟨w.heap.size, 0, none⟩)) (w.alloc (.cells zAc tAct)) := by kernel_rfl
theorem x_alAc {w : World} {ρ : Operand → Value} {d : Option Tmp} {ty : TypeId} {p : String} {af : Array Edge} {gd : Option (Nat × Bool)} : (execOp ρ ⟨d, .alloc tAct, ty, p, af, gd⟩).run Try.prog w = .ok (.value (.pointer (some ⟨w.heap.size, 0, none⟩))) (w.alloc (.cells zAc tAct)) := by
  unfold execOp
  dsimp only
  rw [Sem.run_bind, alAc]
  rfl
theorem ac_oneC (x : Ac) : x.cells.all (·.oneCell') = true := by simp [Value.oneCell']
theorem acf0 (W : World) (b : Nat) : (Instr.fieldAt tAct (.pointer (some ⟨b, 0, none⟩)) 0).run Try.prog W = .ok (.pointer (some ⟨b, 0, none⟩)) W := by kernel_rfl
theorem acf1 (W : World) (b : Nat) : (Instr.fieldAt tAct (.pointer (some ⟨b, 0, none⟩)) 1).run Try.prog W = .ok (.pointer (some ⟨b, 1, none⟩)) W := by kernel_rfl
theorem acf2 (W : World) (b : Nat) : (Instr.fieldAt tAct (.pointer (some ⟨b, 0, none⟩)) 2).run Try.prog W = .ok (.pointer (some ⟨b, 2, none⟩)) W := by kernel_rfl
theorem acf3 (W : World) (b : Nat) : (Instr.fieldAt tAct (.pointer (some ⟨b, 0, none⟩)) 3).run Try.prog W = .ok (.pointer (some ⟨b, 3, none⟩)) W := by kernel_rfl
end Go.Proofs.Ytdfifcgpjeojlaa

namespace Go.Proofs.Ytdfifcgpjeojlaa
open Go.RowKit Go.WideShapes Go.ChangeShapes

section
open Go.Joins Go.Deep
variable {H : Type} {enc : TypeId × Value → H}
theorem cellsAcK : Try.prog.cellsOf 31 = 6 := by kernel_rfl
theorem cellsIK : Try.prog.cellsOf 3 = 1 := by kernel_rfl
theorem cellsPK : Try.prog.cellsOf 29 = 3 := by kernel_rfl
theorem cellsBK : Try.prog.cellsOf 27 = 1 := by kernel_rfl
theorem arr_getK {xs : List (DataW H × List MemPlace)} {n : Nat} (h : xs.length = n) {i : Nat} (hi : i < n) : ∃ y, xs[i]? = some y := ⟨xs[i], List.getElem?_eq_getElem (by omega)⟩
theorem trod_struct4K {P : Program} {w : World} {base : Nat} {spare : Nat → Bool} {held : Bool} {t : TypeId} {f0 f1 f2 f3 : Field} {fuel : Nat} {cs : List Value} {x : DataW H × List MemPlace} (ht : P.underlying t = some (.struct #[f0, f1, f2, f3])) (h : DataW.trod enc P w base spare held fuel t cs = some x) :
    ∃ n, (∃ y, DataW.trod enc P w base spare held n f0.type ((cs.drop f0.offset).take (P.cellsOf f0.type)) = some y) ∧ (∃ y, DataW.trod enc P w base spare held n f1.type ((cs.drop f1.offset).take (P.cellsOf f1.type)) = some y) ∧ (∃ y, DataW.trod enc P w base spare held n f2.type ((cs.drop f2.offset).take (P.cellsOf f2.type)) = some y) ∧ (∃ y, DataW.trod enc P w base spare held n f3.type ((cs.drop f3.offset).take (P.cellsOf f3.type)) = some y) := by
  obtain ⟨xs, n, _, rfl, _, hlen, hf⟩ := DataW.trod_struct ht h
  have hl : xs.length = 4 := hlen
  obtain ⟨y0, e0⟩ := arr_getK hl (i := 0) (by omega)
  obtain ⟨y1, e1⟩ := arr_getK hl (i := 1) (by omega)
  obtain ⟨y2, e2⟩ := arr_getK hl (i := 2) (by omega)
  obtain ⟨y3, e3⟩ := arr_getK hl (i := 3) (by omega)
  exact ⟨n, ⟨y0, (hf 0 f0 rfl).trans e0⟩, ⟨y1, (hf 1 f1 rfl).trans e1⟩, ⟨y2, (hf 2 f2 rfl).trans e2⟩, ⟨y3, (hf 3 f3 rfl).trans e3⟩⟩
set_option maxRecDepth 100000 in
theorem open_rowK {X : Type} (f : X → Array Value) (P : X → Prop) (x0 : X) {z : Nat} (hz : 0 < z) (hs : ∀ x, (f x).size = z) {t te : TypeId} (ht : Try.prog.underlying t = some (.slice te)) (hce : Try.prog.cellsOf te = z) {W : World}
    (hE : ∀ {base : Nat} {spare : Nat → Bool} {held : Bool} {fuel : Nat} {cs : List Value} {y : DataW H × List MemPlace}, cs.length = z → DataW.trod enc Try.prog W base spare held fuel te cs = some y → ∃ x : X, cs = (f x).toList ∧ P x)
    {r : Reach} {b0 : Nat} {v : Value} {d : DataW H} {p : List MemPlace} (hv : Value.okWide Try.prog W r b0 t v) (h : DataW.Trod enc Try.prog W 0 (fun _ => true) true t v d p) :
    ∃ (A : Option Addr) (n c : Nat) (l : List X), v = .slice A n c ∧ l.length = n ∧ RdX z W.heap.size W A (l.map f) ∧ n ≤ maxLen ∧ ∀ x, x ∈ l → P x := by
  obtain ⟨A, n, c, rfl⟩ := okWide_slice ht hv
  obtain ⟨fuel, hf⟩ := h
  rcases open_slice ht hf with ⟨hcs, _⟩ | ⟨a, len, cap, m, fu, D, Pl, hcs, _, hl, hm, hmm, _, hi⟩
  · simp [Value.cells] at hcs
    obtain ⟨rfl, rfl, rfl⟩ := hcs
    exact ⟨none, 0, 0, [], rfl, rfl, RdX.nil _ _ _ _, Nat.zero_le _, fun x hx => by simp at hx⟩
  · simp [Value.cells] at hcs
    obtain ⟨rfl, rfl, rfl⟩ := hcs
    have hle : n ≤ m := by rw [hmm]; simp; omega
    have hx : ∀ i, ∃ x : X, i < n → P x ∧ ∀ j v, (f x)[j]? = some v → W.cell? (a.add (i * z + j)) = some v := by
      intro i
      by_cases hin : i < n
      · obtain ⟨cs', hc, ht'⟩ := hi i (by omega)
        rw [hce] at hc
        obtain ⟨_, hlen, hcell⟩ := World.cells?_some hc
        obtain ⟨x, rfl, hfx⟩ := hE hlen ht'
        refine ⟨x, fun _ => ⟨hfx, fun j v hj => ?_⟩⟩
        have hj10 : j < z := by
          have := (Array.getElem?_eq_some_iff.1 hj).1
          rw [hs] at this
          exact this
        rw [← add_add', hcell j hj10, Array.getElem?_toList]
        exact hj
      · exact ⟨x0, fun h => absurd h hin⟩
    have hF : ∃ g : Nat → X, ∀ i, i < n → P (g i) ∧ ∀ j v, (f (g i))[j]? = some v → W.cell? (a.add (i * z + j)) = some v := ⟨fun i => Classical.choose (hx i), fun i => Classical.choose_spec (hx i)⟩
    obtain ⟨g, hg⟩ := hF
    refine ⟨some a, n, c, (List.range n).map g, rfl, by simp, fun k x hx => ?_, by omega, fun x hx => ?_⟩
    · have hk : k < n := by
        have := (List.getElem?_eq_some_iff.1 hx).1
        simpa using this
      have e : x = f (g k) := by
        rw [List.getElem?_map, List.getElem?_map, List.getElem?_range hk] at hx
        injection hx with hx
        exact hx.symm
      subst e
      have h0 : 0 < (f (g k)).size := by rw [hs]; exact hz
      have hc := (hg k hk).2 0 _ (Array.getElem?_eq_getElem h0)
      have hb := World.block_lt_of_cell? W _ hc
      rw [add_block] at hb
      exact ⟨a, rfl, hb, (hg k hk).2⟩
    · obtain ⟨k, hk, rfl⟩ := List.mem_map.1 hx
      exact (hg k (List.mem_range.1 hk)).1
theorem trod_struct3K {P : Program} {w : World} {base : Nat} {spare : Nat → Bool} {held : Bool} {t : TypeId} {f0 f1 f2 : Field} {fuel : Nat} {cs : List Value} {x : DataW H × List MemPlace} (ht : P.underlying t = some (.struct #[f0, f1, f2])) (h : DataW.trod enc P w base spare held fuel t cs = some x) :
    ∃ n, (∃ y, DataW.trod enc P w base spare held n f0.type ((cs.drop f0.offset).take (P.cellsOf f0.type)) = some y) ∧ (∃ y, DataW.trod enc P w base spare held n f1.type ((cs.drop f1.offset).take (P.cellsOf f1.type)) = some y) ∧ (∃ y, DataW.trod enc P w base spare held n f2.type ((cs.drop f2.offset).take (P.cellsOf f2.type)) = some y) := by
  obtain ⟨xs, n, _, rfl, _, hlen, hf⟩ := DataW.trod_struct ht h
  have hl : xs.length = 3 := hlen
  obtain ⟨y0, e0⟩ := arr_getK hl (i := 0) (by omega)
  obtain ⟨y1, e1⟩ := arr_getK hl (i := 1) (by omega)
  obtain ⟨y2, e2⟩ := arr_getK hl (i := 2) (by omega)
  exact ⟨n, ⟨y0, (hf 0 f0 rfl).trans e0⟩, ⟨y1, (hf 1 f1 rfl).trans e1⟩, ⟨y2, (hf 2 f2 rfl).trans e2⟩⟩
set_option maxRecDepth 100000 in
theorem open_acK {W : World} {base : Nat} {spare : Nat → Bool} {held : Bool} {fuel : Nat} {cs : List Value} {y : DataW H × List MemPlace} (hl : cs.length = 6) (h : DataW.trod enc Try.prog W base spare held fuel 31 cs = some y) : ∃ x : Ac, cs = x.cells.toList ∧ True :=
  match cs, hl with
  | [c0, c1, c2, c3, c4, c5], _ => by
    obtain ⟨m, ⟨y0, h0⟩, ⟨y1, h1⟩, ⟨y2, h2⟩, ⟨y3, h3⟩⟩ := trod_struct4K Try.underlying31 h
    simp only [cellsIK, cellsPK, List.drop_zero, List.drop_succ_cons, List.take_succ_cons, List.take_zero] at h0 h1 h2 h3
    obtain ⟨k0, q0, _, _⟩ := DataW.trod_int Try.underlying3 h0
    obtain ⟨k1, q1, _, _⟩ := DataW.trod_int Try.underlying3 h1
    obtain ⟨k2, q2, _, _⟩ := DataW.trod_int Try.underlying3 h2
    obtain ⟨m2, ⟨z0, g0⟩, ⟨z1, g1⟩, ⟨z2, g2⟩⟩ := trod_struct3K Try.underlying29 h3
    simp only [cellsIK, cellsBK, List.drop_zero, List.drop_succ_cons, List.take_succ_cons, List.take_zero] at g0 g1 g2
    obtain ⟨k3, q3, _, _⟩ := DataW.trod_int Try.underlying3 g0
    obtain ⟨k4, q4, _, _⟩ := DataW.trod_int Try.underlying3 g1
    simp at q0 q1 q2 q3 q4
    subst q0 q1 q2 q3 q4
    have hs : ∃ (A : Option Addr) (n c : Nat), c5 = .slice A n c := by
      rcases open_slice Try.underlying27 g2 with ⟨hcs, _⟩ | ⟨a, len, cap, mm, fu, D, Pl, hcs, _⟩
      · exact ⟨none, 0, 0, by simpa using hcs⟩
      · exact ⟨some a, len, cap, by simpa using hcs⟩
    obtain ⟨A, n, c, rfl⟩ := hs
    exact ⟨⟨k0, k1, k2, k3, k4, A, n, c⟩, rfl, trivial⟩
set_option maxRecDepth 100000 in
theorem open_actsK {t : TypeId} (ht : Try.prog.underlying t = some (.slice 31)) {W : World} {r : Reach} {b0 : Nat} {v : Value} {d : DataW H} {p : List MemPlace} (hv : Value.okWide Try.prog W r b0 t v) (h : DataW.Trod enc Try.prog W 0 (fun _ => true) true t v d p) :
    ∃ (A : Option Addr) (n c : Nat) (l : List Ac), v = .slice A n c ∧ l.length = n ∧ RdX 6 W.heap.size W A (l.map Ac.cells) := by
  obtain ⟨A, n, c, l, h1, h2, h3, _⟩ := open_rowK Ac.cells (fun _ => True) ⟨0, 0, 0, 0, 0, none, 0, 0⟩ (by omega) (fun _ => rfl) ht cellsAcK (fun hl h => open_acK hl h) hv h
  exact ⟨A, n, c, l, h1, h2, h3⟩
end
end Go.Proofs.Ytdfifcgpjeojlaa

namespace Go.Proofs.Ytdfifcgpjeojlaa
open Go.RowKit Go.WideShapes Go.ChangeShapes

section
variable {H : Type} {enc : TypeId × Value → H}
theorem cellsB1 : Try.prog.cellsOf 5 = 1 := by kernel_rfl
theorem wf_u8 {z : Int} (h : (Lit.int .u8 z).wf = true) : z = ((UInt8.ofNat z.toNat).toNat : Int) := by
  have e1 : IntKind.u8.min = 0 := rfl
  have e2 : IntKind.u8.max = 255 := rfl
  simp [Lit.wf, e1, e2] at h
  rw [UInt8.toNat_ofNat']
  omega
theorem wf_i64 {n : Int} (h : (Lit.int .i64 n).wf = true) : -9223372036854775808 ≤ n ∧ n ≤ 9223372036854775807 := by
  have e1 : IntKind.i64.min = -9223372036854775808 := rfl
  have e2 : IntKind.i64.max = 9223372036854775807 := rfl
  simp [Lit.wf, e1, e2] at h
  omega
set_option maxRecDepth 100000 in
/-- An argument that is a slice of bytes, opened. -/
theorem open_bytl {t : TypeId} (ht : Try.prog.underlying t = some (.slice 5)) {W : World} {r : Reach} {b0 : Nat} {v : Value} {d : DataW H} {p : List MemPlace} (hv : Value.okWide Try.prog W r b0 t v) (h : DataW.Trod enc Try.prog W 0 (fun _ => true) true t v d p) :
    ∃ (A : Option Addr) (n c : Nat) (l : List UInt8), v = .slice A n c ∧ l.length = n ∧ RdB W.heap.size W A l ∧ n ≤ c ∧ c ≤ maxLen := by
  obtain ⟨A, n, c, rfl⟩ := okWide_slice ht hv
  obtain ⟨fuel, hf⟩ := h
  rcases open_ints ht Try.underlying5 cellsB1 hf with ⟨hcs, _⟩ | ⟨a, len, cap, zs, hcs, _, hl, hm, hmm, _, hcell, hwf⟩
  · simp [Value.cells] at hcs
    obtain ⟨rfl, rfl, rfl⟩ := hcs
    exact ⟨none, 0, 0, [], rfl, rfl, RdB.nil _ _ _, Nat.le_refl _, Nat.zero_le _⟩
  · simp [Value.cells] at hcs
    obtain ⟨rfl, rfl, rfl⟩ := hcs
    have hle : n ≤ zs.length := by rw [hmm]; simp; omega
    refine ⟨some a, n, c, (zs.take n).map (fun z => UInt8.ofNat z.toNat), rfl, by rw [List.length_map, List.length_take]; omega, fun k x hx => ?_, hl, hm⟩
    have hk : k < n := by
      have := (List.getElem?_eq_some_iff.1 hx).1
      rw [List.length_map, List.length_take] at this
      omega
    have hkz : k < zs.length := by omega
    have hc := hcell k hkz
    have e : zs.getD k 0 = zs[k] := by rw [List.getD_eq_getElem?_getD, List.getElem?_eq_getElem hkz]; rfl
    rw [List.getElem?_map, List.getElem?_take, if_pos hk, List.getElem?_eq_getElem hkz] at hx
    injection hx with hx
    subst hx
    have hb := World.block_lt_of_cell? W _ hc
    rw [add_block] at hb
    refine ⟨a, rfl, hb, ?_⟩
    rw [hc, e]
    have := wf_u8 (hwf zs[k] (List.getElem_mem hkz))
    rw [← this]
set_option maxRecDepth 100000 in
/-- An argument that is a uint64, opened. -/
theorem open_u64 {P : Program} {t : TypeId} (ht : P.underlying t = some (.int .u64)) {W : World} {base : Nat} {spare : Nat → Bool} {held : Bool} {r : Reach} {b0 : Nat} {v : Value} {d : DataW H} {p : List MemPlace} (hv : Value.okWide P W r b0 t v) (h : DataW.Trod enc P W base spare held t v d p) :
    ∃ x : Nat, v = .int .u64 x ∧ x < 18446744073709551616 := by
  obtain ⟨n, rfl, _, _, hw⟩ := open_int ht hv h
  have e1 : IntKind.u64.min = 0 := rfl
  have e2 : IntKind.u64.max = 18446744073709551615 := rfl
  simp [Lit.wf, e1, e2] at hw
  exact ⟨n.toNat, by rw [Int.toNat_of_nonneg hw.1], by omega⟩
end
end Go.Proofs.Ytdfifcgpjeojlaa

namespace Go.Proofs.Ytdfifcgpjeojlaa
open Go.RowKit

/-- Cells that stand in order are the row. -/
theorem row_is {cs : Array Value} {l : List (Array Value)} {z n : Nat} (hz : 0 < z) (hs : Szd z l) (hl : l.length = n) (hsz : cs.size = n * z) (h : ∀ i c, l[i]? = some c → ∀ j v, c[j]? = some v → cs[i * z + j]? = some v) : cs.toList = celV l := by
  refine List.ext_getElem? fun i => ?_
  have hlen := celV_len l hs
  by_cases hi : i < n * z
  · have hk : i / z < l.length := by rw [hl]; exact Nat.div_lt_of_lt_mul (by rw [Nat.mul_comm]; exact hi)
    have hx : l[i / z]? = some l[i / z] := List.getElem?_eq_getElem hk
    have hsz2 := hs _ (List.getElem_mem hk)
    have hj : i % z < l[i / z].size := by rw [hsz2]; exact Nat.mod_lt _ hz
    have hv : l[i / z][i % z]? = some l[i / z][i % z] := Array.getElem?_eq_getElem hj
    have h2 := celV_get l hs (i / z) (i % z) _ _ hx hv
    have h3 := h _ _ hx _ _ hv
    rw [Nat.div_add_mod' i z] at h2 h3
    rw [h2, Array.getElem?_toList, h3]
  · have h1 : (celV l).length ≤ i := by rw [hlen, hl]; omega
    have h2 : cs.toList.length ≤ i := by rw [Array.length_toList, hsz]; omega
    rw [List.getElem?_eq_none h1, List.getElem?_eq_none h2]
theorem own_of {t : TypeId} {z base n g : Nat} {W : World} {cs : Array Value} {l : List (Array Value)} (hz : 0 < z) (hX : Blk W g cs t) (hb : base ≤ g) (hm : n ≤ maxLen) (hs : Szd z l) (hl : l.length = n) (hsz : cs.size = n * z) (h : ∀ i c, l[i]? = some c → ∀ j v, c[j]? = some v → cs[i * z + j]? = some v) : OwnX t z base W (some ⟨g, 0, none⟩) n n l := by
  have e := row_is hz hs hl hsz h
  refine ⟨⟨by rw [celV_len l hs, hl], .inr ⟨g, n, cs, rfl, hb, hX, Nat.le_refl _, hm, hsz, ?_⟩⟩, hs, hl⟩
  rw [e, List.take_of_length_le (by rw [celV_len l hs, hl]; exact Nat.le_refl _)]
theorem setL_getQ : ∀ (vs : List Value) (cs : Array Value) (j : Nat), j + vs.length ≤ cs.size → ∀ i, (setL cs j vs)[i]? = if j ≤ i ∧ i < j + vs.length then vs[i - j]? else cs[i]?
  | [], cs, j, _, i => by
    rw [if_neg (by simp)]
    rfl
  | v :: r, cs, j, h, i => by
    have hlt : j < cs.size := by simp at h; omega
    show (setL (cs.setIfInBounds j v) (j + 1) r)[i]? = _
    rw [setL_getQ r _ (j + 1) (by simp at h ⊢; omega) i]
    simp only [List.length_cons]
    by_cases e : i = j
    · subst e
      rw [if_neg (by omega), if_pos (by omega), Array.getElem?_setIfInBounds_self_of_lt hlt]
      simp
    · by_cases h2 : j + 1 ≤ i ∧ i < j + 1 + r.length
      · rw [if_pos h2, if_pos (by omega), show i - j = (i - (j + 1)) + 1 by omega]
        rfl
      · rw [if_neg h2, if_neg (by omega), Array.getElem?_setIfInBounds_ne (by omega)]
theorem setL_sizeQ : ∀ (vs : List Value) (j : Nat) (cs : Array Value), (setL cs j vs).size = cs.size
  | [], _, _ => rfl
  | v :: r, j, cs => by
    show (setL (cs.setIfInBounds j v) (j + 1) r).size = _
    rw [setL_sizeQ r, Array.size_setIfInBounds]
/-- One more of a row stands. -/
theorem row_next {cs c : Array Value} {l : List (Array Value)} {z n k : Nat} (hs : Szd z l) (hl : l.length = n) (hsz : cs.size = n * z) (hx : l[k]? = some c) (h : ∀ i c, i < k → l[i]? = some c → ∀ j v, c[j]? = some v → cs[i * z + j]? = some v) :
    (setL cs (k * z) c.toList).size = n * z ∧ ∀ i d, i < k + 1 → l[i]? = some d → ∀ j v, d[j]? = some v → (setL cs (k * z) c.toList)[i * z + j]? = some v := by
  refine ⟨by rw [setL_sizeQ, hsz], fun i d hi hd j v hv => ?_⟩
  have hk : k < n := by rw [← hl]; exact (List.getElem?_eq_some_iff.1 hx).1
  have hcz := hs c (List.mem_of_getElem? hx)
  have hdz := hs d (List.mem_of_getElem? hd)
  have hj : j < z := by rw [← hdz]; exact (Array.getElem?_eq_some_iff.1 hv).1
  have hle : (k + 1) * z ≤ n * z := Nat.mul_le_mul_right z hk
  rw [Nat.succ_mul] at hle
  rw [setL_getQ _ _ _ (by rw [Array.length_toList, hcz, hsz]; exact hle), Array.length_toList, hcz]
  by_cases e : i = k
  · subst e
    rw [hx] at hd
    injection hd with hd
    subst hd
    rw [if_pos (by omega), show i * z + j - i * z = j by omega, Array.getElem?_toList]
    exact hv
  · have h2 : (i + 1) * z ≤ k * z := Nat.mul_le_mul_right z (by omega)
    rw [Nat.succ_mul] at h2
    rw [if_neg (by omega)]
    exact h i d (by omega) hd j v hv
/-- One more stands at a row's end. -/
theorem row_snoc {cs c : Array Value} {zs : List (Array Value)} {z n k : Nat} (hs : Szd z zs) (hl : zs.length = k) (hkn : k < n) (hsz : cs.size = n * z) (hc : c.size = z) (h : ∀ i d, zs[i]? = some d → ∀ j v, d[j]? = some v → cs[i * z + j]? = some v) :
    (setL cs (k * z) c.toList).size = n * z ∧ ∀ i d, (zs ++ [c])[i]? = some d → ∀ j v, d[j]? = some v → (setL cs (k * z) c.toList)[i * z + j]? = some v := by
  refine ⟨by rw [setL_sizeQ, hsz], fun i d hd j v hv => ?_⟩
  have hle : (k + 1) * z ≤ n * z := Nat.mul_le_mul_right z hkn
  rw [Nat.succ_mul] at hle
  rw [setL_getQ _ _ _ (by rw [Array.length_toList, hc, hsz]; exact hle), Array.length_toList, hc]
  by_cases e : i < k
  · rw [List.getElem?_append_left (by omega)] at hd
    have hdz := hs d (List.mem_of_getElem? hd)
    have hj : j < z := by rw [← hdz]; exact (Array.getElem?_eq_some_iff.1 hv).1
    have h2 : (i + 1) * z ≤ k * z := Nat.mul_le_mul_right z (by omega)
    rw [Nat.succ_mul] at h2
    rw [if_neg (by omega)]
    exact h i d hd j v hv
  · have hi : i = k := by
      have := (List.getElem?_eq_some_iff.1 hd).1
      rw [List.length_append, List.length_singleton] at this
      omega
    subst hi
    rw [List.getElem?_append_right (by omega), hl, Nat.sub_self] at hd
    have e2 : c = d := by simpa using hd
    subst e2
    have hj : j < z := by rw [← hc]; exact (Array.getElem?_eq_some_iff.1 hv).1
    rw [if_pos (by omega), show i * z + j - i * z = j by omega, Array.getElem?_toList]
    exact hv
end Go.Proofs.Ytdfifcgpjeojlaa

namespace Go.Proofs.Ytdfifcgpjeojlaa
open Go.RowKit

theorem enP_air_Take : ∀ args w, (callFunc 11 args).run Try.prog w = .ok (.enter 11 args) w := enters_of Try.func11 (by kernel_rfl) rfl

set_option maxRecDepth 100000 in
set_option maxHeartbeats 4000000 in
theorem lose_none (base p : Nat) (A : Option Addr) (c : Nat) (l : List Fl) (i : Int) (w : World) (h : AirM base p w A 0 c l) : Calls Try.prog 16 #[.pointer (some ⟨p, 0, none⟩), .int .i64 i] w fun e w' => e = .returned (.int .i64 5) ∧ Below w.heap.size w w' := by
  have cT := take_none base p A c l i w h
  go_enter Try.func16, Try.ntmps16
  go_upto_region 1 with fail
  refine wp_region_lit ?_
  refine fl_start ?_
  generalize ha : Act.mk _ _ = a0
  have hn : a0.tmps.size = 14 := by rw [← ha]; kernel_rfl
  have h0 : (fr a0 []).eval (.tmp 0) = .pointer (some ⟨p, 0, none⟩) := by rw [← ha]; kernel_rfl
  refine fl_know hn rfl h0 ?_
  clear h0
  have h1 : (fr a0 [(0, true, .pointer (some ⟨p, 0, none⟩))]).eval (.tmp 1) = .int .i64 i := by rw [← ha]; kernel_rfl
  refine fl_know hn rfl h1 ?_
  clear h1
  refine g_mv hn ?_
  refine g_mv hn ?_
  refine g_c2x enP_air_Take hn (R := fun v w2 => v = .tuple #[.agg #[.int .i64 0, .int .i64 0, .slice none 0 0], .int .i64 5] ∧ Below w.heap.size w w2) (cT.mono fun _ _ ⟨he, hb⟩ => ⟨_, he, rfl, hb⟩) ?_
  rintro v w2 ⟨rfl, hb2⟩
  refine g_mv hn ?_
  refine g_ex hn ?_
  refine g_ex hn ?_
  refine g_w (v := .pointer (some ⟨w2.heap.size, 0, none⟩)) (w2 := w2.alloc (.cells #[.int .i64 0, .int .i64 0, .slice none 0 0] 29)) hn (fun _ => x_alPc) ?_
  have hX3 := blk_new w2 #[.int .i64 0, .int .i64 0, .slice none 0 0] 29
  have hb3 := b0 w2 (.cells #[.int .i64 0, .int .i64 0, .slice none 0 0] 29)
  generalize w2.alloc (.cells #[.int .i64 0, .int .i64 0, .slice none 0 0] 29) = w3 at hX3 hb3 ⊢
  refine g_str hX3 ?_ (h1 := by simp [Value.oneCell'])
  intro w4 ho4 hX4
  refine g_as hn ?_
  refine fl_end ?_
  clear hn
  subst ha
  dsimp only [fr, cnd, Act.put, cond_true]
  simp only [List.setIfInBounds_toArray, List.set_cons_zero, List.set_cons_succ]
  have hb4 := hb3.trans (ho4.below (Nat.le_refl _))
  go_wp2_with fail
  go_ret
  exact ⟨rfl, hb2.trans (hb4.mono hb2.size)⟩
set_option maxRecDepth 100000 in
set_option maxHeartbeats 4000000 in
theorem lose_any (base p : Nat) (ad : Addr) (n c : Nat) (l : List Fl) (i : Int) (w : World) (h : AirM base p w (some ad) n c l) (h0 : 0 < n) (h4 : n ≤ 400) (hbw : base ≤ w.heap.size) : Calls Try.prog 16 #[.pointer (some ⟨p, 0, none⟩), .int .i64 i] w fun e w' => e = .returned (.int .i64 0) ∧ AirS base p (some ad) l w (some ad) (n - 1) c (l.eraseIdx (modA i n)) w' := by
  have cT := take_any base p ad n c l i w h h0 h4 hbw
  go_enter Try.func16, Try.ntmps16
  go_upto_region 1 with fail
  refine wp_region_lit ?_
  refine fl_start ?_
  generalize ha : Act.mk _ _ = a0
  have hn : a0.tmps.size = 14 := by rw [← ha]; kernel_rfl
  have h0 : (fr a0 []).eval (.tmp 0) = .pointer (some ⟨p, 0, none⟩) := by rw [← ha]; kernel_rfl
  refine fl_know hn rfl h0 ?_
  clear h0
  have h1 : (fr a0 [(0, true, .pointer (some ⟨p, 0, none⟩))]).eval (.tmp 1) = .int .i64 i := by rw [← ha]; kernel_rfl
  refine fl_know hn rfl h1 ?_
  clear h1
  refine g_mv hn ?_
  refine g_mv hn ?_
  refine g_c2x enP_air_Take hn (R := fun v w2 => ∃ x : Fl, v = .tuple #[.agg x.parcel, .int .i64 0] ∧ AirS base p (some ad) l w (some ad) (n - 1) c (l.eraseIdx (modA i n)) w2) (cT.mono fun _ _ ⟨x, hx, he, hS, hO⟩ => ⟨_, he, x, rfl, hS⟩) ?_
  rintro v w2 ⟨x, rfl, hS2⟩
  refine g_mv hn ?_
  refine g_ex hn ?_
  refine g_ex hn ?_
  refine g_w (v := .pointer (some ⟨w2.heap.size, 0, none⟩)) (w2 := w2.alloc (.cells #[.int .i64 0, .int .i64 0, .slice none 0 0] 29)) hn (fun _ => x_alPc) ?_
  have hX3 := blk_new w2 #[.int .i64 0, .int .i64 0, .slice none 0 0] 29
  have hb3 := b0 w2 (.cells #[.int .i64 0, .int .i64 0, .slice none 0 0] 29)
  generalize w2.alloc (.cells #[.int .i64 0, .int .i64 0, .slice none 0 0] 29) = w3 at hX3 hb3 ⊢
  refine g_str hX3 ?_ (h1 := pc_oneC x)
  intro w4 ho4 hX4
  refine g_as hn ?_
  refine fl_end ?_
  clear hn
  subst ha
  dsimp only [fr, cnd, Act.put, cond_true]
  simp only [List.setIfInBounds_toArray, List.set_cons_zero, List.set_cons_succ]
  have hb4 := hb3.trans (ho4.below (Nat.le_refl _))
  go_wp2_with fail
  go_ret
  exact ⟨rfl, hS2.trans (AirS.same hS2.m hb4)⟩
/-- What a parcel is, whatever memory it has. -/
structure Pc where
  f : Int
  t : Int
  u : Bool
  b : List UInt8
abbrev Fl.pc (x : Fl) : Pc := ⟨x.f, x.t, x.u, x.b⟩
theorem pcEl_info : ElI 29 (.agg #[.int .i64 0, .int .i64 0, .slice none 0 0]) 3 40 := by unfold ElI; kernel_rfl
theorem mkPc (W : World) (n : Nat) (hn : n ≤ 1000000) : (Instr.makeSlice 53 (.int .i64 (n : Int)) (.int .i64 (n : Int))).run Try.prog W = .ok (.slice (some ⟨W.heap.size, 0, none⟩) n n) (W.alloc (.cells (madeCells #[.int .i64 0, .int .i64 0, .slice none 0 0] (n * 3)) 29)) := by
  obtain ⟨i0, hi0, hz0, hz1, hz2⟩ := info_parts pcEl_info
  have h := run_make W 53 29 i0 (.agg #[.int .i64 0, .int .i64 0, .slice none 0 0]) Try.underlying53 hi0 hz0 .i64 .i64 (n : Int) (n : Int) (by omega) (Int.le_refl _) (by rw [hz2]; omega) (by omega)
  rw [Int.toNat_natCast, hz1] at h
  exact h
theorem pcix (W : World) (ad : Addr) (n c k : Nat) (h : k < n) : (Instr.indexAt 53 (.slice (some ad) n c) (.int .i64 (k : Int))).run Try.prog W = .ok (.pointer (some (ad.add (k * 3)))) W := by
  have i1 : (0 : Int) ≤ (k : Int) := by omega
  have i2 : (k : Int) < (n : Int) := by omega
  go_simp
theorem alFl (w : World) : (Instr.alloc 62 true (.tuple #[])).run Try.prog w = .ok (.pointer (some ⟨w.heap.size, 0, none⟩)) (w.alloc (.cells zFl 62)) := by kernel_rfl
theorem x_alFl {w : World} {ρ : Operand → Value} {d : Option Tmp} {ty : TypeId} {p : String} {af : Array Edge} {gd : Option (Nat × Bool)} : (execOp ρ ⟨d, .alloc 62, ty, p, af, gd⟩).run Try.prog w = .ok (.value (.pointer (some ⟨w.heap.size, 0, none⟩))) (w.alloc (.cells zFl 62)) := by
  unfold execOp
  dsimp only
  rw [Sem.run_bind, alFl]
  rfl
theorem x_fiFl {w : World} {ρ : Operand → Value} {d : Option Tmp} {i : Nat} {x : Fl} {ty : TypeId} {p : String} {af : Array Edge} {gd : Option (Nat × Bool)} (h : ρ (.tmp i) = .agg x.cells) : (execOp ρ ⟨d, .field 62 (.tmp i) 0, ty, p, af, gd⟩).run Try.prog w = .ok (.value (.agg x.parcel)) w := by
  unfold execOp
  dsimp only
  rw [h]
  obtain ⟨f, t, A, n, c, u, b⟩ := x
  kernel_rfl
theorem pc_szd (l : List Fl) : Szd 3 (l.map Fl.parcel) := fun cs hc => by
  obtain ⟨x, _, rfl⟩ := List.mem_map.1 hc
  rfl
/-- What Parcels answers: rows of their own of the same parcels. -/
def ParP (l : List Fl) (w : World) (e : Ending) (w' : World) : Prop := ∃ (g n : Nat) (zs : List Fl), e = .returned (.slice (some ⟨g, 0, none⟩) n n) ∧ OwnX 29 3 w.heap.size w' (some ⟨g, 0, none⟩) n n (zs.map Fl.parcel) ∧ (∀ z, z ∈ zs → OwnB w.heap.size w' z.A z.n z.c z.b) ∧ zs.Pairwise Apt ∧ zs.map Fl.pc = l.map Fl.pc ∧ Below w.heap.size w w'
/-- What holds while the rows are filled. -/
structure ParI (base p g n : Nat) (w wr : World) (A : Option Addr) (c : Nat) (l zs : List Fl) (k : Nat) (cs : Array Value) : Prop where
  m : AirM base p wr A n c l
  blk : Blk wr g cs 29
  sz : cs.size = n * 3
  len : zs.length = k
  at_ : ∀ i d, (zs.map Fl.parcel)[i]? = some d → ∀ j v, d[j]? = some v → cs[i * 3 + j]? = some v
  byt : ∀ z, z ∈ zs → OwnB w.heap.size wr z.A z.n z.c z.b
  dis : zs.Pairwise Apt
  pc : zs.map Fl.pc = (l.take k).map Fl.pc
  bel : Below w.heap.size w wr
theorem ParI.keep {base p g n : Nat} {w wr w2 : World} {A : Option Addr} {c : Nat} {l zs : List Fl} {k : Nat} {cs : Array Value} (h : ParI base p g n w wr A c l zs k cs) (hb : Below wr.heap.size wr w2) : ParI base p g n w w2 A c l zs k cs :=
  ⟨h.m.keep hb, h.blk.keep hb, h.sz, h.len, h.at_, fun z hz => (h.byt z hz).keep hb, h.dis, h.pc, h.bel.trans (hb.mono h.bel.size)⟩
theorem ParI.next {base p g n : Nat} {w wr w2 w3 : World} {A : Option Addr} {c : Nat} {l zs : List Fl} {k : Nat} {cs : Array Value} (h : ParI base p g n w wr A c l zs k cs) (hgw : w.heap.size ≤ g) (hkn : k < n) {x : Fl} (hx : l[k]? = some x) {A2 : Option Addr} {c2 : Nat} (hb : Below wr.heap.size wr w2) (hO : OwnB wr.heap.size w2 A2 x.n c2 x.b) (ho : Only1 g w2 w3) (hX : Blk w3 g (setL cs (k * 3) (⟨x.f, x.t, A2, x.n, c2, x.u, x.b⟩ : Fl).parcel.toList) 29) : ParI base p g n w w3 A c l (zs ++ [⟨x.f, x.t, A2, x.n, c2, x.u, x.b⟩]) (k + 1) (setL cs (k * 3) (⟨x.f, x.t, A2, x.n, c2, x.u, x.b⟩ : Fl).parcel.toList) := by
  have h2 := h.keep hb
  have hg := only_grown ho
  have hr : ∀ k, some g = some k → ∃ cs t, Blk w2 k cs t ∧ t ≠ 5 := fun k hk => by
    injection hk with hk
    exact ⟨_, _, by rw [← hk]; exact h2.blk, by decide⟩
  obtain ⟨e1, e2⟩ := row_snoc (c := (⟨x.f, x.t, A2, x.n, c2, x.u, x.b⟩ : Fl).parcel) (pc_szd zs) (by rw [List.length_map]; exact h.len) hkn h.sz rfl h.at_
  have hy := byt_grown h2.byt hg hr
  have hN := byt_grown (base := wr.heap.size) (l := [(⟨x.f, x.t, A2, x.n, c2, x.u, x.b⟩ : Fl)]) (W := w2) (fun y hy => by rw [List.mem_singleton] at hy; subst hy; exact hO) hg hr
  have hsz := h.bel.size
  have hs2 := hb.size
  have hMp : p ≠ g := h.m.blk.neT h.blk (by decide)
  have hrow : ∀ a, A = some a → a.block ≠ g := fun a ha => by
    obtain ⟨cs', hcs⟩ := h.m.row.blkT ha
    exact hcs.neT h.blk (by decide)
  have hyA : ∀ y, y ∈ l → OwnB base w3 y.A y.n y.c y.b := byt_grown h2.m.byt hg hr
  refine ⟨⟨h2.m.blk.only ho hMp, ⟨World.ownsRow.kept h2.m.row.1 hg ?_, h2.m.row.2⟩, hyA, h2.m.dis⟩, hX, e1, by rw [List.length_append, h.len]; rfl, by rw [List.map_append]; exact e2, fun z hz => ?_, ?_, ?_, h2.bel.trans (ho.below hgw)⟩
  · cases hA : A with
    | none => simp [Value.ownBlock]
    | some a =>
      right
      intro e
      simp only [Value.ownBlock, Option.some.injEq] at e
      exact hrow a hA e
  · rcases List.mem_append.1 hz with hz | hz
    · exact hy z hz
    · have := hN z hz
      rw [List.mem_singleton] at hz
      subst hz
      exact this.less hsz
  · refine List.pairwise_append.2 ⟨h.dis, List.pairwise_singleton .., fun y hy z hz a a' ha ha' e => ?_⟩
    rw [List.mem_singleton] at hz
    subst hz
    have h1 := ((h.byt y hy).blk ha).2
    have h2 := (hO.blk ha').1
    omega
  · rw [List.map_append, h.pc, List.take_add_one, hx, Option.toList_some, List.map_append]
    rfl
set_option maxRecDepth 100000 in
set_option maxHeartbeats 4000000 in
theorem parcels_any (base p : Nat) (A : Option Addr) (n c : Nat) (l : List Fl) (w : World) (h : AirM base p w A n c l) (h4 : n ≤ 400) (hm : ∀ x, x ∈ l → x.n ≤ 1000000) : Calls Try.prog 20 #[.pointer (some ⟨p, 0, none⟩)] w (ParP l w) := by
  have hmk : ∀ W : World, (Instr.makeSlice 53 (.int .i64 (n : Int)) (.int .i64 (n : Int))).run Try.prog W = .ok (.slice (some ⟨W.heap.size, 0, none⟩) n n) (W.alloc (.cells (madeCells #[.int .i64 0, .int .i64 0, .slice none 0 0] (n * 3)) 29)) := fun W => mkPc W n (by omega)
  have hK0 := blk_new w (madeCells #[.int .i64 0, .int .i64 0, .slice none 0 0] (n * 3)) 29
  have hba := b0 w (.cells (madeCells #[.int .i64 0, .int .i64 0, .slice none 0 0] (n * 3)) 29)
  have hcs : (madeCells #[.int .i64 0, .int .i64 0, .slice none 0 0] (n * 3)).size = n * 3 := by simp [madeCells]
  have hln : l.length = n := by
    have := h.row.len
    simpa using this
  have c0 := h.blk.cell 0
  have HL := Lib.hid hln
  have HM := Lib.hid hm
  go_enter Try.func20, Try.ntmps20
  go_upto_region 2 with fail
  have hM0 := h.keep hba
  generalize w.alloc (.cells (madeCells #[.int .i64 0, .int .i64 0, .slice none 0 0] (n * 3)) 29) = w1 at hK0 hba hM0 ⊢
  generalize (madeCells #[.int .i64 0, .int .i64 0, .slice none 0 0] (n * 3)) = cs0 at hK0 hcs
  obtain ⟨g, hg⟩ : ∃ g, g = w.heap.size := ⟨_, rfl⟩
  rw [← hg] at hK0 ⊢
  have hI0 : ParI base p g n w w1 A c l [] 0 cs0 := ⟨hM0, hK0, hcs, rfl, fun i d hd => by simp at hd, fun z hz => (nomatch hz), List.Pairwise.nil, rfl, hba⟩
  have hgw : w.heap.size ≤ g := by omega
  clear hmk hcs hln hm h c0 hK0 hba hg
  have c0 := hM0.blk.cell 0
  clear hM0
  go_wp2_with fail
  go_loopw [4, 5, 17] (fun _ _ i wr => ∃ (k : Nat) (cs : Array Value) (zs : List Fl), k ≤ n ∧ i = .int .i64 k ∧ ParI base p g n w wr A c l zs k cs) (fun _ _ i _ => n - (intOf i).toNat)
  case atStart => exact ⟨0, cs0, [], Nat.zero_le _, rfl, hI0⟩
  case round =>
    clear hI0 c0
    obtain ⟨k, cs, zs, hk, rfl, hI⟩ := hrel
    by_cases hlt : k < n
    · have i2 : (k : Int) < (n : Int) := by omega
      obtain ⟨ad, x, rfl, hx, hc⟩ := hI.m.at hlt
      have hxm := List.mem_of_getElem? hx
      have ix := fix wr ad n c k hlt
      have ld := fld hc
      clear hc
      go_upto_region 4 with fail
      refine wp_region_lit ?_
      refine fl_start ?_
      generalize ha : Act.mk _ _ = a0
      have hn : a0.tmps.size = 30 := by rw [← ha]; kernel_rfl
      have h15 : (fr a0 []).eval (.tmp 15) = .slice (some ad) n c := by rw [← ha]; kernel_rfl
      refine fl_know hn rfl h15 ?_
      clear h15
      have h17 : (fr a0 [(15, true, .slice (some ad) n c)]).eval (.tmp 17) = .int .i64 (k : Nat) := by rw [← ha]; kernel_rfl
      refine fl_know hn rfl h17 ?_
      clear h17
      refine g_mv hn ?_
      refine g_ix hn ?_
      refine g_ld hn ?_
      refine g_w (v := .pointer (some ⟨wr.heap.size, 0, none⟩)) (w2 := wr.alloc (.cells zFl 62)) hn (fun _ => x_alFl) ?_
      have hX2 := blk_new wr zFl 62
      have hb2 := b0 wr (.cells zFl 62)
      generalize wr.alloc (.cells zFl 62) = w2 at hX2 hb2 ⊢
      obtain ⟨q, hq⟩ : ∃ q, q = wr.heap.size := ⟨_, rfl⟩
      rw [← hq] at hX2 ⊢
      refine g_as hn ?_
      refine g_str hX2 ?_ (h1 := by have := fl_oneC x; simpa using this)
      intro w3 ho3 hX3
      refine fl_end ?_
      clear hn ix ld
      subst ha
      dsimp only [fr, cnd, Act.put, cond_true]
      simp only [List.setIfInBounds_toArray, List.set_cons_zero, List.set_cons_succ]
      have hI3 := hI.keep (hb2.trans (ho3.below (by omega)))
      clear hX2 hb2 ho3 hq hI
      have hF := hI3.m.flIn hxm (HM.out x hxm)
      have cC := copied_any x w3 hF
      have lq := ld_fl hX3
      go_upto_region 5 with fail
      refine wp_region_lit ?_
      refine fl_start ?_
      generalize ha : Act.mk _ _ = a0
      have hn : a0.tmps.size = 30 := by rw [← ha]; kernel_rfl
      have h3 : (fr a0 []).eval (.tmp 3) = .slice (some ⟨g, 0, none⟩) n n := by rw [← ha]; kernel_rfl
      refine fl_know hn rfl h3 ?_
      clear h3
      have h4 : (fr a0 [(3, true, .slice (some ⟨g, 0, none⟩) n n)]).eval (.tmp 4) = .int .i64 (k : Nat) := by rw [← ha]; kernel_rfl
      refine fl_know hn rfl h4 ?_
      clear h4
      have h5 : (fr a0 [(4, true, .int .i64 (k : Nat)), (3, true, .slice (some ⟨g, 0, none⟩) n n)]).eval (.tmp 5) = .pointer (some ⟨q, 0, none⟩) := by rw [← ha]; kernel_rfl
      refine fl_know hn rfl h5 ?_
      clear h5
      refine g_mv hn ?_
      refine g_mv hn ?_
      refine g_ld hn ?_
      refine g_c1x en_spinney_air_flight_copied hn (R := fun v w4 => ∃ A2 c2, v = .agg ((⟨x.f, x.t, A2, x.n, c2, x.u, x.b⟩ : Fl)).cells ∧ OwnB w3.heap.size w4 A2 x.n c2 x.b ∧ Below w3.heap.size w3 w4) (cC.mono fun _ _ ⟨⟨A2, c2, he, hO⟩, hb⟩ => ⟨_, he, A2, c2, rfl, hO, hb⟩) ?_
      rintro v w4 ⟨A2, c2, rfl, hO4, hb4⟩
      refine g_w (v := .agg ((⟨x.f, x.t, A2, x.n, c2, x.u, x.b⟩ : Fl)).parcel) (w2 := w4) hn (fun hk => x_fiFl (lk_at hk (i := 25) rfl (fun _ => rfl) rfl)) ?_
      have hK4 := (hI3.keep hb4).blk
      have ix := pcix w4 ⟨g, 0, none⟩ n n k hlt
      rw [zeroX_at] at ix
      refine g_ix hn ?_
      refine g_stm hK4 ?_ (h1 := pc_oneC (⟨x.f, x.t, A2, x.n, c2, x.u, x.b⟩ : Fl)) (hs := by rw [hI3.sz]; show k * 3 + 3 ≤ n * 3; omega)
      intro w5 ho5 hK5
      refine fl_end ?_
      clear hn ix lq cC
      subst ha
      dsimp only [fr, cnd, Act.put, cond_true]
      simp only [List.setIfInBounds_toArray, List.set_cons_zero, List.set_cons_succ]
      have hI5 := hI3.next hgw hlt hx hb4 hO4 ho5 hK5
      clear hI3 hF hX3 hO4 hb4 hK4 ho5 hK5 hx hxm
      generalize setL cs (k * 3) ((⟨x.f, x.t, A2, x.n, c2, x.u, x.b⟩ : Fl)).parcel.toList = cs5 at hI5
      go_wp2_with fail
      refine ⟨?_, ?_⟩
      · first
        | exact ⟨k + 1, cs5, _, by omega, by go_num, hI5⟩
        | repeat apply Exists.intro
          refine ⟨?_, rfl⟩
          exact ⟨k + 1, cs5, _, by omega, by go_num, hI5⟩
      · simp [intOf]; omega
    · have e : k = n := by omega
      subst e
      have i2 : ¬ (k : Int) < (k : Int) := by omega
      go_wp2_with fail
      go_ret
      refine ⟨g, k, zs, rfl, own_of (by decide) hI.blk hgw (by unfold maxLen; omega) (pc_szd zs) (by rw [List.length_map]; exact hI.len) hI.sz hI.at_, hI.byt, hI.dis, ?_, hI.bel⟩
      rw [hI.pc, List.take_of_length_le (by have := HL.out; omega)]
end Go.Proofs.Ytdfifcgpjeojlaa
