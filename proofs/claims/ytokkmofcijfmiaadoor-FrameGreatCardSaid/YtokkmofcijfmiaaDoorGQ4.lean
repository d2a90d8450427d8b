/-
  WHAT IS PROVED: words for bytes that are put behind others (own work): a slice with no spare room, or a row that the call owns; append of bytes onto such. Over any program that bears the types named. · plain facts on numbers, ints, texts as bytes, put and taken. No program. No condition. · plain facts on a number's bytes: how many they are, out of its bits; each of them, out of a shift. No program is spoken of. · a row of one byte; a byte of a number, out of a shift. Over any program that bears the types named. · package wide's Put: behind bytes a number's lowest bytes, the highest first. Conditions: those typed in each theorem.
-/
import Derived.Test.YtokkmofcijfmiaaDoorGQ0
import Derived.Lib.Hide
import Derived.Lib.BitFns
namespace Go.Proofs.YtokkmofcijfmiaaDoor
open Go.RowKit

/-- Bytes onto which more may be put: a row of the call's own, or a slice with no spare room. -/
def PreB (base : Nat) (W : World) (A : Option Addr) (n c : Nat) (l : List UInt8) : Prop := OwnB base W A n c l ∨ (RdB W.heap.size W A l ∧ l.length = n ∧ c = n ∧ n ≤ 1000000)
theorem PreB.len {base : Nat} {W : World} {A : Option Addr} {n c : Nat} {l : List UInt8} (h : PreB base W A n c l) : l.length = n := by
  rcases h with h | h
  · exact h.len
  · exact h.2.1
theorem PreB.keep {base : Nat} {W W' : World} {A : Option Addr} {n c : Nat} {l : List UInt8} (h : PreB base W A n c l) (hb : Below W.heap.size W W') : PreB base W' A n c l := by
  rcases h with h | h
  · exact .inl (h.keep hb)
  · exact .inr ⟨(h.1.keep hb (Nat.le_refl _)).more hb.size, h.2⟩
/-- All blocks that aren't bytes stay. -/
def Oth (w w' : World) : Prop := ∀ (g : Nat) (cs : Array Value) (t : TypeId), t ≠ 5 → w.heap[g]? = some (.cells cs t) → w'.heap[g]? = some (.cells cs t)
theorem Oth.refl (w : World) : Oth w w := fun _ _ _ _ h => h
theorem Oth.trans {w w1 w2 : World} (h : Oth w w1) (k : Oth w1 w2) : Oth w w2 := fun g cs t ht hg => k g cs t ht (h g cs t ht hg)
theorem Oth.below {w w' : World} (h : Below w.heap.size w w') : Oth w w' := fun g _ _ _ hg => (h.block g (Array.getElem?_eq_some_iff.1 hg).1).trans hg
theorem Oth.own {base : Nat} {w w' : World} {A : Option Addr} {n c : Nat} {l : List UInt8} (h : OwnB base w A n c l) (hg : w.grownBy w' (A.map (·.block))) : Oth w w' := by
  intro g cs t ht hcs
  have hlt := (Array.getElem?_eq_some_iff.1 hcs).1
  refine (hg.block g hlt ?_).trans hcs
  intro hrow
  rcases h.2 with ⟨hv, _⟩ | ⟨b, cap, cur, hv, _, hb, _⟩
  · injection hv with hv
    subst hv
    cases hrow
  · injection hv with hv
    subst hv
    injection hrow with hrow
    have e : g = b := hrow
    subst e
    rw [hb] at hcs
    injection hcs with hcs
    injection hcs with _ hcs _
    exact ht hcs.symm
/-- What such a call answers. -/
def PutO (base : Nat) (w : World) (L : List UInt8) (e : Ending) (w' : World) : Prop :=
  (∃ (A : Option Addr) (n c : Nat), e = .returned (.slice A n c) ∧ OwnB base w' A n c L) ∧ Below base w w' ∧ Oth w w'

theorem rd_cells {B : Nat} {w : World} {ad : Addr} {l : List UInt8} (hr : RdB B w (some ad) l) : ∀ j u, (bytV l)[j]? = some u → w.cell? (ad.add j) = some u := by
  intro j u hu
  rw [List.getElem?_map] at hu
  cases hx : l[j]? with
  | none => rw [hx] at hu; cases hu
  | some x =>
    rw [hx] at hu
    injection hu with hu
    subst hu
    obtain ⟨a2, he, _, hcell⟩ := hr j x hx
    injection he with he
    subst he
    exact hcell
/-- Append of what reads as bytes, some at least, onto such. -/
theorem run_apP {P : Program} (w : World) {t t' e' ty : TypeId} {i : TypeInfo} (ht : P.underlying t = some (.slice 5)) (ht' : P.underlying t' = some (.slice e')) (hi : P.info? 5 = some i) (hz : i.zero = some (.int .u8 0)) (hs : i.size = 1) (hy : i.bytes = 1)
    {base B : Nat} {A A2 : Option Addr} {n c m d : Nat} {l l2 : List UInt8} (hown : PreB base w A n c l) (hr : RdB B w A2 l2) (hm : l2.length = m) (hm0 : 0 < m) (hsz : n + m ≤ 1099511627776) (hbase : base ≤ w.heap.size) :
    ∃ A' c' w', (Builtin.append_ #[t, t'] ty #[.slice A n c, .slice A2 m d]).run P w = .ok (.slice A' (n + m) c') w' ∧ OwnB base w' A' (n + m) c' (l ++ l2) ∧ Below base w w' ∧ Oth w w' := by
  rcases hown with hown | ⟨hrd, hl, hc, hn⟩
  · obtain ⟨A', c', w', h1, h2, h3, h4⟩ := run_apB (P := P) (ty := ty) (d := d) w ht ht' hi hz hs hy hown hr hm hsz hbase
    exact ⟨A', c', w', h1, h2, h3, Oth.own hown h4⟩
  · subst hm
    subst hc
    subst hl
    cases A2 with
    | none =>
      cases l2 with
      | nil => exact absurd hm0 (by simp)
      | cons x r =>
        obtain ⟨ad, he, _⟩ := hr 0 x rfl
        cases he
    | some a2 =>
      cases A with
      | none =>
        have h0 : l = [] := by
          cases l with
          | nil => rfl
          | cons x r =>
            obtain ⟨ad, he, _⟩ := hrd 0 x rfl
            cases he
        subst h0
        obtain ⟨A', c', w', h1, h2, h3, h4⟩ := run_apB (P := P) (ty := ty) (d := d) w ht ht' hi hz hs hy (OwnB.nil base w) hr rfl hsz hbase
        exact ⟨A', c', w', h1, h2, h3, Oth.own (OwnB.nil base w) h4⟩
      | some ad =>
        have hrun := run_append_grow (P := P) w t ty 5 i (.int .u8 0) ht hi hz ad l.length l.length (bytV l) (by rw [hs]; simp) (rd_cells hrd) a2 l2.length d (bytV l2) (by rw [hs]; simp) (rd_cells hr) (by omega) (by omega) (growslice_fits (by omega) (by rw [hy]; omega))
        refine ⟨_, _, _, by rw [run_append_tt w ht ht']; exact hrun, ?_, ?_, Oth.below ((Below.refl _ w).drew.alloc (Nat.le_refl _) _)⟩
        · have hge := grownCap_ge w (l.length + l2.length) l.length 5
          have hcm : grownCap w (l.length + l2.length) l.length 5 ≤ maxLen := grownCap_le_maxLen w (l.length + l2.length) l.length 5 (by unfold maxLen; omega)
          have hzs : (Value.int IntKind.u8 0).cells.size = 1 := rfl
          unfold OwnB
          rw [show bytV (l ++ l2) = bytV l ++ bytV l2 from List.map_append]
          refine ⟨by simp, .inr ⟨w.heap.size, _, _, rfl, hbase, heap_alloc_new w.drew _, hge, hcm, ?_, ?_⟩⟩
          · simp only [Array.size_append, List.size_toArray, size_zeroCells, hzs, List.length_map]
            omega
          · simp only [Array.toList_append, List.append_assoc]
            rw [← List.append_assoc, show (l.length + l2.length) * 1 = (bytV l ++ bytV l2).length by simp]
            exact List.take_left
        · exact ((Below.refl base w).drew).alloc hbase _
section
variable {P : Program} {w : World} {t t' e' : TypeId} {i : TypeInfo} {base B : Nat} {A A2 : Option Addr} {n c m d : Nat} {l l2 : List UInt8} {o : Oper} {a : Act} {Q : Exit → Act → World → Prop} {ops : Array Oper}
theorem wp_apP {K : Act → World → Prop} (s x : Operand) (ho : o.op = .call { callee := .builtin .append, args := #[s, x], argTypes := #[t, t'] })
    (ht : P.underlying t = some (.slice 5)) (ht' : P.underlying t' = some (.slice e')) (hi : P.info? 5 = some i) (hz : i.zero = some (.int .u8 0)) (hs : i.size = 1) (hy : i.bytes = 1)
    (h1 : a.eval s = .slice A n c) (h2 : a.eval x = .slice A2 m d) (hown : PreB base w A n c l) (hr : RdB B w A2 l2) (hm : l2.length = m) (hm0 : 0 < m) (N : Nat) (hN : n + m = N) (hsz : n + m ≤ 1099511627776) (hbase : base ≤ w.heap.size)
    (h : ∀ A' c' w', OwnB base w' A' N c' (l ++ l2) → Below base w w' → Oth w w' → K (a.put o.dst (.slice A' N c')) w') : o.wp P a w K Q := by
  subst hN
  obtain ⟨A', c', w', hrun, k1, k2, k3⟩ := run_apP (P := P) (ty := o.type) (d := d) w ht ht' hi hz hs hy hown hr hm hm0 hsz hbase
  unfold Oper.wp execOp
  simp only [ho, resolve, invoke, builtin, Sem.run_bind, Sem.run_pure, Result.andThen_ok, List.map_toArray, List.map_cons, List.map_nil, h1, h2, hrun]
  exact h A' c' w' k1 k2 k3
/-- .. in a plain region. -/
theorem wpList_apP {rest : List Oper} (hgd : o.guard = none) (s x : Operand) (ho : o.op = .call { callee := .builtin .append, args := #[s, x], argTypes := #[t, t'] })
    (ht : P.underlying t = some (.slice 5)) (ht' : P.underlying t' = some (.slice e')) (hi : P.info? 5 = some i) (hz : i.zero = some (.int .u8 0)) (hs : i.size = 1) (hy : i.bytes = 1)
    (h1 : a.eval s = .slice A n c) (h2 : a.eval x = .slice A2 m d) (hown : PreB base w A n c l) (hr : RdB B w A2 l2) (hm : l2.length = m) (hm0 : 0 < m) (N : Nat) (hN : n + m = N) (hsz : n + m ≤ 1099511627776) (hbase : base ≤ w.heap.size)
    (h : ∀ A' c' w', OwnB base w' A' N c' (l ++ l2) → Below base w w' → Oth w w' → wpList P ops Q rest (a.put o.dst (.slice A' N c')) w') : wpList P ops Q (o :: rest) a w :=
  wpList_plain hgd fun _ hK => wp_apP s x ho ht ht' hi hz hs hy h1 h2 hown hr hm hm0 N hN hsz hbase fun A' c' w' k1 k2 k3 => hK _ _ (h A' c' w' k1 k2 k3)
end
/-- A slice without its spare room. -/
theorem run_cap (W : World) (A : Option Addr) (n c : Nat) (y z : Int) (hy : y = (n : Int)) (hz : z = (n : Int)) (hc : n ≤ c) :
    (Instr.sliceAt 34 (.slice A n c) none (some (.int .i64 y)) (some (.int .i64 z))).run Tryd.prog W = .ok (.slice A n n) W := by
  have h2 : (n : Int) ≤ (c : Int) := by omega
  rw [hy, hz]
  go_simp
end Go.Proofs.YtokkmofcijfmiaaDoor

namespace Go.Proofs.YtokkmofcijfmiaaDoor
open Go

/-- A number's bytes, the highest first, none of them ahead 0. -/
def beB (n : Nat) : List UInt8 := if _h : n = 0 then [] else beB (n / 256) ++ [UInt8.ofNat (n % 256)]
termination_by n
decreasing_by omega
theorem beB_zero : beB 0 = [] := by rw [beB]; simp
theorem beB_pos {n : Nat} (h : n ≠ 0) : beB n = beB (n / 256) ++ [UInt8.ofNat (n % 256)] := by rw [beB]; simp [h]
/-- .. and back. -/
def beV (l : List UInt8) : Nat := l.foldl (fun a c => a * 256 + c.toNat) 0
theorem beV_snoc (l : List UInt8) (c : UInt8) : beV (l ++ [c]) = beV l * 256 + c.toNat := by simp [beV]
theorem beV_nil : beV [] = 0 := rfl
theorem toNat_mod (n : Nat) : (UInt8.ofNat (n % 256)).toNat = n % 256 := by
  rw [UInt8.toNat_ofNat']
  omega
theorem beV_beB (n : Nat) : beV (beB n) = n := by
  induction n using Nat.strongRecOn with
  | _ n ih =>
    by_cases h : n = 0
    · subst h; rw [beB_zero]; rfl
    · rw [beB_pos h, beV_snoc, ih (n / 256) (by omega), toNat_mod]
      omega
theorem beB_ne {n : Nat} (h : n ≠ 0) : beB n ≠ [] := by rw [beB_pos h]; simp
theorem beB_head (n : Nat) : ∀ c t, beB n = c :: t → c ≠ 0 := by
  induction n using Nat.strongRecOn with
  | _ n ih =>
    intro c t e
    by_cases h : n = 0
    · rw [h, beB_zero] at e; cases e
    · rw [beB_pos h] at e
      by_cases h2 : n / 256 = 0
      · rw [h2, beB_zero] at e
        injection e with e _
        intro hc
        have h3 := congrArg UInt8.toNat e
        rw [toNat_mod, hc] at h3
        have : (0 : UInt8).toNat = 0 := rfl
        omega
      · cases hb : beB (n / 256) with
        | nil => exact absurd hb (beB_ne h2)
        | cons d u =>
          rw [hb] at e
          injection e with e _
          rw [← e]
          exact ih (n / 256) (by omega) d u hb
theorem snoc_ind {α : Type} {P : List α → Prop} (h0 : P []) (h1 : ∀ l c, P l → P (l ++ [c])) : ∀ l, P l := by
  have key : ∀ n, ∀ l : List α, l.length = n → P l := by
    intro n
    induction n with
    | zero => intro l hl; rw [List.length_eq_zero_iff.1 hl]; exact h0
    | succ n ih =>
      intro l hl
      have hne : l ≠ [] := by rintro rfl; cases hl
      have e := List.dropLast_concat_getLast hne
      rw [← e]
      exact h1 _ _ (ih _ (by rw [List.length_dropLast]; omega))
  exact fun l => key l.length l rfl
theorem beV_lt : ∀ l : List UInt8, beV l < 256 ^ l.length := by
  refine snoc_ind (by simp [beV]) fun l c ih => ?_
  rw [beV_snoc, List.length_append, List.length_singleton, Nat.pow_succ]
  have := c.toNat_lt
  omega
theorem beV_cons_pos : ∀ (t : List UInt8) (c : UInt8), c ≠ 0 → 1 ≤ beV (c :: t) := by
  refine snoc_ind (fun c hc => ?_) fun l d ih c hc => ?_
  · have : c.toNat ≠ 0 := fun e => hc (UInt8.toNat_inj.1 e)
    simp only [beV, List.foldl_cons, List.foldl_nil]
    omega
  · have := ih c hc
    rw [← List.cons_append, beV_snoc]
    omega
theorem ofNat_mod (c : UInt8) (n : Nat) : UInt8.ofNat ((n * 256 + c.toNat) % 256) = c := by
  apply UInt8.toNat_inj.1
  rw [toNat_mod]
  have := c.toNat_lt
  omega
theorem beB_beV : ∀ l : List UInt8, (∀ c t, l = c :: t → c ≠ 0) → beB (beV l) = l := by
  refine snoc_ind (fun _ => by rw [beV_nil, beB_zero]) fun l c ih hl => ?_
  have hc := c.toNat_lt
  rw [beV_snoc]
  cases l with
  | nil =>
    have h0 : c ≠ 0 := hl c [] rfl
    have : c.toNat ≠ 0 := fun e => h0 (UInt8.toNat_inj.1 e)
    rw [beV_nil, beB_pos (by omega), ofNat_mod, show (0 * 256 + c.toNat) / 256 = 0 by omega, beB_zero]
  | cons d t =>
    have h1 := beV_cons_pos t d (hl d (t ++ [c]) rfl)
    rw [beB_pos (by omega), ofNat_mod, show (beV (d :: t) * 256 + c.toNat) / 256 = beV (d :: t) by omega, ih fun c' t' e => by
      injection e with e1 e2
      rw [← e1]
      exact hl d (t ++ [c]) rfl]
theorem beB_len : ∀ (k n : Nat), n < 256 ^ k → (beB n).length ≤ k
  | 0, n, h => by
    have : n = 0 := by simpa using h
    rw [this, beB_zero]
    simp
  | k + 1, n, h => by
    by_cases h0 : n = 0
    · rw [h0, beB_zero]; simp
    · rw [beB_pos h0, List.length_append, List.length_singleton]
      have := beB_len k (n / 256) (by rw [Nat.pow_succ] at h; omega)
      omega
theorem pow_eight : 256 ^ 8 = 18446744073709551616 := by decide
theorem beB_eight {n : Nat} (h : n < 18446744073709551616) : (beB n).length ≤ 8 := beB_len 8 n (by rw [pow_eight]; exact h)

/-- A number, put. -/
def numB (n : Nat) : List UInt8 := UInt8.ofNat (beB n).length :: beB n
/-- The number at the front, how many bytes; 0: none of at most so much stands there. -/
def takeNum : List UInt8 → Nat → Nat × Nat
  | [], _ => (0, 0)
  | c :: t, most => if 8 < c.toNat ∨ t.length < c.toNat ∨ (0 < c.toNat ∧ t.head? = some 0) then (0, 0) else if most < beV (t.take c.toNat) then (0, 0) else (beV (t.take c.toNat), 1 + c.toNat)
theorem takeNum_cons (c : UInt8) (t : List UInt8) (most : Nat) : takeNum (c :: t) most = if 8 < c.toNat ∨ t.length < c.toNat ∨ (0 < c.toNat ∧ t.head? = some 0) then (0, 0) else if most < beV (t.take c.toNat) then (0, 0) else (beV (t.take c.toNat), 1 + c.toNat) := rfl
theorem numB_len (n : Nat) : (numB n).length = 1 + (beB n).length := by simp [numB, Nat.add_comm]
theorem ofNat_len {n : Nat} (h : n < 18446744073709551616) : (UInt8.ofNat (beB n).length).toNat = (beB n).length := by
  have := beB_eight h
  rw [UInt8.toNat_ofNat']
  omega
/-- What is put is taken. -/
theorem take_num {n most : Nat} (r : List UInt8) (h : n < 18446744073709551616) (hm : n ≤ most) : takeNum (numB n ++ r) most = (n, (numB n).length) := by
  have h8 := beB_eight h
  have hl := ofNat_len h
  show takeNum (UInt8.ofNat (beB n).length :: (beB n ++ r)) most = _
  rw [takeNum_cons, hl, List.take_left, beV_beB]
  rw [if_neg, if_neg (by omega), numB_len]
  rintro (h1 | h1 | ⟨h1, h2⟩)
  · omega
  · rw [List.length_append] at h1; omega
  · cases hb : beB n with
    | nil => rw [hb] at h1; simp at h1
    | cons d u =>
      rw [hb] at h2
      exact beB_head n d u hb (by simpa using h2)
/-- What is taken was put. -/
theorem num_take {b : List UInt8} {most n k : Nat} (h : takeNum b most = (n, k)) (hk : k ≠ 0) : n ≤ most ∧ n < 18446744073709551616 ∧ k = (numB n).length ∧ b = numB n ++ b.drop k ∧ 1 ≤ k ∧ k ≤ 9 := by
  cases b with
  | nil => unfold takeNum at h; injection h with _ h; omega
  | cons c t =>
    rw [takeNum_cons] at h
    by_cases h1 : 8 < c.toNat ∨ t.length < c.toNat ∨ (0 < c.toNat ∧ t.head? = some 0)
    · rw [if_pos h1] at h; injection h with _ h; omega
    · rw [if_neg h1] at h
      by_cases h2 : most < beV (t.take c.toNat)
      · rw [if_pos h2] at h; injection h with _ h; omega
      · rw [if_neg h2] at h
        injection h with e1 e2
        have c8 : ¬ 8 < c.toNat := fun h => h1 (Or.inl h)
        have cl : ¬ t.length < c.toNat := fun h => h1 (Or.inr (Or.inl h))
        have c0 : ¬ (0 < c.toNat ∧ t.head? = some 0) := fun h => h1 (Or.inr (Or.inr h))
        have hlen : (t.take c.toNat).length = c.toNat := by rw [List.length_take]; omega
        have hb : beB n = t.take c.toNat := by
          rw [← e1]
          refine beB_beV _ fun d u e hd => ?_
          cases t with
          | nil => simp at e
          | cons x y =>
            have hx : x = d := by
              cases hcc : c.toNat with
              | zero => rw [hcc] at e; simp at e
              | succ m =>
                rw [hcc, List.take_succ_cons] at e
                injection e
            refine c0 ⟨?_, by rw [hx, hd]; rfl⟩
            cases hcc : c.toNat with
            | zero => rw [hcc] at e; simp at e
            | succ m => omega
        have hlt := beV_lt (t.take c.toNat)
        rw [hlen, e1] at hlt
        have hp : 256 ^ c.toNat ≤ 256 ^ 8 := Nat.pow_le_pow_right (by omega) (by omega)
        rw [pow_eight] at hp
        have hnum : numB n = c :: t.take c.toNat := by
          unfold numB
          rw [hb, hlen]
          congr 1
          apply UInt8.toNat_inj.1
          rw [UInt8.toNat_ofNat']
          have := c.toNat_lt
          omega
        refine ⟨by omega, by omega, ?_, ?_, by omega, by omega⟩
        · rw [hnum, List.length_cons, hlen]; omega
        · rw [hnum, ← e2, show 1 + c.toNat = c.toNat + 1 by omega, List.drop_succ_cons, List.cons_append, List.take_append_drop]
/-- No number's bytes begin another one's. -/
theorem num_apart {a b : Nat} (ha : a < 18446744073709551616) (hb : b < 18446744073709551616) {r s : List UInt8} (h : numB a ++ r = numB b ++ s) : a = b := by
  have h1 := take_num (most := a + b) r ha (by omega)
  have h2 := take_num (most := a + b) s hb (by omega)
  rw [h, h2] at h1
  injection h1 with h1 _
  exact h1.symm

/-- An int as a number. -/
def zig (n : Int) : Nat := if n < 0 then (2 * (-n) - 1).toNat else (2 * n).toNat
def unzig (n : Nat) : Int := if n % 2 = 1 then -1 - ((n / 2 : Nat) : Int) else ((n / 2 : Nat) : Int)
theorem unzig_zig (n : Int) : unzig (zig n) = n := by
  unfold unzig zig
  by_cases h : n < 0
  · rw [if_pos h]
    have e : (2 * (-n) - 1).toNat % 2 = 1 := by omega
    rw [if_pos e]
    omega
  · rw [if_neg h]
    have e : ¬ (2 * n).toNat % 2 = 1 := by omega
    rw [if_neg e]
    omega
theorem zig_unzig (n : Nat) : zig (unzig n) = n := by
  unfold unzig zig
  by_cases h : n % 2 = 1
  · rw [if_pos h, if_pos (by omega)]
    omega
  · rw [if_neg h, if_neg (by omega)]
    omega
theorem zig_lt {n : Int} (h0 : -9223372036854775808 ≤ n) (h1 : n ≤ 9223372036854775807) : zig n < 18446744073709551616 := by
  unfold zig
  split <;> omega
theorem unzig_in {n : Nat} (h : n < 18446744073709551616) : -9223372036854775808 ≤ unzig n ∧ unzig n ≤ 9223372036854775807 := by
  unfold unzig
  split <;> omega
theorem zig_inj {a b : Int} (h : zig a = zig b) : a = b := by rw [← unzig_zig a, h, unzig_zig]
/-- An int, taken. -/
def takeIntB (b : List UInt8) : Int × Nat := (unzig (takeNum b 18446744073709551615).1, (takeNum b 18446744073709551615).2)
theorem take_int {n : Int} (r : List UInt8) (h0 : -9223372036854775808 ≤ n) (h1 : n ≤ 9223372036854775807) : takeIntB (numB (zig n) ++ r) = (n, (numB (zig n)).length) := by
  unfold takeIntB
  have hz := zig_lt h0 h1
  rw [take_num r hz (by omega)]
  show (unzig (zig n), _) = _
  rw [unzig_zig]
/-- A text, put; taken. -/
def textB (s : List UInt8) : List UInt8 := numB s.length ++ s
def takeTextB (b : List UInt8) (most : Nat) : List UInt8 × Nat :=
  if (takeNum b most).2 = 0 ∨ b.length - (takeNum b most).2 < (takeNum b most).1 then ([], 0) else ((b.drop (takeNum b most).2).take (takeNum b most).1, (takeNum b most).2 + (takeNum b most).1)
theorem take_text {s : List UInt8} {most : Nat} (r : List UInt8) (h : s.length < 18446744073709551616) (hm : s.length ≤ most) : takeTextB (textB s ++ r) most = (s, (textB s).length) := by
  unfold takeTextB textB
  rw [List.append_assoc, take_num _ h hm]
  have hl := numB_len s.length
  rw [if_neg]
  · simp
  · rintro (e | e)
    · omega
    · simp at e
      omega
theorem text_take {b : List UInt8} {most k : Nat} {s : List UInt8} (h : takeTextB b most = (s, k)) (hk : k ≠ 0) : s.length ≤ most ∧ s.length < 18446744073709551616 ∧ k = (textB s).length ∧ b = textB s ++ b.drop k := by
  unfold takeTextB at h
  generalize hn : takeNum b most = p at h
  obtain ⟨n, j⟩ := p
  simp only at h
  by_cases h1 : j = 0 ∨ b.length - j < n
  · rw [if_pos h1] at h; injection h with _ h; omega
  · rw [if_neg h1] at h
    injection h with e1 e2
    obtain ⟨a1, a2, a3, a4, _, _⟩ := num_take hn (fun e => h1 (Or.inl e))
    have hl : s.length = n := by
      rw [← e1, List.length_take, List.length_drop]
      have : ¬ b.length - j < n := fun e => h1 (Or.inr e)
      omega
    refine ⟨by omega, by omega, ?_, ?_⟩
    · unfold textB
      rw [List.length_append, hl]
      omega
    · unfold textB
      rw [hl, List.append_assoc]
      conv => lhs; rw [a4]
      congr 1
      rw [← e2, ← e1, ← List.drop_drop, List.take_append_drop]
theorem text_apart {a b : List UInt8} (ha : a.length < 18446744073709551616) (hb : b.length < 18446744073709551616) {r s : List UInt8} (h : textB a ++ r = textB b ++ s) : a = b := by
  have h1 := take_text (most := a.length + b.length) r ha (by omega)
  have h2 := take_text (most := a.length + b.length) s hb (by omega)
  rw [h, h2] at h1
  injection h1 with h1 _
  exact h1.symm
/-- A flag, put; taken. -/
def flagB (f : Bool) : List UInt8 := if f then [1] else [0]
def takeFlagB : List UInt8 → Bool × Nat
  | [] => (false, 0)
  | c :: _ => if 1 < c.toNat then (false, 0) else (c == 1, 1)
theorem take_flag (f : Bool) (r : List UInt8) : takeFlagB (flagB f ++ r) = (f, 1) := by cases f <;> rfl
end Go.Proofs.YtokkmofcijfmiaaDoor

namespace Go.Proofs.YtokkmofcijfmiaaDoor

theorem beB_byte {n : Nat} (h0 : n ≠ 0) (h : n < 256) : beB n = [UInt8.ofNat n] := by
  rw [beB_pos h0, show n / 256 = 0 by omega, beB_zero, Nat.mod_eq_of_lt h]
  rfl
/-- How many bytes a number has, out of how many bits. -/
theorem bits_bytes : ∀ (n : Nat), n < 18446744073709551616 → (Lib.bitLen n + 7) / 8 = (beB n).length := by
  intro n
  induction n using Nat.strongRecOn with
  | _ n ih =>
    intro h
    by_cases h0 : n = 0
    · subst h0
      rw [beB_zero]
      rfl
    · by_cases h1 : n < 256
      · rw [beB_byte h0 h1]
        have h8 : Lib.bitLen n ≤ 8 := Lib.bitLen_le8 ⟨n, h1⟩
        have hp : Lib.bitLen n = 1 + Lib.bitLen (n / 2) := Lib.bitLen_half n h0 h
        show _ = 1
        omega
      · rw [beB_pos h0, List.length_append, ← ih (n / 256) (by omega) (by omega), Lib.bitLen_shift8 n (by omega) h]
        show _ = _ + 1
        omega
/-- Each byte. -/
theorem beB_get : ∀ (n j : Nat), j < (beB n).length → (beB n)[j]? = some (UInt8.ofNat (n / 256 ^ ((beB n).length - 1 - j) % 256)) := by
  intro n
  induction n using Nat.strongRecOn with
  | _ n ih =>
    intro j hj
    by_cases h0 : n = 0
    · subst h0
      rw [beB_zero] at hj
      simp at hj
    · have hp := beB_pos h0
      have hl : (beB n).length = (beB (n / 256)).length + 1 := by rw [hp, List.length_append]; rfl
      rw [hl]
      rw [hl] at hj
      rw [hp]
      by_cases h1 : j < (beB (n / 256)).length
      · rw [List.getElem?_append_left h1, ih (n / 256) (by omega) j h1]
        have e : (beB (n / 256)).length + 1 - 1 - j = ((beB (n / 256)).length - 1 - j) + 1 := by omega
        rw [e, Nat.pow_succ, Nat.mul_comm, ← Nat.div_div_eq_div_mul]
      · have e : j = (beB (n / 256)).length := by omega
        subst e
        rw [List.getElem?_append_right (Nat.le_refl _), Nat.sub_self]
        have e2 : (beB (n / 256)).length + 1 - 1 - (beB (n / 256)).length = 0 := by omega
        rw [e2, Nat.pow_zero, Nat.div_one]
        rfl
theorem pow_shift (k : Nat) : 2 ^ (8 * k) = 256 ^ k := by rw [Nat.pow_mul]
end Go.Proofs.YtokkmofcijfmiaaDoor

namespace Go.Proofs.YtokkmofcijfmiaaDoor
open Go.RowKit

/-- One byte in a row of its own. -/
theorem litB (w : World) {base : Nat} (z : Int) (c : UInt8) (h : z = (c.toNat : Int)) (hb : base ≤ w.heap.size) : OwnB base (w.alloc (.cells #[.int .u8 z] 5)) (some ⟨w.heap.size, 0, none⟩) 1 1 [c] := by
  subst h
  exact OwnB.lit w #[.int .u8 (c.toNat : Int)] [c] rfl rfl hb (by unfold maxLen; omega)
theorem shift_byte (x i : Nat) : (x : Int) / 2 ^ (8 * i) % 256 = ((UInt8.ofNat (x / 256 ^ i % 256)).toNat : Int) := by
  rw [toNat_mod, ← pow_shift, Int.natCast_emod, Int.natCast_ediv, Int.natCast_pow]
  rfl

end Go.Proofs.YtokkmofcijfmiaaDoor

namespace Go.Proofs.YtokkmofcijfmiaaDoor
open Go.RowKit

/-- A number's lowest bytes, so many, the highest first. -/
def wdB (k x : Nat) : List UInt8 := (List.range k).map fun i => UInt8.ofNat (x / 256 ^ (k - 1 - i) % 256)
theorem wdB_len (k x : Nat) : (wdB k x).length = k := by simp [wdB]
theorem wdB_get (k x j : Nat) (h : j < k) : (wdB k x)[j]? = some (UInt8.ofNat (x / 256 ^ (k - 1 - j) % 256)) := by simp [wdB, h]
theorem wdB_next (k x j : Nat) (h : j < k) : (wdB k x).take (j + 1) = (wdB k x).take j ++ [UInt8.ofNat (x / 256 ^ (k - 1 - j) % 256)] := by rw [List.take_add_one, wdB_get k x j h]; rfl
set_option maxRecDepth 100000 in
set_option maxHeartbeats 2000000 in
theorem widePut_any (base : Nat) (A : Option Addr) (n c : Nat) (l : List UInt8) (x k : Nat) (w : World) (hp : PreB base w A n c l) (hb : base ≤ w.heap.size) (hm : n ≤ 100000000000) (hx : x < 18446744073709551616) (h1 : 0 < k) (hk : k ≤ 8) :
    Calls Tryd.prog 37 #[.slice A n c, .int .u64 x, .int .i64 (k : Int)] w fun e w' => PutO base w (l ++ wdB k x) e w' := by
  obtain ⟨i0, hi0, hz0, hz1, hz2⟩ := info_parts byt_info
  have HX := Lib.hid hx
  have hl := hp.len
  clear hx
  go_enter Tryd.func37, Tryd.ntmps37
  go_wp2_with fail
  go_loopw [0, 7] (fun b i wr => ∃ (j : Nat) (A3 : Option Addr) (n3 c3 : Nat), j ≤ k ∧ b = .slice A3 n3 c3 ∧ i = .int .i64 ((k : Int) - 1 - (j : Int)) ∧ n3 = n + j ∧ PreB base wr A3 n3 c3 (l ++ (wdB k x).take j) ∧ (0 < j → OwnB base wr A3 n3 c3 (l ++ (wdB k x).take j)) ∧ Below base w wr ∧ Oth w wr) (fun _ i _ => (intOf i + 1).toNat)
  case atStart => exact ⟨0, A, n, c, Nat.zero_le _, rfl, by go_num, rfl, by simpa using hp, fun h => absurd h (by omega), Below.refl _ _, Oth.refl _⟩
  case round =>
    clear hp hl
    obtain ⟨j, A3, n3, c3, hj, rfl, rfl, hn3, hP, hO, hB, hT⟩ := hrel
    by_cases hlt : j < k
    · clear hO
      have hl2 := hP.len
      have i1 : (0 : Int) ≤ (k : Int) - 1 - (j : Int) := by omega
      have i2 : (k : Int) - 1 - (j : Int) < 8 := by omega
      have i3 : (j : Int) ≤ (k : Int) - 1 := by omega
      have hq := shift_byte x (k - 1 - j)
      have HE := Lib.hid (show l ++ (wdB k x).take j ++ [UInt8.ofNat (x / 256 ^ (k - 1 - j) % 256)] = l ++ (wdB k x).take (j + 1) by rw [wdB_next k x j hlt, List.append_assoc])
      have hown := litB wr (base := base) _ _ hq (Nat.le_trans hb hB.size)
      have hP2 := hP.keep (b0 wr (.cells #[.int .u8 ((x : Int) / 2 ^ (8 * (k - 1 - j)) % 256)] 5))
      have hB2 := hB.alloc (Nat.le_trans hb hB.size) (.cells #[.int .u8 ((x : Int) / 2 ^ (8 * (k - 1 - j)) % 256)] 5)
      have hT2 := hT.trans (Oth.below (b0 wr (.cells #[.int .u8 ((x : Int) / 2 ^ (8 * (k - 1 - j)) % 256)] 5)))
      have hn4 : n3 ≤ 100000000000 + 10 := by omega
      have HQ := Lib.hid hq
      have HN := Lib.hid hn3
      clear hq hP hl2 hn3
      go_wp2_with (at_builtin; refine wpList_apP (base := base) (n := n3) (m := 1) (l := l ++ (wdB k x).take j) (l2 := [UInt8.ofNat (x / 256 ^ (k - 1 - j) % 256)]) (by rfl) _ _ (by rfl) Tryd.underlying34 Tryd.underlying34 hi0 hz0 hz1 hz2 (by rfl) (by rfl) hP2 hown.rd rfl (by omega) (n3 + 1) rfl (by omega) (Nat.le_trans hb hB2.size) ?_; intro A6 c6 w6 hO6 hb6 ho6)
      rw [HE.out] at hO6
      have hT6 := hT2.trans ho6
      have hn7 : n3 + 1 = n + (j + 1) := by have := HN.out; omega
      go_roundw
      case rel => exact ⟨j + 1, A6, n3 + 1, c6, by omega, rfl, by go_num, hn7, .inl hO6, fun _ => hO6, hB2.trans hb6, hT6⟩
      case measure => simp [intOf]; omega
    · have i1 : ¬ (0 : Int) ≤ (k : Int) - 1 - (j : Int) := by omega
      have e : (wdB k x).take j = wdB k x := List.take_of_length_le (by rw [wdB_len]; omega)
      have hO2 := hO (by omega)
      clear hO hP
      rw [e, hn3] at hO2
      go_wp2_with fail
      go_ret
      exact ⟨⟨A3, n + j, c3, rfl, hO2⟩, hB, hT⟩
end Go.Proofs.YtokkmofcijfmiaaDoor
