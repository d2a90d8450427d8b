/-
  WHAT IS PROVED: string(..) of bytes that are read (own work); over any program that bears the types named. · plain facts, and, as definitions, what the walks of layer 5's statements take of package pack's calls (a reader is any predicate of worlds that its calls carry). The definitions are proved elsewhere, of the code itself. The chapter's examples hold, if the calls answer so. · plain facts: the steps by which package pack's reader takes a number, a text, a flag come to what the chapter says is taken. No program is spoken of. · package pack's reader, its own small calls (Open, fail, must, take, next, sound): what they answer and leave of what the reader still has. Conditions: those typed in each theorem. · words for bytes that are put behind others (own work): a slice with no spare room, or a row that the call owns; append of bytes onto such. Over any program that bears the types named.
-/
import Derived.Test.YtokkmofcijfmiabBytes
import Derived.Test.YtokkmofcijfmiabGQ3
import Derived.Test.YtokkmofcijfmiabPackMath
import Derived.Test.YtokkmofcijfmiabGQ1
import Derived.WalkKit
import Derived.LaidEql
namespace Go.Proofs.Ytokkmofcijfmiab
open Go.RowKit

/-- string(..) of bytes that are read. -/
theorem conv_rd {B : Nat} (W : World) (A : Option Addr) (n c : Nat) (l : List UInt8) (hn : l.length = n) (h : RdB B W A l) : (convert 58 9 (.slice A n c)).run Try.prog W = .ok (.string ⟨l.toArray⟩) W := by
  subst hn
  cases l with
  | nil =>
    cases A with
    | none => exact run_convert_bytes_nil W 58 5 Try.underlying58 Try.underlying5 0 c 9 Try.underlying9
    | some ad => exact run_convert_bytes_back W 58 9 5 ad c [] Try.underlying58 Try.underlying5 Try.underlying9 (fun j hj => absurd hj (by simp))
  | cons x t =>
    obtain ⟨ad, rfl, _, _⟩ := h 0 x rfl
    refine run_convert_bytes_back W 58 9 5 ad c (x :: t) Try.underlying58 Try.underlying5 Try.underlying9 ?_
    intro j hj
    obtain ⟨a2, e, _, hc⟩ := h j _ (List.getElem?_eq_getElem hj)
    injection e with e
    subst e
    exact hc
end Go.Proofs.Ytokkmofcijfmiab

namespace Go.Proofs.Ytokkmofcijfmiab
open Go.RowKit

/-- What a reader has left; none: it has an error. -/
abbrev Rest := Option (List UInt8)
def numOf (st : Rest) (most : Nat) : Nat × Rest := match st with
  | none => (0, none)
  | some b => if (takeNum b most).2 = 0 then (0, none) else ((takeNum b most).1, some (b.drop (takeNum b most).2))
def intOfR (st : Rest) : Int × Rest := match st with
  | none => (0, none)
  | some b => if (takeIntB b).2 = 0 then (0, none) else ((takeIntB b).1, some (b.drop (takeIntB b).2))
def textOf (st : Rest) (most : Nat) : List UInt8 × Rest := match st with
  | none => ([], none)
  | some b => if (takeTextB b most).2 = 0 then ([], none) else ((takeTextB b most).1, some (b.drop (takeTextB b most).2))
def flagOf (st : Rest) : Bool × Rest := match st with
  | none => (false, none)
  | some b => if (takeFlagB b).2 = 0 then (false, none) else ((takeFlagB b).1, some (b.drop (takeFlagB b).2))
def endOf (st : Rest) : Int := match st with
  | some [] => 0
  | _ => 2
/-- Bytes that a call answered. -/
def PutR (w : World) (L : List UInt8) (e : Ending) (w' : World) : Prop :=
  (∃ (A : Option Addr) (n c : Nat), e = .returned (.slice A n c) ∧ L.length = n ∧ RdB w'.heap.size w' A L ∧ n ≤ c) ∧ Below w.heap.size w w'
/-- A write that is all nought. -/
abbrev wr0 : Value := .agg #[.int .i64 0, .int .i64 0, .int .i64 0, .string ⟨#[]⟩, .int .i64 0, .int .i64 0, .string ⟨#[]⟩, .int .i64 0, .int .i64 0, .string ⟨#[]⟩]
theorem below_g {w0 w w' : World} {g : Nat} (h : Below w0.heap.size w0 w) (hg : w.grownBy w' (some g)) (hle : w0.heap.size ≤ g) : Below w0.heap.size w0 w' :=
  h.grown hg h.size fun k hk => by
    injection hk with hk
    omega
end Go.Proofs.Ytokkmofcijfmiab

namespace Go.Proofs.Ytokkmofcijfmiab

/-- What a reader has left; none: it has an error. -/
abbrev RestM := Option (List UInt8)
def takeM (st : RestM) (n : Nat) : List UInt8 × RestM := match st with
  | none => ([], none)
  | some b => if n ≤ b.length then (b.take n, some (b.drop n)) else ([], none)
def nextM (st : RestM) : UInt8 × RestM := match st with
  | some (c :: t) => (c, some t)
  | _ => (0, none)
/-- An error, if what is asked doesn't hold. -/
def mustM (h : Bool) (st : RestM) : RestM := if h then st else none
def headOk (d : List UInt8) : Bool := match d with
  | [] => true
  | c :: _ => c != 0
/-- What is left behind a number's bytes. -/
def digM (st : RestM) : List UInt8 × RestM := takeM (mustM (decide ((nextM st).1.toNat ≤ 8)) (nextM st).2) (nextM st).1.toNat
def leftM (st : RestM) (most : Nat) : RestM := mustM (decide (beV (digM st).1 ≤ most)) (mustM (headOk (digM st).1) (digM st).2)
def soundM {α : Type} (z : α) (st : RestM) (x : α) : α := match st with
  | none => z
  | some _ => x
theorem mustM_none (h : Bool) : mustM h none = none := by cases h <;> rfl
theorem takeM_len (st : RestM) (n : Nat) : (takeM st n).1.length ≤ n := by
  cases st with
  | none => exact Nat.zero_le _
  | some b =>
    unfold takeM
    by_cases h : n ≤ b.length
    · simp [h]
    · simp [h]
theorem digM_len (st : RestM) : (digM st).1.length ≤ 8 := by
  by_cases h : (nextM st).1.toNat ≤ 8
  · exact Nat.le_trans (takeM_len _ _) h
  · unfold digM
    rw [show mustM (decide ((nextM st).1.toNat ≤ 8)) (nextM st).2 = none by simp [mustM, h]]
    exact Nat.zero_le _
theorem digM_lt (st : RestM) : beV (digM st).1 < 18446744073709551616 := by
  have h1 := beV_lt (digM st).1
  have h2 := Nat.pow_le_pow_right (show 1 ≤ 256 by omega) (digM_len st)
  rw [pow_eight] at h2
  omega
/-- A number is taken just if it stands there. -/
theorem number_is (st : RestM) (most : Nat) : (soundM 0 (leftM st most) (beV (digM st).1), leftM st most) = (match st with
    | none => (0, none)
    | some b => if (takeNum b most).2 = 0 then (0, none) else ((takeNum b most).1, some (b.drop (takeNum b most).2))) := by
  cases st with
  | none =>
    have e : digM none = ([], none) := by simp [digM, nextM, takeM, mustM_none]
    simp [leftM, e, mustM_none, soundM]
  | some b =>
    cases b with
    | nil =>
      have e : digM (some []) = ([], none) := by simp [digM, nextM, takeM, mustM_none]
      simp [leftM, e, mustM_none, soundM, takeNum]
    | cons c t =>
      simp only [takeNum_cons]
      have hn : nextM (some (c :: t)) = (c, some t) := rfl
      by_cases h8 : 8 < c.toNat
      · have e : digM (some (c :: t)) = ([], none) := by
          unfold digM
          rw [hn]
          have h8' : ¬ c.toNat ≤ 8 := by omega
          simp [mustM, takeM, h8']
        simp [leftM, e, mustM_none, soundM, h8]
      · by_cases hl : t.length < c.toNat
        · have e : digM (some (c :: t)) = ([], none) := by
            unfold digM
            rw [hn]
            have h8' : c.toNat ≤ 8 := by omega
            have hl' : ¬ c.toNat ≤ t.length := by omega
            simp [mustM, takeM, h8', hl']
          simp [leftM, e, mustM_none, soundM, hl]
        · have h8' : c.toNat ≤ 8 := by omega
          have hl' : c.toNat ≤ t.length := by omega
          have e : digM (some (c :: t)) = (t.take c.toNat, some (t.drop c.toNat)) := by
            unfold digM
            rw [hn]
            simp [mustM, takeM, h8', hl']
          by_cases hz : 0 < c.toNat ∧ t.head? = some 0
          · have hh : headOk (t.take c.toNat) = false := by
              obtain ⟨h0, h1⟩ := hz
              cases t with
              | nil => simp at h1
              | cons x r =>
                simp at h1
                subst h1
                obtain ⟨k, hk⟩ : ∃ k, c.toNat = k + 1 := ⟨c.toNat - 1, by omega⟩
                rw [hk]
                rfl
            simp [leftM, e, hh, mustM, soundM, hz]
          · have hh : headOk (t.take c.toNat) = true := by
              cases hc : t.take c.toNat with
              | nil => rfl
              | cons x r =>
                show (x != 0) = true
                simp only [bne_iff_ne, ne_eq]
                intro hx
                subst hx
                refine hz ⟨?_, ?_⟩
                · rcases Nat.eq_zero_or_pos c.toNat with h | h
                  · rw [h] at hc
                    simp at hc
                  · exact h
                · cases t with
                  | nil => simp at hc
                  | cons y q =>
                    obtain ⟨k, hk⟩ : ∃ k, c.toNat = k + 1 := by
                      rcases Nat.eq_zero_or_pos c.toNat with h | h
                      · rw [h] at hc
                        simp at hc
                      · exact ⟨c.toNat - 1, by omega⟩
                    rw [hk, List.take_succ_cons] at hc
                    injection hc with hc _
                    simp [hc]
            have hc : ¬ (8 < c.toNat ∨ t.length < c.toNat ∨ (0 < c.toNat ∧ t.head? = some 0)) := by
              rintro (h | h | h)
              · omega
              · omega
              · exact hz h
            simp only [if_neg hc]
            by_cases hm : most < beV (t.take c.toNat)
            · have hm' : ¬ beV (t.take c.toNat) ≤ most := by omega
              simp [leftM, e, mustM, soundM, hm, hm']
            · have hm' : beV (t.take c.toNat) ≤ most := by omega
              simp only [if_neg hm]
              simp [leftM, e, hh, mustM, soundM, hm', Nat.add_comm 1]
end Go.Proofs.Ytokkmofcijfmiab

namespace Go.Proofs.Ytokkmofcijfmiab
open Go.RowKit

theorem blk_grown {W W' : World} {b : Nat} {cs : Array Value} {t : TypeId} {row : Option Nat} (h : Blk W b cs t) (hg : W.grownBy W' row) (hr : row ≠ some b) : Blk W' b cs t :=
  (hg.block b h.lt (fun e => hr e.symm)).trans h
theorem grown_below {W W' : World} (h : Below W.heap.size W W') (row : Option Nat) : W.grownBy W' row := ⟨h.os, h.tape, h.output, h.size, fun k hk _ => h.block k hk⟩
theorem below_grown {B : Nat} {W W' : World} {g : Nat} (h : W.grownBy W' (some g)) (hB : B ≤ g) (hz : B ≤ W.heap.size) : Below B W W' := ⟨h.os, h.tape, h.output, h.size, fun k hk => h.block k (by omega) (by intro e; injection e; omega)⟩
theorem set_grown {W : World} {g i : Nat} {v : Value} : W.grownBy (W.setCell ⟨g, i, none⟩ v) (some g) :=
  ⟨rfl, rfl, rfl, by simp, fun k _ hk => Below.heap_setCell W ⟨g, i, none⟩ v k (fun e => hk (by rw [e]))⟩
theorem no_off (a b : Nat) : (⟨a, b, none⟩ : Addr) = ⟨a, b, none⟩ := rfl

theorem ext_take (s : ByteArray) (n : Nat) : (s.extract 0 n).data.toList = s.data.toList.take n := by
  rw [ByteArray.data_extract, Array.toList_extract]
  simp
theorem ext_drop (s : ByteArray) (n : Nat) : (s.extract n s.size).data.toList = s.data.toList.drop n := by
  have h : s.size = s.data.toList.length := Array.length_toList.symm
  rw [ByteArray.data_extract, Array.toList_extract, List.extract_eq_take_drop, h]
  exact List.take_of_length_le (by rw [List.length_drop]; exact Nat.le_refl _)

end Go.Proofs.Ytokkmofcijfmiab

namespace Go.Proofs.Ytokkmofcijfmiab
open Go.RowKit

/-- Bytes onto which more may be put: a row of the call's own, or a slice with no spare room. -/
def PreB (base : Nat) (W : World) (A : Option Addr) (n c : Nat) (l : List UInt8) : Prop := OwnB base W A n c l ∨ (RdB W.heap.size W A l ∧ l.length = n ∧ c = n ∧ n ≤ 1000000)
theorem PreB.len {base : Nat} {W : World} {A : Option Addr} {n c : Nat} {l : List UInt8} (h : PreB base W A n c l) : l.length = n := by
  rcases h with h | h
  · exact h.len
  · exact h.2.1
theorem PreB.keep {base : Nat} {W W' : World} {A : Option Addr} {n c : Nat} {l : List UInt8} (h : PreB base W A n c l) (hb : Below W.heap.size W W') : PreB base W' A n c l := by
  rcases h with h | h
  · exact .inl (h.keep hb)
  · exact .inr ⟨(h.1.keep hb (Nat.le_refl _)).more hb.size, h.2⟩
/-- All blocks that aren't bytes stay. -/
def Oth (w w' : World) : Prop := ∀ (g : Nat) (cs : Array Value) (t : TypeId), t ≠ 5 → w.heap[g]? = some (.cells cs t) → w'.heap[g]? = some (.cells cs t)
theorem Oth.refl (w : World) : Oth w w := fun _ _ _ _ h => h
theorem Oth.trans {w w1 w2 : World} (h : Oth w w1) (k : Oth w1 w2) : Oth w w2 := fun g cs t ht hg => k g cs t ht (h g cs t ht hg)
theorem Oth.below {w w' : World} (h : Below w.heap.size w w') : Oth w w' := fun g _ _ _ hg => (h.block g (Array.getElem?_eq_some_iff.1 hg).1).trans hg
theorem Oth.own {base : Nat} {w w' : World} {A : Option Addr} {n c : Nat} {l : List UInt8} (h : OwnB base w A n c l) (hg : w.grownBy w' (A.map (·.block))) : Oth w w' := by
  intro g cs t ht hcs
  have hlt := (Array.getElem?_eq_some_iff.1 hcs).1
  refine (hg.block g hlt ?_).trans hcs
  intro hrow
  rcases h.2 with ⟨hv, _⟩ | ⟨b, cap, cur, hv, _, hb, _⟩
  · injection hv with hv
    subst hv
    cases hrow
  · injection hv with hv
    subst hv
    injection hrow with hrow
    have e : g = b := hrow
    subst e
    rw [hb] at hcs
    injection hcs with hcs
    injection hcs with _ hcs _
    exact ht hcs.symm
/-- What such a call answers. -/
def PutO (base : Nat) (w : World) (L : List UInt8) (e : Ending) (w' : World) : Prop :=
  (∃ (A : Option Addr) (n c : Nat), e = .returned (.slice A n c) ∧ OwnB base w' A n c L) ∧ Below base w w' ∧ Oth w w'

theorem rd_cells {B : Nat} {w : World} {ad : Addr} {l : List UInt8} (hr : RdB B w (some ad) l) : ∀ j u, (bytV l)[j]? = some u → w.cell? (ad.add j) = some u := by
  intro j u hu
  rw [List.getElem?_map] at hu
  cases hx : l[j]? with
  | none => rw [hx] at hu; cases hu
  | some x =>
    rw [hx] at hu
    injection hu with hu
    subst hu
    obtain ⟨a2, he, _, hcell⟩ := hr j x hx
    injection he with he
    subst he
    exact hcell
/-- Append of what reads as bytes, some at least, onto such. -/
theorem run_apP {P : Program} (w : World) {t t' e' ty : TypeId} {i : TypeInfo} (ht : P.underlying t = some (.slice 5)) (ht' : P.underlying t' = some (.slice e')) (hi : P.info? 5 = some i) (hz : i.zero = some (.int .u8 0)) (hs : i.size = 1) (hy : i.bytes = 1)
    {base B : Nat} {A A2 : Option Addr} {n c m d : Nat} {l l2 : List UInt8} (hown : PreB base w A n c l) (hr : RdB B w A2 l2) (hm : l2.length = m) (hm0 : 0 < m) (hsz : n + m ≤ 1099511627776) (hbase : base ≤ w.heap.size) :
    ∃ A' c' w', (Builtin.append_ #[t, t'] ty #[.slice A n c, .slice A2 m d]).run P w = .ok (.slice A' (n + m) c') w' ∧ OwnB base w' A' (n + m) c' (l ++ l2) ∧ Below base w w' ∧ Oth w w' := by
  rcases hown with hown | ⟨hrd, hl, hc, hn⟩
  · obtain ⟨A', c', w', h1, h2, h3, h4⟩ := run_apB (P := P) (ty := ty) (d := d) w ht ht' hi hz hs hy hown hr hm hsz hbase
    exact ⟨A', c', w', h1, h2, h3, Oth.own hown h4⟩
  · subst hm
    subst hc
    subst hl
    cases A2 with
    | none =>
      cases l2 with
      | nil => exact absurd hm0 (by simp)
      | cons x r =>
        obtain ⟨ad, he, _⟩ := hr 0 x rfl
        cases he
    | some a2 =>
      cases A with
      | none =>
        have h0 : l = [] := by
          cases l with
          | nil => rfl
          | cons x r =>
            obtain ⟨ad, he, _⟩ := hrd 0 x rfl
            cases he
        subst h0
        obtain ⟨A', c', w', h1, h2, h3, h4⟩ := run_apB (P := P) (ty := ty) (d := d) w ht ht' hi hz hs hy (OwnB.nil base w) hr rfl hsz hbase
        exact ⟨A', c', w', h1, h2, h3, Oth.own (OwnB.nil base w) h4⟩
      | some ad =>
        have hrun := run_append_grow (P := P) w t ty 5 i (.int .u8 0) ht hi hz ad l.length l.length (bytV l) (by rw [hs]; simp) (rd_cells hrd) a2 l2.length d (bytV l2) (by rw [hs]; simp) (rd_cells hr) (by omega) (by omega) (growslice_fits (by omega) (by rw [hy]; omega))
        refine ⟨_, _, _, by rw [run_append_tt w ht ht']; exact hrun, ?_, ?_, Oth.below ((Below.refl _ w).drew.alloc (Nat.le_refl _) _)⟩
        · have hge := grownCap_ge w (l.length + l2.length) l.length 5
          have hcm : grownCap w (l.length + l2.length) l.length 5 ≤ maxLen := grownCap_le_maxLen w (l.length + l2.length) l.length 5 (by unfold maxLen; omega)
          have hzs : (Value.int IntKind.u8 0).cells.size = 1 := rfl
          unfold OwnB
          rw [show bytV (l ++ l2) = bytV l ++ bytV l2 from List.map_append]
          refine ⟨by simp, .inr ⟨w.heap.size, _, _, rfl, hbase, heap_alloc_new w.drew _, hge, hcm, ?_, ?_⟩⟩
          · simp only [Array.size_append, List.size_toArray, size_zeroCells, hzs, List.length_map]
            omega
          · simp only [Array.toList_append, List.append_assoc]
            rw [← List.append_assoc, show (l.length + l2.length) * 1 = (bytV l ++ bytV l2).length by simp]
            exact List.take_left
        · exact ((Below.refl base w).drew).alloc hbase _
section
variable {P : Program} {w : World} {t t' e' : TypeId} {i : TypeInfo} {base B : Nat} {A A2 : Option Addr} {n c m d : Nat} {l l2 : List UInt8} {o : Oper} {a : Act} {Q : Exit → Act → World → Prop} {ops : Array Oper}
theorem wp_apP {K : Act → World → Prop} (s x : Operand) (ho : o.op = .call { callee := .builtin .append, args := #[s, x], argTypes := #[t, t'] })
    (ht : P.underlying t = some (.slice 5)) (ht' : P.underlying t' = some (.slice e')) (hi : P.info? 5 = some i) (hz : i.zero = some (.int .u8 0)) (hs : i.size = 1) (hy : i.bytes = 1)
    (h1 : a.eval s = .slice A n c) (h2 : a.eval x = .slice A2 m d) (hown : PreB base w A n c l) (hr : RdB B w A2 l2) (hm : l2.length = m) (hm0 : 0 < m) (N : Nat) (hN : n + m = N) (hsz : n + m ≤ 1099511627776) (hbase : base ≤ w.heap.size)
    (h : ∀ A' c' w', OwnB base w' A' N c' (l ++ l2) → Below base w w' → Oth w w' → K (a.put o.dst (.slice A' N c')) w') : o.wp P a w K Q := by
  subst hN
  obtain ⟨A', c', w', hrun, k1, k2, k3⟩ := run_apP (P := P) (ty := o.type) (d := d) w ht ht' hi hz hs hy hown hr hm hm0 hsz hbase
  unfold Oper.wp execOp
  simp only [ho, resolve, invoke, builtin, Sem.run_bind, Sem.run_pure, Result.andThen_ok, List.map_toArray, List.map_cons, List.map_nil, h1, h2, hrun]
  exact h A' c' w' k1 k2 k3
/-- .. in a plain region. -/
theorem wpList_apP {rest : List Oper} (hgd : o.guard = none) (s x : Operand) (ho : o.op = .call { callee := .builtin .append, args := #[s, x], argTypes := #[t, t'] })
    (ht : P.underlying t = some (.slice 5)) (ht' : P.underlying t' = some (.slice e')) (hi : P.info? 5 = some i) (hz : i.zero = some (.int .u8 0)) (hs : i.size = 1) (hy : i.bytes = 1)
    (h1 : a.eval s = .slice A n c) (h2 : a.eval x = .slice A2 m d) (hown : PreB base w A n c l) (hr : RdB B w A2 l2) (hm : l2.length = m) (hm0 : 0 < m) (N : Nat) (hN : n + m = N) (hsz : n + m ≤ 1099511627776) (hbase : base ≤ w.heap.size)
    (h : ∀ A' c' w', OwnB base w' A' N c' (l ++ l2) → Below base w w' → Oth w w' → wpList P ops Q rest (a.put o.dst (.slice A' N c')) w') : wpList P ops Q (o :: rest) a w :=
  wpList_plain hgd fun _ hK => wp_apP s x ho ht ht' hi hz hs hy h1 h2 hown hr hm hm0 N hN hsz hbase fun A' c' w' k1 k2 k3 => hK _ _ (h A' c' w' k1 k2 k3)
end
/-- A slice without its spare room. -/
theorem run_cap (W : World) (A : Option Addr) (n c : Nat) (y z : Int) (hy : y = (n : Int)) (hz : z = (n : Int)) (hc : n ≤ c) :
    (Instr.sliceAt 58 (.slice A n c) none (some (.int .i64 y)) (some (.int .i64 z))).run Try.prog W = .ok (.slice A n n) W := by
  have h2 : (n : Int) ≤ (c : Int) := by omega
  rw [hy, hz]
  go_simp
end Go.Proofs.Ytokkmofcijfmiab
