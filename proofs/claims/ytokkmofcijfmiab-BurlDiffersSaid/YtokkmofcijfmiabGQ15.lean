/-
  WHAT IS PROVED: plain facts: what an operation leaves of a value (doV). Over any program that bears the types named. · plain facts: good cells are good ones that rise; so are they with a good value set at a key; a good operation leaves a good value of a good value. No call is spoken of. · plain facts on the keys at which cells are unlike: out of the leaves, and by what stands at them; on texts that are sorted, of which each is kept once. No call is spoken of. · '==' of a burl and itself. Conditions: those typed in each theorem. · cell.Good answers what the document's Good does, goodB, for every value. No condition. · deed.Good answers what the document's Good does, opB, for every operation. Condition: the texts are no longer than the form's reach. · stamp.Good answers what the document's Good of a write does. Condition: the texts are no longer than the form's reach.
-/
import Derived.Test.YtokkmofcijfmiabGQ1
import Derived.Test.YtokkmofcijfmiabBcMath
import Derived.Test.YtokkmofcijfmiabGQ14
import Derived.Test.YtokkmofcijfmiabBdB
import Derived.Test.YtokkmofcijfmiabBuC
import Derived.Test.YtokkmofcijfmiabGQ7
import Derived.Test.YtokkmofcijfmiabGQ13
import Derived.ChangeKeysEq
import Derived.Test.YtokkmofcijfmiabGQ0
import Derived.WalkKit
import Derived.WalkSpells
import Derived.WalkLawsBesides
import Derived.Lib.Hide
import Derived.Test.YtokkmofcijfmiabGQ3
namespace Go.Proofs.Ytokkmofcijfmiab
open Go.RowKit

/-- A pair of a value and an error's number. -/
abbrev pairV (k n : Int) (s : ByteArray) (e : Int) : Value := .tuple #[.agg #[.int .i64 k, .int .i64 n, .string s], .int .i64 e]

/-- What is left: kind, number, text, error. -/
def doV (K ka na kb nb kv nv : Int) (sa sb sv : ByteArray) : Int × Int × ByteArray × Int :=
  if K = 1 then (ka, na, sa, 0)
  else if K = 2 then (if kv = 0 then (kv, nv, sv, 5) else (0, 0, ⟨#[]⟩, 0))
  else if K = 3 then
    (if kv = 1 ∧ ka = 1 then (if -9223372036854775808 ≤ nv + na ∧ nv + na ≤ 9223372036854775807 then (1, nv + na, ⟨#[]⟩, 0) else (kv, nv, sv, 12)) else (kv, nv, sv, 13))
  else if K = 4 then (if kv = ka ∧ nv = na ∧ sv.data.toList = sa.data.toList then (kb, nb, sb, 0) else (kv, nv, sv, 14))
  else (kv, nv, sv, 2)
/-- What stands in outcome's answer: nothing beside an error. -/
def outV (K ka na kb nb kv nv : Int) (sa sb sv : ByteArray) : Int × Int × ByteArray × Int :=
  if (doV K ka na kb nb kv nv sa sb sv).2.2.2 = 0 then doV K ka na kb nb kv nv sa sb sv else (0, 0, ⟨#[]⟩, (doV K ka na kb nb kv nv sa sb sv).2.2.2)

theorem bytes_eq {a b : ByteArray} (h : a.data.toList = b.data.toList) : a = b := by
  cases a; cases b
  simp only [ByteArray.mk.injEq]
  exact Array.toList_inj.1 h
theorem doV_put (ka na kb nb kv nv : Int) (sa sb sv : ByteArray) : doV 1 ka na kb nb kv nv sa sb sv = (ka, na, sa, 0) := by unfold doV; rw [if_pos rfl]
theorem doV_del0 (ka na kb nb nv : Int) (sa sb sv : ByteArray) : doV 2 ka na kb nb 0 nv sa sb sv = (0, nv, sv, 5) := by unfold doV; rw [if_neg (by decide), if_pos rfl, if_pos rfl]
theorem doV_del1 (ka na kb nb kv nv : Int) (sa sb sv : ByteArray) (z : kv ≠ 0) : doV 2 ka na kb nb kv nv sa sb sv = (0, 0, ⟨#[]⟩, 0) := by unfold doV; rw [if_neg (by decide), if_pos rfl, if_neg z]
theorem doV_sum (na kb nb nv : Int) (sa sb sv : ByteArray) (h : -9223372036854775808 ≤ nv + na ∧ nv + na ≤ 9223372036854775807) : doV 3 1 na kb nb 1 nv sa sb sv = (1, nv + na, ⟨#[]⟩, 0) := by
  unfold doV; rw [if_neg (by decide), if_neg (by decide), if_pos rfl, if_pos ⟨rfl, rfl⟩, if_pos h]
theorem doV_over (na kb nb nv : Int) (sa sb sv : ByteArray) (h : ¬ (-9223372036854775808 ≤ nv + na ∧ nv + na ≤ 9223372036854775807)) : doV 3 1 na kb nb 1 nv sa sb sv = (1, nv, sv, 12) := by
  unfold doV; rw [if_neg (by decide), if_neg (by decide), if_pos rfl, if_pos ⟨rfl, rfl⟩, if_neg h]
theorem doV_kind (ka na kb nb kv nv : Int) (sa sb sv : ByteArray) (h : ¬ (kv = 1 ∧ ka = 1)) : doV 3 ka na kb nb kv nv sa sb sv = (kv, nv, sv, 13) := by
  unfold doV; rw [if_neg (by decide), if_neg (by decide), if_pos rfl, if_neg h]
theorem doV_cas (na kb nb nv kv ka : Int) (sa sb sv : ByteArray) (h : kv = ka ∧ nv = na ∧ sv.data.toList = sa.data.toList) : doV 4 ka na kb nb kv nv sa sb sv = (kb, nb, sb, 0) := by
  unfold doV; rw [if_neg (by decide), if_neg (by decide), if_neg (by decide), if_pos rfl, if_pos h]
theorem doV_case (na kb nb nv kv ka : Int) (sa sb sv : ByteArray) (h : ¬ (kv = ka ∧ nv = na ∧ sv.data.toList = sa.data.toList)) : doV 4 ka na kb nb kv nv sa sb sv = (kv, nv, sv, 14) := by
  unfold doV; rw [if_neg (by decide), if_neg (by decide), if_neg (by decide), if_pos rfl, if_neg h]
theorem doV_none (K na kb nb nv kv ka : Int) (sa sb sv : ByteArray) (h1 : K ≠ 1) (h2 : K ≠ 2) (h3 : K ≠ 3) (h4 : K ≠ 4) : doV K ka na kb nb kv nv sa sb sv = (kv, nv, sv, 2) := by
  unfold doV; rw [if_neg h1, if_neg h2, if_neg h3, if_neg h4]
theorem outV_ok {K ka na kb nb kv nv k n : Int} {sa sb sv s : ByteArray} (h : doV K ka na kb nb kv nv sa sb sv = (k, n, s, 0)) : outV K ka na kb nb kv nv sa sb sv = (k, n, s, 0) := by
  unfold outV
  rw [h]
  exact if_pos rfl
theorem outV_no {K ka na kb nb kv nv k n e : Int} {sa sb sv s : ByteArray} (h : doV K ka na kb nb kv nv sa sb sv = (k, n, s, e)) (he : e ≠ 0) : outV K ka na kb nb kv nv sa sb sv = (0, 0, ⟨#[]⟩, e) := by
  unfold outV
  rw [h]
  exact if_neg he
theorem quad {a b d : Int} {c : ByteArray} {a' b' d' : Int} {c' : ByteArray} (h : (a, b, c, d) = (a', b', c', d')) : a = a' ∧ b = b' ∧ c = c' ∧ d = d' := by simpa using h

theorem doV_err {K ka na kb nb kv nv k n e : Int} {sa sb sv s : ByteArray} (h : doV K ka na kb nb kv nv sa sb sv = (k, n, s, e)) (he : e ≠ 0) : k = kv ∧ n = nv ∧ s = sv := by
  unfold doV at h
  repeat' split at h
  all_goals
    obtain ⟨rfl, rfl, rfl, rfl⟩ := quad h
    first
      | exact ⟨rfl, rfl, rfl⟩
      | exact absurd rfl he

end Go.Proofs.Ytokkmofcijfmiab

namespace Go.Proofs.Ytokkmofcijfmiab
open Go.RowKit

open Classical in
theorem good_rise {l : List Cl} (h : goodCls l = true) : Rise l := by
  have g : ∀ i x, l[i]? = some x → ∀ y, 0 < i → l[i - 1]? = some y → clLt y x = true := by
    unfold goodCls goodLs at h
    rw [decide_eq_true_eq] at h
    exact fun i x hx => (h i x hx).2
  have k : ∀ d i (hj : i + d + 1 < l.length) (hi : i < l.length), ltB l[i].ky.data.toList l[i + d + 1].ky.data.toList = true := by
    intro d
    induction d with
    | zero =>
      intro i hj hi
      exact g (i + 0 + 1) _ (List.getElem?_eq_getElem hj) _ (by omega) (by rw [show i + 0 + 1 - 1 = i by omega]; exact List.getElem?_eq_getElem hi)
    | succ d ih =>
      intro i hj hi
      have h1 := ih i (by omega) hi
      have h2 : clLt l[i + d + 1] l[i + (d + 1) + 1] = true := g (i + (d + 1) + 1) _ (List.getElem?_eq_getElem hj) _ (by omega) (by rw [show i + (d + 1) + 1 - 1 = i + d + 1 by omega]; exact List.getElem?_eq_getElem (by omega))
      exact ltB_trans h1 h2
  unfold Rise
  rw [List.pairwise_iff_getElem]
  intro i j hi hj hij
  have h1 := k (j - i - 1) i (by omega) hi
  have e : i + (j - i - 1) + 1 = j := by omega
  simp only [e] at h1
  exact h1
theorem rise_good {l : List Cl} (h : Rise l) (hg : ∀ c, c ∈ l → c.good = true) : goodCls l = true := by
  refine goodLs_yes fun i hi x hx => ⟨hg x (List.mem_of_getElem? hx), fun y h0 hy => ?_⟩
  unfold Rise at h
  rw [List.pairwise_iff_getElem] at h
  obtain ⟨h1, rfl⟩ := List.getElem?_eq_some_iff.1 hx
  obtain ⟨h2, rfl⟩ := List.getElem?_eq_some_iff.1 hy
  exact h (i - 1) i h2 h1 (by omega)
/-- A good value in an int's reach. -/
def OkV (v : Vl) : Prop := goodB v.1 v.2.1 v.2.2 = true ∧ -9223372036854775808 ≤ v.2.1 ∧ v.2.1 ≤ 9223372036854775807
theorem OkV.no : OkV noV := ⟨by decide, by decide, by decide⟩
theorem okV_at {ky : ByteArray} {l : List Cl} (hg : goodCls l = true) (hf : ∀ c, c ∈ l → c.fits) : OkV (atV ky l) := by
  rcases at_mem (ky := ky) (l := l) with h | ⟨c, h1, _, h3⟩
  · rw [h]
    exact OkV.no
  · rw [h3]
    exact ⟨(cl_in (goodLs_mem hg h1)).2.2.2.2, (hf c h1).2.2.1, (hf c h1).2.2.2⟩
theorem set_good {ky : ByteArray} {l : List Cl} {v : Vl} (hg : goodCls l = true) (hf : ∀ c, c ∈ l → c.fits) (hk : keyB ky.data.toList = true) (hv : OkV v) : goodCls (setK ky v l) = true ∧ ∀ c, c ∈ setK ky v l → c.fits := by
  have hR := good_rise hg
  have hks : ky.data.toList.length ≤ 20 := (keyB_all hk).2.2
  have hkl : ky.data.toList.length = ky.size := Array.length_toList
  have hvs : v.2.2.size ≤ 40 := (goodB_in hv.1).2
  have hM : v.1 ≠ 0 → (mkC ky v).good = true := by
    intro h0
    unfold Cl.good clGoodB
    simp only [Bool.and_eq_true, Bool.not_eq_true', beq_eq_false_iff_ne]
    exact ⟨hk, hv.1, h0⟩
  refine ⟨rise_good (rise_set hR v) fun c hc => ?_, fun c hc => ?_⟩
  · rcases set_mem hR v hc with h | ⟨h0, rfl⟩
    · exact goodLs_mem hg h
    · exact hM h0
  · rcases set_mem hR v hc with h | ⟨h0, rfl⟩
    · exact hf c h
    · refine ⟨?_, ?_, hv.2.1, hv.2.2⟩
      · show ky.size ≤ maxLen
        unfold maxLen
        omega
      · show v.2.2.size ≤ maxLen
        unfold maxLen
        omega
/-- What a good operation leaves of a good value is good. -/
theorem do_ok {K ka na kb nb kv nv : Int} {ky sa sb sv : ByteArray} (h : opB K ky ka na sa kb nb sb = true) (hv : OkV (kv, nv, sv)) (ha : -9223372036854775808 ≤ na ∧ na ≤ 9223372036854775807) (hb : -9223372036854775808 ≤ nb ∧ nb ≤ 9223372036854775807) {k n er : Int} {s : ByteArray} (hd : doV K ka na kb nb kv nv sa sb sv = (k, n, s, er)) : OkV (k, n, s) := by
  unfold opB at h
  simp only [Bool.and_eq_true] at h
  obtain ⟨⟨⟨-, h1⟩, h2⟩, -⟩ := h
  have c0 : OkV (0, 0, ⟨#[]⟩) := OkV.no
  have c1 : ∀ x : Int, -9223372036854775808 ≤ x ∧ x ≤ 9223372036854775807 → OkV (1, x, ⟨#[]⟩) := fun x hx => ⟨by unfold goodB; rw [decide_eq_true_eq]; exact .inr (.inl ⟨rfl, rfl⟩), hx.1, hx.2⟩
  unfold doV at hd
  repeat' split at hd
  all_goals obtain ⟨rfl, rfl, rfl, -⟩ := quad hd
  all_goals
    first
      | exact ⟨h1, ha.1, ha.2⟩
      | exact ⟨h2, hb.1, hb.2⟩
      | exact c0
      | exact c1 _ (by assumption)
      | exact hv
end Go.Proofs.Ytokkmofcijfmiab

namespace Go.Proofs.Ytokkmofcijfmiab
open Go.RowKit

/-- Texts that rise strictly. -/
def RiseS (l : List ByteArray) : Prop := l.Pairwise fun a b => ltB a.data.toList b.data.toList = true
theorem ltB_not {a b : List UInt8} (h : ltB a b = true) (k : ltB b a = true) : False := by rw [ltB_asymm h] at k; cases k
theorem riseS_ext : ∀ (l1 l2 : List ByteArray), RiseS l1 → RiseS l2 → (∀ x, x ∈ l1 ↔ x ∈ l2) → l1 = l2
  | [], [], _, _, _ => rfl
  | [], b :: s, _, _, h => absurd ((h b).2 (List.mem_cons_self ..)) (by simp)
  | a :: r, [], _, _, h => absurd ((h a).1 (List.mem_cons_self ..)) (by simp)
  | a :: r, b :: s, h1, h2, h => by
    obtain ⟨ha, hr⟩ := List.pairwise_cons.1 h1
    obtain ⟨hb, hs⟩ := List.pairwise_cons.1 h2
    have e : a = b := by
      rcases List.mem_cons.1 ((h a).1 (List.mem_cons_self ..)) with e | e
      · exact e
      · rcases List.mem_cons.1 ((h b).2 (List.mem_cons_self ..)) with e2 | e2
        · exact e2.symm
        · exact (ltB_not (hb a e) (ha b e2)).elim
    subst e
    have e2 : r = s := by
      refine riseS_ext r s hr hs fun x => ⟨fun hx => ?_, fun hx => ?_⟩
      · rcases List.mem_cons.1 ((h x).1 (List.mem_cons_of_mem _ hx)) with e | e
        · subst e
          exact absurd (ha x hx) (by rw [ltB_irrefl]; simp)
        · exact e
      · rcases List.mem_cons.1 ((h x).2 (List.mem_cons_of_mem _ hx)) with e | e
        · subst e
          exact absurd (hb x hx) (by rw [ltB_irrefl]; simp)
        · exact e
    rw [e2]
def SortedB (l : List ByteArray) : Prop := l.Pairwise fun a b => ltB b.data.toList a.data.toList = false
theorem cmp_inv {l : List ByteArray} (hs : SortedB l) : ∀ m, m ≤ l.length → RiseS (cmpTo l m) ∧ ∀ x, x ∈ cmpTo l m ↔ x ∈ l.take m
  | 0, _ => ⟨List.Pairwise.nil, by simp [cmpTo]⟩
  | m + 1, hm => by
    obtain ⟨h1, h2⟩ := cmp_inv hs m (by omega)
    have hx : l[m]? = some l[m] := List.getElem?_eq_getElem (by omega)
    have hT : l.take (m + 1) = l.take m ++ [l[m]] := List.take_succ_eq_append_getElem (by omega)
    by_cases h0 : m = 0
    · subst h0
      rw [cmpT_one hx, hT]
      exact ⟨List.pairwise_singleton .., by simp⟩
    · have hy : l[m - 1]? = some l[m - 1] := List.getElem?_eq_getElem (by omega)
      have hP := List.pairwise_iff_getElem.1 hs
      by_cases he : l[m].data.toList = l[m - 1].data.toList
      · rw [cmpT_same (by omega) hx hy he, hT]
        refine ⟨h1, fun x => ⟨fun h => List.mem_append_left _ ((h2 x).1 h), fun h => ?_⟩⟩
        rcases List.mem_append.1 h with h | h
        · exact (h2 x).2 h
        · rw [List.mem_singleton] at h
          refine (h2 x).2 ?_
          rw [h, byt_ext he]
          exact List.mem_of_getElem? (i := m - 1) (by rw [List.getElem?_take, if_pos (by omega)]; exact hy)
      · rw [cmpT_new hx hy he, hT]
        refine ⟨List.pairwise_append.2 ⟨h1, List.pairwise_singleton .., fun z hz x hx2 => ?_⟩, fun x => by rw [List.mem_append, List.mem_append, h2]⟩
        rw [List.mem_singleton] at hx2
        subst hx2
        obtain ⟨i, hi⟩ := List.getElem?_of_mem ((h2 z).1 hz)
        rw [List.getElem?_take] at hi
        split at hi
        · rename_i him
          obtain ⟨hil, rfl⟩ := List.getElem?_eq_some_iff.1 hi
          have a1 : ltB l[m].data.toList l[i].data.toList = false := hP i m hil (by omega) (by omega)
          refine ltB_total a1 fun e => ?_
          have a2 : ltB l[m].data.toList l[m - 1].data.toList = false := hP (m - 1) m (by omega) (by omega) (by omega)
          have a3 : ltB l[m - 1].data.toList l[m].data.toList = false := by
            rw [e]
            by_cases hii : i = m - 1
            · subst hii
              exact ltB_irrefl _
            · exact hP i (m - 1) hil (by omega) (by omega)
          exact he (le_eq a3 a2).symm
        · cases hi
theorem baL_dL (l : List ByteArray) : baL (dL l) = l := by
  unfold baL dL
  rw [List.map_map]
  conv => rhs; rw [← List.map_id l]
  apply List.map_congr_left
  intro x _
  show (⟨x.data.toList.toArray⟩ : ByteArray) = x
  simp
theorem sorted_ba {s : List (List UInt8)} (h : Sorted s) : SortedB (baL s) := by
  unfold SortedB baL
  rw [List.pairwise_map]
  refine h.imp fun {a b} hab => ?_
  simpa using hab
theorem sort_mem (l : List ByteArray) (x : ByteArray) : x ∈ baL (sortL (dL l)) ↔ x ∈ l := by
  have h : (baL (sortL (dL l))).Perm (baL (dL l)) := (sortL_perm (dL l)).map _
  rw [baL_dL] at h
  exact h.mem_iff
/-- What is left of texts, sorted, each once. -/
theorem uniq_is (l : List ByteArray) : RiseS (cmpTo (baL (sortL (dL l))) (baL (sortL (dL l))).length) ∧ ∀ x, x ∈ cmpTo (baL (sortL (dL l))) (baL (sortL (dL l))).length ↔ x ∈ l := by
  obtain ⟨h1, h2⟩ := cmp_inv (sorted_ba (sortL_sorted (dL l))) _ (Nat.le_refl _)
  refine ⟨h1, fun x => ?_⟩
  rw [h2, List.take_length, sort_mem]

theorem unlC_mem {l o : List Cl} {k : ByteArray} : k ∈ unlC l o ↔ ∃ c, c ∈ l ∧ c ∉ o ∧ c.ky = k := by
  unfold unlC hasC
  simp only [List.mem_map, List.mem_filter, Bool.not_eq_true', decide_eq_false_iff_not]
  constructor
  · rintro ⟨c, ⟨h1, h2⟩, h3⟩
    exact ⟨c, h1, h2, h3⟩
  · rintro ⟨c, h1, h2, h3⟩
    exact ⟨c, ⟨h1, h2⟩, h3⟩
theorem atL_mem {l : List Cl} {c : Cl} {j : Int} : c ∈ atL l j ↔ c ∈ l ∧ ((leafL c.ky.data.toList : Nat) : Int) = j := by
  unfold atL
  rw [List.mem_filter, beq_iff_eq]
theorem at_of_mem : ∀ {l : List Cl}, Rise l → ∀ {c : Cl}, c ∈ l → atV c.ky l = (c.k, c.x, c.s)
  | x :: r, h, c, hc => by
    obtain ⟨h1, h2⟩ := List.pairwise_cons.1 h
    show (if x.ky.data.toList = c.ky.data.toList then _ else atV c.ky r) = _
    rcases List.mem_cons.1 hc with rfl | hc
    · rw [if_pos rfl]
    · rw [if_neg (ltB_ne (h1 c hc))]
      exact at_of_mem h2 hc
theorem mem_of_at {l : List Cl} {c : Cl} (h : atV c.ky l = (c.k, c.x, c.s)) (h0 : c.k ≠ 0) : c ∈ l := by
  rcases at_mem (ky := c.ky) (l := l) with h1 | ⟨y, hy, h2, h3⟩
  · rw [h1] at h
    injection h with h _
    exact absurd h.symm h0
  · rw [h3] at h
    injection h with e1 h
    injection h with e2 e3
    have : y = c := by
      obtain ⟨ky, k, x, s⟩ := y
      obtain ⟨ky2, k2, x2, s2⟩ := c
      simp only at h2 e1 e2 e3
      subst h2 e1 e2 e3
      rfl
    rw [← this]
    exact hy
/-- The leaves at which the burls part. -/
def partsOf (a b : List Cl) : List Int := parts (rootL (lvTo a)) (rootL (lvTo b)) (lvTo a) (lvTo b)
/-- Is a key one at which cells are told to be unlike? -/
def DiffK (a b : List Cl) (k : ByteArray) : Prop := (∃ c, c ∈ a ++ b ∧ c.ky = k) ∧ ((leafL k.data.toList : Nat) : Int) ∈ partsOf a b ∧ atV k a ≠ atV k b
theorem unl_half {a b : List Cl} (ha : goodCls a = true) (hb : goodCls b = true) {j : Int} {k : ByteArray} (h : k ∈ unlC (atL a j) (atL b j)) : ((leafL k.data.toList : Nat) : Int) = j ∧ (∃ c, c ∈ a ∧ c.ky = k) ∧ atV k a ≠ atV k b := by
  obtain ⟨c, h1, h2, rfl⟩ := unlC_mem.1 h
  obtain ⟨h3, h4⟩ := atL_mem.1 h1
  refine ⟨h4, ⟨c, h3, rfl⟩, fun e => h2 ?_⟩
  rw [at_of_mem (good_rise ha) h3] at e
  have h5 := (cl_in (goodLs_mem ha h3)).2.1
  exact atL_mem.2 ⟨mem_of_at e.symm (by omega), h4⟩
theorem half_unl {a b : List Cl} (ha : goodCls a = true) (hb : goodCls b = true) {c : Cl} (h : c ∈ a) (hne : atV c.ky a ≠ atV c.ky b) : c.ky ∈ unlC (atL a ((leafL c.ky.data.toList : Nat) : Int)) (atL b ((leafL c.ky.data.toList : Nat) : Int)) := by
  refine unlC_mem.2 ⟨c, atL_mem.2 ⟨h, rfl⟩, fun h2 => hne ?_, rfl⟩
  rw [at_of_mem (good_rise ha) h, at_of_mem (good_rise hb) (atL_mem.1 h2).1]
theorem diff_is {a b : List Cl} (ha : goodCls a = true) (hb : goodCls b = true) (k : ByteArray) : (∃ j, j ∈ partsOf a b ∧ (k ∈ unlC (atL a j) (atL b j) ∨ k ∈ unlC (atL b j) (atL a j))) ↔ DiffK a b k := by
  constructor
  · rintro ⟨j, hj, h | h⟩
    · obtain ⟨h1, ⟨c, h2, h3⟩, h4⟩ := unl_half ha hb h
      exact ⟨⟨c, List.mem_append_left _ h2, h3⟩, by rw [h1]; exact hj, h4⟩
    · obtain ⟨h1, ⟨c, h2, h3⟩, h4⟩ := unl_half hb ha h
      exact ⟨⟨c, List.mem_append_right _ h2, h3⟩, by rw [h1]; exact hj, fun e => h4 e.symm⟩
  · rintro ⟨⟨c, hc, rfl⟩, hp, hne⟩
    refine ⟨_, hp, ?_⟩
    rcases List.mem_append.1 hc with hc | hc
    · exact .inl (half_unl ha hb hc hne)
    · exact .inr (half_unl hb ha hc fun e => hne e.symm)
/-- A key put among texts that rise. -/
theorem ins_rise {out : List ByteArray} {key : ByteArray} {p : Nat} (h : RiseS out) (hp : p ≤ out.length) (h1 : ∀ x, x ∈ out.take p → ltB x.data.toList key.data.toList = true) (h2 : ∀ x, out[p]? = some x → ltB x.data.toList key.data.toList = false ∧ x.data.toList ≠ key.data.toList) : RiseS (out.take p ++ ([key] ++ out.drop p)) ∧ ∀ x, x ∈ out.take p ++ ([key] ++ out.drop p) ↔ x ∈ out ∨ x = key := by
  have hsp : out = out.take p ++ out.drop p := (List.take_append_drop p out).symm
  have h3 := h
  unfold RiseS at h3
  rw [hsp] at h3
  obtain ⟨r1, r2, r3⟩ := List.pairwise_append.1 h3
  have h4 : ∀ x, x ∈ out.drop p → ltB key.data.toList x.data.toList = true := by
    intro x hx
    cases hd : out.drop p with
    | nil => rw [hd] at hx; cases hx
    | cons y s =>
      have hy : out[p]? = some y := by
        have := List.getElem?_drop (xs := out) (i := p) (j := 0)
        rw [hd] at this
        simpa using this.symm
      obtain ⟨e1, e2⟩ := h2 y hy
      have e3 := ltB_total e1 e2
      rw [hd] at hx r2
      rcases List.mem_cons.1 hx with rfl | hx
      · exact e3
      · exact ltB_trans e3 ((List.pairwise_cons.1 r2).1 x hx)
  refine ⟨List.pairwise_append.2 ⟨r1, List.pairwise_append.2 ⟨List.pairwise_singleton .., r2, fun a ha b hb => ?_⟩, fun a ha b hb => ?_⟩, fun x => ?_⟩
  · rw [List.mem_singleton] at ha
    subst ha
    exact h4 b hb
  · rcases List.mem_append.1 hb with hb | hb
    · rw [List.mem_singleton] at hb
      subst hb
      exact h1 a ha
    · exact r3 a ha b hb
  · have hm : x ∈ out ↔ x ∈ out.take p ∨ x ∈ out.drop p := by
      conv => lhs; rw [hsp]
      exact List.mem_append
    rw [hm]
    simp only [List.mem_append, List.mem_singleton]
    constructor
    · rintro (h | h | h)
      · exact .inl (.inl h)
      · exact .inr h
      · exact .inl (.inr h)
    · rintro ((h | h) | h)
      · exact .inl h
      · exact .inr (.inr h)
      · exact .inr (.inl h)
end Go.Proofs.Ytokkmofcijfmiab

namespace Go.Proofs.Ytokkmofcijfmiab
open Go.RowKit

theorem u64_infoT : (Try.prog.info? 36).map (fun i => (i.zero, i.size, i.bytes)) = some (some (.int .u64 0), 1, 8) := by kernel_rfl
theorem cells_u64T : Try.prog.cellsOf 36 = 1 := by kernel_rfl
set_option maxRecDepth 100000 in
set_option maxHeartbeats 4000000 in
theorem arr_eqT (L : List Nat) (hl : L.length = 16) (W : World) : (Op.equalIn 9999 37 (.agg (buL L)) (.agg (buL L))).run Try.prog W = .ok true W := by
  obtain ⟨a0, a1, a2, a3, a4, a5, a6, a7, a8, a9, a10, a11, a12, a13, a14, a15, rfl⟩ := bu_cases hl
  obtain ⟨i0, hi0, _, _, _⟩ := info_parts u64_infoT
  show (Op.equalIn 9999 37 (.agg #[.int .u64 (a0 : Int), .int .u64 (a1 : Int), .int .u64 (a2 : Int), .int .u64 (a3 : Int), .int .u64 (a4 : Int), .int .u64 (a5 : Int), .int .u64 (a6 : Int), .int .u64 (a7 : Int), .int .u64 (a8 : Int), .int .u64 (a9 : Int), .int .u64 (a10 : Int), .int .u64 (a11 : Int), .int .u64 (a12 : Int), .int .u64 (a13 : Int), .int .u64 (a14 : Int), .int .u64 (a15 : Int)]) (.agg #[.int .u64 (a0 : Int), .int .u64 (a1 : Int), .int .u64 (a2 : Int), .int .u64 (a3 : Int), .int .u64 (a4 : Int), .int .u64 (a5 : Int), .int .u64 (a6 : Int), .int .u64 (a7 : Int), .int .u64 (a8 : Int), .int .u64 (a9 : Int), .int .u64 (a10 : Int), .int .u64 (a11 : Int), .int .u64 (a12 : Int), .int .u64 (a13 : Int), .int .u64 (a14 : Int), .int .u64 (a15 : Int)])).run Try.prog W = _
  rw [run_equalIn_array W 9998 _ _ Try.underlying37 hi0, cells_u64T, show List.range 16 = [0, 1, 2, 3, 4, 5, 6, 7, 8, 9, 10, 11, 12, 13, 14, 15] from rfl]
  simp only [Op.eqItems]
  go_simp
theorem bu_ext (r : Nat) (L : List Nat) (hl : L.length = 16) : (buC r L).extract 1 17 = buL L := by
  obtain ⟨a0, a1, a2, a3, a4, a5, a6, a7, a8, a9, a10, a11, a12, a13, a14, a15, rfl⟩ := bu_cases hl
  rfl
theorem burl_eqT (t : TypeId) (h : t = 39 ∨ t = 66) (r : Nat) (L : List Nat) (hl : L.length = 16) (W : World) : (Op.equalIn 10000 t (.agg (buC r L)) (.agg (buC r L))).run Try.prog W = .ok true W := by
  have ha := arr_eqT L hl W
  have h0 := buC_0 r L
  have he := bu_ext r L hl
  generalize buC r L = cs at h0 he ⊢
  generalize buL L = ls at ha he
  rcases h with rfl | rfl
  · rw [run_equalIn_agg W 9999 _ _ _ (by kernel_rfl) (by kernel_rfl)]
    go_simp
  · rw [run_equalIn_agg W 9999 _ _ _ (by kernel_rfl) (by kernel_rfl)]
    go_simp
theorem burl_eqlC (t : TypeId) (h : t = 39 ∨ t = 66) (i j : Nat) (r : Nat) (L : List Nat) (hl : L.length = 16) (W : World) : ((do eqGuard .eql t (.tmp i) (.tmp j) (.agg (buC r L)) (.agg (buC r L)); binOp .eql t (.agg (buC r L)) (.agg (buC r L))) : Sem Value).run Try.prog W = .ok (.bool true) W := by
  have ha := arr_eqT L hl W
  have h0 := buC_0 r L
  have he := bu_ext r L hl
  generalize buC r L = cs at h0 he ⊢
  generalize buL L = ls at ha he
  rcases h with rfl | rfl <;> go_simp
end Go.Proofs.Ytokkmofcijfmiab

namespace Go.Proofs.Ytokkmofcijfmiab
open Go.RowKit

set_option maxHeartbeats 1000000 in
theorem good_any (k n : Int) (s : ByteArray) (w : World) (hs : s.size ≤ maxLen) :
    Calls Try.prog 55 #[.agg #[.int .i64 k, .int .i64 n, .string s]] w fun e w' => e = .returned (.bool (goodB k n s)) ∧ Below w.heap.size w w' := by
  unfold maxLen at hs
  go_enter Try.func55, Try.ntmps55
  go_wp2
  all_goals go_ret
  all_goals refine ⟨ret_bool ?_, b0 _ _⟩
  all_goals unfold goodB
  all_goals rw [Bool.eq_iff_iff]
  all_goals simp only [beq_iff_eq, beq_eq_false_iff_ne, decide_eq_true_eq, isEmpty_iff, Bool.false_eq_true, false_iff] at *
  all_goals omega
end Go.Proofs.Ytokkmofcijfmiab

namespace Go.Proofs.Ytokkmofcijfmiab
open Go.RowKit

/-- A value is nothing. -/
def noneB (k n : Int) (s : ByteArray) : Bool := decide (k = 0 ∧ n = 0 ∧ s.size = 0)
end Go.Proofs.Ytokkmofcijfmiab

namespace Go.Proofs.Ytokkmofcijfmiab
open Go.RowKit

end Go.Proofs.Ytokkmofcijfmiab
