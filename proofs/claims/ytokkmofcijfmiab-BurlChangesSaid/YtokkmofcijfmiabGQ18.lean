/-
  WHAT IS PROVED: plain facts: what an operation leaves of a value (doV). Over any program that bears the types named. · plain facts: good cells are good ones that rise; so are they with a good value set at a key; a good operation leaves a good value of a good value. No call is spoken of. · a call with any operands, in a region that doesn't draw its order. Over any program that bears the types named. · the document's value of a number (spinneyref01.Int). Condition: none.
-/
import Derived.Test.YtokkmofcijfmiabOpRef
import Derived.Test.YtokkmofcijfmiabBcMath
import Derived.Test.YtokkmofcijfmiabFast4
import Derived.Test.YtokkmofcijfmiabBase
namespace Go.Proofs.Ytokkmofcijfmiab
open Go.RowKit

/-- A pair of a value and an error's number. -/
abbrev pairV (k n : Int) (s : ByteArray) (e : Int) : Value := .tuple #[.agg #[.int .i64 k, .int .i64 n, .string s], .int .i64 e]

/-- What is left: kind, number, text, error. -/
def doV (K ka na kb nb kv nv : Int) (sa sb sv : ByteArray) : Int × Int × ByteArray × Int :=
  if K = 1 then (ka, na, sa, 0)
  else if K = 2 then (if kv = 0 then (kv, nv, sv, 5) else (0, 0, ⟨#[]⟩, 0))
  else if K = 3 then
    (if kv = 1 ∧ ka = 1 then (if -9223372036854775808 ≤ nv + na ∧ nv + na ≤ 9223372036854775807 then (1, nv + na, ⟨#[]⟩, 0) else (kv, nv, sv, 12)) else (kv, nv, sv, 13))
  else if K = 4 then (if kv = ka ∧ nv = na ∧ sv.data.toList = sa.data.toList then (kb, nb, sb, 0) else (kv, nv, sv, 14))
  else (kv, nv, sv, 2)
/-- What stands in outcome's answer: nothing beside an error. -/
def outV (K ka na kb nb kv nv : Int) (sa sb sv : ByteArray) : Int × Int × ByteArray × Int :=
  if (doV K ka na kb nb kv nv sa sb sv).2.2.2 = 0 then doV K ka na kb nb kv nv sa sb sv else (0, 0, ⟨#[]⟩, (doV K ka na kb nb kv nv sa sb sv).2.2.2)

theorem bytes_eq {a b : ByteArray} (h : a.data.toList = b.data.toList) : a = b := by
  cases a; cases b
  simp only [ByteArray.mk.injEq]
  exact Array.toList_inj.1 h
theorem doV_put (ka na kb nb kv nv : Int) (sa sb sv : ByteArray) : doV 1 ka na kb nb kv nv sa sb sv = (ka, na, sa, 0) := by unfold doV; rw [if_pos rfl]
theorem doV_del0 (ka na kb nb nv : Int) (sa sb sv : ByteArray) : doV 2 ka na kb nb 0 nv sa sb sv = (0, nv, sv, 5) := by unfold doV; rw [if_neg (by decide), if_pos rfl, if_pos rfl]
theorem doV_del1 (ka na kb nb kv nv : Int) (sa sb sv : ByteArray) (z : kv ≠ 0) : doV 2 ka na kb nb kv nv sa sb sv = (0, 0, ⟨#[]⟩, 0) := by unfold doV; rw [if_neg (by decide), if_pos rfl, if_neg z]
theorem doV_sum (na kb nb nv : Int) (sa sb sv : ByteArray) (h : -9223372036854775808 ≤ nv + na ∧ nv + na ≤ 9223372036854775807) : doV 3 1 na kb nb 1 nv sa sb sv = (1, nv + na, ⟨#[]⟩, 0) := by
  unfold doV; rw [if_neg (by decide), if_neg (by decide), if_pos rfl, if_pos ⟨rfl, rfl⟩, if_pos h]
theorem doV_over (na kb nb nv : Int) (sa sb sv : ByteArray) (h : ¬ (-9223372036854775808 ≤ nv + na ∧ nv + na ≤ 9223372036854775807)) : doV 3 1 na kb nb 1 nv sa sb sv = (1, nv, sv, 12) := by
  unfold doV; rw [if_neg (by decide), if_neg (by decide), if_pos rfl, if_pos ⟨rfl, rfl⟩, if_neg h]
theorem doV_kind (ka na kb nb kv nv : Int) (sa sb sv : ByteArray) (h : ¬ (kv = 1 ∧ ka = 1)) : doV 3 ka na kb nb kv nv sa sb sv = (kv, nv, sv, 13) := by
  unfold doV; rw [if_neg (by decide), if_neg (by decide), if_pos rfl, if_neg h]
theorem doV_cas (na kb nb nv kv ka : Int) (sa sb sv : ByteArray) (h : kv = ka ∧ nv = na ∧ sv.data.toList = sa.data.toList) : doV 4 ka na kb nb kv nv sa sb sv = (kb, nb, sb, 0) := by
  unfold doV; rw [if_neg (by decide), if_neg (by decide), if_neg (by decide), if_pos rfl, if_pos h]
theorem doV_case (na kb nb nv kv ka : Int) (sa sb sv : ByteArray) (h : ¬ (kv = ka ∧ nv = na ∧ sv.data.toList = sa.data.toList)) : doV 4 ka na kb nb kv nv sa sb sv = (kv, nv, sv, 14) := by
  unfold doV; rw [if_neg (by decide), if_neg (by decide), if_neg (by decide), if_pos rfl, if_neg h]
theorem doV_none (K na kb nb nv kv ka : Int) (sa sb sv : ByteArray) (h1 : K ≠ 1) (h2 : K ≠ 2) (h3 : K ≠ 3) (h4 : K ≠ 4) : doV K ka na kb nb kv nv sa sb sv = (kv, nv, sv, 2) := by
  unfold doV; rw [if_neg h1, if_neg h2, if_neg h3, if_neg h4]
theorem outV_ok {K ka na kb nb kv nv k n : Int} {sa sb sv s : ByteArray} (h : doV K ka na kb nb kv nv sa sb sv = (k, n, s, 0)) : outV K ka na kb nb kv nv sa sb sv = (k, n, s, 0) := by
  unfold outV
  rw [h]
  exact if_pos rfl
theorem outV_no {K ka na kb nb kv nv k n e : Int} {sa sb sv s : ByteArray} (h : doV K ka na kb nb kv nv sa sb sv = (k, n, s, e)) (he : e ≠ 0) : outV K ka na kb nb kv nv sa sb sv = (0, 0, ⟨#[]⟩, e) := by
  unfold outV
  rw [h]
  exact if_neg he
theorem quad {a b d : Int} {c : ByteArray} {a' b' d' : Int} {c' : ByteArray} (h : (a, b, c, d) = (a', b', c', d')) : a = a' ∧ b = b' ∧ c = c' ∧ d = d' := by simpa using h

theorem doV_err {K ka na kb nb kv nv k n e : Int} {sa sb sv s : ByteArray} (h : doV K ka na kb nb kv nv sa sb sv = (k, n, s, e)) (he : e ≠ 0) : k = kv ∧ n = nv ∧ s = sv := by
  unfold doV at h
  repeat' split at h
  all_goals
    obtain ⟨rfl, rfl, rfl, rfl⟩ := quad h
    first
      | exact ⟨rfl, rfl, rfl⟩
      | exact absurd rfl he

end Go.Proofs.Ytokkmofcijfmiab

namespace Go.Proofs.Ytokkmofcijfmiab
open Go.RowKit

open Classical in
theorem good_rise {l : List Cl} (h : goodCls l = true) : Rise l := by
  have g : ∀ i x, l[i]? = some x → ∀ y, 0 < i → l[i - 1]? = some y → clLt y x = true := by
    unfold goodCls goodLs at h
    rw [decide_eq_true_eq] at h
    exact fun i x hx => (h i x hx).2
  have k : ∀ d i (hj : i + d + 1 < l.length) (hi : i < l.length), ltB l[i].ky.data.toList l[i + d + 1].ky.data.toList = true := by
    intro d
    induction d with
    | zero =>
      intro i hj hi
      exact g (i + 0 + 1) _ (List.getElem?_eq_getElem hj) _ (by omega) (by rw [show i + 0 + 1 - 1 = i by omega]; exact List.getElem?_eq_getElem hi)
    | succ d ih =>
      intro i hj hi
      have h1 := ih i (by omega) hi
      have h2 : clLt l[i + d + 1] l[i + (d + 1) + 1] = true := g (i + (d + 1) + 1) _ (List.getElem?_eq_getElem hj) _ (by omega) (by rw [show i + (d + 1) + 1 - 1 = i + d + 1 by omega]; exact List.getElem?_eq_getElem (by omega))
      exact ltB_trans h1 h2
  unfold Rise
  rw [List.pairwise_iff_getElem]
  intro i j hi hj hij
  have h1 := k (j - i - 1) i (by omega) hi
  have e : i + (j - i - 1) + 1 = j := by omega
  simp only [e] at h1
  exact h1
theorem rise_good {l : List Cl} (h : Rise l) (hg : ∀ c, c ∈ l → c.good = true) : goodCls l = true := by
  refine goodLs_yes fun i hi x hx => ⟨hg x (List.mem_of_getElem? hx), fun y h0 hy => ?_⟩
  unfold Rise at h
  rw [List.pairwise_iff_getElem] at h
  obtain ⟨h1, rfl⟩ := List.getElem?_eq_some_iff.1 hx
  obtain ⟨h2, rfl⟩ := List.getElem?_eq_some_iff.1 hy
  exact h (i - 1) i h2 h1 (by omega)
/-- A good value in an int's reach. -/
def OkV (v : Vl) : Prop := goodB v.1 v.2.1 v.2.2 = true ∧ -9223372036854775808 ≤ v.2.1 ∧ v.2.1 ≤ 9223372036854775807
theorem OkV.no : OkV noV := ⟨by decide, by decide, by decide⟩
theorem okV_at {ky : ByteArray} {l : List Cl} (hg : goodCls l = true) (hf : ∀ c, c ∈ l → c.fits) : OkV (atV ky l) := by
  rcases at_mem (ky := ky) (l := l) with h | ⟨c, h1, _, h3⟩
  · rw [h]
    exact OkV.no
  · rw [h3]
    exact ⟨(cl_in (goodLs_mem hg h1)).2.2.2.2, (hf c h1).2.2.1, (hf c h1).2.2.2⟩
theorem set_good {ky : ByteArray} {l : List Cl} {v : Vl} (hg : goodCls l = true) (hf : ∀ c, c ∈ l → c.fits) (hk : keyB ky.data.toList = true) (hv : OkV v) : goodCls (setK ky v l) = true ∧ ∀ c, c ∈ setK ky v l → c.fits := by
  have hR := good_rise hg
  have hks : ky.data.toList.length ≤ 20 := (keyB_all hk).2.2
  have hkl : ky.data.toList.length = ky.size := Array.length_toList
  have hvs : v.2.2.size ≤ 40 := (goodB_in hv.1).2
  have hM : v.1 ≠ 0 → (mkC ky v).good = true := by
    intro h0
    unfold Cl.good clGoodB
    simp only [Bool.and_eq_true, Bool.not_eq_true', beq_eq_false_iff_ne]
    exact ⟨hk, hv.1, h0⟩
  refine ⟨rise_good (rise_set hR v) fun c hc => ?_, fun c hc => ?_⟩
  · rcases set_mem hR v hc with h | ⟨h0, rfl⟩
    · exact goodLs_mem hg h
    · exact hM h0
  · rcases set_mem hR v hc with h | ⟨h0, rfl⟩
    · exact hf c h
    · refine ⟨?_, ?_, hv.2.1, hv.2.2⟩
      · show ky.size ≤ maxLen
        unfold maxLen
        omega
      · show v.2.2.size ≤ maxLen
        unfold maxLen
        omega
/-- What a good operation leaves of a good value is good. -/
theorem do_ok {K ka na kb nb kv nv : Int} {ky sa sb sv : ByteArray} (h : opB K ky ka na sa kb nb sb = true) (hv : OkV (kv, nv, sv)) (ha : -9223372036854775808 ≤ na ∧ na ≤ 9223372036854775807) (hb : -9223372036854775808 ≤ nb ∧ nb ≤ 9223372036854775807) {k n er : Int} {s : ByteArray} (hd : doV K ka na kb nb kv nv sa sb sv = (k, n, s, er)) : OkV (k, n, s) := by
  unfold opB at h
  simp only [Bool.and_eq_true] at h
  obtain ⟨⟨⟨-, h1⟩, h2⟩, -⟩ := h
  have c0 : OkV (0, 0, ⟨#[]⟩) := OkV.no
  have c1 : ∀ x : Int, -9223372036854775808 ≤ x ∧ x ≤ 9223372036854775807 → OkV (1, x, ⟨#[]⟩) := fun x hx => ⟨by unfold goodB; rw [decide_eq_true_eq]; exact .inr (.inl ⟨rfl, rfl⟩), hx.1, hx.2⟩
  unfold doV at hd
  repeat' split at hd
  all_goals obtain ⟨rfl, rfl, rfl, -⟩ := quad hd
  all_goals
    first
      | exact ⟨h1, ha.1, ha.2⟩
      | exact ⟨h2, hb.1, hb.2⟩
      | exact c0
      | exact c1 _ (by assumption)
      | exact hv
end Go.Proofs.Ytokkmofcijfmiab

namespace Go.Proofs.Ytokkmofcijfmiab
open Go.RowKit
section
variable {l : List Oper} {Q : Exit → Act → World → Prop} {rest : List Oper} {a0 : Act} {L : List (Nat × Bool × Value)} {w : World}
theorem callv_is {f : FuncId} (he : ∀ args w, (callFunc f args).run Try.prog w = .ok (.enter f args) w) (d : Option Tmp) (xs : Array Operand) (ts : Array TypeId) (ty : TypeId) (p : String) (af : Array Edge) (gd : Option (Nat × Bool)) (ρ : Operand → Value) (vs : Array Value) (h : xs.map ρ = vs) (hf : ρ (.func f) = .func (.func f) #[] #[]) : (execOp ρ ⟨d, .call { callee := .value (.func f), args := xs, argTypes := ts }, ty, p, af, gd⟩).run Try.prog w = .ok (.enter f vs) w := by
  subst h
  unfold execOp
  dsimp only
  go_simp
theorem g_cvx {f : FuncId} {xs : Array Operand} {d n : Nat} {vs : Array Value} {R : Value → World → Prop} {ts : Array TypeId} {ty : TypeId} {p : String} {af : Array Edge} {gd : Option (Nat × Bool)} (he : ∀ args w, (callFunc f args).run Try.prog w = .ok (.enter f args) w) (hn : a0.tmps.size = n) (hv : (∀ p, p ∈ L → p.1 < a0.tmps.size) → xs.map (fr a0 L).eval = vs) (hc : Calls Try.prog f vs w fun e w' => ∃ v, e = .returned v ∧ R v w') (h : ∀ v w2, R v w2 → FL Try.prog l Q rest a0 ((d, true, v) :: L) w2) (hd : Nat.blt d n = true := by rfl) (hw : wtG l L gd = some true := by rfl) : FL Try.prog l Q (⟨some d, .call { callee := .value (.func f), args := xs, argTypes := ts }, ty, p, af, gd⟩ :: rest) a0 L w :=
  fl_callx hn rfl hd hw (fun hk => callv_is he _ _ _ _ _ _ _ _ vs (hv hk) rfl) hc h
end
end Go.Proofs.Ytokkmofcijfmiab

namespace Go.Proofs.Ytokkmofcijfmiab
open Go.RowKit

set_option maxHeartbeats 400000 in
theorem refInt_any (n : Int) (w : World) :
    Calls Try.prog 50 #[.int .i64 n] w fun e w' => e = .returned (.agg #[.int .i64 1, .int .i64 n, .string ⟨#[]⟩]) ∧ Below w.heap.size w w' := by
  go_enter Try.func50, Try.ntmps50
  go_wp2
  exact bodyPost_ret (v := .agg #[.int .i64 1, .int .i64 n, .string ⟨#[]⟩]) (by simp [results, Try.results50, go_sem]) rfl ⟨rfl, (Below.refl _ _).alloc (Nat.le_refl _) _⟩
end Go.Proofs.Ytokkmofcijfmiab
