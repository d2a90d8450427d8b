/-
  WHAT IS PROVED: ranges over a map, with the iterator anywhere; maps.Clone of a file's blocks; a disk copied. Conditions: those typed in each theorem.
-/
import Derived.Test.YtgbopikhdpmmcaaDoorSlFlush
import Derived.Laws.IdiomRangeMap
import Derived.Shelf.SlMaps.Clone
namespace Go.Proofs.YtgbopikhdpmmcaaDoor
open Go.RowKit Go.MapKept

section
variable {P : Program}
theorem heapset_at {W : World} {r : Nat} {o o2 : Obj} (h : W.heap[r]? = some o) : (W.heap.setIfInBounds r o2)[r]? = some o2 := by
  have := (Array.getElem?_eq_some_iff.1 h).1
  rw [Array.getElem?_setIfInBounds_self, if_pos this]
theorem run_next_at (W : World) (ty : TypeId) (r bm since c0 : Nat) (seen : Array Nat) (es : Array MapEntry) (clock : Nat) (hi : W.heap[r]? = some (.mapIter (some bm) since seen c0)) (hb : W.heap[bm]? = some (.map es clock)) (hold : ∀ x ∈ es.toList, x.born < since) (hsc : since ≤ c0) :
    ((leftOf es seen).size = 0 ∧ (Instr.next (.pointer (some ⟨r, 0, none⟩)) false ty).run P W = .ok (.tuple #[.bool false]) W) ∨
    ∃ e ∈ (leftOf es seen).toList, ∃ W' : World, Only1 r W W' ∧ W'.heap[r]? = some (.mapIter (some bm) since (seen.push e.born) clock) ∧ (Instr.next (.pointer (some ⟨r, 0, none⟩)) false ty).run P W = .ok (.tuple #[.bool true, e.key, e.val]) W' := by
  simp only [Instr.next, getObj, Sem.run_bind, Sem.run, hi, hb, Result.andThen, next_test_false seen es since c0 hold hsc, Bool.false_eq_true, if_false]
  unfold leftOf
  have hmem : ∀ x ∈ (Array.filter (fun e => !seen.contains e.born) es).toList, x.born < since := fun x hx => hold x (by simp at hx ⊢; exact hx.1)
  generalize Array.filter (fun e => !seen.contains e.born) es = L at hmem ⊢
  have e1 : L.filter (fun x => decide (x.born < since)) = L := Array.filter_eq_self.2 (fun x hx => by simpa using hmem x (by simpa using hx))
  have e2 : L.filter (fun x => decide (x.born ≥ since)) = #[] := by
    rw [Array.filter_eq_empty_iff]
    intro x hx
    have := hmem x (by simpa using hx)
    simp
    omega
  simp only [e1, e2, Array.append_empty]
  by_cases h0 : L.size = 0
  · left
    have : L = #[] := Array.eq_empty_of_size_eq_zero h0
    subst this
    refine ⟨rfl, ?_⟩
    simp [choose, Sem.run, Question.forced]
  · right
    have hne : L.isEmpty = false := by simp [Array.isEmpty, h0]
    simp only [hne, Bool.false_eq_true, if_false, Array.empty_append, Array.size_map]
    have hch : ∃ (j : Nat) (W1 : World), j < L.size ∧ Only1 r W W1 ∧ W1.heap[r]? = W.heap[r]? ∧ (choose (Question.mapNext L.size)).run P W = .ok j W1 := by
      by_cases hf : L.size ≤ 1
      · exact ⟨0, W, by omega, Only1.refl _ _, rfl, by simp [choose, Sem.run, Question.forced, hf]⟩
      · exact ⟨_, W.drew, Nat.mod_lt _ (by omega), ⟨rfl, rfl, rfl, rfl, fun _ _ => rfl⟩, rfl, by
          simp only [choose, Sem.run, Question.forced, decide_eq_true_eq, hf, if_false, Question.cut]
          rfl⟩
    obtain ⟨j, W1, hj, ho, hr, hrun⟩ := hch
    have hr1 := hr.trans hi
    refine ⟨L[j], by simp, { W1 with heap := W1.heap.setIfInBounds r (.mapIter (some bm) since (seen.push L[j].born) clock) }, ho.trans (only_set _ _ _), heapset_at hr1, ?_⟩
    have hset : ∀ (o' : Obj), (setObj r o').run P W1 = .ok () { W1 with heap := W1.heap.setIfInBounds r o' } := fun o' => by
      simp only [setObj, Sem.run]
      rw [hr1]
    simp only [hrun, Array.getElem?_map, Array.getElem?_eq_getElem hj, Option.map_some, Sem.run_bind, hset, Result.andThen]
    rfl
theorem run_entry_at (W : World) (r bm since : Nat) (seen : Array Nat) (es : Array MapEntry) (clock : Nat) (e : MapEntry) (hi : W.heap[r]? = some (.mapIter (some bm) since (seen.push e.born) clock)) (hb : W.heap[bm]? = some (.map es clock)) (he : e ∈ es.toList) (hn : (es.toList.map (·.born)).Nodup) :
    (Instr.entry (.pointer (some ⟨r, 0, none⟩))).run P W = .ok (.tuple #[e.key, e.val]) W := by
  have hf : es.find? (·.born == e.born) = some e := by rw [← Array.find?_toList]; exact find_born e es.toList hn he
  simp only [Instr.entry, getObj, Sem.run_bind, Sem.run, hi, hb, Result.andThen, Array.back?_push, bne_self_eq_false, Bool.false_eq_true, if_false, hf]
  rfl
/-- What an iterator has handed out. -/
def seenAt (W : World) (r : Nat) : Array Nat := match W.heap[r]? with
  | some (.mapIter _ _ s _) => s
  | _ => #[]
theorem seenAt_is {W : World} {r : Nat} {a : Option Nat} {b c : Nat} {s : Array Nat} (h : W.heap[r]? = some (.mapIter a b s c)) : seenAt W r = s := by
  unfold seenAt
  rw [h]
end
/-! maps.Clone. -/
theorem enters_Clone : ∀ args w, (callFunc 48 args).run Tryd.prog w = .ok (.enter 48 args) w := enters_of Tryd.func48 (by kernel_rfl) rfl

def ClnR (g : Int → Option Value) (W : World) (v : Value) (W' : World) : Prop := v = .map (some W.heap.size) ∧ MpI W' W.heap.size g ∧ Below W.heap.size W W' ∧ W'.heap.size = W.heap.size + 1
theorem cln_al {W : World} {c : Nat} {es : Array MapEntry} {clock : Nat} {g : Int → Option Value} (_hb : W.heap[c]? = some (.map es clock)) (h : Stamped es clock ∧ (∀ e, e ∈ es.toList → ∃ n, e.key = .int .i64 n ∧ g n = some e.val) ∧ ∀ n v, g n = some v → ∃ e, e ∈ es.toList ∧ e.key = .int .i64 n ∧ e.val = v) : ClnR g W (.map (some W.heap.size)) (W.alloc (.map es clock)) :=
  ⟨rfl, ⟨es, clock, heap_alloc_new _ _, h⟩, b0 W _, by simp⟩
set_option maxRecDepth 100000 in
set_option maxHeartbeats 4000000 in
theorem clone_mpi (c : Nat) (g : Int → Option Value) (W : World) (hm : MpI W c g) : Calls Tryd.prog 48 #[.map (some c)] W fun e W' => ∃ v, e = .returned v ∧ ClnR g W v W' := by
  obtain ⟨es, clock, hb, h⟩ := hm
  have hq := fun w => run_eql_map_nil_sl (P := Tryd.prog) w 89 _ _ (some c) mUnd2
  go_enter Tryd.func48, Tryd.ntmps48
  go_wp2_with fail
  rw [run_callFunc_extern Tryd.func54 (by kernel_rfl) (by kernel_rfl) (by kernel_rfl) (e := Extern.MapsClone.clone) (by kernel_rfl), run_maps_clone_sl W 89 hb]
  simp only [Result.andThen]
  rw [Oper.upon_value]
  have R : Hid (ClnR g W (.map (some W.heap.size)) (W.alloc (.map es clock))) := cln_al hb h
  clear hb h hq
  generalize W.alloc (.map es clock) = W2 at R ⊢
  go_wp2_with fail
  rw [run_typeAssert_map_sl _ 89 _ _ _ _ mUnd2]
  simp only [Result.andThen]
  rw [Oper.upon_value]
  go_wp2_with fail
  go_ret
  exact ⟨_, rfl, R.out⟩
end Go.Proofs.YtgbopikhdpmmcaaDoor
