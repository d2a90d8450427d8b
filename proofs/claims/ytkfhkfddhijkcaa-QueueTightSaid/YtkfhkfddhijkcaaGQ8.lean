/-
  WHAT IS PROVED: words for maps from numbers, over any program: a block's entries told as a partial function; what a look, a store, a delete, a new map, a copy do to it. Conditions: those typed in each theorem. · calls of function values, and looks into maps with 'comma ok', as laws for chains. Conditions: those typed in each theorem.
-/
import Derived.Test.YtkfhkfddhijkcaaGQ4
import Derived.MapKept
import Derived.Below
import Derived.Laws.IdiomRangeMap
import Derived.Test.YtkfhkfddhijkcaaGQ5
namespace Go.Proofs.Ytkfhkfddhijkcaa
open Go.RowKit Go.MapKept

/-- Block b is a map from numbers that has v at n, just if f tells so. -/
def MpI (W : World) (b : Nat) (f : Int → Option Value) : Prop :=
  ∃ es clock, W.heap[b]? = some (.map es clock) ∧ Stamped es clock ∧ (∀ e, e ∈ es.toList → ∃ n, e.key = .int .i64 n ∧ f n = some e.val) ∧ ∀ n v, f n = some v → ∃ e, e ∈ es.toList ∧ e.key = .int .i64 n ∧ e.val = v
/-- The same, but at n. -/
def upd (f : Int → Option Value) (n : Int) (v : Option Value) : Int → Option Value := fun m => if m = n then v else f m
theorem upd_at (f : Int → Option Value) (n : Int) (v : Option Value) : upd f n v n = v := if_pos rfl
theorem upd_ne {f : Int → Option Value} {n m : Int} {v : Option Value} (h : m ≠ n) : upd f n v m = f m := if_neg h
theorem MpI.lt {W : World} {b : Nat} {f : Int → Option Value} (h : MpI W b f) : b < W.heap.size := by
  obtain ⟨es, clock, hb, -⟩ := h
  exact (Array.getElem?_eq_some_iff.1 hb).1
theorem MpI.same {W W' : World} {b : Nat} {f : Int → Option Value} (h : MpI W b f) (hk : W'.heap[b]? = W.heap[b]?) : MpI W' b f := by
  obtain ⟨es, clock, hb, h2⟩ := h
  exact ⟨es, clock, hk.trans hb, h2⟩
theorem MpI.keep {W W' : World} {b B : Nat} {f : Int → Option Value} (h : MpI W b f) (hb : Below B W W') (hB : b < B) : MpI W' b f := h.same (hb.block b hB)
theorem MpI.other {W W' : World} {b c : Nat} {f : Int → Option Value} (h : MpI W b f) (ho : Only1 c W W') (hne : b ≠ c) : MpI W' b f := h.same (ho.block b hne)
theorem key_int {n m : Int} (h : Value.int .i64 n = .int .i64 m) : n = m := by injection h
theorem keys_of {es : Array MapEntry} {f : Int → Option Value} (h : ∀ e, e ∈ es.toList → ∃ n, e.key = .int .i64 n ∧ f n = some e.val) : ∀ x ∈ es.toList, IsKey (.int .i64) x.key := fun x hx => by
  obtain ⟨n, hn, -⟩ := h x hx
  rw [hn]
  rfl
theorem mpi_new (W : World) : MpI (W.alloc (.map #[] 0)) W.heap.size (fun _ => none) :=
  ⟨#[], 0, by show (W.heap.push _)[W.heap.size]? = _; simp, stamped_empty 0, fun e he => by simp at he, fun n v h => by cases h⟩
section
variable {P : Program} {t k e : TypeId} {W : World} {b : Nat} {f : Int → Option Value}
theorem run_lookI (hm : P.underlying t = some (.map k e)) (hd : P.underlying k = some (.int .i64)) {z : Value} (hz : (zeroValue e).run P W = .ok z W) (h : MpI W b f) (n : Int) :
    (Instr.lookup t (.map (some b)) (.int .i64 n) false).run P W = .ok ((f n).getD z) W := by
  obtain ⟨es, clock, hb, hs, h1, h2⟩ := h
  have hk : IsKey (.int .i64) (.int .i64 n) := rfl
  rcases findNow_spec hk es.toList 0 (keys_of h1) with ⟨g1, g2⟩ | ⟨j, x, g1, g2, g3⟩
  · have hf : f n = none := by
      cases hf : f n with
      | none => rfl
      | some v =>
        obtain ⟨y, hy, ky, -⟩ := h2 n v hf
        exact absurd ky (g2 y hy)
    simp [Instr.lookup, run_underlying hm, MapKept.run_getObj_map hb, run_checkKey hd hk, run_findKey hd g1, Result.andThen, hz, hf]
  · obtain ⟨m, hm', hf⟩ := h1 x (List.mem_of_getElem? g2)
    have : m = n := key_int (hm'.symm.trans g3)
    subst this
    simp [Instr.lookup, run_underlying hm, MapKept.run_getObj_map hb, run_checkKey hd hk, run_findKey hd g1, Result.andThen, hf]
theorem run_lookNil (hm : P.underlying t = some (.map k e)) (hd : P.underlying k = some (.int .i64)) {z : Value} (hz : (zeroValue e).run P W = .ok z W) (n : Int) :
    (Instr.lookup t (.map none) (.int .i64 n) false).run P W = .ok z W := by
  have hk : IsKey (.int .i64) (.int .i64 n) := rfl
  have g1 : Instr.findNow (.int .i64) (.int .i64 n) [] 0 = some none := rfl
  simp [Instr.lookup, run_underlying hm, run_checkKey hd hk, run_findKey hd g1, Result.andThen, hz]
theorem run_putI (hm : P.underlying t = some (.map k e)) (hd : P.underlying k = some (.int .i64)) (h : MpI W b f) (n : Int) (v : Value) :
    ∃ W', (Instr.mapUpdate t (.map (some b)) (.int .i64 n) v).run P W = .ok () W' ∧ Only1 b W W' ∧ MpI W' b (upd f n (some v)) := by
  obtain ⟨es, clock, hb, hs, h1, h2⟩ := h
  have hk : IsKey (.int .i64) (.int .i64 n) := rfl
  rcases findNow_spec hk es.toList 0 (keys_of h1) with ⟨g1, g2⟩ | ⟨j, x, g1, g2, g3⟩
  · refine ⟨{ W with heap := W.heap.setIfInBounds b (.map (es.push { key := .int .i64 n, val := v, born := clock }) (clock + 1)) }, by simp [Instr.mapUpdate, run_underlying hm, MapKept.run_getObj_map hb, run_checkKey hd hk, run_findKey hd g1, run_setObj_map _ hb, Result.andThen], only_set _ _ _, _, _, (heap_set hb).1, stamped_push hs g2, ?_, ?_⟩
    · intro y hy
      simp only [Array.toList_push, List.mem_append, List.mem_singleton] at hy
      rcases hy with hy | rfl
      · obtain ⟨m, hm', hf⟩ := h1 y hy
        have hne : m ≠ n := fun q => g2 y hy (by rw [hm', q])
        exact ⟨m, hm', by rw [upd_ne hne]; exact hf⟩
      · exact ⟨n, rfl, upd_at ..⟩
    · intro m u hu
      by_cases q : m = n
      · subst q
        rw [upd_at] at hu
        cases hu
        exact ⟨{ key := .int .i64 m, val := v, born := clock }, by simp, rfl, rfl⟩
      · rw [upd_ne q] at hu
        obtain ⟨y, hy, ky, vy⟩ := h2 m u hu
        exact ⟨y, by simp [hy], ky, vy⟩
  · have hj : es[j]? = some x := by simpa using g2
    have hkey : ∀ e', es[j]? = some e' → ({ e' with key := .int .i64 n, val := v } : MapEntry).key = e'.key := fun e' he' => by rw [hj] at he'; cases he'; exact g3.symm
    have hlt : j < es.size := (Array.getElem?_eq_some_iff.1 hj).1
    refine ⟨{ W with heap := W.heap.setIfInBounds b (.map (es.modify j fun e => { e with key := .int .i64 n, val := v }) clock) }, by simp [Instr.mapUpdate, run_underlying hm, MapKept.run_getObj_map hb, run_checkKey hd hk, run_findKey hd g1, hj, g3, run_keyThatStays hk, run_setObj_map _ hb, Result.andThen], only_set _ _ _, _, _, (heap_set hb).1, stamped_modify hs j (fun e => { e with key := .int .i64 n, val := v }) (fun _ _ => rfl) (fun e' _ he' => hkey e' he'), ?_, ?_⟩
    · intro y hy
      obtain ⟨i, hi⟩ := List.getElem?_of_mem hy
      rw [Array.getElem?_toList, Array.getElem?_modify] at hi
      by_cases q : j = i
      · subst q
        rw [if_pos rfl, hj] at hi
        cases hi
        exact ⟨n, rfl, upd_at ..⟩
      · rw [if_neg q] at hi
        obtain ⟨m, hm', hf⟩ := h1 y (List.mem_of_getElem? ((Array.getElem?_toList ..).trans hi))
        refine ⟨m, hm', ?_⟩
        rw [upd_ne ?_]
        · exact hf
        · rintro rfl
          have hn := hs.2.2
          have e1 : (es.toList.map (·.key))[j]? = some (Value.int .i64 m) := by rw [List.getElem?_map, g2]; exact congrArg some g3
          have e2 : (es.toList.map (·.key))[i]? = some (Value.int .i64 m) := by rw [List.getElem?_map, Array.getElem?_toList, hi]; exact congrArg some hm'
          exact q ((List.getElem?_inj (by simpa using hlt) hn).1 (e1.trans e2.symm))
    · intro m u hu
      by_cases q : m = n
      · subst q
        rw [upd_at] at hu
        cases hu
        refine ⟨{ x with key := .int .i64 m, val := v }, List.mem_of_getElem? (i := j) ?_, rfl, rfl⟩
        rw [Array.getElem?_toList, Array.getElem?_modify, if_pos rfl, hj]
        rfl
      · rw [upd_ne q] at hu
        obtain ⟨y, hy, ky, vy⟩ := h2 m u hu
        obtain ⟨i, hi⟩ := List.getElem?_of_mem hy
        refine ⟨y, List.mem_of_getElem? (i := i) ?_, ky, vy⟩
        rw [Array.getElem?_toList, Array.getElem?_modify, if_neg, ← Array.getElem?_toList]
        · exact hi
        · rintro rfl
          rw [g2] at hi
          cases hi
          exact q (key_int (ky.symm.trans g3))
theorem run_delI {ty : TypeId} {ts : Array TypeId} (ht : ts[0]? = some t) (hm : P.underlying t = some (.map k e)) (hd : P.underlying k = some (.int .i64)) (h : MpI W b f) (n : Int) :
    ∃ W', (Builtin.delete_ ts ty #[.map (some b), .int .i64 n]).run P W = .ok (.tuple #[]) W' ∧ Only1 b W W' ∧ MpI W' b (upd f n none) := by
  obtain ⟨es, clock, hb, hs, h1, h2⟩ := h
  have hk : IsKey (.int .i64) (.int .i64 n) := rfl
  rcases findNow_spec hk es.toList 0 (keys_of h1) with ⟨g1, g2⟩ | ⟨j, x, g1, g2, g3⟩
  · refine ⟨{ W with heap := W.heap.setIfInBounds b (.map es clock) }, by simp [Builtin.delete_, ht, run_underlying hm, MapKept.run_getObj_map hb, run_checkKey hd hk, run_findKey hd g1, run_setObj_map _ hb, Result.andThen], only_set _ _ _, es, clock, (heap_set hb).1, hs, ?_, ?_⟩
    · intro y hy
      obtain ⟨m, hm', hf⟩ := h1 y hy
      have hne : m ≠ n := fun q => g2 y hy (by rw [hm', q])
      exact ⟨m, hm', by rw [upd_ne hne]; exact hf⟩
    · intro m u hu
      by_cases q : m = n
      · rw [q, upd_at] at hu; cases hu
      · rw [upd_ne q] at hu
        exact h2 m u hu
  · have hlt : j < es.size := by have := (List.getElem?_eq_some_iff.1 g2).1; simpa using this
    have hj : es[j]? = some x := by simpa using g2
    have hn := hs.2.2
    have eE : (es.eraseIdxIfInBounds j).toList = es.toList.eraseIdx j := by
      unfold Array.eraseIdxIfInBounds
      rw [dif_pos hlt]
      simp
    refine ⟨{ W with heap := W.heap.setIfInBounds b (.map (es.eraseIdxIfInBounds j) clock) }, by simp [Builtin.delete_, ht, run_underlying hm, MapKept.run_getObj_map hb, run_checkKey hd hk, run_findKey hd g1, run_setObj_map _ hb, Result.andThen], only_set _ _ _, _, clock, (heap_set hb).1, stamped_erase hs j, ?_, ?_⟩
    · intro y hy
      rw [eE, List.mem_eraseIdx_iff_getElem?] at hy
      obtain ⟨i, hne, hi⟩ := hy
      obtain ⟨m, hm', hf⟩ := h1 y (List.mem_of_getElem? hi)
      refine ⟨m, hm', ?_⟩
      rw [upd_ne ?_]
      · exact hf
      · rintro rfl
        have e1 : (es.toList.map (·.key))[j]? = some (Value.int .i64 m) := by rw [List.getElem?_map, g2]; exact congrArg some g3
        have e2 : (es.toList.map (·.key))[i]? = some (Value.int .i64 m) := by rw [List.getElem?_map, hi]; exact congrArg some hm'
        exact hne ((List.getElem?_inj (by simpa using hlt) hn).1 (e1.trans e2.symm)).symm
    · intro m u hu
      by_cases q : m = n
      · rw [q, upd_at] at hu; cases hu
      · rw [upd_ne q] at hu
        obtain ⟨y, hy, ky, vy⟩ := h2 m u hu
        obtain ⟨i, hi⟩ := List.getElem?_of_mem hy
        refine ⟨y, ?_, ky, vy⟩
        rw [eE, List.mem_eraseIdx_iff_getElem?]
        refine ⟨i, ?_, hi⟩
        rintro rfl
        rw [g2] at hi
        cases hi
        exact q (key_int (ky.symm.trans g3))
end
end Go.Proofs.Ytkfhkfddhijkcaa

namespace Go.Proofs.Ytkfhkfddhijkcaa
open Go.RowKit Go.MapKept

theorem callv1_is {w : World} {f : FuncId} (he : ∀ args w, (callFunc f args).run Try.prog w = .ok (.enter f args) w) (d : Option Tmp) (x y : Operand) (ts : Array TypeId) (ty : TypeId) (p : String) (af : Array Edge) (gd : Option (Nat × Bool)) (ρ : Operand → Value) (v : Value) (lb : Array Value) (h0 : ρ x = .func (.func f) #[] lb) (h1 : ρ y = v) : (execOp ρ ⟨d, .call { callee := .value x, args := #[y], argTypes := ts }, ty, p, af, gd⟩).run Try.prog w = .ok (.enter f (#[v] ++ lb)) w := by
  unfold execOp
  dsimp only
  go_simp
theorem callv2_is {w : World} {f : FuncId} (he : ∀ args w, (callFunc f args).run Try.prog w = .ok (.enter f args) w) (d : Option Tmp) (x y z : Operand) (ts : Array TypeId) (ty : TypeId) (p : String) (af : Array Edge) (gd : Option (Nat × Bool)) (ρ : Operand → Value) (u v : Value) (lb : Array Value) (h0 : ρ x = .func (.func f) #[] lb) (h1 : ρ y = u) (h2 : ρ z = v) : (execOp ρ ⟨d, .call { callee := .value x, args := #[y, z], argTypes := ts }, ty, p, af, gd⟩).run Try.prog w = .ok (.enter f (#[u, v] ++ lb)) w := by
  unfold execOp
  dsimp only
  go_simp
section
variable {l : List Oper} {Q : Exit → Act → World → Prop} {S : World → Prop} {rest : List Oper} {a0 : Act} {L : List (Nat × Bool × Value)}
theorem s_cv1 {f : FuncId} {i j d n : Nat} {g gi gj : Bool} {u v : Value} {lb : Array Value} {ts : Array TypeId} {ty : TypeId} {p : String} {af : Array Edge} {gd : Option (Nat × Bool)} (hn : a0.tmps.size = n) (he : ∀ args w, (callFunc f args).run Try.prog w = .ok (.enter f args) w) (hc : g = true → ∀ W, S W → Calls Try.prog f (#[u] ++ lb) W fun e w' => e = .returned v ∧ S w') (h : FS Try.prog l Q S rest a0 ((d, g, v) :: L)) (hd : Nat.blt d n = true := by rfl) (hw : wtG l L gd = some g := by rfl) (hl : lk L i = some (gi, .func (.func f) #[] lb) := by rfl) (hs : g = true → gi = true := by first | exact fun _ => rfl | exact id) (hl2 : lk L j = some (gj, u) := by rfl) (hs2 : g = true → gj = true := by first | exact fun _ => rfl | exact id) : FS Try.prog l Q S (⟨some d, .call { callee := .value (.tmp i), args := #[.tmp j], argTypes := ts }, ty, p, af, gd⟩ :: rest) a0 L :=
  fs_op hn rfl hd hw (fun hk hg => yv_call (fun w => callv1_is he _ _ _ _ _ _ _ _ _ u lb (lk_at hk hl hs hg) (lk_at hk hl2 hs2 hg)) (hc hg)) h
theorem s_cv2 {f : FuncId} {i j k d n : Nat} {g gi gj gk : Bool} {u u2 v : Value} {lb : Array Value} {ts : Array TypeId} {ty : TypeId} {p : String} {af : Array Edge} {gd : Option (Nat × Bool)} (hn : a0.tmps.size = n) (he : ∀ args w, (callFunc f args).run Try.prog w = .ok (.enter f args) w) (hc : g = true → ∀ W, S W → Calls Try.prog f (#[u, u2] ++ lb) W fun e w' => e = .returned v ∧ S w') (h : FS Try.prog l Q S rest a0 ((d, g, v) :: L)) (hd : Nat.blt d n = true := by rfl) (hw : wtG l L gd = some g := by rfl) (hl : lk L i = some (gi, .func (.func f) #[] lb) := by rfl) (hs : g = true → gi = true := by first | exact fun _ => rfl | exact id) (hl2 : lk L j = some (gj, u) := by rfl) (hs2 : g = true → gj = true := by first | exact fun _ => rfl | exact id) (hl3 : lk L k = some (gk, u2) := by rfl) (hs3 : g = true → gk = true := by first | exact fun _ => rfl | exact id) : FS Try.prog l Q S (⟨some d, .call { callee := .value (.tmp i), args := #[.tmp j, .tmp k], argTypes := ts }, ty, p, af, gd⟩ :: rest) a0 L :=
  fs_op hn rfl hd hw (fun hk hg => yv_call (fun w => callv2_is he _ _ _ _ _ _ _ _ _ _ u u2 lb (lk_at hk hl hs hg) (lk_at hk hl2 hs2 hg) (lk_at hk hl3 hs3 hg)) (hc hg)) h
end
section
variable {P : Program} {t k e : TypeId} {W : World} {b : Nat} {f : Int → Option Value}
theorem run_lookO (hm : P.underlying t = some (.map k e)) (hd : P.underlying k = some (.int .i64)) {z : Value} (hz : (zeroValue e).run P W = .ok z W) (h : MpI W b f) (n : Int) :
    (Instr.lookup t (.map (some b)) (.int .i64 n) true).run P W = .ok (.tuple #[(f n).getD z, .bool (f n).isSome]) W := by
  obtain ⟨es, clock, hb, hs, h1, h2⟩ := h
  have hk : IsKey (.int .i64) (.int .i64 n) := rfl
  rcases findNow_spec hk es.toList 0 (keys_of h1) with ⟨g1, g2⟩ | ⟨j, x, g1, g2, g3⟩
  · have hf : f n = none := by
      cases hf : f n with
      | none => rfl
      | some v =>
        obtain ⟨y, hy, ky, -⟩ := h2 n v hf
        exact absurd ky (g2 y hy)
    simp [Instr.lookup, run_underlying hm, MapKept.run_getObj_map hb, run_checkKey hd hk, run_findKey hd g1, Result.andThen, hz, hf]
  · obtain ⟨m, hm', hf⟩ := h1 x (List.mem_of_getElem? g2)
    have : m = n := key_int (hm'.symm.trans g3)
    subst this
    simp [Instr.lookup, run_underlying hm, MapKept.run_getObj_map hb, run_checkKey hd hk, run_findKey hd g1, Result.andThen, hf]
end
section
variable {P : Program} {w : World} {ρ : Operand → Value} {d : Option Tmp} {ty : TypeId} {p : String} {af : Array Edge} {gd : Option (Nat × Bool)}
theorem x_lko {i k : Nat} {t : TypeId} {vi vk v : Value} (h : ρ (.tmp i) = vi) (h2 : ρ (.tmp k) = vk) (hr : (Instr.lookup t vi vk true).run P w = .ok v w) : (execOp ρ ⟨d, .lookup t (.tmp i) (.tmp k) true, ty, p, af, gd⟩).run P w = .ok (.value v) w := by
  unfold execOp
  dsimp only
  rw [h, h2, Sem.run_bind, hr]; rfl
theorem x_mpu {i j k : Nat} {t : TypeId} {vi vj vk : Value} {w2 : World} (h : ρ (.tmp i) = vi) (h2 : ρ (.tmp j) = vj) (h3 : ρ (.tmp k) = vk) (hr : (Instr.mapUpdate t vi vj vk).run P w = .ok () w2) : (execOp ρ ⟨d, .mapUpdate t (.tmp i) (.tmp j) (.tmp k), ty, p, af, gd⟩).run P w = .ok .skip w2 := by
  unfold execOp
  dsimp only
  rw [h, h2, h3, Sem.run_bind, hr]; rfl
end
section
variable {P : Program} {l : List Oper} {Q : Exit → Act → World → Prop} {rest : List Oper} {a0 : Act} {L : List (Nat × Bool × Value)} {w : World}
theorem g_mpu {i j k : Nat} {t ty : TypeId} {p : String} {af : Array Edge} {gd : Option (Nat × Bool)} {vi vj vk : Value} {w2 : World} (hr : (Instr.mapUpdate t vi vj vk).run P w = .ok () w2) (h : FL P l Q rest a0 L w2) (hw : wtG l L gd = some true := by rfl) (hi : lk L i = some (true, vi) := by rfl) (hj : lk L j = some (true, vj) := by rfl) (hk : lk L k = some (true, vk) := by rfl) : FL P l Q (⟨none, .mapUpdate t (.tmp i) (.tmp j) (.tmp k), ty, p, af, gd⟩ :: rest) a0 L w :=
  fl_skip rfl hw (fun hh => x_mpu (lk_at hh hi (fun _ => rfl) rfl) (lk_at hh hj (fun _ => rfl) rfl) (lk_at hh hk (fun _ => rfl) rfl) hr) h
end
/-- A map of whole numbers. -/
def mf (f : Int → Option Int) : Int → Option Value := fun n => (f n).map (Value.int .i64)
theorem mf_getD (f : Int → Option Int) (n : Int) : (mf f n).getD (.int .i64 0) = .int .i64 ((f n).getD 0) := by unfold mf; cases f n <;> rfl
theorem mf_some (f : Int → Option Int) (n : Int) : (mf f n).isSome = (f n).isSome := by unfold mf; cases f n <;> rfl
theorem mf_upd (f : Int → Option Int) (n v : Int) : upd (mf f) n (some (.int .i64 v)) = mf (fun m => if m = n then some v else f m) := by
  funext m
  unfold upd mf
  by_cases h : m = n
  · simp [h]
  · simp [h]
end Go.Proofs.Ytkfhkfddhijkcaa
