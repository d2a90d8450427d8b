/-
  WHAT IS PROVED: calls of function values, and looks into maps with 'comma ok', as laws for chains. Conditions: those typed in each theorem.
-/
import Derived.Test.YtkfhkfddhijkcaaGQ4
import Derived.Test.YtkfhkfddhijkcaaMapI
namespace Go.Proofs.Ytkfhkfddhijkcaa
open Go.RowKit Go.MapKept

theorem callv1_is {w : World} {f : FuncId} (he : ∀ args w, (callFunc f args).run Try.prog w = .ok (.enter f args) w) (d : Option Tmp) (x y : Operand) (ts : Array TypeId) (ty : TypeId) (p : String) (af : Array Edge) (gd : Option (Nat × Bool)) (ρ : Operand → Value) (v : Value) (lb : Array Value) (h0 : ρ x = .func (.func f) #[] lb) (h1 : ρ y = v) : (execOp ρ ⟨d, .call { callee := .value x, args := #[y], argTypes := ts }, ty, p, af, gd⟩).run Try.prog w = .ok (.enter f (#[v] ++ lb)) w := by
  unfold execOp
  dsimp only
  go_simp
theorem callv2_is {w : World} {f : FuncId} (he : ∀ args w, (callFunc f args).run Try.prog w = .ok (.enter f args) w) (d : Option Tmp) (x y z : Operand) (ts : Array TypeId) (ty : TypeId) (p : String) (af : Array Edge) (gd : Option (Nat × Bool)) (ρ : Operand → Value) (u v : Value) (lb : Array Value) (h0 : ρ x = .func (.func f) #[] lb) (h1 : ρ y = u) (h2 : ρ z = v) : (execOp ρ ⟨d, .call { callee := .value x, args := #[y, z], argTypes := ts }, ty, p, af, gd⟩).run Try.prog w = .ok (.enter f (#[u, v] ++ lb)) w := by
  unfold execOp
  dsimp only
  go_simp
section
variable {l : List Oper} {Q : Exit → Act → World → Prop} {S : World → Prop} {rest : List Oper} {a0 : Act} {L : List (Nat × Bool × Value)}
theorem s_cv1 {f : FuncId} {i j d n : Nat} {g gi gj : Bool} {u v : Value} {lb : Array Value} {ts : Array TypeId} {ty : TypeId} {p : String} {af : Array Edge} {gd : Option (Nat × Bool)} (hn : a0.tmps.size = n) (he : ∀ args w, (callFunc f args).run Try.prog w = .ok (.enter f args) w) (hc : g = true → ∀ W, S W → Calls Try.prog f (#[u] ++ lb) W fun e w' => e = .returned v ∧ S w') (h : FS Try.prog l Q S rest a0 ((d, g, v) :: L)) (hd : Nat.blt d n = true := by rfl) (hw : wtG l L gd = some g := by rfl) (hl : lk L i = some (gi, .func (.func f) #[] lb) := by rfl) (hs : g = true → gi = true := by first | exact fun _ => rfl | exact id) (hl2 : lk L j = some (gj, u) := by rfl) (hs2 : g = true → gj = true := by first | exact fun _ => rfl | exact id) : FS Try.prog l Q S (⟨some d, .call { callee := .value (.tmp i), args := #[.tmp j], argTypes := ts }, ty, p, af, gd⟩ :: rest) a0 L :=
  fs_op hn rfl hd hw (fun hk hg => yv_call (fun w => callv1_is he _ _ _ _ _ _ _ _ _ u lb (lk_at hk hl hs hg) (lk_at hk hl2 hs2 hg)) (hc hg)) h
theorem s_cv2 {f : FuncId} {i j k d n : Nat} {g gi gj gk : Bool} {u u2 v : Value} {lb : Array Value} {ts : Array TypeId} {ty : TypeId} {p : String} {af : Array Edge} {gd : Option (Nat × Bool)} (hn : a0.tmps.size = n) (he : ∀ args w, (callFunc f args).run Try.prog w = .ok (.enter f args) w) (hc : g = true → ∀ W, S W → Calls Try.prog f (#[u, u2] ++ lb) W fun e w' => e = .returned v ∧ S w') (h : FS Try.prog l Q S rest a0 ((d, g, v) :: L)) (hd : Nat.blt d n = true := by rfl) (hw : wtG l L gd = some g := by rfl) (hl : lk L i = some (gi, .func (.func f) #[] lb) := by rfl) (hs : g = true → gi = true := by first | exact fun _ => rfl | exact id) (hl2 : lk L j = some (gj, u) := by rfl) (hs2 : g = true → gj = true := by first | exact fun _ => rfl | exact id) (hl3 : lk L k = some (gk, u2) := by rfl) (hs3 : g = true → gk = true := by first | exact fun _ => rfl | exact id) : FS Try.prog l Q S (⟨some d, .call { callee := .value (.tmp i), args := #[.tmp j, .tmp k], argTypes := ts }, ty, p, af, gd⟩ :: rest) a0 L :=
  fs_op hn rfl hd hw (fun hk hg => yv_call (fun w => callv2_is he _ _ _ _ _ _ _ _ _ _ u u2 lb (lk_at hk hl hs hg) (lk_at hk hl2 hs2 hg) (lk_at hk hl3 hs3 hg)) (hc hg)) h
end
section
variable {P : Program} {t k e : TypeId} {W : World} {b : Nat} {f : Int → Option Value}
theorem run_lookO (hm : P.underlying t = some (.map k e)) (hd : P.underlying k = some (.int .i64)) {z : Value} (hz : (zeroValue e).run P W = .ok z W) (h : MpI W b f) (n : Int) :
    (Instr.lookup t (.map (some b)) (.int .i64 n) true).run P W = .ok (.tuple #[(f n).getD z, .bool (f n).isSome]) W := by
  obtain ⟨es, clock, hb, hs, h1, h2⟩ := h
  have hk : IsKey (.int .i64) (.int .i64 n) := rfl
  rcases findNow_spec hk es.toList 0 (keys_of h1) with ⟨g1, g2⟩ | ⟨j, x, g1, g2, g3⟩
  · have hf : f n = none := by
      cases hf : f n with
      | none => rfl
      | some v =>
        obtain ⟨y, hy, ky, -⟩ := h2 n v hf
        exact absurd ky (g2 y hy)
    simp [Instr.lookup, run_underlying hm, MapKept.run_getObj_map hb, run_checkKey hd hk, run_findKey hd g1, Result.andThen, hz, hf]
  · obtain ⟨m, hm', hf⟩ := h1 x (List.mem_of_getElem? g2)
    have : m = n := key_int (hm'.symm.trans g3)
    subst this
    simp [Instr.lookup, run_underlying hm, MapKept.run_getObj_map hb, run_checkKey hd hk, run_findKey hd g1, Result.andThen, hf]
end
section
variable {P : Program} {w : World} {ρ : Operand → Value} {d : Option Tmp} {ty : TypeId} {p : String} {af : Array Edge} {gd : Option (Nat × Bool)}
theorem x_lko {i k : Nat} {t : TypeId} {vi vk v : Value} (h : ρ (.tmp i) = vi) (h2 : ρ (.tmp k) = vk) (hr : (Instr.lookup t vi vk true).run P w = .ok v w) : (execOp ρ ⟨d, .lookup t (.tmp i) (.tmp k) true, ty, p, af, gd⟩).run P w = .ok (.value v) w := by
  unfold execOp
  dsimp only
  rw [h, h2, Sem.run_bind, hr]; rfl
theorem x_mpu {i j k : Nat} {t : TypeId} {vi vj vk : Value} {w2 : World} (h : ρ (.tmp i) = vi) (h2 : ρ (.tmp j) = vj) (h3 : ρ (.tmp k) = vk) (hr : (Instr.mapUpdate t vi vj vk).run P w = .ok () w2) : (execOp ρ ⟨d, .mapUpdate t (.tmp i) (.tmp j) (.tmp k), ty, p, af, gd⟩).run P w = .ok .skip w2 := by
  unfold execOp
  dsimp only
  rw [h, h2, h3, Sem.run_bind, hr]; rfl
end
section
variable {P : Program} {l : List Oper} {Q : Exit → Act → World → Prop} {rest : List Oper} {a0 : Act} {L : List (Nat × Bool × Value)} {w : World}
theorem g_mpu {i j k : Nat} {t ty : TypeId} {p : String} {af : Array Edge} {gd : Option (Nat × Bool)} {vi vj vk : Value} {w2 : World} (hr : (Instr.mapUpdate t vi vj vk).run P w = .ok () w2) (h : FL P l Q rest a0 L w2) (hw : wtG l L gd = some true := by rfl) (hi : lk L i = some (true, vi) := by rfl) (hj : lk L j = some (true, vj) := by rfl) (hk : lk L k = some (true, vk) := by rfl) : FL P l Q (⟨none, .mapUpdate t (.tmp i) (.tmp j) (.tmp k), ty, p, af, gd⟩ :: rest) a0 L w :=
  fl_skip rfl hw (fun hh => x_mpu (lk_at hh hi (fun _ => rfl) rfl) (lk_at hh hj (fun _ => rfl) rfl) (lk_at hh hk (fun _ => rfl) rfl) hr) h
end
/-- A map of whole numbers. -/
def mf (f : Int → Option Int) : Int → Option Value := fun n => (f n).map (Value.int .i64)
theorem mf_getD (f : Int → Option Int) (n : Int) : (mf f n).getD (.int .i64 0) = .int .i64 ((f n).getD 0) := by unfold mf; cases f n <;> rfl
theorem mf_some (f : Int → Option Int) (n : Int) : (mf f n).isSome = (f n).isSome := by unfold mf; cases f n <;> rfl
theorem mf_upd (f : Int → Option Int) (n v : Int) : upd (mf f) n (some (.int .i64 v)) = mf (fun m => if m = n then some v else f m) := by
  funext m
  unfold upd mf
  by_cases h : m = n
  · simp [h]
  · simp [h]
end Go.Proofs.Ytkfhkfddhijkcaa
