/-
  WHAT IS PROVED: 'what lay in w0 lies in W' as a word for XFastC's laws. Conditions: those typed in each theorem. · a write's cells, reached by an index into a slice of writes, or in a block of its own. Conditions: those typed in each theorem. · fresh.Value and fresh.Write answer what was handed in. Conditions: those typed in each theorem.
-/
import Derived.Test.YtpjleeeligahaaaGreatDoorFastC
import Derived.Test.YtpjleeeligahaaaGreatDoorGQ1
import Derived.Test.YtpjleeeligahaaaGreatDoorGQ4
import Derived.Deep.Cut
import Derived.Shelf.Abstract
import Derived.Outline
import Derived.BigRegion
import Derived.BigQuiet
import Derived.Deep.QuietTactic
import Derived.RowKitTokens
import Derived.WalkKit
import Derived.Laws.Rows
namespace Go.Proofs.YtpjleeeligahaaaGreatDoor
open Go.RowKit

/-- What lay in w0 lies in W. -/
def Kp (w0 W : World) : Prop := Below w0.heap.size w0 W
theorem Kp.refl (w : World) : Kp w w := Below.refl _ _
theorem Kp.drew (w : World) : Kp w w.drew := (Below.refl w.heap.size w).drew
theorem Kp.drews {a b : World} (h : Kp a b) : Kp a b.drew := Below.drew h
theorem Kp.blk {w0 W : World} (h : Kp w0 W) {b : Nat} {cs : Array Value} {t : TypeId} (hX : Blk w0 b cs t) : Blk W b cs t := hX.keep h
theorem Kp.trans {a b c : World} (h : Kp a b) (k : Below b.heap.size b c) : Kp a c := Below.trans h (k.mono h.size)
theorem Kp.below {a b : World} (h : Kp a b) : Below a.heap.size a b := h
/-- A call's contract under Kp. -/
theorem kp_c {w0 : World} {f : FuncId} {args : Array Value} {v : Value} (h : ∀ W, Kp w0 W → Calls Tryz.prog f args W fun e w' => e = .returned v ∧ Below W.heap.size W w') :
    ∀ W, Kp w0 W → Calls Tryz.prog f args W fun e w' => e = .returned v ∧ Kp w0 w' := fun W hW => (h W hW).mono fun _ _ ⟨he, hb⟩ => ⟨he, hW.trans hb⟩
theorem same_c {f : FuncId} {args : Array Value} {v : Value} {w : World} (h : Calls Tryz.prog f args w fun e w' => e = .returned v ∧ w' = w) : Calls Tryz.prog f args w fun e w' => e = .returned v ∧ Below w.heap.size w w' :=
  h.mono fun _ _ ⟨he, hw⟩ => ⟨he, by rw [hw]; exact Below.refl _ _⟩
theorem er_eql (i : Nat) (m k : Int) (W : World) : ((do eqGuard .eql 31 (.tmp i) (.const (.int .i64 k)) (.int .i64 m) (.int .i64 k); binOp .eql 31 (.int .i64 m) (.int .i64 k)) : Sem Value).run Tryz.prog W = .ok (.bool (m == k)) W := by go_simp
theorem er_eql2 (i j : Nat) (m k : Int) (W : World) : ((do eqGuard .eql 31 (.tmp i) (.tmp j) (.int .i64 m) (.int .i64 k); binOp .eql 31 (.int .i64 m) (.int .i64 k)) : Sem Value).run Tryz.prog W = .ok (.bool (m == k)) W := by go_simp
theorem bo_eql2 (i j : Nat) (m k : Bool) (W : World) : ((do eqGuard .eql 4 (.tmp i) (.tmp j) (.bool m) (.bool k); binOp .eql 4 (.bool m) (.bool k)) : Sem Value).run Tryz.prog W = .ok (.bool (m == k)) W := by cases m <;> cases k <;> go_simp
theorem er_neq (i : Nat) (m k : Int) (W : World) : ((do eqGuard .neq 31 (.tmp i) (.const (.int .i64 k)) (.int .i64 m) (.int .i64 k); binOp .neq 31 (.int .i64 m) (.int .i64 k)) : Sem Value).run Tryz.prog W = .ok (.bool (m != k)) W := by go_simp
theorem er_neq2 (i j : Nat) (m k : Int) (W : World) : ((do eqGuard .neq 31 (.tmp i) (.tmp j) (.int .i64 m) (.int .i64 k); binOp .neq 31 (.int .i64 m) (.int .i64 k)) : Sem Value).run Tryz.prog W = .ok (.bool (m != k)) W := by go_simp
theorem bo_neq2 (i j : Nat) (m k : Bool) (W : World) : ((do eqGuard .neq 4 (.tmp i) (.tmp j) (.bool m) (.bool k); binOp .neq 4 (.bool m) (.bool k)) : Sem Value).run Tryz.prog W = .ok (.bool (m != k)) W := by cases m <;> cases k <;> go_simp
section
variable {P : Program} {l : List Oper} {Q : Exit → Act → World → Prop} {S : World → Prop} {fuel : Nat} {listed : Array Bool} {a0 : Act} {L : List (Nat × Bool × Value)} {w : World}
/-- Any operation that reads, in a region that draws and writes. -/
theorem h_op (k : Nat) {oi : Oper} {d n : Nat} {v : Value} (hn : a0.tmps.size = n) (hS : S w) (hr : ∀ W, S W → (∀ p, p ∈ L → p.1 < a0.tmps.size) → (execOp (fr a0 L).eval oi).run P W = .ok (.value v) W) (h : FH P l Q S fuel (listed.setIfInBounds k true) a0 ((d, true, v) :: L) w) (hi : l.toArray[k]? = some oi := by rfl) (ho : oi.dst = some d := by rfl) (hd : Nat.blt d n = true := by rfl) (hw : wtG l L oi.guard = some true := by rfl) (hs : Region.noSelect l.toArray = true := by kernel_rfl) (hf : Region.free .any l.toArray listed k = true := by kernel_rfl) (hr2 : (Region.ready .any l.toArray listed).contains k = true := by kernel_rfl) (hQ : ∀ c a w, Q (.panic c) (a.put oi.dst (cnd true v)) w → Q (.panic c) a w := by exact fun _ _ _ h => h) : FH P l Q S (fuel + 1) listed a0 L w :=
  fh_op k hn hS h ho hi hd hs hf hr2 hQ hw (fun hk _ w hw => hr w hw hk)
/-- The one operation that may come up reads. -/
theorem h_one (k : Nat) {oi : Oper} {d n : Nat} {v : Value} (hn : a0.tmps.size = n) (hS : S w) (hx : (∀ p, p ∈ L → p.1 < a0.tmps.size) → (execOp (fr a0 L).eval oi).run P w = .ok (.value v) w) (h : FH P l Q S fuel (listed.setIfInBounds k true) a0 ((d, true, v) :: L) w) (hi : l.toArray[k]? = some oi := by rfl) (ho : oi.dst = some d := by rfl) (hd : Nat.blt d n = true := by rfl) (hw : wtG l L oi.guard = some true := by rfl) (hr : Region.ready .any l.toArray listed = [k] := by kernel_rfl) : FH P l Q S (fuel + 1) listed a0 L w :=
  fh_valx k hn ho hx hS h hi hd hr hw
/-- The last operation stores. -/
theorem h_st (k : Nat) {w2 : World} {i j : Nat} {t ty : TypeId} {p : String} {af : Array Edge} {gd : Option (Nat × Bool)} {ad : Addr} {v : Value} (hs : (Instr.storeAt t (.pointer (some ad)) v).run P w = .ok () w2) (hS : S w2) (h : FH P l Q S fuel (listed.setIfInBounds k true) a0 L w2) (hi : l.toArray[k]? = some ⟨none, .store t (.tmp i) (.tmp j), ty, p, af, gd⟩ := by rfl) (h1 : lk L i = some (true, .pointer (some ad)) := by rfl) (h2 : lk L j = some (true, v) := by rfl) (hr : Region.ready .any l.toArray listed = [k] := by kernel_rfl) (hw : wtG l L gd = some true := by rfl) : FH P l Q S (fuel + 1) listed a0 L w :=
  fh_skip k rfl (fun hk => run_st (lk_at hk h1 (fun _ => rfl) rfl) (lk_at hk h2 (fun _ => rfl) rfl) hs) hS h hi hr hw
end
section
variable {P : Program} {l : List Oper} {Q : Exit → Act → World → Prop} {S : World → Prop} {fuel : Nat} {listed : Array Bool} {a0 : Act} {L : List (Nat × Bool × Value)} {w : World}
/-- The one operation that may come up yields one value and keeps S. -/
theorem h_yv (k : Nat) {oi : Oper} {d n : Nat} {v : Value} (hn : a0.tmps.size = n) (hS : S w) (hy : (∀ p, p ∈ L → p.1 < a0.tmps.size) → YV P S (fr a0 L).eval oi v) (h : ∀ w2, S w2 → FH P l Q S fuel (listed.setIfInBounds k true) a0 ((d, true, v) :: L) w2)
    (hi : l.toArray[k]? = some oi := by rfl) (ho : oi.dst = some d := by rfl) (hd : Nat.blt d n = true := by rfl) (hr : Region.ready .any l.toArray listed = [k] := by kernel_rfl) (hw : wtG l L oi.guard = some true := by rfl) : FH P l Q S (fuel + 1) listed a0 L w :=
  fh_val k hn (R := fun u w2 => u = v ∧ S w2) (fun K hK hk => (hy hk).wp hS fun w2 hs => by rw [ho]; exact hK v w2 ⟨rfl, hs⟩) (fun u w2 e => by obtain ⟨rfl, hs⟩ := e; exact ⟨hs, h w2 hs⟩) hi hd hr hw
end
/-- A struct or an array of a call's own: its block, laid and stored. -/
theorem al_row {d n : Nat} {l : List Oper} {Q : Exit → Act → World → Prop} {rest : List Oper} {a0 : Act} {L : List (Nat × Bool × Value)} {w : World} {t ty : TypeId} {p : String} {af : Array Edge} {z : Array Value} (hn : a0.tmps.size = n)
    (hr : (Instr.alloc t true (.tuple #[])).run Tryz.prog w = .ok (.pointer (some ⟨w.heap.size, 0, none⟩)) (w.alloc (.cells z t)))
    (h : ∀ g w2, g = w.heap.size → Blk w2 g z t → Below w.heap.size w w2 → FL Tryz.prog l Q rest a0 ((d, true, .pointer (some ⟨g, 0, none⟩)) :: L) w2) (hd : Nat.blt d n = true := by rfl) : FL Tryz.prog l Q (⟨some d, .alloc t, ty, p, af, none⟩ :: rest) a0 L w :=
  g_w hn (w2 := w.alloc (.cells z t)) (v := .pointer (some ⟨w.heap.size, 0, none⟩)) (fun _ => by unfold execOp; dsimp only; rw [Sem.run_bind, hr]; rfl) (h _ _ rfl (blk_new w z t) (b0 w _)) rfl hd rfl
end Go.Proofs.YtpjleeeligahaaaGreatDoor

namespace Go.Proofs.YtpjleeeligahaaaGreatDoor
open Go.RowKit

abbrev tWr : TypeId := 47
abbrev tId : TypeId := 40
theorem wix (W : World) (ad : Addr) (n c k : Nat) (h : k < n) : (Instr.indexAt 37 (.slice (some ad) n c) (.int .i64 (k : Int))).run Tryz.prog W = .ok (.pointer (some (ad.add (k * 10)))) W := by
  have i1 : (0 : Int) ≤ (k : Int) := by omega
  have i2 : (k : Int) < (n : Int) := by omega
  go_simp
theorem wld {W : World} {ad : Addr} {k : Nat} {x : Wr} (hc : ∀ j v, x.cells[j]? = some v → W.cell? (ad.add (k * 10 + j)) = some v) : (Instr.loadAt tWr (.pointer (some (ad.add (k * 10))))).run Tryz.prog W = .ok (.agg x.cells) W := by
  obtain ⟨c0, c1, c2, c3, c4, c5, c6, c7, c8, c9⟩ := wr_cells hc
  clear hc
  go_simp
theorem wld_blk {W : World} {g : Nat} {x : Wr} {t : TypeId} (h : Blk W g x.cells t) : (Instr.loadAt tWr (.pointer (some ⟨g, 0, none⟩))).run Tryz.prog W = .ok (.agg x.cells) W := by
  have c0 := h.cell 0
  have c1 := h.cell 1
  have c2 := h.cell 2
  have c3 := h.cell 3
  have c4 := h.cell 4
  have c5 := h.cell 5
  have c6 := h.cell 6
  have c7 := h.cell 7
  have c8 := h.cell 8
  have c9 := h.cell 9
  clear h
  go_simp
theorem wfd0 (W : World) (a : Addr) : (Instr.fieldAt tWr (.pointer (some a)) 0).run Tryz.prog W = .ok (.pointer (some a)) W := by go_simp
theorem wfd1 (W : World) (a : Addr) : (Instr.fieldAt tWr (.pointer (some a)) 1).run Tryz.prog W = .ok (.pointer (some ⟨a.block, a.off + 2, none⟩)) W := by go_simp
theorem ifd0 (W : World) (a : Addr) : (Instr.fieldAt tId (.pointer (some a)) 0).run Tryz.prog W = .ok (.pointer (some a)) W := by go_simp
theorem ifd1 (W : World) (a : Addr) : (Instr.fieldAt tId (.pointer (some a)) 1).run Tryz.prog W = .ok (.pointer (some ⟨a.block, a.off + 1, none⟩)) W := by go_simp
theorem ild {W : World} {a : Addr} {dev seq : Value} (h0 : W.cell? a = some dev) (h1 : W.cell? ⟨a.block, a.off + 1, none⟩ = some seq) : (Instr.loadAt tId (.pointer (some a))).run Tryz.prog W = .ok (.agg #[dev, seq]) W := by go_simp
theorem alW (w : World) : (Instr.alloc tWr true (.tuple #[])).run Tryz.prog w = .ok (.pointer (some ⟨w.heap.size, 0, none⟩)) (w.alloc (.cells (⟨0, 0, 0, ⟨#[]⟩, 0, 0, ⟨#[]⟩, 0, 0, ⟨#[]⟩⟩ : Wr).cells tWr)) := by kernel_rfl
theorem alI (w : World) : (Instr.alloc tId true (.tuple #[])).run Tryz.prog w = .ok (.pointer (some ⟨w.heap.size, 0, none⟩)) (w.alloc (.cells #[.int .i64 0, .int .i64 0] tId)) := by kernel_rfl
theorem id_oneC (a b : Int) : (#[.int .i64 a, .int .i64 b] : Array Value).all (·.oneCell') = true := by
  rw [show (#[.int .i64 a, .int .i64 b] : Array Value) = [.int .i64 a, .int .i64 b].toArray from rfl, List.all_toArray]
  simp [Value.oneCell']
theorem wr_oneC (x : Wr) : x.cells.all (·.oneCell') = true := by
  obtain ⟨dev, seq, K, ky, ka, na, sa, kb, nb, sb⟩ := x
  show (wrI dev seq K ky ka na sa kb nb sb).all _ = true
  rw [show wrI dev seq K ky ka na sa kb nb sb = [.int .i64 dev, .int .i64 seq, .int .i64 K, .string ky, .int .i64 ka, .int .i64 na, .string sa, .int .i64 kb, .int .i64 nb, .string sb].toArray from rfl, List.all_toArray]
  simp [Value.oneCell']
end Go.Proofs.YtpjleeeligahaaaGreatDoor

namespace Go.Proofs.YtpjleeeligahaaaGreatDoor
open Go.RowKit

theorem en_strings_Clone : ∀ args w, (callFunc 82 args).run Tryz.prog w = .ok (.enter 82 args) w := enters_of Tryz.func82 (by kernel_rfl) rfl
theorem en_spinney_fresh_Value : ∀ args w, (callFunc 83 args).run Tryz.prog w = .ok (.enter 83 args) w := enters_of Tryz.func83 (by kernel_rfl) rfl

theorem all_oneC {l : List Value} (h : ∀ v, v ∈ l → v.oneCell' = true) : (l.toArray).all (·.oneCell') = true := by
  rw [List.all_toArray]
  exact List.all_eq_true.2 h
theorem va_oneC (k n : Int) (t : ByteArray) : (#[.int .i64 k, .int .i64 n, .string t] : Array Value).all (·.oneCell') = true := all_oneC (l := [.int .i64 k, .int .i64 n, .string t]) (by simp [Value.oneCell'])
theorem vfd (W : World) (b : Nat) : (Instr.fieldAt 43 (.pointer (some ⟨b, 0, none⟩)) 2).run Tryz.prog W = .ok (.pointer (some ⟨b, 2, none⟩)) W := by go_simp
theorem ld_str {W : World} {a : Addr} {t : ByteArray} (h : W.cell? a = some (.string t)) : (Instr.loadAt 9 (.pointer (some a))).run Tryz.prog W = .ok (.string t) W := by go_simp
theorem st_str {W : World} {b j : Nat} {cs : Array Value} {T : TypeId} (hX : Blk W b cs T) (hj : j < cs.size) (t : ByteArray) : (Instr.storeAt 9 (.pointer (some ⟨b, j, none⟩)) (.string t)).run Tryz.prog W = .ok () (W.setCell ⟨b, j, none⟩ (.string t)) := by
  obtain ⟨u, hu⟩ := blk_some hX hj
  have hf := hX.free j
  clear hX
  go_simp
theorem vld {W : World} {b o : Nat} {k n : Int} {t : ByteArray} (h0 : W.cell? ⟨b, o, none⟩ = some (.int .i64 k)) (h1 : W.cell? ⟨b, o + 1, none⟩ = some (.int .i64 n)) (h2 : W.cell? ⟨b, o + 2, none⟩ = some (.string t)) : (Instr.loadAt 43 (.pointer (some ⟨b, o, none⟩))).run Tryz.prog W = .ok (.agg #[.int .i64 k, .int .i64 n, .string t]) W := by go_simp
set_option maxRecDepth 100000 in
set_option maxHeartbeats 4000000 in
theorem freshValue_any (k n : Int) (t : ByteArray) (w : World) (ht : t.size ≤ 1000000) : Calls Tryz.prog 83 #[.agg #[.int .i64 k, .int .i64 n, .string t]] w fun e w' => e = .returned (.agg #[.int .i64 k, .int .i64 n, .string t]) ∧ Below w.heap.size w w' := by
  have hX0 := blk_new w #[.int .i64 k, .int .i64 n, .string t] 43
  replace hX0 := hX0.alloc (.cells #[.int .i64 0, .int .i64 0, .string ⟨#[]⟩] 43)
  have hz1 : (w.alloc (.cells #[.int .i64 k, .int .i64 n, .string t] 43)).heap.size = w.heap.size + 1 := by simp
  have hX1 := blk_new (w.alloc (.cells #[.int .i64 k, .int .i64 n, .string t] 43)) #[.int .i64 0, .int .i64 0, .string ⟨#[]⟩] 43
  rw [hz1] at hX1
  have hB := ba (b0 w (.cells #[.int .i64 k, .int .i64 n, .string t] 43)) (.cells #[.int .i64 0, .int .i64 0, .string ⟨#[]⟩] 43)
  have hzz : ((w.alloc (.cells #[.int .i64 k, .int .i64 n, .string t] 43)).alloc (.cells #[.int .i64 0, .int .i64 0, .string ⟨#[]⟩] 43)).heap.size = w.heap.size + 2 := by simp
  go_enter Tryz.func83, Tryz.ntmps83
  go_upto_region 1 with fail
  generalize ((w.alloc (.cells #[.int .i64 k, .int .i64 n, .string t] 43)).alloc (.cells #[.int .i64 0, .int .i64 0, .string ⟨#[]⟩] 43)) = W0 at hX0 hX1 hB hzz ⊢
  (try simp only [hz1])
  clear hz1
  generalize hb : w.heap.size = b at hX0 hX1 hB hzz ⊢
  have f1 : ∀ W, Kp W0 W → (Instr.fieldAt 43 (.pointer (some ⟨b, 0, none⟩)) 2).run Tryz.prog W = .ok (.pointer (some ⟨b, 2, none⟩)) W := fun W _ => vfd W b
  have l1 : ∀ W, Kp W0 W → (Instr.loadAt 9 (.pointer (some ⟨b, 2, none⟩))).run Tryz.prog W = .ok (.string t) W := fun W h => ld_str ((h.blk hX0).cell 2)
  have c1 : ∀ W, Kp W0 W → _ := kp_c fun W _ => sclone_any t W ht
  refine wp_region_lit ?_
  refine fs_start (Kp W0) (Kp.refl _) ?_
  generalize ha : Act.mk _ _ = a0
  have hn : a0.tmps.size = 8 := by rw [← ha]; kernel_rfl
  have h1 : (fr a0 []).eval (.tmp 1) = .pointer (some ⟨b, 0, none⟩) := by rw [← ha]; kernel_rfl
  refine fs_know hn rfl h1 ?_
  clear h1
  refine s_fd hn ?_
  refine s_ld hn ?_
  refine s_callt hn ?_ (he := en_strings_Clone)
  refine s_fd hn ?_
  refine fs_fl fun w3 hS => ?_
  have hX03 := hS.blk hX0
  have hX13 := hS.blk hX1
  have hB3 : Below b w w3 := hB.trans (hS.below.mono (by omega))
  refine g_stt hX03 (st_str (j := 2) hX03 (by simp) t) ?_
  intro w4 ho hX4
  refine fl_end ?_
  clear hn
  subst ha
  dsimp only [fr, cnd, Act.put, cond_true]
  simp only [List.setIfInBounds_toArray, List.set_cons_zero, List.set_cons_succ]
  have hX4 : Blk w4 b #[.int .i64 k, .int .i64 n, .string t] 43 := hX4
  have hX14 := hX13.only ho (by omega)
  have hB4 := hB3.trans (ho.below (B := b) (Nat.le_refl _))
  clear f1 l1 c1 hX0 hX1 hB hS hX03 hX13 hB3 ho
  have l2 := vld (W := w4) (b := b) (o := 0) (hX4.cell 0) (hX4.cell 1) (hX4.cell 2)
  go_upto_region 2 with fail
  refine wp_region_lit ?_
  refine fl_start ?_
  generalize ha : Act.mk _ _ = a0
  have hn : a0.tmps.size = 8 := by rw [← ha]; kernel_rfl
  have h1 : (fr a0 []).eval (.tmp 1) = .pointer (some ⟨b, 0, none⟩) := by rw [← ha]; kernel_rfl
  refine fl_know hn rfl h1 ?_
  clear h1
  have h2 : (fr a0 [(1, true, .pointer (some ⟨b, 0, none⟩))]).eval (.tmp 2) = .pointer (some ⟨b + 1, 0, none⟩) := by rw [← ha]; kernel_rfl
  refine fl_know hn rfl h2 ?_
  clear h2
  refine g_ld hn ?_
  refine g_str hX14 ?_ (h1 := va_oneC k n t)
  intro w5 ho5 hX5
  refine fl_end ?_
  clear hn
  subst ha
  dsimp only [fr, cnd, Act.put, cond_true]
  simp only [List.setIfInBounds_toArray, List.set_cons_zero, List.set_cons_succ]
  have hB5 := hB4.trans (ho5.below (B := b) (by omega))
  clear l2 hX4 hX14 ho5 hB4
  go_wp2_with fail
  refine bodyPost_ret (results_cell_row Tryz.results83 _ _ (b + 1) 43 #[.int .i64 k, .int .i64 n, .string t] (0, 0) _ (by rfl) hX5 Tryz.underlying43 (by rfl) (by kernel_rfl)) rfl ?_
  exact ⟨rfl, by first | exact hB5 | (rw [hb]; exact hB5)⟩
theorem wfdO (W : World) (b : Nat) : (Instr.fieldAt 47 (.pointer (some ⟨b, 0, none⟩)) 1).run Tryz.prog W = .ok (.pointer (some ⟨b, 2, none⟩)) W := by go_simp
theorem ofd1 (W : World) (b : Nat) : (Instr.fieldAt 45 (.pointer (some ⟨b, 2, none⟩)) 1).run Tryz.prog W = .ok (.pointer (some ⟨b, 3, none⟩)) W := by go_simp
theorem ofd2 (W : World) (b : Nat) : (Instr.fieldAt 45 (.pointer (some ⟨b, 2, none⟩)) 2).run Tryz.prog W = .ok (.pointer (some ⟨b, 4, none⟩)) W := by go_simp
theorem ofd3 (W : World) (b : Nat) : (Instr.fieldAt 45 (.pointer (some ⟨b, 2, none⟩)) 3).run Tryz.prog W = .ok (.pointer (some ⟨b, 7, none⟩)) W := by go_simp
theorem st_va {W : World} {b j : Nat} {cs : Array Value} {T : TypeId} (hX : Blk W b cs T) (hj : j + 3 ≤ cs.size) (k n : Int) (t : ByteArray) : (Instr.storeAt 43 (.pointer (some ⟨b, j, none⟩)) (.agg #[.int .i64 k, .int .i64 n, .string t])).run Tryz.prog W = .ok () (W.setCells b j [.int .i64 k, .int .i64 n, .string t]) := by
  simp only [Instr.storeAt, Instr.sureAddr, Sem.run_bind, Sem.run_pure, Result.andThen_ok]
  exact run_storeVar_mid W b j 43 #[.int .i64 k, .int .i64 n, .string t] (fun i hi => ⟨by rw [hX.cell, Array.getElem?_eq_getElem (by simp at hi; omega)]; rfl, hX.free _⟩) (by kernel_rfl) (va_oneC k n t)
set_option maxRecDepth 100000 in
set_option maxHeartbeats 4000000 in
theorem freshWr_any (x : Wr) (w : World) (h1 : x.ky.size ≤ 1000000) (h2 : x.sa.size ≤ 1000000) (h3 : x.sb.size ≤ 1000000) : Calls Tryz.prog 39 #[.agg x.cells] w fun e w' => e = .returned (.agg x.cells) ∧ Below w.heap.size w w' := by
  have hX0 := blk_new w x.cells 47
  replace hX0 := hX0.alloc (.cells (wrI 0 0 0 ⟨#[]⟩ 0 0 ⟨#[]⟩ 0 0 ⟨#[]⟩) 47)
  have hz1 : (w.alloc (.cells x.cells 47)).heap.size = w.heap.size + 1 := by simp
  have hX1 := blk_new (w.alloc (.cells x.cells 47)) (wrI 0 0 0 ⟨#[]⟩ 0 0 ⟨#[]⟩ 0 0 ⟨#[]⟩) 47
  rw [hz1] at hX1
  have hB := ba (b0 w (.cells x.cells 47)) (.cells (wrI 0 0 0 ⟨#[]⟩ 0 0 ⟨#[]⟩ 0 0 ⟨#[]⟩) 47)
  have hzz : ((w.alloc (.cells x.cells 47)).alloc (.cells (wrI 0 0 0 ⟨#[]⟩ 0 0 ⟨#[]⟩ 0 0 ⟨#[]⟩) 47)).heap.size = w.heap.size + 2 := by simp
  go_enter Tryz.func39, Tryz.ntmps39
  go_upto_region 1 with fail
  generalize ((w.alloc (.cells x.cells 47)).alloc (.cells (wrI 0 0 0 ⟨#[]⟩ 0 0 ⟨#[]⟩ 0 0 ⟨#[]⟩) 47)) = W0 at hX0 hX1 hB hzz ⊢
  (try simp only [hz1])
  clear hz1
  generalize hb : w.heap.size = b at hX0 hX1 hB hzz ⊢
  have f1 : ∀ W, Kp W0 W → (Instr.fieldAt 47 (.pointer (some ⟨b, 0, none⟩)) 1).run Tryz.prog W = .ok (.pointer (some ⟨b, 2, none⟩)) W := fun W _ => wfdO W b
  have f2 : ∀ W, Kp W0 W → (Instr.fieldAt 45 (.pointer (some ⟨b, 2, none⟩)) 1).run Tryz.prog W = .ok (.pointer (some ⟨b, 3, none⟩)) W := fun W _ => ofd1 W b
  have l1 : ∀ W, Kp W0 W → (Instr.loadAt 9 (.pointer (some ⟨b, 3, none⟩))).run Tryz.prog W = .ok (.string x.ky) W := fun W h => ld_str ((h.blk hX0).cell 3)
  have c1 : ∀ W, Kp W0 W → _ := kp_c fun W _ => sclone_any x.ky W h1
  refine wp_region_lit ?_
  refine fs_start (Kp W0) (Kp.refl _) ?_
  generalize ha : Act.mk _ _ = a0
  have hn : a0.tmps.size = 22 := by rw [← ha]; kernel_rfl
  have h1 : (fr a0 []).eval (.tmp 1) = .pointer (some ⟨b, 0, none⟩) := by rw [← ha]; kernel_rfl
  refine fs_know hn rfl h1 ?_
  clear h1
  refine s_fd hn ?_
  refine s_fd hn ?_
  refine s_ld hn ?_
  refine s_callt hn ?_ (he := en_strings_Clone)
  refine s_fd hn ?_
  refine s_fd hn ?_
  refine fs_fl fun w3 hS => ?_
  have hX03 := hS.blk hX0
  have hX13 := hS.blk hX1
  have hB3 : Below b w w3 := hB.trans (hS.below.mono (by omega))
  refine g_stt hX03 (st_str (j := 3) hX03 (by show 3 < 10; omega) x.ky) ?_
  intro w4 ho hX4
  refine fl_end ?_
  clear hn
  subst ha
  dsimp only [fr, cnd, Act.put, cond_true]
  simp only [List.setIfInBounds_toArray, List.set_cons_zero, List.set_cons_succ]
  have hX4 : Blk w4 b x.cells 47 := hX4
  have hX14 := hX13.only ho (by omega)
  have hB4 := hB3.trans (ho.below (B := b) (Nat.le_refl _))
  clear f1 f2 l1 c1 hX0 hX1 hB hS hX03 hX13 hB3 ho
  have hsz4 : b + 1 < w4.heap.size := hX14.lt
  have f1 : ∀ W, (fun W => Blk W b x.cells 47 ∧ Blk W (b + 1) (wrI 0 0 0 ⟨#[]⟩ 0 0 ⟨#[]⟩ 0 0 ⟨#[]⟩) 47 ∧ Below b w W) W → (Instr.fieldAt 47 (.pointer (some ⟨b, 0, none⟩)) 1).run Tryz.prog W = .ok (.pointer (some ⟨b, 2, none⟩)) W := fun W _ => wfdO W b
  have f2 : ∀ W, (fun W => Blk W b x.cells 47 ∧ Blk W (b + 1) (wrI 0 0 0 ⟨#[]⟩ 0 0 ⟨#[]⟩ 0 0 ⟨#[]⟩) 47 ∧ Below b w W) W → (Instr.fieldAt 45 (.pointer (some ⟨b, 2, none⟩)) 2).run Tryz.prog W = .ok (.pointer (some ⟨b, 4, none⟩)) W := fun W _ => ofd2 W b
  have f3 : ∀ W, (fun W => Blk W b x.cells 47 ∧ Blk W (b + 1) (wrI 0 0 0 ⟨#[]⟩ 0 0 ⟨#[]⟩ 0 0 ⟨#[]⟩) 47 ∧ Below b w W) W → (Instr.fieldAt 45 (.pointer (some ⟨b, 2, none⟩)) 3).run Tryz.prog W = .ok (.pointer (some ⟨b, 7, none⟩)) W := fun W _ => ofd3 W b
  have l1 : ∀ W, (fun W => Blk W b x.cells 47 ∧ Blk W (b + 1) (wrI 0 0 0 ⟨#[]⟩ 0 0 ⟨#[]⟩ 0 0 ⟨#[]⟩) 47 ∧ Below b w W) W → (Instr.loadAt 43 (.pointer (some ⟨b, 4, none⟩))).run Tryz.prog W = .ok (.agg #[.int .i64 x.ka, .int .i64 x.na, .string x.sa]) W := fun W h => vld (h.1.cell 4) (h.1.cell 5) (h.1.cell 6)
  have l2 : ∀ W, (fun W => Blk W b x.cells 47 ∧ Blk W (b + 1) (wrI 0 0 0 ⟨#[]⟩ 0 0 ⟨#[]⟩ 0 0 ⟨#[]⟩) 47 ∧ Below b w W) W → (Instr.loadAt 43 (.pointer (some ⟨b, 7, none⟩))).run Tryz.prog W = .ok (.agg #[.int .i64 x.kb, .int .i64 x.nb, .string x.sb]) W := fun W h => vld (h.1.cell 7) (h.1.cell 8) (h.1.cell 9)
  have hcc : ∀ (v : Array Value), (∀ W, Calls Tryz.prog 83 #[.agg v] W fun e w' => e = .returned (.agg v) ∧ Below W.heap.size W w') → ∀ W, (fun W => Blk W b x.cells 47 ∧ Blk W (b + 1) (wrI 0 0 0 ⟨#[]⟩ 0 0 ⟨#[]⟩ 0 0 ⟨#[]⟩) 47 ∧ Below b w W) W → Calls Tryz.prog 83 #[.agg v] W fun e w' => e = .returned (.agg v) ∧ (fun W => Blk W b x.cells 47 ∧ Blk W (b + 1) (wrI 0 0 0 ⟨#[]⟩ 0 0 ⟨#[]⟩ 0 0 ⟨#[]⟩) 47 ∧ Below b w W) w' := fun v hc W h => (hc W).mono fun _ _ ⟨he, hb2⟩ => ⟨he, h.1.keep hb2, h.2.1.keep hb2, h.2.2.trans (hb2.mono (by have := h.1.lt; omega))⟩
  have c1 := hcc _ (fun W => freshValue_any x.ka x.na x.sa W h2)
  have c2 := hcc _ (fun W => freshValue_any x.kb x.nb x.sb W h3)
  go_upto_region 2 with fail
  refine fh_start (S := fun W => Blk W b x.cells 47 ∧ Blk W (b + 1) (wrI 0 0 0 ⟨#[]⟩ 0 0 ⟨#[]⟩ 0 0 ⟨#[]⟩) 47 ∧ Below b w W) (by kernel_rfl) (⟨hX4, hX14, hB4.drew⟩) (fun hS => ?_)
  generalize ha : Act.mk _ _ = a0
  have hn : a0.tmps.size = 22 := by rw [← ha]; kernel_rfl
  have h1 : (fr a0 []).eval (.tmp 1) = .pointer (some ⟨b, 0, none⟩) := by rw [← ha]; kernel_rfl
  refine fh_know hn rfl h1 ?_
  clear h1
  refine h_fd 0 hn hS ?_
  refine h_fd 1 hn hS ?_
  refine h_ld 2 hn hS ?_
  refine h_fd 4 hn hS ?_
  refine h_fd 5 hn hS ?_
  refine h_ld 6 hn hS ?_
  refine h_yv 3 hn hS (fun hk => yv_call (fun w => call1_is en_spinney_fresh_Value _ _ _ _ _ _ _ _ _ (lk_at hk (i := 11) rfl (fun _ => rfl) rfl) rfl) c1) ?_
  intro w5 hS5
  clear hS
  have hS := hS5
  refine h_fd 8 hn hS ?_
  refine h_fd 9 hn hS ?_
  refine h_yv 7 hn hS5 (fun hk => yv_call (fun w => call1_is en_spinney_fresh_Value _ _ _ _ _ _ _ _ _ (lk_at hk (i := 15) rfl (fun _ => rfl) rfl) rfl) c2) ?_
  intro w6 hS6
  have hz3 : 4 + 3 ≤ x.cells.size := by show 7 ≤ 10; omega
  have hz7 : 7 + 3 ≤ x.cells.size := by show 10 ≤ 10; omega
  have hZ : ∀ W, (fun W => Blk W b x.cells 47 ∧ Blk W (b + 1) (wrI 0 0 0 ⟨#[]⟩ 0 0 ⟨#[]⟩ 0 0 ⟨#[]⟩) 47 ∧ Below b w W) W → ∀ j vs, setL x.cells j vs = x.cells → (fun W => Blk W b x.cells 47 ∧ Blk W (b + 1) (wrI 0 0 0 ⟨#[]⟩ 0 0 ⟨#[]⟩ 0 0 ⟨#[]⟩) 47 ∧ Below b w W) (W.setCells b j vs) := fun W h j vs e => by
    have ho := only_cells b vs j W
    have hc := Blk.cells vs j W _ h.1
    rw [e] at hc
    exact ⟨hc, h.2.1.only ho (by omega), h.2.2.trans (ho.below (Nat.le_refl _))⟩
  refine h_st 10 (st_va hS6.1 hz3 x.ka x.na x.sa) (hZ _ hS6 4 _ rfl) ?_
  have hS7 := hZ _ hS6 4 [.int .i64 x.ka, .int .i64 x.na, .string x.sa] rfl
  generalize w6.setCells b 4 [.int .i64 x.ka, .int .i64 x.na, .string x.sa] = w7 at hS7 ⊢
  clear hS
  have hS := hS7
  refine h_fd 11 hn hS ?_
  refine h_fd 12 hn hS ?_
  refine h_st 13 (st_va hS7.1 hz7 x.kb x.nb x.sb) (hZ _ hS7 7 _ rfl) ?_
  have hS8 := hZ _ hS7 7 [.int .i64 x.kb, .int .i64 x.nb, .string x.sb] rfl
  generalize w7.setCells b 7 [.int .i64 x.kb, .int .i64 x.nb, .string x.sb] = w8 at hS8 ⊢
  refine fh_end (by kernel_rfl) ?_
  clear hn
  subst ha
  dsimp only [fr, cnd, Act.put, cond_true]
  simp only [List.setIfInBounds_toArray, List.set_cons_zero, List.set_cons_succ]
  clear hZ f1 f2 f3 l1 l2 c1 c2 hcc hS7 hS6 hS5 hS hX4 hX14 hB4
  obtain ⟨hX5, hX15, hB5⟩ := hS8
  have l2 := wld_blk hX5
  go_upto_region 3 with fail
  refine wp_region_lit ?_
  refine fl_start ?_
  generalize ha : Act.mk _ _ = a0
  have hn : a0.tmps.size = 22 := by rw [← ha]; kernel_rfl
  have h1 : (fr a0 []).eval (.tmp 1) = .pointer (some ⟨b, 0, none⟩) := by rw [← ha]; kernel_rfl
  refine fl_know hn rfl h1 ?_
  clear h1
  have h2 : (fr a0 [(1, true, .pointer (some ⟨b, 0, none⟩))]).eval (.tmp 2) = .pointer (some ⟨b + 1, 0, none⟩) := by rw [← ha]; kernel_rfl
  refine fl_know hn rfl h2 ?_
  clear h2
  refine g_ld hn ?_
  refine g_str hX15 ?_ (hs := by rfl) (h1 := wr_oneC x)
  intro w9 ho9 hX9
  refine fl_end ?_
  clear hn
  subst ha
  dsimp only [fr, cnd, Act.put, cond_true]
  simp only [List.setIfInBounds_toArray, List.set_cons_zero, List.set_cons_succ]
  have hB9 := hB5.trans (ho9.below (B := b) (by omega))
  clear l2 hX5 hX15 ho9 hB5
  go_wp2_with fail
  refine bodyPost_ret (results_cell_row Tryz.results39 _ _ (b + 1) 47 x.cells (0, 0) _ (by rfl) hX9 Tryz.underlying47 (by rfl) (by kernel_rfl)) rfl ?_
  exact ⟨rfl, by first | exact hB9 | (rw [hb]; exact hB9)⟩
end Go.Proofs.YtpjleeeligahaaaGreatDoor
