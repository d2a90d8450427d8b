/-
  WHAT IS PROVED: 'what lay in w0 lies in W' as a word for XFastC's laws. Conditions: those typed in each theorem. · a write's cells, reached by an index into a slice of writes, or in a block of its own. Conditions: those typed in each theorem. · fresh.Value and fresh.Write answer what was handed in. Conditions: those typed in each theorem. · fresh.Write answers the same write; roll.Writes answers a row of its own of the lines' writes. Conditions: those typed in each theorem.
-/
import Derived.Test.YtpjleeeligahaaaGreatDoorFastC
import Derived.Test.YtpjleeeligahaaaGreatDoorGQ2
import Derived.Test.YtpjleeeligahaaaGreatDoorGQ4
import Derived.Deep.Cut
import Derived.Shelf.Abstract
import Derived.Outline
import Derived.BigRegion
import Derived.BigQuiet
import Derived.Deep.QuietTactic
import Derived.RowKitTokens
import Derived.WalkKit
import Derived.Laws.Rows
import Derived.Test.YtpjleeeligahaaaGreatDoorRLasts2
namespace Go.Proofs.YtpjleeeligahaaaGreatDoor
open Go.RowKit

/-- What lay in w0 lies in W. -/
def Kp (w0 W : World) : Prop := Below w0.heap.size w0 W
theorem Kp.refl (w : World) : Kp w w := Below.refl _ _
theorem Kp.drew (w : World) : Kp w w.drew := (Below.refl w.heap.size w).drew
theorem Kp.drews {a b : World} (h : Kp a b) : Kp a b.drew := Below.drew h
theorem Kp.blk {w0 W : World} (h : Kp w0 W) {b : Nat} {cs : Array Value} {t : TypeId} (hX : Blk w0 b cs t) : Blk W b cs t := hX.keep h
theorem Kp.trans {a b c : World} (h : Kp a b) (k : Below b.heap.size b c) : Kp a c := Below.trans h (k.mono h.size)
theorem Kp.below {a b : World} (h : Kp a b) : Below a.heap.size a b := h
/-- A call's contract under Kp. -/
theorem kp_c {w0 : World} {f : FuncId} {args : Array Value} {v : Value} (h : ∀ W, Kp w0 W → Calls Tryz.prog f args W fun e w' => e = .returned v ∧ Below W.heap.size W w') :
    ∀ W, Kp w0 W → Calls Tryz.prog f args W fun e w' => e = .returned v ∧ Kp w0 w' := fun W hW => (h W hW).mono fun _ _ ⟨he, hb⟩ => ⟨he, hW.trans hb⟩
theorem same_c {f : FuncId} {args : Array Value} {v : Value} {w : World} (h : Calls Tryz.prog f args w fun e w' => e = .returned v ∧ w' = w) : Calls Tryz.prog f args w fun e w' => e = .returned v ∧ Below w.heap.size w w' :=
  h.mono fun _ _ ⟨he, hw⟩ => ⟨he, by rw [hw]; exact Below.refl _ _⟩
theorem er_eql (i : Nat) (m k : Int) (W : World) : ((do eqGuard .eql 31 (.tmp i) (.const (.int .i64 k)) (.int .i64 m) (.int .i64 k); binOp .eql 31 (.int .i64 m) (.int .i64 k)) : Sem Value).run Tryz.prog W = .ok (.bool (m == k)) W := by go_simp
theorem er_eql2 (i j : Nat) (m k : Int) (W : World) : ((do eqGuard .eql 31 (.tmp i) (.tmp j) (.int .i64 m) (.int .i64 k); binOp .eql 31 (.int .i64 m) (.int .i64 k)) : Sem Value).run Tryz.prog W = .ok (.bool (m == k)) W := by go_simp
theorem bo_eql2 (i j : Nat) (m k : Bool) (W : World) : ((do eqGuard .eql 4 (.tmp i) (.tmp j) (.bool m) (.bool k); binOp .eql 4 (.bool m) (.bool k)) : Sem Value).run Tryz.prog W = .ok (.bool (m == k)) W := by cases m <;> cases k <;> go_simp
theorem er_neq (i : Nat) (m k : Int) (W : World) : ((do eqGuard .neq 31 (.tmp i) (.const (.int .i64 k)) (.int .i64 m) (.int .i64 k); binOp .neq 31 (.int .i64 m) (.int .i64 k)) : Sem Value).run Tryz.prog W = .ok (.bool (m != k)) W := by go_simp
theorem er_neq2 (i j : Nat) (m k : Int) (W : World) : ((do eqGuard .neq 31 (.tmp i) (.tmp j) (.int .i64 m) (.int .i64 k); binOp .neq 31 (.int .i64 m) (.int .i64 k)) : Sem Value).run Tryz.prog W = .ok (.bool (m != k)) W := by go_simp
theorem bo_neq2 (i j : Nat) (m k : Bool) (W : World) : ((do eqGuard .neq 4 (.tmp i) (.tmp j) (.bool m) (.bool k); binOp .neq 4 (.bool m) (.bool k)) : Sem Value).run Tryz.prog W = .ok (.bool (m != k)) W := by cases m <;> cases k <;> go_simp
section
variable {P : Program} {l : List Oper} {Q : Exit → Act → World → Prop} {S : World → Prop} {fuel : Nat} {listed : Array Bool} {a0 : Act} {L : List (Nat × Bool × Value)} {w : World}
/-- Any operation that reads, in a region that draws and writes. -/
theorem h_op (k : Nat) {oi : Oper} {d n : Nat} {v : Value} (hn : a0.tmps.size = n) (hS : S w) (hr : ∀ W, S W → (∀ p, p ∈ L → p.1 < a0.tmps.size) → (execOp (fr a0 L).eval oi).run P W = .ok (.value v) W) (h : FH P l Q S fuel (listed.setIfInBounds k true) a0 ((d, true, v) :: L) w) (hi : l.toArray[k]? = some oi := by rfl) (ho : oi.dst = some d := by rfl) (hd : Nat.blt d n = true := by rfl) (hw : wtG l L oi.guard = some true := by rfl) (hs : Region.noSelect l.toArray = true := by kernel_rfl) (hf : Region.free .any l.toArray listed k = true := by kernel_rfl) (hr2 : (Region.ready .any l.toArray listed).contains k = true := by kernel_rfl) (hQ : ∀ c a w, Q (.panic c) (a.put oi.dst (cnd true v)) w → Q (.panic c) a w := by exact fun _ _ _ h => h) : FH P l Q S (fuel + 1) listed a0 L w :=
  fh_op k hn hS h ho hi hd hs hf hr2 hQ hw (fun hk _ w hw => hr w hw hk)
/-- The one operation that may come up reads. -/
theorem h_one (k : Nat) {oi : Oper} {d n : Nat} {v : Value} (hn : a0.tmps.size = n) (hS : S w) (hx : (∀ p, p ∈ L → p.1 < a0.tmps.size) → (execOp (fr a0 L).eval oi).run P w = .ok (.value v) w) (h : FH P l Q S fuel (listed.setIfInBounds k true) a0 ((d, true, v) :: L) w) (hi : l.toArray[k]? = some oi := by rfl) (ho : oi.dst = some d := by rfl) (hd : Nat.blt d n = true := by rfl) (hw : wtG l L oi.guard = some true := by rfl) (hr : Region.ready .any l.toArray listed = [k] := by kernel_rfl) : FH P l Q S (fuel + 1) listed a0 L w :=
  fh_valx k hn ho hx hS h hi hd hr hw
/-- The last operation stores. -/
theorem h_st (k : Nat) {w2 : World} {i j : Nat} {t ty : TypeId} {p : String} {af : Array Edge} {gd : Option (Nat × Bool)} {ad : Addr} {v : Value} (hs : (Instr.storeAt t (.pointer (some ad)) v).run P w = .ok () w2) (hS : S w2) (h : FH P l Q S fuel (listed.setIfInBounds k true) a0 L w2) (hi : l.toArray[k]? = some ⟨none, .store t (.tmp i) (.tmp j), ty, p, af, gd⟩ := by rfl) (h1 : lk L i = some (true, .pointer (some ad)) := by rfl) (h2 : lk L j = some (true, v) := by rfl) (hr : Region.ready .any l.toArray listed = [k] := by kernel_rfl) (hw : wtG l L gd = some true := by rfl) : FH P l Q S (fuel + 1) listed a0 L w :=
  fh_skip k rfl (fun hk => run_st (lk_at hk h1 (fun _ => rfl) rfl) (lk_at hk h2 (fun _ => rfl) rfl) hs) hS h hi hr hw
end
section
variable {P : Program} {l : List Oper} {Q : Exit → Act → World → Prop} {S : World → Prop} {fuel : Nat} {listed : Array Bool} {a0 : Act} {L : List (Nat × Bool × Value)} {w : World}
/-- The one operation that may come up yields one value and keeps S. -/
theorem h_yv (k : Nat) {oi : Oper} {d n : Nat} {v : Value} (hn : a0.tmps.size = n) (hS : S w) (hy : (∀ p, p ∈ L → p.1 < a0.tmps.size) → YV P S (fr a0 L).eval oi v) (h : ∀ w2, S w2 → FH P l Q S fuel (listed.setIfInBounds k true) a0 ((d, true, v) :: L) w2)
    (hi : l.toArray[k]? = some oi := by rfl) (ho : oi.dst = some d := by rfl) (hd : Nat.blt d n = true := by rfl) (hr : Region.ready .any l.toArray listed = [k] := by kernel_rfl) (hw : wtG l L oi.guard = some true := by rfl) : FH P l Q S (fuel + 1) listed a0 L w :=
  fh_val k hn (R := fun u w2 => u = v ∧ S w2) (fun K hK hk => (hy hk).wp hS fun w2 hs => by rw [ho]; exact hK v w2 ⟨rfl, hs⟩) (fun u w2 e => by obtain ⟨rfl, hs⟩ := e; exact ⟨hs, h w2 hs⟩) hi hd hr hw
end
/-- A struct or an array of a call's own: its block, laid and stored. -/
theorem al_row {d n : Nat} {l : List Oper} {Q : Exit → Act → World → Prop} {rest : List Oper} {a0 : Act} {L : List (Nat × Bool × Value)} {w : World} {t ty : TypeId} {p : String} {af : Array Edge} {z : Array Value} (hn : a0.tmps.size = n)
    (hr : (Instr.alloc t true (.tuple #[])).run Tryz.prog w = .ok (.pointer (some ⟨w.heap.size, 0, none⟩)) (w.alloc (.cells z t)))
    (h : ∀ g w2, g = w.heap.size → Blk w2 g z t → Below w.heap.size w w2 → FL Tryz.prog l Q rest a0 ((d, true, .pointer (some ⟨g, 0, none⟩)) :: L) w2) (hd : Nat.blt d n = true := by rfl) : FL Tryz.prog l Q (⟨some d, .alloc t, ty, p, af, none⟩ :: rest) a0 L w :=
  g_w hn (w2 := w.alloc (.cells z t)) (v := .pointer (some ⟨w.heap.size, 0, none⟩)) (fun _ => by unfold execOp; dsimp only; rw [Sem.run_bind, hr]; rfl) (h _ _ rfl (blk_new w z t) (b0 w _)) rfl hd rfl
end Go.Proofs.YtpjleeeligahaaaGreatDoor

namespace Go.Proofs.YtpjleeeligahaaaGreatDoor
open Go.RowKit

abbrev tWr : TypeId := 47
abbrev tId : TypeId := 40
theorem wix (W : World) (ad : Addr) (n c k : Nat) (h : k < n) : (Instr.indexAt 37 (.slice (some ad) n c) (.int .i64 (k : Int))).run Tryz.prog W = .ok (.pointer (some (ad.add (k * 10)))) W := by
  have i1 : (0 : Int) ≤ (k : Int) := by omega
  have i2 : (k : Int) < (n : Int) := by omega
  go_simp
theorem wld {W : World} {ad : Addr} {k : Nat} {x : Wr} (hc : ∀ j v, x.cells[j]? = some v → W.cell? (ad.add (k * 10 + j)) = some v) : (Instr.loadAt tWr (.pointer (some (ad.add (k * 10))))).run Tryz.prog W = .ok (.agg x.cells) W := by
  obtain ⟨c0, c1, c2, c3, c4, c5, c6, c7, c8, c9⟩ := wr_cells hc
  clear hc
  go_simp
theorem wld_blk {W : World} {g : Nat} {x : Wr} {t : TypeId} (h : Blk W g x.cells t) : (Instr.loadAt tWr (.pointer (some ⟨g, 0, none⟩))).run Tryz.prog W = .ok (.agg x.cells) W := by
  have c0 := h.cell 0
  have c1 := h.cell 1
  have c2 := h.cell 2
  have c3 := h.cell 3
  have c4 := h.cell 4
  have c5 := h.cell 5
  have c6 := h.cell 6
  have c7 := h.cell 7
  have c8 := h.cell 8
  have c9 := h.cell 9
  clear h
  go_simp
theorem wfd0 (W : World) (a : Addr) : (Instr.fieldAt tWr (.pointer (some a)) 0).run Tryz.prog W = .ok (.pointer (some a)) W := by go_simp
theorem wfd1 (W : World) (a : Addr) : (Instr.fieldAt tWr (.pointer (some a)) 1).run Tryz.prog W = .ok (.pointer (some ⟨a.block, a.off + 2, none⟩)) W := by go_simp
theorem ifd0 (W : World) (a : Addr) : (Instr.fieldAt tId (.pointer (some a)) 0).run Tryz.prog W = .ok (.pointer (some a)) W := by go_simp
theorem ifd1 (W : World) (a : Addr) : (Instr.fieldAt tId (.pointer (some a)) 1).run Tryz.prog W = .ok (.pointer (some ⟨a.block, a.off + 1, none⟩)) W := by go_simp
theorem ild {W : World} {a : Addr} {dev seq : Value} (h0 : W.cell? a = some dev) (h1 : W.cell? ⟨a.block, a.off + 1, none⟩ = some seq) : (Instr.loadAt tId (.pointer (some a))).run Tryz.prog W = .ok (.agg #[dev, seq]) W := by go_simp
theorem alW (w : World) : (Instr.alloc tWr true (.tuple #[])).run Tryz.prog w = .ok (.pointer (some ⟨w.heap.size, 0, none⟩)) (w.alloc (.cells (⟨0, 0, 0, ⟨#[]⟩, 0, 0, ⟨#[]⟩, 0, 0, ⟨#[]⟩⟩ : Wr).cells tWr)) := by kernel_rfl
theorem alI (w : World) : (Instr.alloc tId true (.tuple #[])).run Tryz.prog w = .ok (.pointer (some ⟨w.heap.size, 0, none⟩)) (w.alloc (.cells #[.int .i64 0, .int .i64 0] tId)) := by kernel_rfl
theorem id_oneC (a b : Int) : (#[.int .i64 a, .int .i64 b] : Array Value).all (·.oneCell') = true := by
  rw [show (#[.int .i64 a, .int .i64 b] : Array Value) = [.int .i64 a, .int .i64 b].toArray from rfl, List.all_toArray]
  simp [Value.oneCell']
theorem wr_oneC (x : Wr) : x.cells.all (·.oneCell') = true := by
  obtain ⟨dev, seq, K, ky, ka, na, sa, kb, nb, sb⟩ := x
  show (wrI dev seq K ky ka na sa kb nb sb).all _ = true
  rw [show wrI dev seq K ky ka na sa kb nb sb = [.int .i64 dev, .int .i64 seq, .int .i64 K, .string ky, .int .i64 ka, .int .i64 na, .string sa, .int .i64 kb, .int .i64 nb, .string sb].toArray from rfl, List.all_toArray]
  simp [Value.oneCell']
end Go.Proofs.YtpjleeeligahaaaGreatDoor

namespace Go.Proofs.YtpjleeeligahaaaGreatDoor
open Go.RowKit

theorem en_strings_Clone : ∀ args w, (callFunc 82 args).run Tryz.prog w = .ok (.enter 82 args) w := enters_of Tryz.func82 (by kernel_rfl) rfl
theorem en_spinney_fresh_Value : ∀ args w, (callFunc 83 args).run Tryz.prog w = .ok (.enter 83 args) w := enters_of Tryz.func83 (by kernel_rfl) rfl

theorem all_oneC {l : List Value} (h : ∀ v, v ∈ l → v.oneCell' = true) : (l.toArray).all (·.oneCell') = true := by
  rw [List.all_toArray]
  exact List.all_eq_true.2 h
theorem va_oneC (k n : Int) (t : ByteArray) : (#[.int .i64 k, .int .i64 n, .string t] : Array Value).all (·.oneCell') = true := all_oneC (l := [.int .i64 k, .int .i64 n, .string t]) (by simp [Value.oneCell'])
theorem vfd (W : World) (b : Nat) : (Instr.fieldAt 43 (.pointer (some ⟨b, 0, none⟩)) 2).run Tryz.prog W = .ok (.pointer (some ⟨b, 2, none⟩)) W := by go_simp
theorem ld_str {W : World} {a : Addr} {t : ByteArray} (h : W.cell? a = some (.string t)) : (Instr.loadAt 9 (.pointer (some a))).run Tryz.prog W = .ok (.string t) W := by go_simp
theorem st_str {W : World} {b j : Nat} {cs : Array Value} {T : TypeId} (hX : Blk W b cs T) (hj : j < cs.size) (t : ByteArray) : (Instr.storeAt 9 (.pointer (some ⟨b, j, none⟩)) (.string t)).run Tryz.prog W = .ok () (W.setCell ⟨b, j, none⟩ (.string t)) := by
  obtain ⟨u, hu⟩ := blk_some hX hj
  have hf := hX.free j
  clear hX
  go_simp
theorem vld {W : World} {b o : Nat} {k n : Int} {t : ByteArray} (h0 : W.cell? ⟨b, o, none⟩ = some (.int .i64 k)) (h1 : W.cell? ⟨b, o + 1, none⟩ = some (.int .i64 n)) (h2 : W.cell? ⟨b, o + 2, none⟩ = some (.string t)) : (Instr.loadAt 43 (.pointer (some ⟨b, o, none⟩))).run Tryz.prog W = .ok (.agg #[.int .i64 k, .int .i64 n, .string t]) W := by go_simp
set_option maxRecDepth 100000 in
set_option maxHeartbeats 4000000 in
theorem freshValue_any (k n : Int) (t : ByteArray) (w : World) (ht : t.size ≤ 1000000) : Calls Tryz.prog 83 #[.agg #[.int .i64 k, .int .i64 n, .string t]] w fun e w' => e = .returned (.agg #[.int .i64 k, .int .i64 n, .string t]) ∧ Below w.heap.size w w' := by
  have hX0 := blk_new w #[.int .i64 k, .int .i64 n, .string t] 43
  replace hX0 := hX0.alloc (.cells #[.int .i64 0, .int .i64 0, .string ⟨#[]⟩] 43)
  have hz1 : (w.alloc (.cells #[.int .i64 k, .int .i64 n, .string t] 43)).heap.size = w.heap.size + 1 := by simp
  have hX1 := blk_new (w.alloc (.cells #[.int .i64 k, .int .i64 n, .string t] 43)) #[.int .i64 0, .int .i64 0, .string ⟨#[]⟩] 43
  rw [hz1] at hX1
  have hB := ba (b0 w (.cells #[.int .i64 k, .int .i64 n, .string t] 43)) (.cells #[.int .i64 0, .int .i64 0, .string ⟨#[]⟩] 43)
  have hzz : ((w.alloc (.cells #[.int .i64 k, .int .i64 n, .string t] 43)).alloc (.cells #[.int .i64 0, .int .i64 0, .string ⟨#[]⟩] 43)).heap.size = w.heap.size + 2 := by simp
  go_enter Tryz.func83, Tryz.ntmps83
  go_upto_region 1 with fail
  generalize ((w.alloc (.cells #[.int .i64 k, .int .i64 n, .string t] 43)).alloc (.cells #[.int .i64 0, .int .i64 0, .string ⟨#[]⟩] 43)) = W0 at hX0 hX1 hB hzz ⊢
  (try simp only [hz1])
  clear hz1
  generalize hb : w.heap.size = b at hX0 hX1 hB hzz ⊢
  have f1 : ∀ W, Kp W0 W → (Instr.fieldAt 43 (.pointer (some ⟨b, 0, none⟩)) 2).run Tryz.prog W = .ok (.pointer (some ⟨b, 2, none⟩)) W := fun W _ => vfd W b
  have l1 : ∀ W, Kp W0 W → (Instr.loadAt 9 (.pointer (some ⟨b, 2, none⟩))).run Tryz.prog W = .ok (.string t) W := fun W h => ld_str ((h.blk hX0).cell 2)
  have c1 : ∀ W, Kp W0 W → _ := kp_c fun W _ => sclone_any t W ht
  refine wp_region_lit ?_
  refine fs_start (Kp W0) (Kp.refl _) ?_
  generalize ha : Act.mk _ _ = a0
  have hn : a0.tmps.size = 8 := by rw [← ha]; kernel_rfl
  have h1 : (fr a0 []).eval (.tmp 1) = .pointer (some ⟨b, 0, none⟩) := by rw [← ha]; kernel_rfl
  refine fs_know hn rfl h1 ?_
  clear h1
  refine s_fd hn ?_
  refine s_ld hn ?_
  refine s_callt hn ?_ (he := en_strings_Clone)
  refine s_fd hn ?_
  refine fs_fl fun w3 hS => ?_
  have hX03 := hS.blk hX0
  have hX13 := hS.blk hX1
  have hB3 : Below b w w3 := hB.trans (hS.below.mono (by omega))
  refine g_stt hX03 (st_str (j := 2) hX03 (by simp) t) ?_
  intro w4 ho hX4
  refine fl_end ?_
  clear hn
  subst ha
  dsimp only [fr, cnd, Act.put, cond_true]
  simp only [List.setIfInBounds_toArray, List.set_cons_zero, List.set_cons_succ]
  have hX4 : Blk w4 b #[.int .i64 k, .int .i64 n, .string t] 43 := hX4
  have hX14 := hX13.only ho (by omega)
  have hB4 := hB3.trans (ho.below (B := b) (Nat.le_refl _))
  clear f1 l1 c1 hX0 hX1 hB hS hX03 hX13 hB3 ho
  have l2 := vld (W := w4) (b := b) (o := 0) (hX4.cell 0) (hX4.cell 1) (hX4.cell 2)
  go_upto_region 2 with fail
  refine wp_region_lit ?_
  refine fl_start ?_
  generalize ha : Act.mk _ _ = a0
  have hn : a0.tmps.size = 8 := by rw [← ha]; kernel_rfl
  have h1 : (fr a0 []).eval (.tmp 1) = .pointer (some ⟨b, 0, none⟩) := by rw [← ha]; kernel_rfl
  refine fl_know hn rfl h1 ?_
  clear h1
  have h2 : (fr a0 [(1, true, .pointer (some ⟨b, 0, none⟩))]).eval (.tmp 2) = .pointer (some ⟨b + 1, 0, none⟩) := by rw [← ha]; kernel_rfl
  refine fl_know hn rfl h2 ?_
  clear h2
  refine g_ld hn ?_
  refine g_str hX14 ?_ (h1 := va_oneC k n t)
  intro w5 ho5 hX5
  refine fl_end ?_
  clear hn
  subst ha
  dsimp only [fr, cnd, Act.put, cond_true]
  simp only [List.setIfInBounds_toArray, List.set_cons_zero, List.set_cons_succ]
  have hB5 := hB4.trans (ho5.below (B := b) (by omega))
  clear l2 hX4 hX14 ho5 hB4
  go_wp2_with fail
  refine bodyPost_ret (results_cell_row Tryz.results83 _ _ (b + 1) 43 #[.int .i64 k, .int .i64 n, .string t] (0, 0) _ (by rfl) hX5 Tryz.underlying43 (by rfl) (by kernel_rfl)) rfl ?_
  exact ⟨rfl, by first | exact hB5 | (rw [hb]; exact hB5)⟩
theorem wfdO (W : World) (b : Nat) : (Instr.fieldAt 47 (.pointer (some ⟨b, 0, none⟩)) 1).run Tryz.prog W = .ok (.pointer (some ⟨b, 2, none⟩)) W := by go_simp
theorem ofd1 (W : World) (b : Nat) : (Instr.fieldAt 45 (.pointer (some ⟨b, 2, none⟩)) 1).run Tryz.prog W = .ok (.pointer (some ⟨b, 3, none⟩)) W := by go_simp
theorem ofd2 (W : World) (b : Nat) : (Instr.fieldAt 45 (.pointer (some ⟨b, 2, none⟩)) 2).run Tryz.prog W = .ok (.pointer (some ⟨b, 4, none⟩)) W := by go_simp
theorem ofd3 (W : World) (b : Nat) : (Instr.fieldAt 45 (.pointer (some ⟨b, 2, none⟩)) 3).run Tryz.prog W = .ok (.pointer (some ⟨b, 7, none⟩)) W := by go_simp
theorem st_va {W : World} {b j : Nat} {cs : Array Value} {T : TypeId} (hX : Blk W b cs T) (hj : j + 3 ≤ cs.size) (k n : Int) (t : ByteArray) : (Instr.storeAt 43 (.pointer (some ⟨b, j, none⟩)) (.agg #[.int .i64 k, .int .i64 n, .string t])).run Tryz.prog W = .ok () (W.setCells b j [.int .i64 k, .int .i64 n, .string t]) := by
  simp only [Instr.storeAt, Instr.sureAddr, Sem.run_bind, Sem.run_pure, Result.andThen_ok]
  exact run_storeVar_mid W b j 43 #[.int .i64 k, .int .i64 n, .string t] (fun i hi => ⟨by rw [hX.cell, Array.getElem?_eq_getElem (by simp at hi; omega)]; rfl, hX.free _⟩) (by kernel_rfl) (va_oneC k n t)
set_option maxRecDepth 100000 in
set_option maxHeartbeats 4000000 in
theorem freshWr_any (x : Wr) (w : World) (h1 : x.ky.size ≤ 1000000) (h2 : x.sa.size ≤ 1000000) (h3 : x.sb.size ≤ 1000000) : Calls Tryz.prog 39 #[.agg x.cells] w fun e w' => e = .returned (.agg x.cells) ∧ Below w.heap.size w w' := by
  have hX0 := blk_new w x.cells 47
  replace hX0 := hX0.alloc (.cells (wrI 0 0 0 ⟨#[]⟩ 0 0 ⟨#[]⟩ 0 0 ⟨#[]⟩) 47)
  have hz1 : (w.alloc (.cells x.cells 47)).heap.size = w.heap.size + 1 := by simp
  have hX1 := blk_new (w.alloc (.cells x.cells 47)) (wrI 0 0 0 ⟨#[]⟩ 0 0 ⟨#[]⟩ 0 0 ⟨#[]⟩) 47
  rw [hz1] at hX1
  have hB := ba (b0 w (.cells x.cells 47)) (.cells (wrI 0 0 0 ⟨#[]⟩ 0 0 ⟨#[]⟩ 0 0 ⟨#[]⟩) 47)
  have hzz : ((w.alloc (.cells x.cells 47)).alloc (.cells (wrI 0 0 0 ⟨#[]⟩ 0 0 ⟨#[]⟩ 0 0 ⟨#[]⟩) 47)).heap.size = w.heap.size + 2 := by simp
  go_enter Tryz.func39, Tryz.ntmps39
  go_upto_region 1 with fail
  generalize ((w.alloc (.cells x.cells 47)).alloc (.cells (wrI 0 0 0 ⟨#[]⟩ 0 0 ⟨#[]⟩ 0 0 ⟨#[]⟩) 47)) = W0 at hX0 hX1 hB hzz ⊢
  (try simp only [hz1])
  clear hz1
  generalize hb : w.heap.size = b at hX0 hX1 hB hzz ⊢
  have f1 : ∀ W, Kp W0 W → (Instr.fieldAt 47 (.pointer (some ⟨b, 0, none⟩)) 1).run Tryz.prog W = .ok (.pointer (some ⟨b, 2, none⟩)) W := fun W _ => wfdO W b
  have f2 : ∀ W, Kp W0 W → (Instr.fieldAt 45 (.pointer (some ⟨b, 2, none⟩)) 1).run Tryz.prog W = .ok (.pointer (some ⟨b, 3, none⟩)) W := fun W _ => ofd1 W b
  have l1 : ∀ W, Kp W0 W → (Instr.loadAt 9 (.pointer (some ⟨b, 3, none⟩))).run Tryz.prog W = .ok (.string x.ky) W := fun W h => ld_str ((h.blk hX0).cell 3)
  have c1 : ∀ W, Kp W0 W → _ := kp_c fun W _ => sclone_any x.ky W h1
  refine wp_region_lit ?_
  refine fs_start (Kp W0) (Kp.refl _) ?_
  generalize ha : Act.mk _ _ = a0
  have hn : a0.tmps.size = 22 := by rw [← ha]; kernel_rfl
  have h1 : (fr a0 []).eval (.tmp 1) = .pointer (some ⟨b, 0, none⟩) := by rw [← ha]; kernel_rfl
  refine fs_know hn rfl h1 ?_
  clear h1
  refine s_fd hn ?_
  refine s_fd hn ?_
  refine s_ld hn ?_
  refine s_callt hn ?_ (he := en_strings_Clone)
  refine s_fd hn ?_
  refine s_fd hn ?_
  refine fs_fl fun w3 hS => ?_
  have hX03 := hS.blk hX0
  have hX13 := hS.blk hX1
  have hB3 : Below b w w3 := hB.trans (hS.below.mono (by omega))
  refine g_stt hX03 (st_str (j := 3) hX03 (by show 3 < 10; omega) x.ky) ?_
  intro w4 ho hX4
  refine fl_end ?_
  clear hn
  subst ha
  dsimp only [fr, cnd, Act.put, cond_true]
  simp only [List.setIfInBounds_toArray, List.set_cons_zero, List.set_cons_succ]
  have hX4 : Blk w4 b x.cells 47 := hX4
  have hX14 := hX13.only ho (by omega)
  have hB4 := hB3.trans (ho.below (B := b) (Nat.le_refl _))
  clear f1 f2 l1 c1 hX0 hX1 hB hS hX03 hX13 hB3 ho
  have hsz4 : b + 1 < w4.heap.size := hX14.lt
  have f1 : ∀ W, (fun W => Blk W b x.cells 47 ∧ Blk W (b + 1) (wrI 0 0 0 ⟨#[]⟩ 0 0 ⟨#[]⟩ 0 0 ⟨#[]⟩) 47 ∧ Below b w W) W → (Instr.fieldAt 47 (.pointer (some ⟨b, 0, none⟩)) 1).run Tryz.prog W = .ok (.pointer (some ⟨b, 2, none⟩)) W := fun W _ => wfdO W b
  have f2 : ∀ W, (fun W => Blk W b x.cells 47 ∧ Blk W (b + 1) (wrI 0 0 0 ⟨#[]⟩ 0 0 ⟨#[]⟩ 0 0 ⟨#[]⟩) 47 ∧ Below b w W) W → (Instr.fieldAt 45 (.pointer (some ⟨b, 2, none⟩)) 2).run Tryz.prog W = .ok (.pointer (some ⟨b, 4, none⟩)) W := fun W _ => ofd2 W b
  have f3 : ∀ W, (fun W => Blk W b x.cells 47 ∧ Blk W (b + 1) (wrI 0 0 0 ⟨#[]⟩ 0 0 ⟨#[]⟩ 0 0 ⟨#[]⟩) 47 ∧ Below b w W) W → (Instr.fieldAt 45 (.pointer (some ⟨b, 2, none⟩)) 3).run Tryz.prog W = .ok (.pointer (some ⟨b, 7, none⟩)) W := fun W _ => ofd3 W b
  have l1 : ∀ W, (fun W => Blk W b x.cells 47 ∧ Blk W (b + 1) (wrI 0 0 0 ⟨#[]⟩ 0 0 ⟨#[]⟩ 0 0 ⟨#[]⟩) 47 ∧ Below b w W) W → (Instr.loadAt 43 (.pointer (some ⟨b, 4, none⟩))).run Tryz.prog W = .ok (.agg #[.int .i64 x.ka, .int .i64 x.na, .string x.sa]) W := fun W h => vld (h.1.cell 4) (h.1.cell 5) (h.1.cell 6)
  have l2 : ∀ W, (fun W => Blk W b x.cells 47 ∧ Blk W (b + 1) (wrI 0 0 0 ⟨#[]⟩ 0 0 ⟨#[]⟩ 0 0 ⟨#[]⟩) 47 ∧ Below b w W) W → (Instr.loadAt 43 (.pointer (some ⟨b, 7, none⟩))).run Tryz.prog W = .ok (.agg #[.int .i64 x.kb, .int .i64 x.nb, .string x.sb]) W := fun W h => vld (h.1.cell 7) (h.1.cell 8) (h.1.cell 9)
  have hcc : ∀ (v : Array Value), (∀ W, Calls Tryz.prog 83 #[.agg v] W fun e w' => e = .returned (.agg v) ∧ Below W.heap.size W w') → ∀ W, (fun W => Blk W b x.cells 47 ∧ Blk W (b + 1) (wrI 0 0 0 ⟨#[]⟩ 0 0 ⟨#[]⟩ 0 0 ⟨#[]⟩) 47 ∧ Below b w W) W → Calls Tryz.prog 83 #[.agg v] W fun e w' => e = .returned (.agg v) ∧ (fun W => Blk W b x.cells 47 ∧ Blk W (b + 1) (wrI 0 0 0 ⟨#[]⟩ 0 0 ⟨#[]⟩ 0 0 ⟨#[]⟩) 47 ∧ Below b w W) w' := fun v hc W h => (hc W).mono fun _ _ ⟨he, hb2⟩ => ⟨he, h.1.keep hb2, h.2.1.keep hb2, h.2.2.trans (hb2.mono (by have := h.1.lt; omega))⟩
  have c1 := hcc _ (fun W => freshValue_any x.ka x.na x.sa W h2)
  have c2 := hcc _ (fun W => freshValue_any x.kb x.nb x.sb W h3)
  go_upto_region 2 with fail
  refine fh_start (S := fun W => Blk W b x.cells 47 ∧ Blk W (b + 1) (wrI 0 0 0 ⟨#[]⟩ 0 0 ⟨#[]⟩ 0 0 ⟨#[]⟩) 47 ∧ Below b w W) (by kernel_rfl) (⟨hX4, hX14, hB4.drew⟩) (fun hS => ?_)
  generalize ha : Act.mk _ _ = a0
  have hn : a0.tmps.size = 22 := by rw [← ha]; kernel_rfl
  have h1 : (fr a0 []).eval (.tmp 1) = .pointer (some ⟨b, 0, none⟩) := by rw [← ha]; kernel_rfl
  refine fh_know hn rfl h1 ?_
  clear h1
  refine h_fd 0 hn hS ?_
  refine h_fd 1 hn hS ?_
  refine h_ld 2 hn hS ?_
  refine h_fd 4 hn hS ?_
  refine h_fd 5 hn hS ?_
  refine h_ld 6 hn hS ?_
  refine h_yv 3 hn hS (fun hk => yv_call (fun w => call1_is en_spinney_fresh_Value _ _ _ _ _ _ _ _ _ (lk_at hk (i := 11) rfl (fun _ => rfl) rfl) rfl) c1) ?_
  intro w5 hS5
  clear hS
  have hS := hS5
  refine h_fd 8 hn hS ?_
  refine h_fd 9 hn hS ?_
  refine h_yv 7 hn hS5 (fun hk => yv_call (fun w => call1_is en_spinney_fresh_Value _ _ _ _ _ _ _ _ _ (lk_at hk (i := 15) rfl (fun _ => rfl) rfl) rfl) c2) ?_
  intro w6 hS6
  have hz3 : 4 + 3 ≤ x.cells.size := by show 7 ≤ 10; omega
  have hz7 : 7 + 3 ≤ x.cells.size := by show 10 ≤ 10; omega
  have hZ : ∀ W, (fun W => Blk W b x.cells 47 ∧ Blk W (b + 1) (wrI 0 0 0 ⟨#[]⟩ 0 0 ⟨#[]⟩ 0 0 ⟨#[]⟩) 47 ∧ Below b w W) W → ∀ j vs, setL x.cells j vs = x.cells → (fun W => Blk W b x.cells 47 ∧ Blk W (b + 1) (wrI 0 0 0 ⟨#[]⟩ 0 0 ⟨#[]⟩ 0 0 ⟨#[]⟩) 47 ∧ Below b w W) (W.setCells b j vs) := fun W h j vs e => by
    have ho := only_cells b vs j W
    have hc := Blk.cells vs j W _ h.1
    rw [e] at hc
    exact ⟨hc, h.2.1.only ho (by omega), h.2.2.trans (ho.below (Nat.le_refl _))⟩
  refine h_st 10 (st_va hS6.1 hz3 x.ka x.na x.sa) (hZ _ hS6 4 _ rfl) ?_
  have hS7 := hZ _ hS6 4 [.int .i64 x.ka, .int .i64 x.na, .string x.sa] rfl
  generalize w6.setCells b 4 [.int .i64 x.ka, .int .i64 x.na, .string x.sa] = w7 at hS7 ⊢
  clear hS
  have hS := hS7
  refine h_fd 11 hn hS ?_
  refine h_fd 12 hn hS ?_
  refine h_st 13 (st_va hS7.1 hz7 x.kb x.nb x.sb) (hZ _ hS7 7 _ rfl) ?_
  have hS8 := hZ _ hS7 7 [.int .i64 x.kb, .int .i64 x.nb, .string x.sb] rfl
  generalize w7.setCells b 7 [.int .i64 x.kb, .int .i64 x.nb, .string x.sb] = w8 at hS8 ⊢
  refine fh_end (by kernel_rfl) ?_
  clear hn
  subst ha
  dsimp only [fr, cnd, Act.put, cond_true]
  simp only [List.setIfInBounds_toArray, List.set_cons_zero, List.set_cons_succ]
  clear hZ f1 f2 f3 l1 l2 c1 c2 hcc hS7 hS6 hS5 hS hX4 hX14 hB4
  obtain ⟨hX5, hX15, hB5⟩ := hS8
  have l2 := wld_blk hX5
  go_upto_region 3 with fail
  refine wp_region_lit ?_
  refine fl_start ?_
  generalize ha : Act.mk _ _ = a0
  have hn : a0.tmps.size = 22 := by rw [← ha]; kernel_rfl
  have h1 : (fr a0 []).eval (.tmp 1) = .pointer (some ⟨b, 0, none⟩) := by rw [← ha]; kernel_rfl
  refine fl_know hn rfl h1 ?_
  clear h1
  have h2 : (fr a0 [(1, true, .pointer (some ⟨b, 0, none⟩))]).eval (.tmp 2) = .pointer (some ⟨b + 1, 0, none⟩) := by rw [← ha]; kernel_rfl
  refine fl_know hn rfl h2 ?_
  clear h2
  refine g_ld hn ?_
  refine g_str hX15 ?_ (hs := by rfl) (h1 := wr_oneC x)
  intro w9 ho9 hX9
  refine fl_end ?_
  clear hn
  subst ha
  dsimp only [fr, cnd, Act.put, cond_true]
  simp only [List.setIfInBounds_toArray, List.set_cons_zero, List.set_cons_succ]
  have hB9 := hB5.trans (ho9.below (B := b) (by omega))
  clear l2 hX5 hX15 ho9 hB5
  go_wp2_with fail
  refine bodyPost_ret (results_cell_row Tryz.results39 _ _ (b + 1) 47 x.cells (0, 0) _ (by rfl) hX9 Tryz.underlying47 (by rfl) (by kernel_rfl)) rfl ?_
  exact ⟨rfl, by first | exact hB9 | (rw [hb]; exact hB9)⟩
end Go.Proofs.YtpjleeeligahaaaGreatDoor

namespace Go.Proofs.YtpjleeeligahaaaGreatDoor
open Go.RowKit

theorem set10 {W : World} {b : Nat} {u0 u1 u2 u3 u4 u5 u6 u7 u8 u9 : Value} {t : TypeId} (h : Blk W b #[u0, u1, u2, u3, u4, u5, u6, u7, u8, u9] t) (v0 v1 v2 v3 v4 v5 v6 v7 v8 v9 : Value) : Blk ((((((((((W.setCell ⟨b, 0, none⟩ v0).setCell ⟨b, 1, none⟩ v1).setCell ⟨b, 2, none⟩ v2).setCell ⟨b, 3, none⟩ v3).setCell ⟨b, 4, none⟩ v4).setCell ⟨b, 5, none⟩ v5).setCell ⟨b, 6, none⟩ v6).setCell ⟨b, 7, none⟩ v7).setCell ⟨b, 8, none⟩ v8).setCell ⟨b, 9, none⟩ v9) b #[v0, v1, v2, v3, v4, v5, v6, v7, v8, v9] t := by
  have h0 : Blk (W.setCell ⟨b, 0, none⟩ v0) b #[v0, u1, u2, u3, u4, u5, u6, u7, u8, u9] t := h.set 0 v0
  have h1 : Blk ((W.setCell ⟨b, 0, none⟩ v0).setCell ⟨b, 1, none⟩ v1) b #[v0, v1, u2, u3, u4, u5, u6, u7, u8, u9] t := h0.set 1 v1
  have h2 : Blk (((W.setCell ⟨b, 0, none⟩ v0).setCell ⟨b, 1, none⟩ v1).setCell ⟨b, 2, none⟩ v2) b #[v0, v1, v2, u3, u4, u5, u6, u7, u8, u9] t := h1.set 2 v2
  have h3 : Blk ((((W.setCell ⟨b, 0, none⟩ v0).setCell ⟨b, 1, none⟩ v1).setCell ⟨b, 2, none⟩ v2).setCell ⟨b, 3, none⟩ v3) b #[v0, v1, v2, v3, u4, u5, u6, u7, u8, u9] t := h2.set 3 v3
  have h4 : Blk (((((W.setCell ⟨b, 0, none⟩ v0).setCell ⟨b, 1, none⟩ v1).setCell ⟨b, 2, none⟩ v2).setCell ⟨b, 3, none⟩ v3).setCell ⟨b, 4, none⟩ v4) b #[v0, v1, v2, v3, v4, u5, u6, u7, u8, u9] t := h3.set 4 v4
  have h5 : Blk ((((((W.setCell ⟨b, 0, none⟩ v0).setCell ⟨b, 1, none⟩ v1).setCell ⟨b, 2, none⟩ v2).setCell ⟨b, 3, none⟩ v3).setCell ⟨b, 4, none⟩ v4).setCell ⟨b, 5, none⟩ v5) b #[v0, v1, v2, v3, v4, v5, u6, u7, u8, u9] t := h4.set 5 v5
  have h6 : Blk (((((((W.setCell ⟨b, 0, none⟩ v0).setCell ⟨b, 1, none⟩ v1).setCell ⟨b, 2, none⟩ v2).setCell ⟨b, 3, none⟩ v3).setCell ⟨b, 4, none⟩ v4).setCell ⟨b, 5, none⟩ v5).setCell ⟨b, 6, none⟩ v6) b #[v0, v1, v2, v3, v4, v5, v6, u7, u8, u9] t := h5.set 6 v6
  have h7 : Blk ((((((((W.setCell ⟨b, 0, none⟩ v0).setCell ⟨b, 1, none⟩ v1).setCell ⟨b, 2, none⟩ v2).setCell ⟨b, 3, none⟩ v3).setCell ⟨b, 4, none⟩ v4).setCell ⟨b, 5, none⟩ v5).setCell ⟨b, 6, none⟩ v6).setCell ⟨b, 7, none⟩ v7) b #[v0, v1, v2, v3, v4, v5, v6, v7, u8, u9] t := h6.set 7 v7
  have h8 : Blk (((((((((W.setCell ⟨b, 0, none⟩ v0).setCell ⟨b, 1, none⟩ v1).setCell ⟨b, 2, none⟩ v2).setCell ⟨b, 3, none⟩ v3).setCell ⟨b, 4, none⟩ v4).setCell ⟨b, 5, none⟩ v5).setCell ⟨b, 6, none⟩ v6).setCell ⟨b, 7, none⟩ v7).setCell ⟨b, 8, none⟩ v8) b #[v0, v1, v2, v3, v4, v5, v6, v7, v8, u9] t := h7.set 8 v8
  have h9 : Blk ((((((((((W.setCell ⟨b, 0, none⟩ v0).setCell ⟨b, 1, none⟩ v1).setCell ⟨b, 2, none⟩ v2).setCell ⟨b, 3, none⟩ v3).setCell ⟨b, 4, none⟩ v4).setCell ⟨b, 5, none⟩ v5).setCell ⟨b, 6, none⟩ v6).setCell ⟨b, 7, none⟩ v7).setCell ⟨b, 8, none⟩ v8).setCell ⟨b, 9, none⟩ v9) b #[v0, v1, v2, v3, v4, v5, v6, v7, v8, v9] t := h8.set 9 v9
  exact h9
set_option maxRecDepth 100000 in
set_option maxHeartbeats 4000000 in
theorem freshWrite_any (x : Wr) (w : World) (h1 : x.ky.size ≤ 1000) (h2 : x.sa.size ≤ 1000) (h3 : x.sb.size ≤ 1000) :
    Calls Tryz.prog 39 #[.agg x.cells] w fun e w' => e = .returned (.agg x.cells) ∧ Below w.heap.size w w' := freshWr_any x w (by omega) (by omega) (by omega)
theorem set10X {W : World} {g p : Nat} {cs : Array Value} {t : TypeId} (h : Blk W g cs t) (v0 v1 v2 v3 v4 v5 v6 v7 v8 v9 : Value) :
    ∃ cs', Blk ((((((((((W.setCell ⟨g, p, none⟩ v0).setCell ⟨g, p + 1, none⟩ v1).setCell ⟨g, p + 2, none⟩ v2).setCell ⟨g, p + 3, none⟩ v3).setCell ⟨g, p + 4, none⟩ v4).setCell ⟨g, p + 5, none⟩ v5).setCell ⟨g, p + 6, none⟩ v6).setCell ⟨g, p + 7, none⟩ v7).setCell ⟨g, p + 8, none⟩ v8).setCell ⟨g, p + 9, none⟩ v9) g cs' t ∧ cs'.size = cs.size ∧ (∀ q, q < p ∨ p + 10 ≤ q → cs'[q]? = cs[q]?) ∧ (p + 10 ≤ cs.size → ∀ j v, (#[v0, v1, v2, v3, v4, v5, v6, v7, v8, v9] : Array Value)[j]? = some v → cs'[p + j]? = some v) := by
  refine ⟨((((((((((cs.setIfInBounds p v0).setIfInBounds (p + 1) v1).setIfInBounds (p + 2) v2).setIfInBounds (p + 3) v3).setIfInBounds (p + 4) v4).setIfInBounds (p + 5) v5).setIfInBounds (p + 6) v6).setIfInBounds (p + 7) v7).setIfInBounds (p + 8) v8).setIfInBounds (p + 9) v9), ((((((((((h.set p v0).set (p + 1) v1).set (p + 2) v2).set (p + 3) v3).set (p + 4) v4).set (p + 5) v5).set (p + 6) v6).set (p + 7) v7).set (p + 8) v8).set (p + 9) v9), by simp, fun q hq => ?_, fun hs j v hv => ?_⟩
  · simp only [Array.getElem?_setIfInBounds]
    repeat (rw [if_neg (by omega)])
  · have hj : j < 10 := by
      have := (Array.getElem?_eq_some_iff.1 hv).1
      simpa using this
    have hc : j = 0 ∨ j = 1 ∨ j = 2 ∨ j = 3 ∨ j = 4 ∨ j = 5 ∨ j = 6 ∨ j = 7 ∨ j = 8 ∨ j = 9 := by omega
    simp only [Array.getElem?_setIfInBounds, Array.size_setIfInBounds]
    rcases hc with rfl | rfl | rfl | rfl | rfl | rfl | rfl | rfl | rfl | rfl
    all_goals
      have e : _ = v := Option.some.inj hv
      subst e
      repeat (first | rw [if_pos (by omega)] | rw [if_neg (by omega)])
      try simp
      try omega
theorem below10X {B g : Nat} {w W : World} (h : Below B w W) (hb : B ≤ g) (p : Nat) (v0 v1 v2 v3 v4 v5 v6 v7 v8 v9 : Value) : Below B w ((((((((((W.setCell ⟨g, p, none⟩ v0).setCell ⟨g, p + 1, none⟩ v1).setCell ⟨g, p + 2, none⟩ v2).setCell ⟨g, p + 3, none⟩ v3).setCell ⟨g, p + 4, none⟩ v4).setCell ⟨g, p + 5, none⟩ v5).setCell ⟨g, p + 6, none⟩ v6).setCell ⟨g, p + 7, none⟩ v7).setCell ⟨g, p + 8, none⟩ v8).setCell ⟨g, p + 9, none⟩ v9) := ((((((((((h.setCell (p := ⟨g, p, none⟩) hb v0).setCell (p := ⟨g, p + 1, none⟩) hb v1).setCell (p := ⟨g, p + 2, none⟩) hb v2).setCell (p := ⟨g, p + 3, none⟩) hb v3).setCell (p := ⟨g, p + 4, none⟩) hb v4).setCell (p := ⟨g, p + 5, none⟩) hb v5).setCell (p := ⟨g, p + 6, none⟩) hb v6).setCell (p := ⟨g, p + 7, none⟩) hb v7).setCell (p := ⟨g, p + 8, none⟩) hb v8).setCell (p := ⟨g, p + 9, none⟩) hb v9)
/-- The writes that stand in a row of so many, from the k-th on. -/
def WrP (W : World) (g n k : Nat) (l : List Ln) : Prop := ∃ cs, Blk W g cs 47 ∧ cs.size = n * 10 ∧ ∀ i x, k ≤ i → l[i]? = some x → ∀ j v, x.w.cells[j]? = some v → cs[i * 10 + j]? = some v
theorem run_makeW (W : World) (n : Nat) (hn : n ≤ 1000000) :
    (Instr.makeSlice 37 (.int .i64 (n : Int)) (.int .i64 (n : Int))).run Tryz.prog W = .ok (.slice (some ⟨W.heap.size, 0, none⟩) n n) (W.alloc (.cells (madeCells (wrI 0 0 0 ⟨#[]⟩ 0 0 ⟨#[]⟩ 0 0 ⟨#[]⟩) (n * 10)) 47)) := by
  obtain ⟨i0, hi0, hz0, hz1, hz2⟩ := info_parts wr_info
  have h := run_make W 37 47 i0 (.agg (wrI 0 0 0 ⟨#[]⟩ 0 0 ⟨#[]⟩ 0 0 ⟨#[]⟩)) Tryz.underlying37 hi0 hz0 .i64 .i64 (n : Int) (n : Int) (by omega) (Int.le_refl _) (by rw [hz2]; omega) (by omega)
  rw [Int.toNat_natCast, hz1] at h
  exact h

theorem cs_at {W : World} {g p : Nat} {cs : Array Value} {t : TypeId} (h : Blk W g cs t) (hp : p < cs.size) : ∃ u, W.cell? ⟨g, p, none⟩ = some u := ⟨cs[p], by rw [h.cell p]; exact Array.getElem?_eq_getElem hp⟩
theorem wr_next {l : List Ln} {k : Nat} {x : Ln} {cs cs' : Array Value} (hA : ∀ i y, i < k → l[i]? = some y → ∀ j v, y.w.cells[j]? = some v → cs[i * 10 + j]? = some v) (hx : l[k]? = some x) (h1 : ∀ q, q < k * 10 ∨ k * 10 + 10 ≤ q → cs'[q]? = cs[q]?) (h2 : ∀ j v, x.w.cells[j]? = some v → cs'[k * 10 + j]? = some v) :
    ∀ i y, i < k + 1 → l[i]? = some y → ∀ j v, y.w.cells[j]? = some v → cs'[i * 10 + j]? = some v := by
  intro i y hi hy j v hv
  have hj : j < 10 := by
    have := (Array.getElem?_eq_some_iff.1 hv).1
    simpa using this
  by_cases e : i = k
  · subst e
    rw [hx] at hy
    injection hy with hy
    subst hy
    exact h2 j v hv
  · rw [h1 _ (.inl (by omega))]
    exact hA i y (by omega) hy j v hv
set_option maxRecDepth 100000 in
set_option maxHeartbeats 4000000 in
theorem writes_any (A : Option Addr) (n c : Nat) (l : List Ln) (w : World) (hn : l.length = n) (hr : RdX 11 w.heap.size w A (l.map Ln.cells)) (hm : n ≤ 1000) (hg : ∀ x, x ∈ l → x.good = true) :
    Calls Tryz.prog 15 #[.slice A n c] w fun e w' => (∃ g, e = .returned (.slice (some ⟨g, 0, none⟩) n n) ∧ w.heap.size ≤ g ∧ WrP w' g n 0 l) ∧ Below w.heap.size w w' := by
  have hmk : ∀ W : World, (Instr.makeSlice 37 (.int .i64 (n : Int)) (.int .i64 (n : Int))).run Tryz.prog W = .ok (.slice (some ⟨W.heap.size, 0, none⟩) n n) (W.alloc (.cells (madeCells (wrI 0 0 0 ⟨#[]⟩ 0 0 ⟨#[]⟩ 0 0 ⟨#[]⟩) (n * 10)) 47)) := fun W => run_makeW W n (by omega)
  have HN := Lib.hid hn
  have HR := Lib.hid (fun W (h : Below w.heap.size w W) => hr.keep (W' := W) h (Nat.le_refl _))
  have hK0 := blk_new w (madeCells (wrI 0 0 0 ⟨#[]⟩ 0 0 ⟨#[]⟩ 0 0 ⟨#[]⟩) (n * 10)) 47
  have hba := b0 w (.cells (madeCells (wrI 0 0 0 ⟨#[]⟩ 0 0 ⟨#[]⟩ 0 0 ⟨#[]⟩) (n * 10)) 47)
  have hcs : (madeCells (wrI 0 0 0 ⟨#[]⟩ 0 0 ⟨#[]⟩ 0 0 ⟨#[]⟩) (n * 10)).size = n * 10 := by simp [madeCells]
  clear hn hr
  go_enter Tryz.func15, Tryz.ntmps15
  go_upto_region 2 with fail
  generalize w.alloc (.cells (madeCells (wrI 0 0 0 ⟨#[]⟩ 0 0 ⟨#[]⟩ 0 0 ⟨#[]⟩) (n * 10)) 47) = W at hK0 hba ⊢
  generalize madeCells (wrI 0 0 0 ⟨#[]⟩ 0 0 ⟨#[]⟩ 0 0 ⟨#[]⟩) (n * 10) = cs0 at hK0 hcs
  clear hmk
  generalize hgg : w.heap.size = g at hK0 hba HR ⊢
  go_wp2_with fail
  go_loopw [4, 11] (fun _ i wr => ∃ (k : Nat) (cs : Array Value), k ≤ n ∧ i = .int .i64 k ∧ Blk wr g cs 47 ∧ cs.size = n * 10 ∧ Hid (∀ i x, i < k → l[i]? = some x → ∀ j v, x.w.cells[j]? = some v → cs[i * 10 + j]? = some v) ∧ Below g w wr) (fun _ i _ => n - (intOf i).toNat)
  case atStart => exact ⟨0, cs0, Nat.zero_le _, rfl, hK0, hcs, fun i x hi => by omega, hba⟩
  case round =>
    clear hK0 hcs hba
    obtain ⟨k, cs, hk, rfl, hK, hcs, hA, hW⟩ := hrel
    by_cases hlt : k < n
    · obtain ⟨x, hx⟩ : ∃ x, l[k]? = some x := ⟨_, List.getElem?_eq_getElem (show k < l.length by have := HN.out; omega)⟩
      obtain ⟨ad, rfl, _, hc⟩ := HR.out wr hW k _ (map_get hx)
      have i1 : (0 : Int) ≤ (k : Int) := by omega
      have i2 : (k : Int) < (n : Int) := by omega
      have HX := Lib.hid hx
      obtain ⟨_, hgd⟩ := ln_in (hg x (List.mem_of_getElem? hx))
      obtain ⟨_, _, _, g1, g2, g3⟩ := good_in hgd
      have HF := Lib.hid (fun W => freshWrite_any x.w W (by omega) (by omega) (by omega))
      clear hx hgd g1 g2 g3
      have q0 : wr.cell? (ad.add (k * 11)) = some (.int .i64 x.pl) := (celX hc).1 _ rfl
      have q1 : wr.cell? ⟨(ad.add (k * 11)).block, (ad.add (k * 11)).off + 1, none⟩ = some (.int .i64 x.w.dev) := (celX hc).2 0 _ rfl
      have q2 : wr.cell? ⟨(ad.add (k * 11)).block, (ad.add (k * 11)).off + 2, none⟩ = some (.int .i64 x.w.seq) := (celX hc).2 1 _ rfl
      have q3 : wr.cell? ⟨(ad.add (k * 11)).block, (ad.add (k * 11)).off + 3, none⟩ = some (.int .i64 x.w.K) := (celX hc).2 2 _ rfl
      have q4 : wr.cell? ⟨(ad.add (k * 11)).block, (ad.add (k * 11)).off + 4, none⟩ = some (.string x.w.ky) := (celX hc).2 3 _ rfl
      have q5 : wr.cell? ⟨(ad.add (k * 11)).block, (ad.add (k * 11)).off + 5, none⟩ = some (.int .i64 x.w.ka) := (celX hc).2 4 _ rfl
      have q6 : wr.cell? ⟨(ad.add (k * 11)).block, (ad.add (k * 11)).off + 6, none⟩ = some (.int .i64 x.w.na) := (celX hc).2 5 _ rfl
      have q7 : wr.cell? ⟨(ad.add (k * 11)).block, (ad.add (k * 11)).off + 7, none⟩ = some (.string x.w.sa) := (celX hc).2 6 _ rfl
      have q8 : wr.cell? ⟨(ad.add (k * 11)).block, (ad.add (k * 11)).off + 8, none⟩ = some (.int .i64 x.w.kb) := (celX hc).2 7 _ rfl
      have q9 : wr.cell? ⟨(ad.add (k * 11)).block, (ad.add (k * 11)).off + 9, none⟩ = some (.int .i64 x.w.nb) := (celX hc).2 8 _ rfl
      have q10 : wr.cell? ⟨(ad.add (k * 11)).block, (ad.add (k * 11)).off + 10, none⟩ = some (.string x.w.sb) := (celX hc).2 9 _ rfl
      clear hc
      go_upto_region 5 with fail
      have hX := blk_new wr x.cells 49
      have hK1 := hK.alloc (.cells x.cells 49)
      have hW1 := hW.alloc (Nat.le_of_lt hK.lt) (.cells x.cells 49)
      clear q0 q1 q2 q3 q4 q5 q6 q7 q8 q9 q10 hK hW
      generalize wr.alloc (.cells x.cells 49) = W1 at hX hK1 hW1 ⊢
      generalize wr.heap.size = bx at hX ⊢
      have c0 := hX.cell 0
      have c1 := hX.cell 1
      have c2 := hX.cell 2
      have c3 := hX.cell 3
      have c4 := hX.cell 4
      have c5 := hX.cell 5
      have c6 := hX.cell 6
      have c7 := hX.cell 7
      have c8 := hX.cell 8
      have c9 := hX.cell 9
      have c10 := hX.cell 10
      have hgz := hK1.lt
      have hpos : k * 10 + 10 ≤ cs.size := by rw [hcs]; omega
      go_wp2_with (go_at_call 39; refine (HF.out W1).mono ?_; rintro e w2 ⟨rfl, hb2⟩; have hK2 := hK1.keep hb2; have r0 : w2.frozen? ⟨g, k * 10, none⟩ = false := hK2.free _; have s0 : ∃ u, w2.cell? ⟨g, k * 10, none⟩ = some u := cs_at hK2 (by omega); obtain ⟨u0, s0⟩ := s0; have r1 : w2.frozen? ⟨g, k * 10 + 1, none⟩ = false := hK2.free _; have s1 : ∃ u, w2.cell? ⟨g, k * 10 + 1, none⟩ = some u := cs_at hK2 (by omega); obtain ⟨u1, s1⟩ := s1; have r2 : w2.frozen? ⟨g, k * 10 + 2, none⟩ = false := hK2.free _; have s2 : ∃ u, w2.cell? ⟨g, k * 10 + 2, none⟩ = some u := cs_at hK2 (by omega); obtain ⟨u2, s2⟩ := s2; have r3 : w2.frozen? ⟨g, k * 10 + 3, none⟩ = false := hK2.free _; have s3 : ∃ u, w2.cell? ⟨g, k * 10 + 3, none⟩ = some u := cs_at hK2 (by omega); obtain ⟨u3, s3⟩ := s3; have r4 : w2.frozen? ⟨g, k * 10 + 4, none⟩ = false := hK2.free _; have s4 : ∃ u, w2.cell? ⟨g, k * 10 + 4, none⟩ = some u := cs_at hK2 (by omega); obtain ⟨u4, s4⟩ := s4; have r5 : w2.frozen? ⟨g, k * 10 + 5, none⟩ = false := hK2.free _; have s5 : ∃ u, w2.cell? ⟨g, k * 10 + 5, none⟩ = some u := cs_at hK2 (by omega); obtain ⟨u5, s5⟩ := s5; have r6 : w2.frozen? ⟨g, k * 10 + 6, none⟩ = false := hK2.free _; have s6 : ∃ u, w2.cell? ⟨g, k * 10 + 6, none⟩ = some u := cs_at hK2 (by omega); obtain ⟨u6, s6⟩ := s6; have r7 : w2.frozen? ⟨g, k * 10 + 7, none⟩ = false := hK2.free _; have s7 : ∃ u, w2.cell? ⟨g, k * 10 + 7, none⟩ = some u := cs_at hK2 (by omega); obtain ⟨u7, s7⟩ := s7; have r8 : w2.frozen? ⟨g, k * 10 + 8, none⟩ = false := hK2.free _; have s8 : ∃ u, w2.cell? ⟨g, k * 10 + 8, none⟩ = some u := cs_at hK2 (by omega); obtain ⟨u8, s8⟩ := s8; have r9 : w2.frozen? ⟨g, k * 10 + 9, none⟩ = false := hK2.free _; have s9 : ∃ u, w2.cell? ⟨g, k * 10 + 9, none⟩ = some u := cs_at hK2 (by omega); obtain ⟨u9, s9⟩ := s9; skip)
      obtain ⟨cs', hK3, hcs3, h31, h32⟩ := set10X (p := k * 10) hK2 (.int .i64 x.w.dev) (.int .i64 x.w.seq) (.int .i64 x.w.K) (.string x.w.ky) (.int .i64 x.w.ka) (.int .i64 x.w.na) (.string x.w.sa) (.int .i64 x.w.kb) (.int .i64 x.w.nb) (.string x.w.sb)
      have hW3 := below10X (hW1.trans (hb2.mono (Nat.le_of_lt hgz))) (Nat.le_refl _) (k * 10) (.int .i64 x.w.dev) (.int .i64 x.w.seq) (.int .i64 x.w.K) (.string x.w.ky) (.int .i64 x.w.ka) (.int .i64 x.w.na) (.string x.w.sa) (.int .i64 x.w.kb) (.int .i64 x.w.nb) (.string x.w.sb)
      have HA2 := Lib.hid (wr_next hA.out HX.out h31 (h32 hpos))
      clear hA h31 h32
      go_roundw
      case rel => exact ⟨k + 1, cs', by omega, by go_num, hK3, by rw [hcs3]; exact hcs, HA2, hW3⟩
      case measure => simp [intOf]; omega
    · have hq : ¬ (k : Int) < (n : Int) := by omega
      have R : WrP wr g n 0 l := ⟨cs, hK, hcs, fun i x _ hx j v hv => hA.out i x (by have := (List.getElem?_eq_some_iff.1 hx).1; have := HN.out; omega) hx j v hv⟩
      have HRR := Lib.hid R
      clear hA R
      go_wp2_with fail
      go_ret
      exact ⟨⟨g, rfl, (by first | exact Nat.le_of_eq hgg | exact Nat.le_refl _), HRR.out⟩, by first | exact hW | (rw [hgg]; exact hW)⟩
end Go.Proofs.YtpjleeeligahaaaGreatDoor
